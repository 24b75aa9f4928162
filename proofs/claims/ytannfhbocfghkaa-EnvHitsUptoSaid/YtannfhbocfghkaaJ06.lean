/- Texts joined: EnvS, EnvK, EnvL. -/
import Derived.Test.YtannfhbocfghkaaJ05
import Derived.Test.YtannfhbocfghkaaJ02
/- Contract of env.Hit. -/
namespace Go.Proofs.Ytannfhbocfghkaa.EnvC
open Go Go.RowKit Go.Shelf Go.Lib Go.Sort Go.Proofs.Ytannfhbocfghkaa.EnvP
attribute [local go_sem] Oper.semAt_some

theorem PtOk.keepIt {w w' : World} {x : Pt} (h : PtOk w x) (k : Keeps w w') : PtOk w' x := ⟨h.1.keep k, h.2⟩
def noHit (p : Pl) (wt : Bool) (_ : Bool) (t : ETy) : Bool := !t.loans.any (hitLn p wt)
def hit_one (p : Pl) (wt : Bool) (b : Bd) : Bool := !hitT p wt b.ty
theorem hitLn_eq (p : Pl) (wt : Bool) (x : Ln) : hitLn p wt x = ((x.life.toList == []) && ((x.mt || wt) && overlap x.pl p)) := by unfold hitLn; rw [emp, Bool.and_assoc, Bool.or_comm]

set_option maxHeartbeats 8000000 in
set_option maxRecDepth 100000 in
theorem hit_any (e : List Bd) (p : Pl) (wt : Bool) (v : Value) (w : World) (h : EnvIn w v e) (hs : ∀ b ∈ e, Small b.ty) (hlen : e.length ≤ 1048576) (hp : p.In w) (hps : p.steps.length ≤ 1048576) :
    Calls Try.prog 11 #[v, p.val, .bool wt] w fun r w' => r = .returned (.bool (hit e p wt)) ∧ Below w.heap.size w w' := by
  obtain ⟨pe, cap, hcap, rfl⟩ := lies_slice h.1
  obtain ⟨pc, pq, hpq, hpe⟩ : ∃ pp pq, p.steps.length ≤ pq ∧ p.sv = .slice pp p.steps.length pq := lies_slice hp
  obtain ⟨R, hR⟩ : ∃ R, hit e p wt = R := ⟨_, rfl⟩
  rw [hR]
  have hR2 : (e.all (hit_one p wt)) = !R := by
    rw [← hR]
    unfold hit hit_one
    rw [List.not_any_eq_all_not]
  rw [show p.val = .agg #[.string p.var, p.sv] from rfl, hpe]
  have hov := fun (x : Ln) (W : World) (hx : x.pl.In W) (hxs : x.pl.steps.length ≤ 1048576) (hb : Below w.heap.size w W) => overlap_any x.pl p W hx (hp.keep (Keeps.of_below hb)) hxs hps
  generalize hL : e.length = L at *
  generalize hPS : p.steps.length = PS at *
  have hb1 : Below w.heap.size w (((w.alloc (.cells #[.string p.var, .slice pc PS pq] 25 (0, 0))).alloc (.cells #[.bool wt] 4 (0, 0))).alloc (.cells #[.bool false] 4 (0, 0))) := (((Below.refl _ _).alloc (Nat.le_refl _) _).alloc (by simp) _).alloc (by simp; omega) _
  have X1 : BoxAt (((w.alloc (.cells #[.string p.var, .slice pc PS pq] 25 (0, 0))).alloc (.cells #[.bool wt] 4 (0, 0))).alloc (.cells #[.bool false] 4 (0, 0))) w.heap.size [.string p.var, .slice pc PS pq] := ((BoxAt.new w _ _).later ((Below.refl _ _).alloc (Nat.le_refl _) _)).later ((Below.refl _ _).alloc (Nat.le_refl _) _)
  have X2 : (((w.alloc (.cells #[.string p.var, .slice pc PS pq] 25 (0, 0))).alloc (.cells #[.bool wt] 4 (0, 0))).alloc (.cells #[.bool false] 4 (0, 0))).cell? ⟨w.heap.size + 1, 0, none⟩ = some (.bool wt) := by
    have := Boxed.new (w.alloc (.cells #[.string p.var, .slice pc PS pq] 25 (0, 0))) 4 (.bool wt)
    rw [World.size_alloc] at this
    exact (this.alloc _).cell
  have X3 := Boxed.new ((w.alloc (.cells #[.string p.var, .slice pc PS pq] 25 (0, 0))).alloc (.cells #[.bool wt] 4 (0, 0))) 4 (.bool false)
  rw [World.size_alloc, World.size_alloc] at X3
  change Boxed (((w.alloc (.cells #[.string p.var, .slice pc PS pq] 25 (0, 0))).alloc (.cells #[.bool wt] 4 (0, 0))).alloc (.cells #[.bool false] 4 (0, 0))) (w.heap.size + 1 + 1) _ _ at X3
  have S1 : (((w.alloc (.cells #[.string p.var, .slice pc PS pq] 25 (0, 0))).alloc (.cells #[.bool wt] 4 (0, 0))).alloc (.cells #[.bool false] 4 (0, 0))).heap.size = w.heap.size + 1 + 1 + 1 := by simp
  have HR := hid hR2
  have HL := hid hL
  have HE := hid h
  have HS := hid hs
  have HOV := hid hov
  have HPE := hid hpe
  have HPS := hid hPS
  clear hR hR2 hL h hs hp hov hpe hPS
  refine callsIn_wide (n := 12) |>.1 (callsIn_of_wp_marks Try.func11 rfl trivial ?_ rfl)
  simp only [Try.ntmps11, List.size_toArray, List.length_cons, List.length_nil, Nat.reduceAdd, Nat.reduceSub, Array.replicate_succ, Array.replicate_zero, List.push_toArray, List.append_toArray, List.nil_append, List.cons_append]
  gi_wp2
  generalize World.alloc (World.alloc (World.alloc w _) _) _ = W1 at *
  have HB1 := hid hb1
  have HX1 := hid X1
  have HX2 := hid X2
  have HX3 := hid X3
  have HS1 := hid S1
  clear hb1 X1 X2 X3 S1
  refine wpIn_loop_ghost_k (fun gf act wr => ∃ (i : Nat) (ds : List Deferred) (u7 u8 u9 u10 u14 u15 u16 u17 u18 u19 u20 u21 u22 u23 u24 u25 u26 u27 u28 u29 u30 u31 u32 u33 u34 u35 u36 u37 u38 u39 u40 u41 u42 u43 u44 u45 u46 u47 u48 u49 : Value), act = { tmps := #[.slice pe L cap, .agg #[.string p.var, .slice pc PS pq], .bool wt, undef, .pointer (some ⟨w.heap.size, 0, none⟩), .pointer (some ⟨w.heap.size + 1, 0, none⟩), .pointer (some ⟨w.heap.size + 1 + 1, 0, none⟩), u7, u8, u9, u10, .slice pe L cap, .int .i64 (L : Int), .int .i64 (i : Int), u14, u15, u16, u17, u18, u19, u20, u21, u22, u23, u24, u25, u26, u27, u28, u29, u30, u31, u32, u33, u34, u35, u36, u37, u38, u39, u40, u41, u42, u43, u44, u45, u46, u47, u48, u49], defers := ds } ∧
    i ≤ L ∧ L ≤ i + gf ∧ Hid (Marks (w.heap.size + 1 + 1 + 1) wr ds) ∧ Hid (Below (w.heap.size + 1 + 1) W1 wr) ∧ Hid (W1.heap.size ≤ wr.heap.size) ∧ Hid (Boxed wr (w.heap.size + 1 + 1) 4 (.bool false)) ∧ Hid (((e.drop i).all (hit_one p wt)) = !R)) L ⟨0, [], _, _, _, _, _, _, _, _, _, _, _, _, _, _, _, _, _, _, _, _, _, _, _, _, _, _, _, _, _, _, _, _, _, _, _, _, _, _, _, _, rfl, by omega, by omega, hid trivial, hid (Below.refl _ _), hid (Nat.le_refl _), HX3, hid (by rw [List.drop_zero]; exact HR.out)⟩ ?_
  rintro gk act wr ⟨i, ds, u7, u8, u9, u10, u14, u15, u16, u17, u18, u19, u20, u21, u22, u23, u24, u25, u26, u27, u28, u29, u30, u31, u32, u33, u34, u35, u36, u37, u38, u39, u40, u41, u42, u43, u44, u45, u46, u47, u48, u49, rfl, hi, hg, HM, HB, HZ, HX, HI⟩ J K hJ hK
  have HBW := hid (HB1.out.trans (HB.out.mono (by omega)))
  clear HX3 HR
  by_cases hlt : i < L
  · obtain ⟨x, hx⟩ : ∃ x, e[i]? = some x := ⟨e[i]'(by rw [HL.out]; exact hlt), List.getElem?_eq_getElem _⟩
    obtain ⟨b, off, cap', ev, _, hok, _⟩ := bd_at HE.out hx (HS.out x (List.mem_of_getElem? hx))
    injection ev with e1 e2 e3
    subst e1
    have HA := hid (fun W => all_Pt ⟨b, off + i * 6 + 1, false, x.ty⟩ rfl W)
    have HOK := hid hok
    have HI2 : Hid (((!hitT p wt x.ty) && (e.drop (i + 1)).all (hit_one p wt)) = !R) := hid (by have := HI.out; rw [drop_cons hx, List.all_cons] at this; exact this)
    clear e2 e3 hok hx HI
    obtain ⟨rest, hrest⟩ : ∃ rest, (e.drop (i + 1)).all (hit_one p wt) = rest := ⟨_, rfl⟩
    rw [hrest] at HI2
    have HREST := hid hrest
    clear hrest
    gi_wp2
    refine ⟨trivial, callsIn_wide.2 ((HA.out wr).mono ?_)⟩
    rintro e1 W2 ⟨rfl, hb2, h1, h2, hsz⟩
    have HB2 := hid (HB.out.trans (hb2.mono (by have := HX.out.lt; omega)))
    have HZ2 := hid (Nat.le_trans HZ.out hb2.size)
    have HBW2 := hid (HBW.out.trans (hb2.mono HBW.out.size))
    have HM2 := hid (HM.out.later hb2)
    have HX2' := hid (boxed_below HX.out hb2)
    have HD : Hid (∀ D, { target := .collected D, args := #[] } ∈ ds → D < W2.heap.size) := hid (fun D hm => HM2.out.lt D hm)
    have HS2 : Hid (w.heap.size + 1 + 1 < W2.heap.size) := hid HX2'.out.lt
    clear hb2 HA HB HM HX HZ HBW hsz
    gi_wp2
    refine range_of (n := 12) rfl (by omega) (gf := 51) rfl trivial (enters_of Try.func51 (by kernel_rfl) rfl)
      (walks_Pt 11 (by omega) ⟨b, off + i * 6 + 1, false, x.ty⟩ wr.heap.size (wr.heap.size + 1) W2 h1 h2 (Nat.le_trans (nT_le _) HOK.out.2)) (Below.refl _ _) rfl (fun A B x ks h hc => h.keep hc.keeps)
      (fun st W => Below W2.heap.size W2 W ∧ (∀ y ∈ st, PtOk w y) ∧ (stAll (noHit p wt) st && rest) = !R)
      (fun W => Below w.heap.size w W ∧ Marks (w.heap.size + 1 + 1 + 1) W ds ∧ Boxed W (w.heap.size + 1 + 1) 4 (.bool true) ∧ W2.heap.size ≤ W.heap.size ∧ R = true)
      (fun st A B h k => ⟨h.1.trans (k.below h.1.size), h.2⟩)
      (fun A B h k => ⟨h.1.trans ((k.below h.2.2.2.1).mono (by have := HS2.out; omega)), k.marks h.2.1 HD.out, k.boxed h.2.2.1 HS2.out, Nat.le_trans h.2.2.2.1 k.size, h.2.2.2.2⟩)
      ⟨Below.refl _ _, fun y hy => by rw [List.mem_singleton] at hy; subst hy; exact HOK.out, by rw [← HI2.out]; unfold stAll noHit; rw [List.all_cons, List.all_nil, Bool.and_true, hit_all]⟩ ?round ?done ?stop
    case round =>
      clear HOK HI2 h1 h2 HREST
      rintro l y r W ⟨hB, hok, heq⟩
      have hoy := hok y List.mem_cons_self
      rw [stAll_step (noHit p wt) y r] at heq
      have hok2 := stOk_step hok
      rw [show y.cells.toArray = #[.pointer (some ⟨y.b, y.o, none⟩), .bool y.ins] from rfl]
      have hbx : Below W.heap.size W (W.alloc (.cells #[.pointer (some ⟨y.b, y.o, none⟩), .bool y.ins] 60 (0, 0))) := (Below.refl _ _).alloc (Nat.le_refl _) _
      have hnew := World.alloc_heap_new W (.cells #[.pointer (some ⟨y.b, y.o, none⟩), .bool y.ins] 60 (0, 0))
      have HBX := hid hbx
      have HNEW := hid hnew
      have HBB := hid hB
      have HOY := hid hoy
      have HOK2 := hid hok2
      have HEQ := hid heq
      clear hbx hnew hB hoy hok hok2 heq
      gi_wp2
      refine ⟨Below.keepsFrom HBX.out _, (Below.cellsSame HBX.out).types, fun W4 hb4 hc4 => ?_⟩
      have hn4 := hc4 _ _ HNEW.out rfl
      have d0 : W4.cell? ⟨W.heap.size, 0, none⟩ = some (.pointer (some ⟨y.b, y.o, none⟩)) := by rw [Lib.cell_of_heap hn4]; rfl
      have HB4 := hid ((HBB.out.trans (HBX.out.mono HBB.out.size)).trans hb4)
      have HBW4 := hid (HBW2.out.trans (HB4.out.mono (by have := HS2.out; omega)))
      have HOY4 := hid (PtOk.keepIt HOY.out (Keeps.of_below HBW4.out))
      clear HBX HNEW HBB hb4 hc4 hn4
      obtain ⟨yb, yo, yi, ⟨k, m, g, lv, ls, kv, kids⟩⟩ := y
      have hin := HOY4.out.1.2
      have hlo := HOY4.out.2.loans
      rw [ETy.In] at hin
      obtain ⟨pl, cl, hcl, elv⟩ := lies_slice hin.1
      have hlv := HOY4.out.1.1 3 lv rfl
      subst elv
      dsimp only at d0 hlv
      have HEQ3 : Hid (((!((ls.drop 0).any (hitLn p wt))) && (stAll (noHit p wt) ((Pt.kids ⟨yb, yo, yi, .mk k m g (.slice pl ls.length cl) ls kv kids⟩) ++ r) && rest)) = !R) := hid (by rw [List.drop_zero, ← Bool.and_assoc]; exact HEQ.out)
      have HIN := hid hin
      have HLO := hid hlo
      change Hid (ls.length ≤ 1048576 ∧ ∀ l ∈ ls, l.pl.steps.length ≤ 1048576) at HLO
      have HX4 := hid (boxed_below HX2'.out HB4.out)
      generalize hLL : ls.length = LL at *
      have HLL := hid hLL
      have hLL2 : LL ≤ 1048576 := HLO.out.1
      clear hin hlo hLL HEQ
      gi_wp2
      gi_loopg [28] LL (fun gf u wx => ∃ j : Nat, u = .int .i64 (j : Int) ∧ j ≤ LL ∧ LL ≤ j + gf ∧ Hid (((!((ls.drop j).any (hitLn p wt))) && (stAll (noHit p wt) ((Pt.kids ⟨yb, yo, yi, .mk k m g (.slice pl LL cl) ls kv kids⟩) ++ r) && rest)) = !R) ∧ Hid (Below W4.heap.size W4 wx))
      case atStart => exact ⟨0, rfl, by omega, by omega, HEQ3, hid (Below.refl _ _)⟩
      case round =>
        obtain ⟨j, rfl, hj, hg2, HJ, HBX⟩ := hrel
        clear HEQ3
        by_cases hlt2 : j < LL
        · obtain ⟨x2, hx2⟩ : ∃ x2, ls[j]? = some x2 := ⟨ls[j]'(by rw [HLL.out]; exact hlt2), List.getElem?_eq_getElem _⟩
          obtain ⟨lb, lo, cl2, ev, _, hxx⟩ := Lies.at (HIN.out.1.keep (Keeps.of_below HBX.out)) (i := j) (by rw [List.length_map, HLL.out]; exact hlt2)
          injection ev with e1 e2 e3
          subst e1
          clear e2 e3
          have hxc := hxx j x2.cells (by rw [List.getElem?_map, hx2]; rfl)
          have hix := (HIN.out.2.1 x2 (List.mem_of_getElem? hx2)).keep (Keeps.of_below HBX.out)
          obtain ⟨xp, xq, _, hxe⟩ : ∃ pp pq, x2.pl.steps.length ≤ pq ∧ x2.pl.sv = .slice pp x2.pl.steps.length pq := lies_slice hix
          have hbw := HBW4.out.trans (HBX.out.mono HBW4.out.size)
          have co := fun W hb => HOV.out x2 W (hix.keep (Keeps.of_below (show Below wr.heap.size wr W from hb))) (HLO.out.2 x2 (List.mem_of_getElem? hx2)) (hbw.trans (hb.mono hbw.size))
          have hp := HJ.out
          rw [drop_cons hx2, List.any_cons, hitLn_eq, Bool.not_or, Bool.and_assoc] at hp
          obtain ⟨xl, ⟨xv, xs, xt⟩, xm⟩ := x2
          dsimp only at hxe hp co
          subst hxe
          have v0 := hxc 0 (.string xl) rfl
          have v1 := hxc 1 (.string xv) rfl
          have v2 := hxc 2 (.slice xp xt.length xq) rfl
          have v3 := hxc 3 (.bool xm) rfl
          rw [Nat.add_zero] at v0
          change ∀ W, Below wr.heap.size wr W → Calls _ _ #[.agg #[.string xv, .slice xp xt.length xq], .agg #[.string p.var, p.sv]] _ _ at co
          rw [HPE.out] at co
          generalize overlap ⟨xv, _, xt⟩ p = ov at *
          generalize xt.length = NX at *
          have bA : Below wr.heap.size wr (wr.alloc (.cells #[.string xl, .string xv, .slice xp NX xq, .bool xm] 27 (0, 0))) := (Below.refl _ _).alloc (Nat.le_refl _) _
          have CO := hid (CallsIn.inRound l (callsIn_wide (n := 9) |>.2 (co _ bA)))
          have hbp := HB2.out.trans ((HB4.out.mono (Nat.le_of_lt HS2.out)).trans (HBX.out.mono (Nat.le_trans (Nat.le_of_lt HS2.out) HB4.out.size)))
          have p0 := (hbp.cell (p := ⟨w.heap.size, 0, none⟩) (by show w.heap.size < w.heap.size + 1 + 1; omega)).trans (HX1.out 0 (.string p.var) rfl)
          have p1 := (hbp.cell (p := ⟨w.heap.size, 1, none⟩) (by show w.heap.size < w.heap.size + 1 + 1; omega)).trans (HX1.out 1 (.slice pc PS pq) rfl)
          have p2 := (hbp.cell (p := ⟨w.heap.size + 1, 0, none⟩) (by show w.heap.size + 1 < w.heap.size + 1 + 1; omega)).trans HX2.out
          have p0 := later bA p0
          have p1 := later bA p1
          have p2 := later bA p2
          have HX5 := hid (boxed_below (boxed_below HX4.out HBX.out) bA)
          have B5 := hid (HBX.out.trans (bA.mono HBX.out.size))
          have HP := hid hp
          clear hx2 hxx hxc hix hbw co hp HJ bA hbp HBX HPE
          have hrep : (xl.toList == []) = false ∨ ((xl.toList == []) = true ∧ (xm || wt) = false) ∨ ((xl.toList == []) = true ∧ (xm || wt) = true) := by
            cases (xl.toList == []) <;> cases (xm || wt) <;> simp
          rcases hrep with h0 | ⟨h0, h1⟩ | ⟨h0, h1⟩
          · have HN := HP.out
            rw [h0, Bool.false_and, Bool.not_false, Bool.true_and] at HN
            have HN := hid HN
            clear HP
            gi_wp2
            refine ⟨trivial, ?_⟩
            gi_wp2
            gi_roundg (gk - 1)
            case measure => omega
            case rel => exact ⟨j + 1, by go_num, by omega, by omega, HN, B5⟩
          · have HN := HP.out
            rw [h0, h1, Bool.false_and, Bool.and_false, Bool.not_false, Bool.true_and] at HN
            have HN := hid HN
            rw [Bool.or_eq_false_iff] at h1
            obtain ⟨rfl, rfl⟩ := h1
            clear HP
            gi_wp2
            refine ⟨trivial, ?_⟩
            gi_wp2
            gi_roundg (gk - 1)
            case measure => omega
            case rel => exact ⟨j + 1, by go_num, by omega, by omega, HN, B5⟩
          · have HN := HP.out
            rw [h0, h1, Bool.true_and, Bool.true_and] at HN
            have HN := hid HN
            clear HP
            have hgo : (xm = true ∨ (xm = false ∧ wt = true)) := by cases xm <;> cases wt <;> simp_all
            rcases hgo with rfl | ⟨rfl, rfl⟩
            all_goals (
              clear h1
              gi_wp2
              refine ⟨trivial, CO.out.mono ?_⟩
              rintro e5 W5 ⟨rfl, hb5⟩
              have B6 := hid (B5.out.trans (hb5.mono B5.out.size))
              have hx5 := boxed_below HX5.out hb5
              have hc5 := hx5.cell
              have hf5 := hx5.frozen
              have HX6 := hid hx5
              clear hb5 hx5 CO HX5 B5 v0 v1 v2 v3 p0 p1 p2
              cases ov
              · have HN2 := HN.out
                rw [Bool.not_false, Bool.true_and] at HN2
                have HN2 := hid HN2
                clear HN
                gi_wp2
                gi_roundg (gk - 1)
                case measure => omega
                case rel => exact ⟨j + 1, by go_num, by omega, by omega, HN2, B6⟩
              · have HN2 : Hid (R = true) := hid (by
                  have := HN.out
                  rw [Bool.not_true, Bool.false_and] at this
                  cases R
                  · cases this
                  · rfl)
                have HB6 := hid (HB4.out.trans (B6.out.mono HB4.out.size))
                clear HN
                gi_wp2
                refine ⟨(Below.keepsFrom B6.out _).trans (KeepsFrom.of_grownBy (grownBy_setCell' W5 _ _) (fun j e => by cases e; exact HS2.out)), (HBW2.out.trans (HB6.out.mono (by have := HS2.out; omega))).setCell (by show w.heap.size ≤ w.heap.size + 1 + 1; omega) _, (HM2.out.later HB6.out).set _ _, HX6.out.set _, Nat.le_trans HB6.out.size (by simp [World.setCell]), HN2.out⟩)
        · have HN := HJ.out
          rw [List.drop_eq_nil_of_le (by rw [HLL.out]; omega), List.any_nil, Bool.not_false, Bool.true_and] at HN
          have HN := hid HN
          have HY5 := hid (HOY4.out.1.keep (Keeps.of_below HBX.out))
          clear HJ
          gi_wp2
          exact ⟨Below.keepsFrom HBX.out _, (Below.cellsSame HBX.out).types, _, ⟨HY5.out, HOY4.out.2, rfl⟩, HB4.out.trans (HBX.out.mono HB4.out.size), HOK2.out, HN.out⟩
    case done =>
      rintro D W hD ⟨hB, _, heq⟩ hdef
      have HM3 := hid (Marks.push (HM2.out.later hB) HD.out hD (Nat.le_trans HS2.out hD) hdef)
      have HB3 := hid (HB2.out.trans (hB.mono (by have := HS2.out; omega)))
      have HZ3 := hid (Nat.le_trans HZ2.out hB.size)
      have HX3 := hid (boxed_below HX2'.out hB)
      have HI3 : Hid ((e.drop (i + 1)).all (hit_one p wt) = !R) := hid (by rw [HREST.out, ← heq]; rfl)
      clear hB heq hdef HB2 HM2 HX2' HI2
      gi_wp2
      exact Handed.intro (gk - 1) (by omega) (hJ _ _ _ ⟨i + 1, _, _, _, _, _, _, _, _, _, _, _, _, _, _, _, _, _, _, _, _, _, _, _, _, _, _, _, _, _, _, _, _, _, _, _, _, _, _, _, _, _, rfl, by omega, by omega, HM3, HB3, HZ3, HX3, HI3⟩)
    case stop =>
      rintro D W hD ⟨hB, hm, hx, hs, rfl⟩ hdef
      clear HB2 HM2 HX2' HI2
      gi_wp2
      exact leaves_marks (b := w.heap.size + 1 + 1 + 1) (by intro e; cases e) _ _ (Marks.push hm HD.out hD (Nat.le_trans HS2.out hD) hdef) fun w' hb hc => ⟨_, result_cell rfl _ _ _ _ _ _ _ (hc.boxed hx) rfl Try.underlying4 rfl, rfl, hB.trans (hb.mono (by omega))⟩
  · have HN : Hid (R = false) := hid (by have := HI.out; rw [List.drop_eq_nil_of_le (by rw [HL.out]; omega)] at this; simpa using this)
    have hX := HX.out.cell
    have hF := HX.out.frozen
    clear HI HE HS HL
    gi_wp2
    exact leaves_marks (b := w.heap.size + 1 + 1 + 1) (by intro e; cases e) _ _ (HM.out.set _ _) fun w' hb hc => ⟨_, result_cell rfl _ _ _ _ _ _ _ (hc.boxed (HX.out.set _)) rfl Try.underlying4 rfl, by rw [HN.out], ((HBW.out.setCell (by show w.heap.size ≤ w.heap.size + 1 + 1; omega) _).trans (hb.mono (by omega)))⟩
end Go.Proofs.Ytannfhbocfghkaa.EnvC
/- Contract of slices.BinarySearchFunc at rising loans, by env.Cmp. -/
namespace Go.Proofs.Ytannfhbocfghkaa.EnvC
open Go Go.RowKit Go.Lib Go.Sort Go.Proofs.Ytannfhbocfghkaa.EnvP

theorem before_trans {a b c : Ln} (h : before a b = true) (k : before b c = true) : before a c = true := by
  unfold before at *
  simp only [beq_iff_eq] at *
  exact good_cmpLn.trans a b c h k
theorem rising_sorted : ∀ {l : List Ln}, rising l = true → ∀ (i j : Nat) (x y : Ln), i < j → l[i]? = some x → l[j]? = some y → before x y = true
  | [], _, i, j, x, y, _, hx, _ => by simp at hx
  | [a], _, i, j, x, y, hij, hx, hy => by
    have h1 := (List.getElem?_eq_some_iff.1 hy).1
    simp at h1; omega
  | a :: b :: r, h, i, j, x, y, hij, hx, hy => by
    rw [rising, Bool.and_eq_true] at h
    match i, j, hij, hx, hy with
    | 0, j + 1, _, hx, hy =>
      simp at hx hy
      subst hx
      match j, hy with
      | 0, hy => simp at hy; subst hy; exact h.1
      | j + 1, hy => exact before_trans h.1 (rising_sorted h.2 0 (j + 1) b y (by omega) rfl hy)
    | i + 1, j + 1, hij, hx, hy => exact rising_sorted h.2 i j x y (by omega) hx hy
theorem before_iff (a b : Ln) : before a b = decide (cmpLn a b < 0) := by
  unfold before; rcases good_cmpLn.rng a b with e | e | e <;> rw [e] <;> rfl
theorem found_has {l : List Ln} {x : Ln} {i : Nat} (hr : rising l = true) (h1 : ∀ k y, k < i → l[k]? = some y → before y x = true) (h2 : ∀ k y, i ≤ k → l[k]? = some y → before y x = false) :
    has l x = match l[i]? with | none => false | some y => cmpLn y x == 0 := by
  rw [Bool.eq_iff_iff]
  unfold has
  rw [List.any_eq_true]
  constructor
  · rintro ⟨z, hz, hs⟩
    have h0 := (good_cmpLn.zero z x).2 hs
    obtain ⟨k, hk, e⟩ := List.mem_iff_getElem.1 hz
    have hzk : l[k]? = some z := by rw [List.getElem?_eq_getElem hk, e]
    have hki : i ≤ k := by
      by_cases c : i ≤ k
      · exact c
      · have := h1 k z (by omega) hzk
        rw [before_iff, h0] at this; simp at this
    have e2 : k = i := by
      by_cases c : k = i
      · exact c
      · obtain ⟨y, hy⟩ : ∃ y, l[i]? = some y := ⟨l[i]'(by omega), List.getElem?_eq_getElem _⟩
        have hb := rising_sorted hr i k y z (by omega) hy hzk
        have hn := h2 i y (Nat.le_refl _) hy
        have g := good_cmpLn.congr z x y h0
        have a1 := good_cmpLn.anti y z
        have a2 := good_cmpLn.anti y x
        rw [before_iff] at hb hn
        simp at hb hn
        omega
    subst e2
    rw [hzk]
    simpa using h0
  · intro h
    cases hy : l[i]? with
    | none => rw [hy] at h; cases h
    | some y =>
      rw [hy] at h
      exact ⟨y, List.mem_of_getElem? hy, (good_cmpLn.zero y x).1 (by simpa using h)⟩

set_option maxHeartbeats 8000000 in
set_option maxRecDepth 100000 in
theorem search_any (l : List Ln) (v : Value) (x : Ln) (w : World) (hl : Lies w 4 v (l.map Ln.cells)) (hin : ∀ y ∈ l, y.pl.In w) (hst : ∀ y ∈ l, y.pl.steps.length ≤ 1048576) (hlen : l.length ≤ 1048576) (hx : x.pl.In w) (hxs : x.pl.steps.length ≤ 1048576) (hr : rising l = true) :
    Calls Try.prog 57 #[v, .agg x.cells.toArray, .func (.func 9) #[] #[]] w fun r w' => (∃ i : Int, r = .returned (.tuple #[.int .i64 i, .bool (has l x)])) ∧ Below w.heap.size w w' := by
  obtain ⟨R, hR⟩ : ∃ R, has l x = R := ⟨_, rfl⟩
  rw [hR]
  obtain ⟨p, cap, hcap, rfl⟩ := lies_slice hl
  generalize hL : l.length = L at *
  have B0 : Below w.heap.size w (w.alloc (.cells x.cells.toArray 27 (0, 0))) := (Below.refl _ _).alloc (Nat.le_refl _) _
  have X0 : BoxAt (w.alloc (.cells x.cells.toArray 27 (0, 0))) w.heap.size x.cells := BoxAt.new w _ _
  have HR := hid hR
  have HL := hid hL
  have HX := hid hl
  have HI := hid hin
  have HS := hid hst
  have HXI := hid hx
  have HXS := hid hxs
  have HRI := hid hr
  have H0 := hid B0
  have HX0 := hid X0
  have ZF := hid (lnSize x)
  clear hR hL hl hin hst hx hxs hr B0 X0
  have eg : ∀ (args : Array Value) (w : World), (callFunc 9 args).run Try.prog w = .ok (.enter 9 args) w := enters_of Try.func9 (by kernel_rfl) rfl
  go_enter Try.func57, Try.ntmps57
  go_wp2_with fail
  generalize World.alloc w _ = W1 at *
  go_loopg [9, 10] L (fun gf u9 u10 wx => ∃ i j : Nat, u9 = .int .i64 (i : Int) ∧ u10 = .int .i64 (j : Int) ∧ i ≤ j ∧ j ≤ L ∧ j ≤ i + gf ∧ Hid (∀ k y, k < i → l[k]? = some y → before y x = true) ∧ Hid (∀ k y, j ≤ k → l[k]? = some y → before y x = false) ∧ Hid (Below W1.heap.size W1 wx))
  case atStart => exact ⟨0, L, rfl, rfl, by omega, by omega, by omega, hid (fun k y h => by omega), hid (fun k y h hy => by have := (List.getElem?_eq_some_iff.1 hy).1; have := HL.out; omega), hid (Below.refl _ _)⟩
  case round =>
    obtain ⟨i, j, rfl, rfl, hij, hjL, hg, H1, H2, HB⟩ := hrel
    by_cases hlt : i < j
    · obtain ⟨m, hm⟩ : ∃ m, (i + j) / 2 = m := ⟨_, rfl⟩
      obtain ⟨y, hy⟩ : ∃ y, l[m]? = some y := ⟨l[m]'(by rw [HL.out]; omega), List.getElem?_eq_getElem _⟩
      have hyin := HI.out y (List.mem_of_getElem? hy)
      have hys := HS.out y (List.mem_of_getElem? hy)
      obtain ⟨b, off, cap', ev, _, hxx⟩ := Lies.at HX.out (i := m) (by rw [List.length_map, HL.out]; omega)
      injection ev with e1 e2 e3
      subst e1
      clear e2 e3
      have hbw := H0.out.trans (HB.out.mono H0.out.size)
      have hyy : ∀ (a : Nat) (u : Value), y.cells[a]? = some u → wr.cell? ⟨b, off + m * 4 + a, none⟩ = some u := fun a u hu => Keeps.of_below hbw _ _ _ (hxx m y.cells (by rw [List.getElem?_map, hy]; rfl) a u hu)
      have C1 := hid (cmp_reg y x (Below.refl wr.heap.size wr) (hyin.keep (Keeps.of_below hbw)) (HXI.out.keep (Keeps.of_below hbw)) hys HXS.out)
      have KY := hid (reg_cells hyy)
      have KX := hid (reg_cells (off := 0) (fun (a : Nat) (u : Value) (h : x.cells[a]? = some u) => show wr.cell? ⟨w.heap.size, 0 + a, none⟩ = some u by rw [Nat.zero_add]; exact HX0.out.later HB.out a u h))
      have ZY := hid (lnSize y)
      have hbf := before_iff y x
      have hS1 : before y x = true → ∀ k z, k < m + 1 → l[k]? = some z → before z x = true := fun hb k z hk hz => by
        by_cases c : k = m
        · subst c; rw [hy] at hz; cases hz; exact hb
        · exact before_trans (rising_sorted HRI.out k m z y (by omega) hz hy) hb
      have hS2 : before y x = false → ∀ k z, m ≤ k → l[k]? = some z → before z x = false := fun hb k z hk hz => by
        by_cases c : k = m
        · subst c; rw [hy] at hz; cases hz; exact hb
        · cases hz2 : before z x
          · rfl
          · rw [before_trans (rising_sorted HRI.out m k y z (by omega) hy hz) hz2] at hb; cases hb
      rw [hbf] at hS1 hS2
      have S1 := hid hS1
      have S2 := hid hS2
      generalize cmpLn y x = cm at *
      generalize y.cells = ycs at *
      generalize x.cells = xcs at *
      have i0 : ((i : Int) + (j : Int)) / 2 = (m : Int) := by omega
      have i1 : (0 : Int) ≤ (m : Int) := by omega
      have i2 : (m : Int) < (L : Int) := by omega
      clear hyin hys hxx hbw hyy hbf hS1 hS2 hy HX HI HS HX0 HXI
      go_wp2_with fail
      refine wp_region_quiet_below (by kernel_rfl) (by kernel_rfl) ?_
      repeat (first | ((with_reducible refine wpQuiet_load_at (o := ⟨some 28, _, _, _, _, _⟩) rfl _ _ rfl b (off + m * 4) rfl ycs _ KY.out Try.underlying27 rfl ZY.out ?_); simp only [Act.put, List.setIfInBounds_toArray, List.set_cons_zero, List.set_cons_succ]) | ((with_reducible refine wpQuiet_load_at (o := ⟨some 29, _, _, _, _, _⟩) rfl _ _ rfl w.heap.size 0 rfl xcs _ KX.out Try.underlying27 rfl ZF.out ?_); simp only [Act.put, List.setIfInBounds_toArray, List.set_cons_zero, List.set_cons_succ]) | go_big_quiet_step (first | (with_reducible exact C1.out _ _)))
      refine wpQuiet_nil ?_
      intro _ hw'
      obtain ⟨⟨dq, osq⟩, hw''⟩ := hw'
      subst hw''
      have B3 := hid (HB.out.trans ((below_regrown wr dq osq).mono HB.out.size))
      clear HB C1 KY KX
      by_cases hm0 : cm < 0
      · have T1 := hid (S1.out (by simp [hm0]))
        clear S1 S2 i0
        go_wp2_with fail
        go_roundg (gk - 1)
        case measure => omega
        case rel => exact ⟨m + 1, j, by go_num, rfl, by omega, by omega, by omega, T1, H2, B3⟩
      · have T2 := hid (S2.out (by simp [hm0]))
        clear S1 S2 i0
        go_wp2_with fail
        go_roundg (gk - 1)
        case measure => omega
        case rel => exact ⟨i, m, rfl, rfl, by omega, by omega, by omega, H1, T2, B3⟩
    · obtain rfl : i = j := by omega
      have hf := found_has HRI.out H1.out H2.out
      rw [HR.out] at hf
      have hbw := H0.out.trans (HB.out.mono H0.out.size)
      by_cases hiL : i < L
      · obtain ⟨y, hy⟩ : ∃ y, l[i]? = some y := ⟨l[i]'(by rw [HL.out]; omega), List.getElem?_eq_getElem _⟩
        have hyin := HI.out y (List.mem_of_getElem? hy)
        have hys := HS.out y (List.mem_of_getElem? hy)
        obtain ⟨b, off, cap', ev, _, hxx⟩ := Lies.at HX.out (i := i) (by rw [List.length_map, HL.out]; omega)
        injection ev with e1 e2 e3
        subst e1
        clear e2 e3
        have hyy : ∀ (a : Nat) (u : Value), y.cells[a]? = some u → wr.cell? ⟨b, off + i * 4 + a, none⟩ = some u := fun a u hu => Keeps.of_below hbw _ _ _ (hxx i y.cells (by rw [List.getElem?_map, hy]; rfl) a u hu)
        have C1 := hid (cmp_reg y x (Below.refl wr.heap.size wr) (hyin.keep (Keeps.of_below hbw)) (HXI.out.keep (Keeps.of_below hbw)) hys HXS.out)
        have KY := hid (reg_cells hyy)
        have KX := hid (reg_cells (off := 0) (fun (a : Nat) (u : Value) (h : x.cells[a]? = some u) => show wr.cell? ⟨w.heap.size, 0 + a, none⟩ = some u by rw [Nat.zero_add]; exact HX0.out.later HB.out a u h))
        have ZY := hid (lnSize y)
        rw [hy] at hf
        have HF : Hid (R = (cmpLn y x == 0)) := hid hf
        have HBW := hid hbw
        have hd : decide (i < L) = true := by simp [hiL]
        generalize cmpLn y x = cm at *
        generalize y.cells = ycs at *
        generalize x.cells = xcs at *
        clear hyin hys hxx hbw hyy hf hy HX HI HS HX0 HXI HRI H1 H2 HB HR HL
        go_wp2_with fail
        refine wp_region_quiet_below (by kernel_rfl) (by kernel_rfl) ?_
        repeat (first | ((with_reducible refine wpQuiet_load_at (o := ⟨some 44, _, _, _, _, _⟩) rfl _ _ rfl b (off + i * 4) rfl ycs _ KY.out Try.underlying27 rfl ZY.out ?_); simp only [Act.put, List.setIfInBounds_toArray, List.set_cons_zero, List.set_cons_succ]) | ((with_reducible refine wpQuiet_load_at (o := ⟨some 45, _, _, _, _, _⟩) rfl _ _ rfl w.heap.size 0 rfl xcs _ KX.out Try.underlying27 rfl ZF.out ?_); simp only [Act.put, List.setIfInBounds_toArray, List.set_cons_zero, List.set_cons_succ]) | go_big_quiet_step (first | (with_reducible exact C1.out _ _)))
        refine wpQuiet_nil ?_
        intro _ hw'
        obtain ⟨⟨dq, osq⟩, hw''⟩ := hw'
        subst hw''
        go_wp2_with fail
        refine bodyPost_ret (results_tmp2 rfl _ _ _) rfl ?_
        exact ⟨⟨_, by rw [HF.out]; rfl⟩, HBW.out.trans ((below_regrown wr dq osq).mono HBW.out.size)⟩
      · have hn : l[i]? = none := by rw [List.getElem?_eq_none_iff, HL.out]; omega
        rw [hn] at hf
        have HF : Hid (R = false) := hid hf
        have HBW := hid hbw
        have hd : decide (i < L) = false := by simp [hiL]
        clear hbw hf hn HX HI HS HX0 HXI HRI H1 H2 HB HR HL hiL
        go_wp2_with fail
        refine wp_region_quiet_below (by kernel_rfl) (by kernel_rfl) ?_
        repeat (go_big_quiet_step (fail))
        refine wpQuiet_nil ?_
        intro _ hw'
        obtain ⟨⟨dq, osq⟩, hw''⟩ := hw'
        subst hw''
        go_wp2_with fail
        refine bodyPost_ret (results_tmp2 rfl _ _ _) rfl ?_
        exact ⟨⟨_, by rw [HF.out]; rfl⟩, HBW.out.trans ((below_regrown wr dq osq).mono HBW.out.size)⟩
end Go.Proofs.Ytannfhbocfghkaa.EnvC
/- Contracts of env.subset, (env.pair).atMost, (env.pair).fits. -/
namespace Go.Proofs.Ytannfhbocfghkaa.EnvC
open Go Go.RowKit Go.Lib Go.Sort Go.Proofs.Ytannfhbocfghkaa.EnvP

set_option maxHeartbeats 8000000 in
set_option maxRecDepth 100000 in
theorem subset_any (l m : List Ln) (v u : Value) (w : World) (hl : Lies w 4 v (l.map Ln.cells)) (hin : ∀ y ∈ l, y.pl.In w) (hst : ∀ y ∈ l, y.pl.steps.length ≤ 1048576) (hlen : l.length ≤ 1048576)
    (hl' : Lies w 4 u (m.map Ln.cells)) (hin' : ∀ y ∈ m, y.pl.In w) (hst' : ∀ y ∈ m, y.pl.steps.length ≤ 1048576) (hlen' : m.length ≤ 1048576) (hr : rising m = true) :
    Calls Try.prog 48 #[v, u] w fun r w' => r = .returned (.bool (l.all (has m))) ∧ Below w.heap.size w w' := by
  have c1 := fun (x : Ln) (hx : x ∈ l) (W : World) (hb : Below w.heap.size w W) => search_any m u x W (hl'.keep (Keeps.of_below hb)) (fun y hy => (hin' y hy).keep (Keeps.of_below hb)) hst' hlen' ((hin x hx).keep (Keeps.of_below hb)) (hst x hx) hr
  obtain ⟨R, hR⟩ : ∃ R, l.all (has m) = R := ⟨_, rfl⟩
  rw [hR]
  obtain ⟨p, cap, hcap, rfl⟩ := lies_slice hl
  obtain ⟨p', cap', _, rfl⟩ := lies_slice hl'
  generalize hL : l.length = L at *
  have HR : Hid (((l.drop 0).all (has m)) = R) := hid (by rw [List.drop_zero]; exact hR)
  have HL := hid hL
  have HX := hid hl
  have HI := hid hin
  have C1 := hid c1
  clear hR hL hl hin hst c1 hl' hin' hst' hlen' hr
  generalize m.length = M at *
  go_enter Try.func48, Try.ntmps48
  go_wp2_with fail
  go_loopg [11] L (fun gf u wx => ∃ i : Nat, u = .int .i64 (i : Int) ∧ i ≤ L ∧ L ≤ i + gf ∧ Hid (((l.drop i).all (has m)) = R) ∧ Hid (Below w.heap.size w wx))
  case atStart => exact ⟨0, rfl, by omega, by omega, HR, hid (Below.refl _ _)⟩
  case round =>
    obtain ⟨i, rfl, hi, hg, HA, HB⟩ := hrel
    have hb := HB.out
    clear HR
    by_cases hlt : i < L
    · obtain ⟨x, hx⟩ : ∃ x, l[i]? = some x := ⟨l[i]'(by rw [HL.out]; exact hlt), List.getElem?_eq_getElem _⟩
      obtain ⟨b, off, cap2, e, _, hxx⟩ := Lies.at (HX.out.keep (Keeps.of_below hb)) (i := i) (by rw [List.length_map, HL.out]; exact hlt)
      injection e with e1 e2 e3
      subst e1
      clear e2 e3
      have hx' := hxx i x.cells (by rw [List.getElem?_map, hx]; rfl)
      have hix := (HI.out x (List.mem_of_getElem? hx)).keep (Keeps.of_below hb)
      have ho := ln_ones hix
      unfold Ones at ho
      have hp := HA.out
      rw [drop_cons hx, List.all_cons] at hp
      have CX := hid (C1.out x (List.mem_of_getElem? hx))
      have ZF := hid (lnSize x)
      have ZA : Hid ((Try.prog.info? 27).map (·.size) = some x.cells.toArray.size) := hid (lnSize x)
      have ZO : Hid ((#[.string ⟨#[]⟩, .string ⟨#[]⟩, .slice none 0 0, .bool false] : Array Value).size = x.cells.toArray.size) := hid rfl
      have H1C := hid ho
      have HPX : Hid (∀ (j : Nat) (u : Value), x.cells[j]? = some u → wr.cell? ⟨b, off + i * 4 + j, none⟩ = some u) := hid hx'
      generalize x.cells = fcs at *
      generalize has m x = q at *
      have HP := hid hp
      clear hx hxx hx' hix hp HA HI HL HX hb ho C1
      have hb2 : Below wr.heap.size wr ((wr.alloc (.cells #[.string ⟨#[]⟩, .string ⟨#[]⟩, .slice none 0 0, .bool false] 27 (0, 0))).setRow wr.heap.size fcs.toArray) := rowed_below' _ _ _
      have hX2 : BoxAt ((wr.alloc (.cells #[.string ⟨#[]⟩, .string ⟨#[]⟩, .slice none 0 0, .bool false] 27 (0, 0))).setRow wr.heap.size fcs.toArray) wr.heap.size fcs := rowed_box' _ _ _ _
      have K2 : Hid (∀ (j : Nat) (u : Value), fcs[j]? = some u → ((wr.alloc (.cells #[.string ⟨#[]⟩, .string ⟨#[]⟩, .slice none 0 0, .bool false] 27 (0, 0))).setRow wr.heap.size fcs.toArray).cell? ⟨wr.heap.size, 0 + j, none⟩ = some u) := hid fun j u h => by rw [Nat.zero_add]; exact hX2 j u h
      have B2 := hid (HB.out.trans (hb2.mono HB.out.size))
      have C2 := hid (CX.out _ B2.out)
      clear hb2 hX2 HB CX
      go_wp2_with (first | (with_reducible refine wpList_load_at (o := ⟨some 14, _, _, _, _, _⟩) rfl _ _ rfl b (off + i * 4) rfl fcs _ HPX.out Try.underlying27 rfl ZF.out ?_) | (with_reducible refine wpList_load_at (o := ⟨some 17, _, _, _, _, _⟩) rfl _ _ rfl wr.heap.size 0 rfl fcs _ K2.out Try.underlying27 rfl ZF.out ?_) | (with_reducible refine wpList_store_row (o := ⟨none, _, _, _, _, _⟩) rfl _ _ _ rfl wr.heap.size fcs.toArray rfl rfl _ _ (heap_alloc_new _ _) ZA.out ZO.out H1C.out ?_))
      generalize (World.alloc wr _).setRow _ _ = W2 at *
      clear HPX ZA ZO H1C
      with_reducible refine C2.out.mono ?_
      rintro e W3 ⟨⟨z, rfl⟩, hb3⟩
      have B3 := hid (B2.out.trans (hb3.mono B2.out.size))
      clear C2 hb3 K2 B2
      cases q
      · have HN : Hid (R = false) := hid (by rw [← HP.out]; rfl)
        go_wp2_with fail
        go_ret
        exact ⟨ret_bool HN.out.symm, B3.out⟩
      · have HN : Hid (((l.drop (i + 1)).all (has m)) = R) := hid (by rw [← HP.out]; rfl)
        go_wp2_with fail
        go_roundg (gk - 1)
        case measure => omega
        case rel => exact ⟨i + 1, by go_num, by omega, by omega, HN, B3⟩
    · have HN : Hid (R = true) := hid (by rw [← HA.out, List.drop_eq_nil_of_le (by rw [HL.out]; omega)]; rfl)
      clear HA HI HL HX hb C1
      go_wp2_with fail
      go_ret
      exact ⟨ret_bool HN.out.symm, HB.out⟩

def PrOk (w : World) (x : Pr) : Prop := TyAt w x.b x.o x.t ∧ TyAt w x.c x.q x.u ∧ Small x.t ∧ Small x.u
def leP (t u : ETy) : Bool := (!t.gone || u.gone) && t.loans.all (has u.loans)
def fitP (t u : ETy) : Bool := t.kind == u.kind && t.mt == u.mt && t.kids.length == u.kids.length
def rowAddrs (b o c q : Nat) : Array Value := #[.pointer (some ⟨b, o, none⟩), .pointer (some ⟨c, q, none⟩)]

set_option maxHeartbeats 8000000 in
set_option maxRecDepth 100000 in
theorem atMost_any (x : Pr) (w : World) (h : PrOk w x) (hr : rising x.u.loans = true) :
    Calls Try.prog 33 #[.agg #[.pointer (some ⟨x.b, x.o, none⟩), .pointer (some ⟨x.c, x.q, none⟩)]] w fun r w' => r = .returned (.bool (leP x.t x.u)) ∧ Below w.heap.size w w' := by
  obtain ⟨R, hR⟩ : ∃ R, leP x.t x.u = R := ⟨_, rfl⟩
  rw [hR]
  obtain ⟨b, o, t, c, q, u⟩ := x
  obtain ⟨h1, h2, hs1, hs2⟩ := h
  have l1 := hs1.loans
  have l2 := hs2.loans
  dsimp only at *
  unfold leP at hR
  obtain ⟨k, m, g, lv, ls, kv, kids⟩ := t
  obtain ⟨k', m', g', lv', ls', kv', kids'⟩ := u
  have i1 := h1.2
  have i2 := h2.2
  rw [ETy.In] at i1 i2
  have B0 : Below w.heap.size w (w.alloc (.cells #[.pointer (some ⟨b, o, none⟩), .pointer (some ⟨c, q, none⟩)] 68 (0, 0))) := (Below.refl _ _).alloc (Nat.le_refl _) _
  have X0 : BoxAt (w.alloc (.cells #[.pointer (some ⟨b, o, none⟩), .pointer (some ⟨c, q, none⟩)] 68 (0, 0))) w.heap.size [.pointer (some ⟨b, o, none⟩), .pointer (some ⟨c, q, none⟩)] := BoxAt.new w _ _
  have c1 := fun (d : Nat) (os : Array Obj) => Calls.regrown_of (subset_any ls ls' lv lv' (grow (redrawn (w.alloc (.cells #[.pointer (some ⟨b, o, none⟩), .pointer (some ⟨c, q, none⟩)] 68 (0, 0))) d) os) (i1.1.keep (regKeeps B0 d os)) (fun y hy => (i1.2.1 y hy).keep (regKeeps B0 d os)) l1.2 l1.1 (i2.1.keep (regKeeps B0 d os)) (fun y hy => (i2.2.1 y hy).keep (regKeeps B0 d os)) l2.2 l2.1 hr)
  have z0 := cell_regrown (X0 0 (.pointer (some ⟨b, o, none⟩)) rfl)
  have z1 := cell_regrown (X0 1 (.pointer (some ⟨c, q, none⟩)) rfl)
  have y2 := cell_regrown (later B0 (h1.1 2 (.bool g) rfl))
  have y3 := cell_regrown (later B0 (h1.1 3 lv rfl))
  have v2 := cell_regrown (later B0 (h2.1 2 (.bool g') rfl))
  have v3 := cell_regrown (later B0 (h2.1 3 lv' rfl))
  have HR : Hid (((!g || g') && ls.all (has ls')) = R) := hid hR
  have C1 := hid c1
  have H0 := hid B0
  clear hR h1 h2 hs1 hs2 l1 l2 i1 i2 c1 X0 B0 hr
  generalize ls.all (has ls') = P at *
  go_enter Try.func33, Try.ntmps33
  go_wp2_with fail
  generalize World.alloc w _ = W1 at *
  cases g <;> cases g'
  all_goals (
    replace HR := HR.out
    simp only [Bool.not_true, Bool.not_false, Bool.or_true, Bool.or_false, Bool.true_and, Bool.false_and] at HR
    replace HR := hid HR
    refine wp_region_quiet_below (by kernel_rfl) (by kernel_rfl) ?_
    repeat (go_big_quiet_step (first | (with_reducible exact C1.out _ _)))
    refine wpQuiet_nil ?_
    intro _ hw'
    obtain ⟨⟨dq, osq⟩, hw''⟩ := hw'
    subst hw''
    go_wp2_with fail
    go_ret
    exact ⟨by first | rfl | exact ret_bool HR.out, H0.out.trans ((below_regrown W1 dq osq).mono H0.out.size)⟩)

set_option maxHeartbeats 8000000 in
set_option maxRecDepth 100000 in
theorem fitsP_any (x : Pr) (w : World) (h : PrOk w x) :
    Calls Try.prog 53 #[.agg #[.pointer (some ⟨x.b, x.o, none⟩), .pointer (some ⟨x.c, x.q, none⟩)]] w fun r w' => r = .returned (.bool (fitP x.t x.u)) ∧ Below w.heap.size w w' := by
  obtain ⟨R, hR⟩ : ∃ R, fitP x.t x.u = R := ⟨_, rfl⟩
  rw [hR]
  obtain ⟨b, o, t, c, q, u⟩ := x
  obtain ⟨h1, h2, hs1, hs2⟩ := h
  dsimp only at *
  unfold fitP at hR
  obtain ⟨k, m, g, lv, ls, kv, kids⟩ := t
  obtain ⟨k', m', g', lv', ls', kv', kids'⟩ := u
  have i1 := h1.2
  have i2 := h2.2
  rw [ETy.In] at i1 i2
  obtain ⟨p1, d1, _, rfl⟩ := lies_slice i1.2.2.1
  obtain ⟨p2, d2, _, rfl⟩ := lies_slice i2.2.2.1
  have B0 : Below w.heap.size w (w.alloc (.cells #[.pointer (some ⟨b, o, none⟩), .pointer (some ⟨c, q, none⟩)] 68 (0, 0))) := (Below.refl _ _).alloc (Nat.le_refl _) _
  have X0 : BoxAt (w.alloc (.cells #[.pointer (some ⟨b, o, none⟩), .pointer (some ⟨c, q, none⟩)] 68 (0, 0))) w.heap.size [.pointer (some ⟨b, o, none⟩), .pointer (some ⟨c, q, none⟩)] := BoxAt.new w _ _
  have z0 := X0 0 (.pointer (some ⟨b, o, none⟩)) rfl
  have z1 := X0 1 (.pointer (some ⟨c, q, none⟩)) rfl
  have y0 := later B0 (h1.1 0 (.int .i64 k) rfl)
  have y1 := later B0 (h1.1 1 (.bool m) rfl)
  have y4 := later B0 (h1.1 4 (.slice p1 kids.length d1) rfl)
  have v0 := later B0 (h2.1 0 (.int .i64 k') rfl)
  have v1 := later B0 (h2.1 1 (.bool m') rfl)
  have v4 := later B0 (h2.1 4 (.slice p2 kids'.length d2) rfl)
  rw [Nat.add_zero] at y0 v0
  have HR : Hid ((k == k' && m == m' && kids.length == kids'.length) = R) := hid hR
  have H0 := hid B0
  clear hR h1 h2 hs1 hs2 i1 i2 X0 B0
  generalize kids.length = N at *
  generalize kids'.length = M at *
  go_enter Try.func53, Try.ntmps53
  go_wp2_with fail
  generalize World.alloc w _ = W1 at *
  by_cases hk : k = k'
  · subst hk
    by_cases hm : m = m'
    · subst hm
      have HN : Hid ((N == M) = R) := hid (by rw [← HR.out]; simp)
      clear HR
      go_wp2_with fail
      go_quiet (fail)
      go_wp2_with fail
      go_ret
      refine ⟨ret_bool (HN.out ▸ ?_), below_drewN H0.out _⟩
      first | rfl | (rw [Bool.eq_iff_iff]; simp; omega)
    · have HN : Hid (false = R) := hid (by rw [← HR.out]; simp [hm])
      have hne : (m == m') = false := by simp [hm]
      clear HR hm
      go_wp2_with fail
      go_quiet (fail)
      go_wp2_with fail
      go_ret
      exact ⟨ret_bool HN.out, below_drewN H0.out _⟩
  · have HN : Hid (false = R) := hid (by rw [← HR.out]; simp [hk])
    have hne : (k == k') = false := by simp [hk]
    clear HR hk
    go_wp2_with fail
    go_quiet (fail)
    go_wp2_with fail
    go_ret
    exact ⟨ret_bool HN.out, below_drewN H0.out _⟩
end Go.Proofs.Ytannfhbocfghkaa.EnvC

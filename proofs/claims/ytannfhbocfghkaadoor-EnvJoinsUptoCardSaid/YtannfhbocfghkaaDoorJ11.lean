/- Texts joined: EnvS, EnvV, EnvU, EnvX. -/
import Derived.Test.YtannfhbocfghkaaDoorJ09
import Derived.Test.YtannfhbocfghkaaDoorJ10
import Derived.Test.YtannfhbocfghkaaDoorJ02
/- Contract of env.Hit. -/
namespace Go.Proofs.YtannfhbocfghkaaDoor.EnvC
open Go Go.RowKit Go.Shelf Go.Lib Go.Sort Go.Proofs.YtannfhbocfghkaaDoor.EnvP
attribute [local go_sem] Oper.semAt_some

theorem PtOk.keepIt {w w' : World} {x : Pt} (h : PtOk w x) (k : Keeps w w') : PtOk w' x := ⟨h.1.keep k, h.2⟩
def noHit (p : Pl) (wt : Bool) (_ : Bool) (t : ETy) : Bool := !t.loans.any (hitLn p wt)
def hit_one (p : Pl) (wt : Bool) (b : Bd) : Bool := !hitT p wt b.ty
theorem hitLn_eq (p : Pl) (wt : Bool) (x : Ln) : hitLn p wt x = ((x.life.toList == []) && ((x.mt || wt) && overlap x.pl p)) := by unfold hitLn; rw [emp, Bool.and_assoc, Bool.or_comm]

set_option maxHeartbeats 8000000 in
set_option maxRecDepth 100000 in
theorem hit_any (e : List Bd) (p : Pl) (wt : Bool) (v : Value) (w : World) (h : EnvIn w v e) (hs : ∀ b ∈ e, Small b.ty) (hlen : e.length ≤ 1048576) (hp : p.In w) (hps : p.steps.length ≤ 1048576) :
    Calls Tryd.prog 18 #[v, p.val, .bool wt] w fun r w' => r = .returned (.bool (hit e p wt)) ∧ Below w.heap.size w w' := by
  obtain ⟨pe, cap, hcap, rfl⟩ := lies_slice h.1
  obtain ⟨pc, pq, hpq, hpe⟩ : ∃ pp pq, p.steps.length ≤ pq ∧ p.sv = .slice pp p.steps.length pq := lies_slice hp
  obtain ⟨R, hR⟩ : ∃ R, hit e p wt = R := ⟨_, rfl⟩
  rw [hR]
  have hR2 : (e.all (hit_one p wt)) = !R := by
    rw [← hR]
    unfold hit hit_one
    rw [List.not_any_eq_all_not]
  rw [show p.val = .agg #[.string p.var, p.sv] from rfl, hpe]
  have hov := fun (x : Ln) (W : World) (hx : x.pl.In W) (hxs : x.pl.steps.length ≤ 1048576) (hb : Below w.heap.size w W) => overlap_any x.pl p W hx (hp.keep (Keeps.of_below hb)) hxs hps
  generalize hL : e.length = L at *
  generalize hPS : p.steps.length = PS at *
  have hb1 : Below w.heap.size w (((w.alloc (.cells #[.string p.var, .slice pc PS pq] 42 (0, 0))).alloc (.cells #[.bool wt] 4 (0, 0))).alloc (.cells #[.bool false] 4 (0, 0))) := (((Below.refl _ _).alloc (Nat.le_refl _) _).alloc (by simp) _).alloc (by simp; omega) _
  have X1 : BoxAt (((w.alloc (.cells #[.string p.var, .slice pc PS pq] 42 (0, 0))).alloc (.cells #[.bool wt] 4 (0, 0))).alloc (.cells #[.bool false] 4 (0, 0))) w.heap.size [.string p.var, .slice pc PS pq] := ((BoxAt.new w _ _).later ((Below.refl _ _).alloc (Nat.le_refl _) _)).later ((Below.refl _ _).alloc (Nat.le_refl _) _)
  have X2 : (((w.alloc (.cells #[.string p.var, .slice pc PS pq] 42 (0, 0))).alloc (.cells #[.bool wt] 4 (0, 0))).alloc (.cells #[.bool false] 4 (0, 0))).cell? ⟨w.heap.size + 1, 0, none⟩ = some (.bool wt) := by
    have := Boxed.new (w.alloc (.cells #[.string p.var, .slice pc PS pq] 42 (0, 0))) 4 (.bool wt)
    rw [World.size_alloc] at this
    exact (this.alloc _).cell
  have X3 := Boxed.new ((w.alloc (.cells #[.string p.var, .slice pc PS pq] 42 (0, 0))).alloc (.cells #[.bool wt] 4 (0, 0))) 4 (.bool false)
  rw [World.size_alloc, World.size_alloc] at X3
  change Boxed (((w.alloc (.cells #[.string p.var, .slice pc PS pq] 42 (0, 0))).alloc (.cells #[.bool wt] 4 (0, 0))).alloc (.cells #[.bool false] 4 (0, 0))) (w.heap.size + 1 + 1) _ _ at X3
  have S1 : (((w.alloc (.cells #[.string p.var, .slice pc PS pq] 42 (0, 0))).alloc (.cells #[.bool wt] 4 (0, 0))).alloc (.cells #[.bool false] 4 (0, 0))).heap.size = w.heap.size + 1 + 1 + 1 := by simp
  have HR := hid hR2
  have HL := hid hL
  have HE := hid h
  have HS := hid hs
  have HOV := hid hov
  have HPE := hid hpe
  have HPS := hid hPS
  clear hR hR2 hL h hs hp hov hpe hPS
  refine callsIn_wide (n := 12) |>.1 (callsIn_of_wp_marks Tryd.func18 rfl trivial ?_ rfl)
  simp only [Tryd.ntmps18, List.size_toArray, List.length_cons, List.length_nil, Nat.reduceAdd, Nat.reduceSub, Array.replicate_succ, Array.replicate_zero, List.push_toArray, List.append_toArray, List.nil_append, List.cons_append]
  gi_wp2
  generalize World.alloc (World.alloc (World.alloc w _) _) _ = W1 at *
  have HB1 := hid hb1
  have HX1 := hid X1
  have HX2 := hid X2
  have HX3 := hid X3
  have HS1 := hid S1
  clear hb1 X1 X2 X3 S1
  refine wpIn_loop_ghost_k (fun gf act wr => ∃ (i : Nat) (ds : List Deferred) (u7 u8 u9 u10 u14 u15 u16 u17 u18 u19 u20 u21 u22 u23 u24 u25 u26 u27 u28 u29 u30 u31 u32 u33 u34 u35 u36 u37 u38 u39 u40 u41 u42 u43 u44 u45 u46 u47 u48 u49 : Value), act = { tmps := #[.slice pe L cap, .agg #[.string p.var, .slice pc PS pq], .bool wt, undef, .pointer (some ⟨w.heap.size, 0, none⟩), .pointer (some ⟨w.heap.size + 1, 0, none⟩), .pointer (some ⟨w.heap.size + 1 + 1, 0, none⟩), u7, u8, u9, u10, .slice pe L cap, .int .i64 (L : Int), .int .i64 (i : Int), u14, u15, u16, u17, u18, u19, u20, u21, u22, u23, u24, u25, u26, u27, u28, u29, u30, u31, u32, u33, u34, u35, u36, u37, u38, u39, u40, u41, u42, u43, u44, u45, u46, u47, u48, u49], defers := ds } ∧
    i ≤ L ∧ L ≤ i + gf ∧ Hid (Marks (w.heap.size + 1 + 1 + 1) wr ds) ∧ Hid (Below (w.heap.size + 1 + 1) W1 wr) ∧ Hid (W1.heap.size ≤ wr.heap.size) ∧ Hid (Boxed wr (w.heap.size + 1 + 1) 4 (.bool false)) ∧ Hid (((e.drop i).all (hit_one p wt)) = !R)) L ⟨0, [], _, _, _, _, _, _, _, _, _, _, _, _, _, _, _, _, _, _, _, _, _, _, _, _, _, _, _, _, _, _, _, _, _, _, _, _, _, _, _, _, rfl, by omega, by omega, hid trivial, hid (Below.refl _ _), hid (Nat.le_refl _), HX3, hid (by rw [List.drop_zero]; exact HR.out)⟩ ?_
  rintro gk act wr ⟨i, ds, u7, u8, u9, u10, u14, u15, u16, u17, u18, u19, u20, u21, u22, u23, u24, u25, u26, u27, u28, u29, u30, u31, u32, u33, u34, u35, u36, u37, u38, u39, u40, u41, u42, u43, u44, u45, u46, u47, u48, u49, rfl, hi, hg, HM, HB, HZ, HX, HI⟩ J K hJ hK
  have HBW := hid (HB1.out.trans (HB.out.mono (by omega)))
  clear HX3 HR
  by_cases hlt : i < L
  · obtain ⟨x, hx⟩ : ∃ x, e[i]? = some x := ⟨e[i]'(by rw [HL.out]; exact hlt), List.getElem?_eq_getElem _⟩
    obtain ⟨b, off, cap', ev, _, hok, _⟩ := bd_at HE.out hx (HS.out x (List.mem_of_getElem? hx))
    injection ev with e1 e2 e3
    subst e1
    have HA := hid (fun W => all_Pt ⟨b, off + i * 6 + 1, false, x.ty⟩ rfl W)
    have HOK := hid hok
    have HI2 : Hid (((!hitT p wt x.ty) && (e.drop (i + 1)).all (hit_one p wt)) = !R) := hid (by have := HI.out; rw [drop_cons hx, List.all_cons] at this; exact this)
    clear e2 e3 hok hx HI
    obtain ⟨rest, hrest⟩ : ∃ rest, (e.drop (i + 1)).all (hit_one p wt) = rest := ⟨_, rfl⟩
    rw [hrest] at HI2
    have HREST := hid hrest
    clear hrest
    gi_wp2
    refine ⟨trivial, callsIn_wide.2 ((HA.out wr).mono ?_)⟩
    rintro e1 W2 ⟨rfl, hb2, h1, h2, hsz⟩
    have HB2 := hid (HB.out.trans (hb2.mono (by have := HX.out.lt; omega)))
    have HZ2 := hid (Nat.le_trans HZ.out hb2.size)
    have HBW2 := hid (HBW.out.trans (hb2.mono HBW.out.size))
    have HM2 := hid (HM.out.later hb2)
    have HX2' := hid (boxed_below HX.out hb2)
    have HD : Hid (∀ D, { target := .collected D, args := #[] } ∈ ds → D < W2.heap.size) := hid (fun D hm => HM2.out.lt D hm)
    have HS2 : Hid (w.heap.size + 1 + 1 < W2.heap.size) := hid HX2'.out.lt
    clear hb2 HA HB HM HX HZ HBW hsz
    gi_wp2
    refine range_of (n := 12) rfl (by omega) (gf := 56) rfl trivial (enters_of Tryd.func56 (by kernel_rfl) rfl)
      (walks_Pt 11 (by omega) ⟨b, off + i * 6 + 1, false, x.ty⟩ wr.heap.size (wr.heap.size + 1) W2 h1 h2 (Nat.le_trans (nT_le _) HOK.out.2)) (Below.refl _ _) rfl (fun A B x ks h hc => h.keep hc.keeps)
      (fun st W => Below W2.heap.size W2 W ∧ (∀ y ∈ st, PtOk w y) ∧ (stAll (noHit p wt) st && rest) = !R)
      (fun W => Below w.heap.size w W ∧ Marks (w.heap.size + 1 + 1 + 1) W ds ∧ Boxed W (w.heap.size + 1 + 1) 4 (.bool true) ∧ W2.heap.size ≤ W.heap.size ∧ R = true)
      (fun st A B h k => ⟨h.1.trans (k.below h.1.size), h.2⟩)
      (fun A B h k => ⟨h.1.trans ((k.below h.2.2.2.1).mono (by have := HS2.out; omega)), k.marks h.2.1 HD.out, k.boxed h.2.2.1 HS2.out, Nat.le_trans h.2.2.2.1 k.size, h.2.2.2.2⟩)
      ⟨Below.refl _ _, fun y hy => by rw [List.mem_singleton] at hy; subst hy; exact HOK.out, by rw [← HI2.out]; unfold stAll noHit; rw [List.all_cons, List.all_nil, Bool.and_true, hit_all]⟩ ?round ?done ?stop
    case round =>
      clear HOK HI2 h1 h2 HREST
      rintro l y r W ⟨hB, hok, heq⟩
      have hoy := hok y List.mem_cons_self
      rw [stAll_step (noHit p wt) y r] at heq
      have hok2 := stOk_step hok
      rw [show y.cells.toArray = #[.pointer (some ⟨y.b, y.o, none⟩), .bool y.ins] from rfl]
      have hbx : Below W.heap.size W (W.alloc (.cells #[.pointer (some ⟨y.b, y.o, none⟩), .bool y.ins] 53 (0, 0))) := (Below.refl _ _).alloc (Nat.le_refl _) _
      have hnew := World.alloc_heap_new W (.cells #[.pointer (some ⟨y.b, y.o, none⟩), .bool y.ins] 53 (0, 0))
      have HBX := hid hbx
      have HNEW := hid hnew
      have HBB := hid hB
      have HOY := hid hoy
      have HOK2 := hid hok2
      have HEQ := hid heq
      clear hbx hnew hB hoy hok hok2 heq
      gi_wp2
      refine ⟨Below.keepsFrom HBX.out _, (Below.cellsSame HBX.out).types, fun W4 hb4 hc4 => ?_⟩
      have hn4 := hc4 _ _ HNEW.out rfl
      have d0 : W4.cell? ⟨W.heap.size, 0, none⟩ = some (.pointer (some ⟨y.b, y.o, none⟩)) := by rw [Lib.cell_of_heap hn4]; rfl
      have HB4 := hid ((HBB.out.trans (HBX.out.mono HBB.out.size)).trans hb4)
      have HBW4 := hid (HBW2.out.trans (HB4.out.mono (by have := HS2.out; omega)))
      have HOY4 := hid (PtOk.keepIt HOY.out (Keeps.of_below HBW4.out))
      clear HBX HNEW HBB hb4 hc4 hn4
      obtain ⟨yb, yo, yi, ⟨k, m, g, lv, ls, kv, kids⟩⟩ := y
      have hin := HOY4.out.1.2
      have hlo := HOY4.out.2.loans
      rw [ETy.In] at hin
      obtain ⟨pl, cl, hcl, elv⟩ := lies_slice hin.1
      have hlv := HOY4.out.1.1 3 lv rfl
      subst elv
      dsimp only at d0 hlv
      have HEQ3 : Hid (((!((ls.drop 0).any (hitLn p wt))) && (stAll (noHit p wt) ((Pt.kids ⟨yb, yo, yi, .mk k m g (.slice pl ls.length cl) ls kv kids⟩) ++ r) && rest)) = !R) := hid (by rw [List.drop_zero, ← Bool.and_assoc]; exact HEQ.out)
      have HIN := hid hin
      have HLO := hid hlo
      change Hid (ls.length ≤ 1048576 ∧ ∀ l ∈ ls, l.pl.steps.length ≤ 1048576) at HLO
      have HX4 := hid (boxed_below HX2'.out HB4.out)
      generalize hLL : ls.length = LL at *
      have HLL := hid hLL
      have hLL2 : LL ≤ 1048576 := HLO.out.1
      clear hin hlo hLL HEQ
      gi_wp2
      gi_loopg [28] LL (fun gf u wx => ∃ j : Nat, u = .int .i64 (j : Int) ∧ j ≤ LL ∧ LL ≤ j + gf ∧ Hid (((!((ls.drop j).any (hitLn p wt))) && (stAll (noHit p wt) ((Pt.kids ⟨yb, yo, yi, .mk k m g (.slice pl LL cl) ls kv kids⟩) ++ r) && rest)) = !R) ∧ Hid (Below W4.heap.size W4 wx))
      case atStart => exact ⟨0, rfl, by omega, by omega, HEQ3, hid (Below.refl _ _)⟩
      case round =>
        obtain ⟨j, rfl, hj, hg2, HJ, HBX⟩ := hrel
        clear HEQ3
        by_cases hlt2 : j < LL
        · obtain ⟨x2, hx2⟩ : ∃ x2, ls[j]? = some x2 := ⟨ls[j]'(by rw [HLL.out]; exact hlt2), List.getElem?_eq_getElem _⟩
          obtain ⟨lb, lo, cl2, ev, _, hxx⟩ := Lies.at (HIN.out.1.keep (Keeps.of_below HBX.out)) (i := j) (by rw [List.length_map, HLL.out]; exact hlt2)
          injection ev with e1 e2 e3
          subst e1
          clear e2 e3
          have hxc := hxx j x2.cells (by rw [List.getElem?_map, hx2]; rfl)
          have hix := (HIN.out.2.1 x2 (List.mem_of_getElem? hx2)).keep (Keeps.of_below HBX.out)
          obtain ⟨xp, xq, _, hxe⟩ : ∃ pp pq, x2.pl.steps.length ≤ pq ∧ x2.pl.sv = .slice pp x2.pl.steps.length pq := lies_slice hix
          have hbw := HBW4.out.trans (HBX.out.mono HBW4.out.size)
          have co := fun W hb => HOV.out x2 W (hix.keep (Keeps.of_below (show Below wr.heap.size wr W from hb))) (HLO.out.2 x2 (List.mem_of_getElem? hx2)) (hbw.trans (hb.mono hbw.size))
          have hp := HJ.out
          rw [drop_cons hx2, List.any_cons, hitLn_eq, Bool.not_or, Bool.and_assoc] at hp
          obtain ⟨xl, ⟨xv, xs, xt⟩, xm⟩ := x2
          dsimp only at hxe hp co
          subst hxe
          have v0 := hxc 0 (.string xl) rfl
          have v1 := hxc 1 (.string xv) rfl
          have v2 := hxc 2 (.slice xp xt.length xq) rfl
          have v3 := hxc 3 (.bool xm) rfl
          rw [Nat.add_zero] at v0
          change ∀ W, Below wr.heap.size wr W → Calls _ _ #[.agg #[.string xv, .slice xp xt.length xq], .agg #[.string p.var, p.sv]] _ _ at co
          rw [HPE.out] at co
          generalize overlap ⟨xv, _, xt⟩ p = ov at *
          generalize xt.length = NX at *
          have bA : Below wr.heap.size wr (wr.alloc (.cells #[.string xl, .string xv, .slice xp NX xq, .bool xm] 44 (0, 0))) := (Below.refl _ _).alloc (Nat.le_refl _) _
          have CO := hid (CallsIn.inRound l (callsIn_wide (n := 9) |>.2 (co _ bA)))
          have hbp := HB2.out.trans ((HB4.out.mono (Nat.le_of_lt HS2.out)).trans (HBX.out.mono (Nat.le_trans (Nat.le_of_lt HS2.out) HB4.out.size)))
          have p0 := (hbp.cell (p := ⟨w.heap.size, 0, none⟩) (by show w.heap.size < w.heap.size + 1 + 1; omega)).trans (HX1.out 0 (.string p.var) rfl)
          have p1 := (hbp.cell (p := ⟨w.heap.size, 1, none⟩) (by show w.heap.size < w.heap.size + 1 + 1; omega)).trans (HX1.out 1 (.slice pc PS pq) rfl)
          have p2 := (hbp.cell (p := ⟨w.heap.size + 1, 0, none⟩) (by show w.heap.size + 1 < w.heap.size + 1 + 1; omega)).trans HX2.out
          have p0 := later bA p0
          have p1 := later bA p1
          have p2 := later bA p2
          have HX5 := hid (boxed_below (boxed_below HX4.out HBX.out) bA)
          have B5 := hid (HBX.out.trans (bA.mono HBX.out.size))
          have HP := hid hp
          clear hx2 hxx hxc hix hbw co hp HJ bA hbp HBX HPE
          have hrep : (xl.toList == []) = false ∨ ((xl.toList == []) = true ∧ (xm || wt) = false) ∨ ((xl.toList == []) = true ∧ (xm || wt) = true) := by
            cases (xl.toList == []) <;> cases (xm || wt) <;> simp
          rcases hrep with h0 | ⟨h0, h1⟩ | ⟨h0, h1⟩
          · have HN := HP.out
            rw [h0, Bool.false_and, Bool.not_false, Bool.true_and] at HN
            have HN := hid HN
            clear HP
            gi_wp2
            refine ⟨trivial, ?_⟩
            gi_wp2
            gi_roundg (gk - 1)
            case measure => omega
            case rel => exact ⟨j + 1, by go_num, by omega, by omega, HN, B5⟩
          · have HN := HP.out
            rw [h0, h1, Bool.false_and, Bool.and_false, Bool.not_false, Bool.true_and] at HN
            have HN := hid HN
            rw [Bool.or_eq_false_iff] at h1
            obtain ⟨rfl, rfl⟩ := h1
            clear HP
            gi_wp2
            refine ⟨trivial, ?_⟩
            gi_wp2
            gi_roundg (gk - 1)
            case measure => omega
            case rel => exact ⟨j + 1, by go_num, by omega, by omega, HN, B5⟩
          · have HN := HP.out
            rw [h0, h1, Bool.true_and, Bool.true_and] at HN
            have HN := hid HN
            clear HP
            have hgo : (xm = true ∨ (xm = false ∧ wt = true)) := by cases xm <;> cases wt <;> simp_all
            rcases hgo with rfl | ⟨rfl, rfl⟩
            all_goals (
              clear h1
              gi_wp2
              refine ⟨trivial, CO.out.mono ?_⟩
              rintro e5 W5 ⟨rfl, hb5⟩
              have B6 := hid (B5.out.trans (hb5.mono B5.out.size))
              have hx5 := boxed_below HX5.out hb5
              have hc5 := hx5.cell
              have hf5 := hx5.frozen
              have HX6 := hid hx5
              clear hb5 hx5 CO HX5 B5 v0 v1 v2 v3 p0 p1 p2
              cases ov
              · have HN2 := HN.out
                rw [Bool.not_false, Bool.true_and] at HN2
                have HN2 := hid HN2
                clear HN
                gi_wp2
                gi_roundg (gk - 1)
                case measure => omega
                case rel => exact ⟨j + 1, by go_num, by omega, by omega, HN2, B6⟩
              · have HN2 : Hid (R = true) := hid (by
                  have := HN.out
                  rw [Bool.not_true, Bool.false_and] at this
                  cases R
                  · cases this
                  · rfl)
                have HB6 := hid (HB4.out.trans (B6.out.mono HB4.out.size))
                clear HN
                gi_wp2
                refine ⟨(Below.keepsFrom B6.out _).trans (KeepsFrom.of_grownBy (grownBy_setCell' W5 _ _) (fun j e => by cases e; exact HS2.out)), (HBW2.out.trans (HB6.out.mono (by have := HS2.out; omega))).setCell (by show w.heap.size ≤ w.heap.size + 1 + 1; omega) _, (HM2.out.later HB6.out).set _ _, HX6.out.set _, Nat.le_trans HB6.out.size (by simp [World.setCell]), HN2.out⟩)
        · have HN := HJ.out
          rw [List.drop_eq_nil_of_le (by rw [HLL.out]; omega), List.any_nil, Bool.not_false, Bool.true_and] at HN
          have HN := hid HN
          have HY5 := hid (HOY4.out.1.keep (Keeps.of_below HBX.out))
          clear HJ
          gi_wp2
          exact ⟨Below.keepsFrom HBX.out _, (Below.cellsSame HBX.out).types, _, ⟨HY5.out, HOY4.out.2, rfl⟩, HB4.out.trans (HBX.out.mono HB4.out.size), HOK2.out, HN.out⟩
    case done =>
      rintro D W hD ⟨hB, _, heq⟩ hdef
      have HM3 := hid (Marks.push (HM2.out.later hB) HD.out hD (Nat.le_trans HS2.out hD) hdef)
      have HB3 := hid (HB2.out.trans (hB.mono (by have := HS2.out; omega)))
      have HZ3 := hid (Nat.le_trans HZ2.out hB.size)
      have HX3 := hid (boxed_below HX2'.out hB)
      have HI3 : Hid ((e.drop (i + 1)).all (hit_one p wt) = !R) := hid (by rw [HREST.out, ← heq]; rfl)
      clear hB heq hdef HB2 HM2 HX2' HI2
      gi_wp2
      exact Handed.intro (gk - 1) (by omega) (hJ _ _ _ ⟨i + 1, _, _, _, _, _, _, _, _, _, _, _, _, _, _, _, _, _, _, _, _, _, _, _, _, _, _, _, _, _, _, _, _, _, _, _, _, _, _, _, _, _, rfl, by omega, by omega, HM3, HB3, HZ3, HX3, HI3⟩)
    case stop =>
      rintro D W hD ⟨hB, hm, hx, hs, rfl⟩ hdef
      clear HB2 HM2 HX2' HI2
      gi_wp2
      exact leaves_marks (b := w.heap.size + 1 + 1 + 1) (by intro e; cases e) _ _ (Marks.push hm HD.out hD (Nat.le_trans HS2.out hD) hdef) fun w' hb hc => ⟨_, result_cell rfl _ _ _ _ _ _ _ (hc.boxed hx) rfl Tryd.underlying4 rfl, rfl, hB.trans (hb.mono (by omega))⟩
  · have HN : Hid (R = false) := hid (by have := HI.out; rw [List.drop_eq_nil_of_le (by rw [HL.out]; omega)] at this; simpa using this)
    have hX := HX.out.cell
    have hF := HX.out.frozen
    clear HI HE HS HL
    gi_wp2
    exact leaves_marks (b := w.heap.size + 1 + 1 + 1) (by intro e; cases e) _ _ (HM.out.set _ _) fun w' hb hc => ⟨_, result_cell rfl _ _ _ _ _ _ _ (hc.boxed (HX.out.set _)) rfl Tryd.underlying4 rfl, by rw [HN.out], ((HBW.out.setCell (by show w.heap.size ≤ w.heap.size + 1 + 1; omega) _).trans (hb.mono (by omega)))⟩
end Go.Proofs.YtannfhbocfghkaaDoor.EnvC
/- Contract of lienbooklaw05.awake. -/
namespace Go.Proofs.YtannfhbocfghkaaDoor.EnvC
open Go Go.RowKit Go.Lib Go.Sort Go.Proofs.YtannfhbocfghkaaDoor.EnvP

def plX : Pl := ⟨⟨#[120]⟩, .slice none 0 0, []⟩
def plXs (v : Value) (i : Int) : Pl := ⟨⟨#[120]⟩, v, [i]⟩
def lnX : Ln := ⟨⟨#[]⟩, plX, false⟩
def tyI : ETy := .mk 1 false false (.slice none 0 0) [] (.slice none 0 0) []
def tyR (b : Nat) : ETy := .mk 4 false false (.slice (some ⟨b, 0, none⟩) 1 1) [lnX] (.slice (some ⟨b + 1, 0, none⟩) 1 1) [tyI]
def envR (b : Nat) : List Bd := [⟨⟨#[114]⟩, tyR b⟩]
theorem lies_none' {w : World} {size : Nat} : Lies w size (.slice none 0 0) [] := ⟨none, 0, rfl, Nat.le_refl _, fun h => absurd rfl h⟩
theorem lies_one' {w : World} {b : Nat} {cs : List Value} (h : BoxAt w b cs) : Lies w cs.length (.slice (some ⟨b, 0, none⟩) 1 1) [cs] :=
  ⟨some ⟨b, 0, none⟩, 1, rfl, Nat.le_refl _, fun _ => ⟨b, 0, rfl, fun i c hi j u hj => by
    match i, hi with
    | 0, hi =>
      rw [List.getElem?_cons_zero] at hi
      cases hi
      rw [Nat.zero_mul, Nat.zero_add]; try rw [Nat.zero_add]
      exact h j u hj
    | i + 1, hi => simp at hi⟩⟩
theorem env_in {w : World} {b : Nat} (h1 : BoxAt w b lnX.cells) (h2 : BoxAt w (b + 1) tyI.cells) (h3 : BoxAt w (b + 1 + 1 + 1) (Bd.cells ⟨⟨#[114]⟩, tyR b⟩)) : EnvIn w (.slice (some ⟨b + 1 + 1 + 1, 0, none⟩) 1 1) (envR b) := by
  refine ⟨lies_one' h3, fun x hx => ?_⟩
  unfold envR at hx
  rw [List.mem_singleton] at hx
  subst hx
  show (tyR b).In w
  unfold tyR
  rw [ETy.In]
  refine ⟨lies_one' h1, fun l hl => ?_, lies_one' h2, ?_⟩
  · rw [List.mem_singleton] at hl; subst hl; exact lies_none'
  · rw [ETy.Ins, ETy.Ins]
    refine ⟨?_, trivial⟩
    unfold tyI
    rw [ETy.In]
    exact ⟨lies_none', fun l hl => by simp at hl, lies_none', by simp [ETy.Ins]⟩
theorem r1 (v : Value) : overlap (plXs v 0) plX = true := rfl
theorem r2 (v u : Value) : overlap (plXs v 0) (plXs u 1) = false := rfl
theorem r3 (b : Nat) : right (envR b) = true := by rfl
theorem r4 (b : Nat) : hit (envR b) plX true = true := by rfl
theorem r5 (b : Nat) : hit (envR b) plX false = false := by rfl
theorem r6 (b : Nat) : less (envR b) (envR b) = true := by rfl
theorem small_R (b : Nat) : ∀ x ∈ envR b, Small x.ty := by
  intro x hx
  unfold envR at hx
  rw [List.mem_singleton] at hx
  subst hx
  show wT (tyR b) ≤ 1048576
  have : wT (tyR b) = 17 := by rfl
  omega

set_option maxHeartbeats 8000000 in
set_option maxRecDepth 100000 in
theorem awake_any (w : World) : Calls Tryd.prog 4 #[] w fun r w' => r = .returned (.bool true) ∧ Below w.heap.size w w' := by
  go_enter Tryd.func4, Tryd.ntmps4
  go_wp2_with fail
  generalize hA0 : World.alloc w _ = A0
  have s0 : A0.heap.size = w.heap.size + 1 := by rw [← hA0]; simp
  have b0 : Below w.heap.size w A0 := by rw [← hA0]; exact (Below.refl _ _).alloc (Nat.le_refl _) _
  have X0 : BoxAt A0 w.heap.size plX.cells := by rw [← hA0]; exact BoxAt.new w _ _
  generalize hA1 : World.alloc A0 _ = A1
  have s1 : A1.heap.size = w.heap.size + 1 + 1 := by rw [← hA1, World.size_alloc, s0]
  have b1 : Below A0.heap.size A0 A1 := by rw [← hA1]; exact (Below.refl _ _).alloc (Nat.le_refl _) _
  have X1 : BoxAt A1 (w.heap.size + 1) lnX.cells := by rw [← hA1, ← s0]; exact BoxAt.new A0 _ _
  generalize hA2 : World.alloc A1 _ = A2
  have s2 : A2.heap.size = w.heap.size + 1 + 1 + 1 := by rw [← hA2, World.size_alloc, s1]
  have b2 : Below A1.heap.size A1 A2 := by rw [← hA2]; exact (Below.refl _ _).alloc (Nat.le_refl _) _
  have X2 : BoxAt A2 (w.heap.size + 1 + 1) tyI.cells := by rw [← hA2, ← s1]; exact BoxAt.new A1 _ _
  generalize hA3 : World.alloc A2 _ = A3
  have s3 : A3.heap.size = w.heap.size + 1 + 1 + 1 + 1 := by rw [← hA3, World.size_alloc, s2]
  have b3 : Below A2.heap.size A2 A3 := by rw [← hA3]; exact (Below.refl _ _).alloc (Nat.le_refl _) _
  generalize hA4 : World.alloc A3 _ = A4
  have s4 : A4.heap.size = w.heap.size + 1 + 1 + 1 + 1 + 1 := by rw [← hA4, World.size_alloc, s3]
  have b4 : Below A3.heap.size A3 A4 := by rw [← hA4]; exact (Below.refl _ _).alloc (Nat.le_refl _) _
  have X4 : BoxAt A4 (w.heap.size + 1 + 1 + 1 + 1) (Bd.cells ⟨⟨#[114]⟩, tyR (w.heap.size + 1)⟩) := by rw [← hA4, ← s3]; exact BoxAt.new A3 _ _
  generalize hA5 : World.alloc A4 _ = A5
  have b5 : Below A4.heap.size A4 A5 := by rw [← hA5]; exact (Below.refl _ _).alloc (Nat.le_refl _) _
  have X5 : BoxAt A5 (w.heap.size + 1 + 1 + 1 + 1 + 1) (stCells 0) := by rw [← hA5, ← s4]; exact BoxAt.new A4 _ _
  have B05 : Below w.heap.size w A5 := ((((b0.trans (b1.mono b0.size)).trans (b2.mono (by omega))).trans (b3.mono (by omega))).trans (b4.mono (by omega))).trans (b5.mono (by omega))
  have Y0 : BoxAt A5 w.heap.size plX.cells := ((((X0.later b1).later b2).later b3).later b4).later b5
  have Y1 := (((X1.later b2).later b3).later b4).later b5
  have Y2 := ((X2.later b3).later b4).later b5
  have Y4 := X4.later b5
  have HE := hid (env_in Y1 Y2 Y4)
  have HP0 := hid (Y0)
  have HB := hid B05
  have C1 := hid (overlap_any (plXs (.slice (some ⟨w.heap.size + 1 + 1 + 1 + 1 + 1, 0, none⟩) 1 1) 0) plX A5 (lies_one' X5) lies_none' (by show 1 ≤ _; decide) (by show 0 ≤ _; decide))
  rw [r1] at C1
  clear hA0 hA1 hA2 hA3 hA4 hA5 s0 s1 s2 s3 s4 b0 b1 b2 b3 b4 b5 X0 X1 X2 X4 X5 Y0 Y1 Y2 Y4 B05
  refine C1.out.mono ?_
  rintro e1 W1 ⟨rfl, hb1⟩
  have HB1 := hid (HB.out.trans (hb1.mono HB.out.size))
  have HE1 := hid (HE.out.keep (Keeps.of_below hb1))
  have HP1 := hid (HP0.out.later hb1)
  clear hb1 HB HE HP0 C1
  go_wp2_with fail
  generalize hA0 : World.alloc W1 _ = A0
  have s0 : A0.heap.size = W1.heap.size + 1 := by rw [← hA0]; simp
  have b0 : Below W1.heap.size W1 A0 := by rw [← hA0]; exact (Below.refl _ _).alloc (Nat.le_refl _) _
  have X0 : BoxAt A0 W1.heap.size (stCells 0) := by rw [← hA0]; exact BoxAt.new W1 _ _
  generalize hA1 : World.alloc A0 _ = A1
  have b1 : Below A0.heap.size A0 A1 := by rw [← hA1]; exact (Below.refl _ _).alloc (Nat.le_refl _) _
  have X1 : BoxAt A1 (W1.heap.size + 1) (stCells 1) := by rw [← hA1, ← s0]; exact BoxAt.new A0 _ _
  have bb : Below W1.heap.size W1 A1 := b0.trans (b1.mono b0.size)
  have C2 := hid (overlap_any (plXs (.slice (some ⟨W1.heap.size, 0, none⟩) 1 1) 0) (plXs (.slice (some ⟨W1.heap.size + 1, 0, none⟩) 1 1) 1) A1 (lies_one' (X0.later b1)) (lies_one' X1) (by show 1 ≤ _; decide) (by show 1 ≤ _; decide))
  rw [r2] at C2
  have HB2 := hid (HB1.out.trans (bb.mono HB1.out.size))
  have HE2 := hid (HE1.out.keep (Keeps.of_below bb))
  have HP2 := hid (HP1.out.later bb)
  clear hA0 hA1 s0 b0 b1 X0 X1 bb HB1 HE1 HP1
  refine C2.out.mono ?_
  rintro e1 W2 ⟨rfl, hb1⟩
  have HB3 := hid (HB2.out.trans (hb1.mono HB2.out.size))
  have HE3 := hid (HE2.out.keep (Keeps.of_below hb1))
  have HP3 := hid (HP2.out.later hb1)
  clear hb1 HB2 HE2 HP2 C2
  have C3 := hid (rightEnv_any (envR (w.heap.size + 1)) _ W2 HE3.out (small_R _) (by show 1 ≤ _; decide))
  rw [r3] at C3
  go_wp2_with fail
  refine C3.out.mono ?_
  rintro e1 W3 ⟨rfl, hb1⟩
  have HB4 := hid (HB3.out.trans (hb1.mono HB3.out.size))
  have HE4 := hid (HE3.out.keep (Keeps.of_below hb1))
  have HP4 := hid (HP3.out.later hb1)
  clear hb1 HB3 HE3 HP3 C3
  have C4 := hid (hit_any (envR (w.heap.size + 1)) plX true _ W3 HE4.out (small_R _) (by show 1 ≤ _; decide) lies_none' (by decide))
  rw [r4] at C4
  have p0 := box_get HP4.out (j := 0) rfl
  have p1 := box_get HP4.out (j := 1) rfl
  go_wp2_with fail
  refine C4.out.mono ?_
  rintro e1 W4 ⟨rfl, hb1⟩
  have HB5 := hid (HB4.out.trans (hb1.mono HB4.out.size))
  have HE5 := hid (HE4.out.keep (Keeps.of_below hb1))
  have HP5 := hid (HP4.out.later hb1)
  clear hb1 HB4 HE4 HP4 C4 p0 p1
  have C5 := hid (hit_any (envR (w.heap.size + 1)) plX false _ W4 HE5.out (small_R _) (by show 1 ≤ _; decide) lies_none' (by decide))
  rw [r5] at C5
  have p0 := box_get HP5.out (j := 0) rfl
  have p1 := box_get HP5.out (j := 1) rfl
  go_wp2_with fail
  refine C5.out.mono ?_
  rintro e1 W5 ⟨rfl, hb1⟩
  have HB6 := hid (HB5.out.trans (hb1.mono HB5.out.size))
  have HE6 := hid (HE5.out.keep (Keeps.of_below hb1))
  clear hb1 HB5 HE5 HP5 C5 p0 p1
  have C6 := hid (less_any (envR (w.heap.size + 1)) (envR (w.heap.size + 1)) _ _ W5 HE6.out HE6.out (small_R _) (small_R _) (by show 1 ≤ _; decide) (by show 1 ≤ _; decide))
  rw [r6] at C6
  go_wp2_with fail
  refine C6.out.mono ?_
  rintro e1 W6 ⟨rfl, hb1⟩
  have HB7 := hid (HB6.out.trans (hb1.mono HB6.out.size))
  clear hb1 HB6 HE6 C6
  go_wp2_with fail
  go_ret
  exact ⟨rfl, HB7.out⟩
end Go.Proofs.YtannfhbocfghkaaDoor.EnvC
/- Contracts of the document's size and Size (lienbookref05). -/
namespace Go.Proofs.YtannfhbocfghkaaDoor.EnvC
open Go Go.RowKit Go.Lib Go.Sort Go.Proofs.YtannfhbocfghkaaDoor.EnvP

def szLn (l : Ln) : Nat := 1 + l.pl.steps.length / 10 + l.pl.var.size / 100 + l.life.size / 100
def szLns : Nat → List Ln → Nat
  | n, [] => n
  | n, l :: ls => if n ≤ 400 then szLns (n + szLn l) ls else n
mutual
def szT : ETy → Nat | .mk _ _ _ _ ls _ kids => szTs (szLns 1 ls) kids
def szTs : Nat → List ETy → Nat
  | n, [] => n
  | n, t :: ts => if n ≤ 400 then szTs (n + szT t) ts else n
end
theorem szLns_le : ∀ (l : List Ln) (n : Nat), szLns n l ≤ n + wLns l
  | [], n => by simp [szLns, wLns]
  | x :: l, n => by
    rw [szLns, wLns]
    have h1 : szLn x ≤ wLn x := by unfold szLn wLn wPl; omega
    have h2 := szLns_le l (n + szLn x)
    split <;> omega
mutual
theorem szT_le : ∀ t : ETy, szT t ≤ wT t
  | .mk _ _ _ _ ls _ kids => by
    rw [szT, wT]
    have h1 := szLns_le ls 1
    have h2 := szTs_le kids (szLns 1 ls)
    omega
theorem szTs_le : ∀ (l : List ETy) (n : Nat), szTs n l ≤ n + wTs l
  | [], n => by simp [szTs, wTs]
  | x :: l, n => by
    rw [szTs, wTs]
    have h1 := szT_le x
    have h2 := szTs_le l (n + szT x)
    split <;> omega
end

set_option maxHeartbeats 8000000 in
set_option maxRecDepth 100000 in
theorem rsize_any : ∀ (n : Nat) (t : ETy) (w : World), wT t ≤ n → n ≤ 1048576 → t.In w →
    Calls Tryd.prog 19 #[t.val] w fun r w' => r = .returned (.int .i64 (szT t : Int)) ∧ Below w.heap.size w w' := by
  intro n
  induction n using Nat.strongRecOn with
  | ind n ih =>
    intro t w hw hn ht
    have hsm : Small t := by unfold Small; omega
    have hsl := hsm.loans
    obtain ⟨k, m, g, lv, ls, kv, kids⟩ := t
    rw [ETy.In] at ht
    obtain ⟨pl, cl, hcl, rfl⟩ := lies_slice ht.1
    obtain ⟨pk, ck, hck, rfl⟩ := lies_slice ht.2.2.1
    rw [wT] at hw
    have hkl := kids_len kids
    have hLb : ls.length ≤ 1048576 := hsl.1
    have hNb : kids.length ≤ 1048576 := by omega
    have hle1 := szLns_le ls 1
    have hle2 := szTs_le kids (szLns 1 ls)
    obtain ⟨R, hR⟩ : ∃ R, szT (.mk k m g (.slice pl ls.length cl) ls (.slice pk kids.length ck) kids) = R := ⟨_, rfl⟩
    rw [hR]
    rw [szT] at hR
    have ihk := fun (x : ETy) (hx : x ∈ kids) (W : World) (hb : Below w.heap.size w W) => ih (wT x) (by have := mem_sum wT hx; rw [← wTs_sum] at this; omega) x W (Nat.le_refl _) (by have := mem_sum wT hx; rw [← wTs_sum] at this; omega) (ETy.In.keep (Keeps.of_below hb) x ((ETy.ins_iff w kids).1 ht.2.2.2 x hx))
    have hin := ht.2.1
    have hwl : wLns ls ≤ 1048576 := by omega
    have hwk : wTs kids ≤ 1048576 := by omega
    change Calls _ _ #[.agg #[.int .i64 k, .bool m, .bool g, .slice pl ls.length cl, .slice pk kids.length ck]] _ _
    generalize hL : ls.length = L at *
    generalize hN : kids.length = N at *
    have X1 := BoxAt.new w [.int .i64 k, .bool m, .bool g, .slice pl L cl, .slice pk N ck] 31
    have bA : Below w.heap.size w (w.alloc (.cells #[.int .i64 k, .bool m, .bool g, .slice pl L cl, .slice pk N ck] 31 (0, 0))) := (Below.refl _ _).alloc (Nat.le_refl _) _
    change BoxAt (w.alloc (.cells #[.int .i64 k, .bool m, .bool g, .slice pl L cl, .slice pk N ck] 31 (0, 0))) _ _ at X1
    have HB0 := hid bA
    have HX := hid X1
    have HT := hid ht
    have HIN := hid hin
    have HIK := hid ihk
    have HL := hid (And.intro hL hN)
    have HWL := hid (And.intro hwl hwk)
    have HR : Hid (szTs (szLns 1 (ls.drop 0)) kids = R) := hid (by rw [List.drop_zero]; exact hR)
    clear bA X1 ht ihk hL hN hR ih hw hsm hsl hkl hin hwl hwk hle1 hle2
    go_enter Tryd.func19, Tryd.ntmps19
    go_wp2_with fail
    generalize World.alloc w _ = W1 at *
    go_loopg [3, 4] L (fun gf u3 u4 wx => ∃ i a : Nat, u3 = .int .i64 (a : Int) ∧ u4 = .int .i64 (i : Int) ∧ i ≤ L ∧ L ≤ i + gf ∧ a + wLns (ls.drop i) ≤ 1 + wLns ls ∧ Hid (szTs (szLns a (ls.drop i)) kids = R) ∧ Hid (Below W1.heap.size W1 wx))
    case atStart => exact ⟨0, 1, rfl, rfl, by omega, by omega, by rw [List.drop_zero]; exact Nat.le_refl _, HR, hid (Below.refl _ _)⟩
    case round =>
      obtain ⟨i, a, rfl, rfl, hi, hg, ha, HI, HB⟩ := hrel
      clear HR
      have z3 := HX.out.later HB.out 3 (.slice pl L cl) rfl
      have hbw := HB0.out.trans (HB.out.mono HB0.out.size)
      have ha2 : a ≤ 2097152 := by have := HWL.out.1; omega
      by_cases hlt : i < L
      · obtain ⟨x, hx⟩ : ∃ x, ls[i]? = some x := ⟨ls[i]'(by rw [HL.out.1]; exact hlt), List.getElem?_eq_getElem _⟩
        by_cases h400 : a ≤ 400
        · obtain ⟨b, off, c0, e, _, hxx⟩ := Lies.at (HT.out.1.keep (Keeps.of_below hbw)) (i := i) (by rw [List.length_map, HL.out.1]; exact hlt)
          injection e with e1 e2 e3
          subst e1
          clear e2 e3
          have hxc := hxx i x.cells (by rw [List.getElem?_map, hx]; rfl)
          obtain ⟨xp, xq, _, hxe⟩ : ∃ pp pq, x.pl.steps.length ≤ pq ∧ x.pl.sv = .slice pp x.pl.steps.length pq := lies_slice (HIN.out x (List.mem_of_getElem? hx))
          have hp := HI.out
          rw [drop_cons hx, szLns, if_pos h400] at hp
          rw [drop_cons hx, wLns] at ha
          have hs1 : szLn x ≤ wLn x := by unfold szLn wLn wPl; omega
          have hs2 : wLn x ≤ 1048576 := by have := mem_sum wLn (List.mem_of_getElem? hx); rw [← wLns_sum] at this; have := HWL.out.1; omega
          unfold szLn at hp hs1
          obtain ⟨xl, ⟨xv, xs, xt⟩, xm⟩ := x
          dsimp only at hxe hp hs1
          subst hxe
          have v0 := hxc 0 (.string xl) rfl
          have v1 := hxc 1 (.string xv) rfl
          have v2 := hxc 2 (.slice xp xt.length xq) rfl
          rw [Nat.add_zero] at v0
          have hz : xl.size ≤ 1048576 ∧ xv.size ≤ 1048576 ∧ xt.length ≤ 1048576 := by unfold wLn wPl at hs2; dsimp only at hs2; omega
          have hb2 := HB.out
          generalize xt.length = xL at *
          generalize hz1 : xl.size = zl at *
          generalize hz2 : xv.size = zv at *
          have HP := hid hp
          have d1 : decide (a ≤ 400) = true := by simp [h400]
          clear hx hxx hxc hp HI hbw
          go_wp2_with fail
          go_quiet (fail)
          go_wp2_with fail
          go_roundg (gk - 1)
          case measure => omega
          case rel => exact ⟨i + 1, a + (1 + xL / 10 + zv / 100 + zl / 100), by simp only [Value.int.injEq, true_and]; omega, by go_num, by omega, by omega, by omega, HP, hid (below_drewN HB.out _)⟩
        · have HK : Hid (szTs a (kids.drop 0) = R) := hid (by have := HI.out; rw [drop_cons hx, szLns, if_neg h400] at this; rw [List.drop_zero]; exact this)
          have d1 : decide (a ≤ 400) = false := by simp [h400]
          have HBW := hid hbw
          have HBB := hid HB.out
          clear hx HI HB hbw ha
          have hb0 : a + wTs (kids.drop 0) ≤ 4194304 := by rw [List.drop_zero]; have := HWL.out.2; omega
          go_wp2_with fail
          generalize hwq : wr = wq at *
          clear hwq z3
          go_loopg [3, 5] N (fun gf u3 u5 wx => ∃ j a2 : Nat, u3 = .int .i64 (a2 : Int) ∧ u5 = .int .i64 (j : Int) ∧ j ≤ N ∧ N ≤ j + gf ∧ a2 + wTs (kids.drop j) ≤ 4194304 ∧ Hid (szTs a2 (kids.drop j) = R) ∧ Hid (Below wq.heap.size wq wx))
          case atStart => exact ⟨0, a, rfl, rfl, by omega, by omega, hb0, HK, hid (Below.refl _ _)⟩
          case round =>
            obtain ⟨j, a2, rfl, rfl, hj, hg2, ha, HJ, HB⟩ := hrel
            clear HK
            have hbx := HBB.out.trans (HB.out.mono HBB.out.size)
            have hbw := HBW.out.trans (HB.out.mono HBW.out.size)
            have ha2 : a2 ≤ 4194304 := by omega
            have z4 := HX.out.later hbx 4 (.slice pk N ck) rfl
            by_cases hlt2 : j < N
            · obtain ⟨y, hy⟩ : ∃ y, kids[j]? = some y := ⟨kids[j]'(by rw [HL.out.2]; exact hlt2), List.getElem?_eq_getElem _⟩
              by_cases h402 : a2 ≤ 400
              · obtain ⟨b, off, c0, e, _, hyy⟩ := Lies.at (HT.out.2.2.1.keep (Keeps.of_below hbw)) (i := j) (by rw [List.length_map, HL.out.2]; exact hlt2)
                injection e with e1 e2 e3
                subst e1
                clear e2 e3
                have hyc := hyy j y.cells (by rw [List.getElem?_map, hy]; rfl)
                have k4 := cell_regrown z4
                have CY := hid (HIK.out y (List.mem_of_getElem? hy) wr hbw)
                change Hid (Calls _ _ #[.agg y.cells.toArray] _ _) at CY
                have KY := hid hyc
                have ZY := hid (tySize y)
                have hp := HJ.out
                rw [drop_cons hy, szTs, if_pos h402] at hp
                rw [drop_cons hy, wTs] at ha
                have hs1 := szT_le y
                generalize szT y = sy at *
                generalize y.cells = ycs at *
                have HP := hid hp
                have HBW2 := hid hbw
                have d2 : decide (a2 ≤ 400) = true := by simp [h402]
                have i1 : (j : Int) < (N : Int) := by omega
                have i0 : (0 : Int) ≤ (j : Int) := by omega
                have hov : (a2 : Int) + (sy : Int) ≤ 9223372036854775807 := by omega
                clear hy hyy hyc hp HJ hbx hbw
                go_wp2_with (with_reducible refine wpList_load_at (o := ⟨some 64, _, _, _, _, _⟩) rfl _ _ rfl b (off + j * 5) rfl ycs _ KY.out Tryd.underlying31 rfl ZY.out ?_)
                with_reducible refine CY.out.mono ?_
                rintro e3 W3 ⟨rfl, hb3⟩
                have B3 := hid (HB.out.trans (hb3.mono HB.out.size))
                clear HB CY KY HBW2 z4 k4 hb3
                go_wp2_with fail
                go_roundg (gk - 1)
                case measure => omega
                case rel => exact ⟨j + 1, a2 + sy, by simp only [Value.int.injEq, true_and]; omega, by go_num, by omega, by omega, by omega, HP, B3⟩
              · have HN : Hid (a2 = R) := hid (by have := HJ.out; rw [drop_cons hy, szTs, if_neg h402] at this; exact this)
                have d2 : decide (a2 ≤ 400) = false := by simp [h402]
                have HBW2 := hid hbw
                clear hy HJ hbx hbw ha
                go_wp2_with fail
                go_ret
                exact ⟨ret_nat HN.out, HBW2.out⟩
            · have HN : Hid (a2 = R) := hid (by have := HJ.out; rw [List.drop_eq_nil_of_le (by rw [HL.out.2]; omega), szTs] at this; exact this)
              have HBW2 := hid hbw
              clear HJ hbx hbw ha
              go_wp2_with fail
              go_ret
              exact ⟨ret_nat HN.out, HBW2.out⟩
      · have HK : Hid (szTs a (kids.drop 0) = R) := hid (by have := HI.out; rw [List.drop_eq_nil_of_le (by rw [HL.out.1]; omega), szLns] at this; rw [List.drop_zero]; exact this)
        have HBW := hid hbw
        have HBB := hid HB.out
        clear HI HB hbw ha
        have hb0 : a + wTs (kids.drop 0) ≤ 4194304 := by rw [List.drop_zero]; have := HWL.out.2; omega
        go_wp2_with fail
        generalize hwq : wr = wq at *
        clear hwq z3
        go_loopg [3, 5] N (fun gf u3 u5 wx => ∃ j a2 : Nat, u3 = .int .i64 (a2 : Int) ∧ u5 = .int .i64 (j : Int) ∧ j ≤ N ∧ N ≤ j + gf ∧ a2 + wTs (kids.drop j) ≤ 4194304 ∧ Hid (szTs a2 (kids.drop j) = R) ∧ Hid (Below wq.heap.size wq wx))
        case atStart => exact ⟨0, a, rfl, rfl, by omega, by omega, hb0, HK, hid (Below.refl _ _)⟩
        case round =>
          obtain ⟨j, a2, rfl, rfl, hj, hg2, ha, HJ, HB⟩ := hrel
          clear HK
          have hbx := HBB.out.trans (HB.out.mono HBB.out.size)
          have hbw := HBW.out.trans (HB.out.mono HBW.out.size)
          have ha2 : a2 ≤ 4194304 := by omega
          have z4 := HX.out.later hbx 4 (.slice pk N ck) rfl
          by_cases hlt2 : j < N
          · obtain ⟨y, hy⟩ : ∃ y, kids[j]? = some y := ⟨kids[j]'(by rw [HL.out.2]; exact hlt2), List.getElem?_eq_getElem _⟩
            by_cases h402 : a2 ≤ 400
            · obtain ⟨b, off, c0, e, _, hyy⟩ := Lies.at (HT.out.2.2.1.keep (Keeps.of_below hbw)) (i := j) (by rw [List.length_map, HL.out.2]; exact hlt2)
              injection e with e1 e2 e3
              subst e1
              clear e2 e3
              have hyc := hyy j y.cells (by rw [List.getElem?_map, hy]; rfl)
              have k4 := cell_regrown z4
              have CY := hid (HIK.out y (List.mem_of_getElem? hy) wr hbw)
              change Hid (Calls _ _ #[.agg y.cells.toArray] _ _) at CY
              have KY := hid hyc
              have ZY := hid (tySize y)
              have hp := HJ.out
              rw [drop_cons hy, szTs, if_pos h402] at hp
              rw [drop_cons hy, wTs] at ha
              have hs1 := szT_le y
              generalize szT y = sy at *
              generalize y.cells = ycs at *
              have HP := hid hp
              have HBW2 := hid hbw
              have d2 : decide (a2 ≤ 400) = true := by simp [h402]
              have i1 : (j : Int) < (N : Int) := by omega
              have i0 : (0 : Int) ≤ (j : Int) := by omega
              have hov : (a2 : Int) + (sy : Int) ≤ 9223372036854775807 := by omega
              clear hy hyy hyc hp HJ hbx hbw
              go_wp2_with (with_reducible refine wpList_load_at (o := ⟨some 64, _, _, _, _, _⟩) rfl _ _ rfl b (off + j * 5) rfl ycs _ KY.out Tryd.underlying31 rfl ZY.out ?_)
              with_reducible refine CY.out.mono ?_
              rintro e3 W3 ⟨rfl, hb3⟩
              have B3 := hid (HB.out.trans (hb3.mono HB.out.size))
              clear HB CY KY HBW2 z4 k4 hb3
              go_wp2_with fail
              go_roundg (gk - 1)
              case measure => omega
              case rel => exact ⟨j + 1, a2 + sy, by simp only [Value.int.injEq, true_and]; omega, by go_num, by omega, by omega, by omega, HP, B3⟩
            · have HN : Hid (a2 = R) := hid (by have := HJ.out; rw [drop_cons hy, szTs, if_neg h402] at this; exact this)
              have d2 : decide (a2 ≤ 400) = false := by simp [h402]
              have HBW2 := hid hbw
              clear hy HJ hbx hbw ha
              go_wp2_with fail
              go_ret
              exact ⟨ret_nat HN.out, HBW2.out⟩
          · have HN : Hid (a2 = R) := hid (by have := HJ.out; rw [List.drop_eq_nil_of_le (by rw [HL.out.2]; omega), szTs] at this; exact this)
            have HBW2 := hid hbw
            clear HJ hbx hbw ha
            go_wp2_with fail
            go_ret
            exact ⟨ret_nat HN.out, HBW2.out⟩

set_option maxHeartbeats 8000000 in
set_option maxRecDepth 100000 in
theorem rSize_any (e : List Bd) (v : Value) (w : World) (h : EnvIn w v e) (hw : wBds e ≤ 1048576) :
    Calls Tryd.prog 5 #[v] w fun r w' => (∃ a : Nat, r = .returned (.int .i64 (a : Int))) ∧ Below w.heap.size w w' := by
  obtain ⟨pe, cap, hcap, rfl⟩ := lies_slice h.1
  have hlb := binds_len e
  have hwb : ∀ x ∈ e, wBd x ≤ 1048576 := fun x hx => by have := mem_sum wBd hx; rw [← wBds_sum] at this; omega
  have c1 := fun (x : Bd) (hx : x ∈ e) (W : World) (hb : Below w.heap.size w W) => rsize_any 1048576 x.ty W (by have := hwb x hx; unfold wBd at this; omega) (Nat.le_refl _) (ETy.In.keep (Keeps.of_below hb) _ (h.2 x hx))
  have hLb : e.length ≤ 1048576 := by omega
  generalize hL : e.length = L at *
  have HE := hid h
  have HL := hid hL
  have C1 := hid c1
  have HWB := hid hwb
  have HW := hid hw
  clear h hL c1 hlb hwb hw
  go_enter Tryd.func5, Tryd.ntmps5
  go_wp2_with fail
  go_loopg [3, 4] L (fun gf u3 u4 wx => ∃ j a2 : Nat, u3 = .int .i64 (a2 : Int) ∧ u4 = .int .i64 (j : Int) ∧ j ≤ L ∧ L ≤ j + gf ∧ a2 + wBds (e.drop j) ≤ 1048576 ∧ Hid (Below w.heap.size w wx))
  case atStart => exact ⟨0, 0, rfl, rfl, by omega, by omega, by rw [List.drop_zero, Nat.zero_add]; exact HW.out, hid (Below.refl _ _)⟩
  case round =>
    obtain ⟨j, a2, rfl, rfl, hj, hg2, ha, HB⟩ := hrel
    have hbw := HB.out
    have ha2 : a2 ≤ 1048576 := by omega
    by_cases hlt2 : j < L
    · obtain ⟨y, hy⟩ : ∃ y, e[j]? = some y := ⟨e[j]'(by rw [HL.out]; exact hlt2), List.getElem?_eq_getElem _⟩
      by_cases h402 : a2 ≤ 400
      · obtain ⟨b, off, c0, e', _, hyy⟩ := Lies.at (HE.out.1.keep (Keeps.of_below hbw)) (i := j) (by rw [List.length_map, HL.out]; exact hlt2)
        injection e' with e1 e2 e3
        subst e1
        clear e2 e3
        have hyc := hyy j y.cells (by rw [List.getElem?_map, hy]; rfl)
        have hyt : ∀ (a : Nat) (u : Value), y.ty.cells[a]? = some u → wr.cell? ⟨b, off + j * 6 + 1 + a, none⟩ = some u := fun a u hu => by
          have := hyc (1 + a) u (by unfold Bd.cells; rw [List.getElem?_append_right (by simp)]; simpa using hu)
          rw [Nat.add_assoc (off + j * 6)]; exact this
        have k0 := cell_regrown (show wr.cell? ⟨b, off + j * 6, none⟩ = some (.string y.name) from hyc 0 _ rfl)
        have CY := hid (fun (d : Nat) (os : Array Obj) => Calls.regrown_of (C1.out y (List.mem_of_getElem? hy) (grow (redrawn wr d) os) (hbw.trans ((below_regrown wr d os).mono hbw.size))))
        change Hid (∀ d os, Calls _ _ #[.agg y.ty.cells.toArray] _ _) at CY
        have KY := hid (reg_cells hyt)
        have ZY := hid (tySize y.ty)
        rw [drop_cons hy, wBds] at ha
        have hs1 := szT_le y.ty
        unfold wBd at ha
        have hnz := Nat.div_le_self y.name.size 100
        generalize szT y.ty = sy at *
        generalize y.ty.cells = ycs at *
        generalize hyn : y.name = yn at *
        generalize hz1 : yn.size = zn at *
        have d2 : decide (a2 ≤ 400) = true := by simp [h402]
        have i1 : (j : Int) < (L : Int) := by omega
        have i0 : (0 : Int) ≤ (j : Int) := by omega
        have hov : (a2 : Int) + (sy : Int) ≤ 9223372036854775807 := by omega
        have hov2 : (a2 : Int) + (sy : Int) + (zn : Int) / 100 ≤ 9223372036854775807 := by omega
        clear hy hyy hyc hyt hyn hbw
        go_wp2_with fail
        refine wp_region_quiet_below (by kernel_rfl) (by kernel_rfl) ?_
        repeat (first | ((with_reducible refine wpQuiet_load_at (o := ⟨some 20, _, _, _, _, _⟩) rfl _ _ rfl b (off + j * 6 + 1) rfl ycs _ KY.out Tryd.underlying31 rfl ZY.out ?_); simp only [Act.put, List.setIfInBounds_toArray, List.set_cons_zero, List.set_cons_succ]) | go_big_quiet_step (first | (with_reducible exact CY.out _ _)))
        refine wpQuiet_nil ?_
        intro _ hw'
        obtain ⟨⟨dq, osq⟩, hw''⟩ := hw'
        subst hw''
        have B3 := hid (HB.out.trans ((below_regrown wr dq osq).mono HB.out.size))
        clear HB CY KY k0
        go_wp2_with fail
        go_roundg (gk - 1)
        case measure => omega
        case rel => exact ⟨j + 1, a2 + sy + zn / 100, by simp only [Value.int.injEq, true_and]; omega, by go_num, by omega, by omega, by omega, B3⟩
      · have d2 : decide (a2 ≤ 400) = false := by simp [h402]
        clear hy hbw ha
        go_wp2_with fail
        go_ret
        exact ⟨⟨a2, rfl⟩, HB.out⟩
    · clear hbw ha
      go_wp2_with fail
      go_ret
      exact ⟨⟨a2, rfl⟩, HB.out⟩
end Go.Proofs.YtannfhbocfghkaaDoor.EnvC
/- The contract of the statement EnvHits: it returns true, whatever the environment and the loans (of bulk at most 1048576). -/
namespace Go.Proofs.YtannfhbocfghkaaDoor.EnvC
open Go Go.RowKit Go.Lib Go.Sort Go.Proofs.YtannfhbocfghkaaDoor.EnvP

theorem steps_le {l : Ln} (h : wLn l ≤ 1048576) : l.pl.steps.length ≤ 1048576 := by unfold wLn wPl at h; omega
theorem small_all {e : List Bd} (h : wBds e ≤ 1048576) : (∀ x ∈ e, Small x.ty) ∧ e.length ≤ 1048576 := by
  refine ⟨fun x hx => ?_, by have := binds_len e; omega⟩
  have := mem_sum wBd hx
  rw [← wBds_sum] at this
  unfold wBd at this
  unfold Small
  omega

end Go.Proofs.YtannfhbocfghkaaDoor.EnvC

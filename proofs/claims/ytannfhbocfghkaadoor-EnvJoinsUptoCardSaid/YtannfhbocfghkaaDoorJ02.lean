/- Texts joined: EnvD, EnvE0, EnvF, ShelfRev. -/
import Derived.Test.YtannfhbocfghkaaDoorJ01
import Derived.Shelf.SlicesQ.Reverse
import Derived.Ground.SlgnProg
import Derived.Test.YtannfhbocfghkaaDoorProg
/- Contracts of env.rightLoan, env.rightLoans. -/
namespace Go.Proofs.YtannfhbocfghkaaDoor.EnvC
open Go Go.RowKit Go.Lib Go.Sort Go.Proofs.YtannfhbocfghkaaDoor.EnvP

theorem emp (s : ByteArray) : (bs s).isEmpty = (s.toList == []) := by
  rw [Lib.toList_data]; unfold bs; cases s.data.toList <;> rfl
set_option maxHeartbeats 2000000 in
set_option maxRecDepth 100000 in
theorem rightLoan_any (l : Ln) (w : World) (h : l.pl.In w) : Calls Tryd.prog 58 #[l.val] w fun r w' => r = .returned (.bool (rightLn l)) ∧ Below w.heap.size w w' := by
  obtain ⟨p, c, e, hc, _⟩ := st_of h
  clear h
  obtain ⟨R, hR⟩ : ∃ R, rightLn l = R := ⟨_, rfl⟩
  rw [hR]
  unfold rightLn at hR
  obtain ⟨la, ⟨va, sa, ta⟩, ma⟩ := l
  unfold Ln.val Ln.cells
  dsimp only at *
  subst e
  rw [emp, emp] at hR
  generalize ta.length = L at *
  cases h1 : (la.toList == [])
  case true =>
    have HN : Hid (R = true) := hid (by rw [← hR, h1]; rfl)
    clear hR
    go_enter Tryd.func58, Tryd.ntmps58
    go_wp2_with fail
    go_ret
    exact ⟨ret_bool HN.out.symm, (Below.refl _ _).alloc (Nat.le_refl _) _⟩
  cases h2 : (va.toList == [])
  case false =>
    have HN : Hid (R = false) := hid (by rw [← hR, h1, h2]; rfl)
    clear hR
    go_enter Tryd.func58, Tryd.ntmps58
    go_wp2_with fail
    go_ret
    exact ⟨ret_bool HN.out.symm, (Below.refl _ _).alloc (Nat.le_refl _) _⟩
  by_cases h3 : L = 0
  · subst h3
    have HN : Hid (R = !ma) := hid (by rw [← hR, h1, h2]; cases ma <;> rfl)
    clear hR
    go_enter Tryd.func58, Tryd.ntmps58
    go_wp2_with fail
    go_ret
    exact ⟨by rw [HN.out]; rfl, (Below.refl _ _).alloc (Nat.le_refl _) _⟩
  · have HN : Hid (R = false) := hid (by rw [← hR, h1, h2]; simp [h3])
    have hne : ((L : Int) == 0) = false := by simp; omega
    clear hR h3
    go_enter Tryd.func58, Tryd.ntmps58
    go_wp2_with fail
    go_ret
    exact ⟨ret_bool HN.out.symm, (Below.refl _ _).alloc (Nat.le_refl _) _⟩

theorem regKeeps {w W : World} (hb : Below w.heap.size w W) (d : Nat) (os : Array Obj) : Keeps w (grow (redrawn W d) os) := Keeps.of_below (hb.trans ((below_regrown W d os).mono hb.size))
theorem cmp_reg {w W : World} (y x : Ln) (hb : Below w.heap.size w W) (hy : y.pl.In w) (hx : x.pl.In w) (hly : y.pl.steps.length ≤ 1048576) (hlx : x.pl.steps.length ≤ 1048576) (d : Nat) (os : Array Obj) :
    Calls Tryd.prog 47 #[.agg y.cells.toArray, .agg x.cells.toArray] (grow (redrawn W d) os) fun e w'' => e = .returned (.int .i64 (cmpLn y x)) ∧ ∃ p : Regrown, w'' = grow (redrawn W p.d) p.os :=
  Calls.regrown_of (cmp_any y x _ (hy.keep (regKeeps hb d os)) (hx.keep (regKeeps hb d os)) hly hlx)
theorem rightLoan_reg {w W : World} (x : Ln) (hb : Below w.heap.size w W) (hx : x.pl.In w) (d : Nat) (os : Array Obj) :
    Calls Tryd.prog 58 #[.agg x.cells.toArray] (grow (redrawn W d) os) fun e w'' => e = .returned (.bool (rightLn x)) ∧ ∃ p : Regrown, w'' = grow (redrawn W p.d) p.os :=
  Calls.regrown_of (rightLoan_any x _ (hx.keep (regKeeps hb d os)))
/-- from a place on: what is still to be seen -/
def riseAt (l : List Ln) (i : Nat) : Bool := (l.drop i).all rightLn && rising (l.drop (i - 1))
theorem rise_zero {l : List Ln} {x : Ln} (h : l[0]? = some x) : riseAt l 0 = (rightLn x && riseAt l 1) := by
  unfold riseAt
  rw [drop_cons h, List.all_cons, Bool.and_assoc]
theorem rise_succ {l : List Ln} {i : Nat} {x y : Ln} (h : l[i + 1]? = some x) (k : l[i]? = some y) : riseAt l (i + 1) = (rightLn x && before y x && riseAt l (i + 2)) := by
  unfold riseAt
  rw [show i + 1 - 1 = i from rfl, show i + 2 - 1 = i + 1 from rfl, drop_cons k, drop_cons h, List.all_cons, rising]
  cases rightLn x <;> cases before y x <;> simp
theorem rise_end {l : List Ln} {i : Nat} (h : l.length ≤ i) : riseAt l i = true := by
  unfold riseAt
  rw [List.drop_eq_nil_of_le h]
  by_cases h2 : l.length ≤ i - 1
  · rw [List.drop_eq_nil_of_le h2]; rfl
  · obtain ⟨x, hx⟩ : ∃ x, l[i - 1]? = some x := ⟨l[i - 1], List.getElem?_eq_getElem _⟩
    rw [drop_cons hx, List.drop_eq_nil_of_le (by omega)]; rfl

set_option maxHeartbeats 4000000 in
set_option maxRecDepth 100000 in
theorem rightLoans_any (l : List Ln) (v : Value) (w : World) (hl : Lies w 4 v (l.map Ln.cells)) (hin : ∀ x ∈ l, x.pl.In w) (hst : ∀ x ∈ l, x.pl.steps.length ≤ 1048576) (hlen : l.length ≤ 1048576) :
    Calls Tryd.prog 36 #[v] w fun r w' => r = .returned (.bool (rightLns l)) ∧ Below w.heap.size w w' := by
  obtain ⟨R, hR⟩ : ∃ R, rightLns l = R := ⟨_, rfl⟩
  rw [hR]
  obtain ⟨p, cap, rfl, hcap, hx⟩ := id hl
  rw [List.length_map] at *
  generalize hL : l.length = L at *
  have HR : Hid (riseAt l 0 = R) := hid (by rw [← hR]; rfl)
  have HL := hid hL
  have HX := hid hl
  have HI := hid hin
  have HS := hid hst
  clear hx hL hl hin hst hR
  go_enter Tryd.func36, Tryd.ntmps36
  go_wp2_with fail
  go_loopg [7] L (fun gf u wx => ∃ i : Nat, u = .int .i64 (i : Int) ∧ i ≤ L ∧ L ≤ i + gf ∧ Hid (riseAt l i = R) ∧ Hid (Below w.heap.size w wx))
  case atStart => exact ⟨0, rfl, by omega, by omega, HR, hid (Below.refl _ _)⟩
  case round =>
    obtain ⟨i, rfl, hi, hg, HA, HB⟩ := hrel
    have hb := HB.out
    clear HR
    by_cases hlt : i < L
    · obtain ⟨x, hx⟩ : ∃ x, l[i]? = some x := ⟨l[i]'(by rw [HL.out]; exact hlt), List.getElem?_eq_getElem _⟩
      obtain ⟨b, off, cap', e, _, hxx⟩ := Lies.at (HX.out.keep (Keeps.of_below hb)) (i := i) (by rw [List.length_map, HL.out]; exact hlt)
      injection e with e1 e2 e3
      subst e1
      clear e2 e3
      have hx' := hxx i x.cells (by rw [List.getElem?_map, hx]; rfl)
      have hix := (HI.out x (List.mem_of_getElem? hx)).keep (Keeps.of_below hb)
      have hsx := HS.out x (List.mem_of_getElem? hx)
      have ho := ln_ones hix
      unfold Ones at ho
      have ZF := hid (lnSize x)
      have ZA : Hid ((Tryd.prog.info? 44).map (·.size) = some x.cells.toArray.size) := hid (lnSize x)
      have ZO : Hid ((#[.string ⟨#[]⟩, .string ⟨#[]⟩, .slice none 0 0, .bool false] : Array Value).size = x.cells.toArray.size) := hid rfl
      have H1C := hid ho
      have HPX : Hid (∀ (j : Nat) (u : Value), x.cells[j]? = some u → wr.cell? ⟨b, off + i * 4 + j, none⟩ = some u) := hid hx'
      have c1 := fun (W : World) (hb2 : Below wr.heap.size wr W) => rightLoan_reg x hb2 hix
      by_cases h0 : i = 0
      · have hp : riseAt l i = (rightLn x && riseAt l (i + 1)) := by subst h0; exact rise_zero hx
        rw [HA.out] at hp
        have hd : decide (0 < i) = false := by simp; omega
        generalize rightLn x = q at *
        generalize x.cells = fcs at *
        have C1 := hid c1
        have HP := hid hp
        clear hx hxx hx' hix c1 hp HA HI HS HL HX hb ho h0
        go_wp2_with (first | (with_reducible refine wpList_load_at (o := ⟨some 11, _, _, _, _, _⟩) rfl _ _ rfl b (off + i * 4) rfl fcs _ HPX.out Tryd.underlying44 rfl ZF.out ?_) | (with_reducible refine wpList_store_row (o := ⟨none, _, _, _, _, _⟩) rfl _ _ _ rfl wr.heap.size fcs.toArray rfl rfl _ _ (heap_alloc_new _ _) ZA.out ZO.out H1C.out ?_))
        generalize hW2 : (World.alloc wr _).setRow _ _ = W2
        have hb2 : Below wr.heap.size wr W2 := by rw [← hW2]; exact rowed_below' _ _ _
        have hX2 : BoxAt W2 wr.heap.size fcs := by rw [← hW2]; exact rowed_box' _ _ _ _
        have K2 := hid (reg_cells (off := 0) (fun (j : Nat) (u : Value) (h : fcs[j]? = some u) => show W2.cell? ⟨wr.heap.size, 0 + j, none⟩ = some u by rw [Nat.zero_add]; exact hX2 j u h))
        have D1 := hid (C1.out W2 hb2)
        have B2 := hid (HB.out.trans (hb2.mono HB.out.size))
        clear C1 hW2 hb2 hX2 HB HPX ZA ZO H1C
        cases q
        · have HN : Hid (R = false) := hid HP.out
          simp only [Act.put]
          refine wp_region_quiet_below (by kernel_rfl) (by kernel_rfl) ?_
          repeat (first | ((with_reducible refine wpQuiet_load_at (o := ⟨some 12, _, _, _, _, _⟩) rfl _ _ rfl wr.heap.size 0 rfl fcs _ K2.out Tryd.underlying44 rfl ZF.out ?_); simp only [Act.put, List.setIfInBounds_toArray, List.set_cons_zero, List.set_cons_succ]) | go_big_quiet_step (first | (with_reducible exact D1.out _ _)))
          refine wpQuiet_nil ?_
          intro _ hw'
          obtain ⟨⟨dq, osq⟩, hw''⟩ := hw'
          subst hw''
          have B3 := hid (B2.out.trans ((below_regrown W2 dq osq).mono B2.out.size))
          go_wp2_with fail
          go_ret
          exact ⟨ret_bool HN.out.symm, B3.out⟩
        · have HN : Hid (riseAt l (i + 1) = R) := hid HP.out.symm
          simp only [Act.put]
          refine wp_region_quiet_below (by kernel_rfl) (by kernel_rfl) ?_
          repeat (first | ((with_reducible refine wpQuiet_load_at (o := ⟨some 12, _, _, _, _, _⟩) rfl _ _ rfl wr.heap.size 0 rfl fcs _ K2.out Tryd.underlying44 rfl ZF.out ?_); simp only [Act.put, List.setIfInBounds_toArray, List.set_cons_zero, List.set_cons_succ]) | go_big_quiet_step (first | (with_reducible exact D1.out _ _)))
          refine wpQuiet_nil ?_
          intro _ hw'
          obtain ⟨⟨dq, osq⟩, hw''⟩ := hw'
          subst hw''
          have B3 := hid (B2.out.trans ((below_regrown W2 dq osq).mono B2.out.size))
          go_wp2_with fail
          go_roundg (gk - 1)
          case measure => omega
          case rel => exact ⟨i + 1, by go_num, by omega, by omega, HN, B3⟩

      · obtain ⟨y, hy⟩ : ∃ y, l[i - 1]? = some y := ⟨l[i - 1]'(by rw [HL.out]; omega), List.getElem?_eq_getElem _⟩
        have hp : riseAt l i = (rightLn x && before y x && riseAt l (i + 1)) := by
          obtain ⟨k, rfl⟩ : ∃ k, i = k + 1 := ⟨i - 1, by omega⟩
          exact rise_succ hx hy
        rw [HA.out] at hp
        have hiy := (HI.out y (List.mem_of_getElem? hy)).keep (Keeps.of_below hb)
        have hsy := HS.out y (List.mem_of_getElem? hy)
        have c2 := fun (W : World) (hb2 : Below wr.heap.size wr W) => cmp_reg y x hb2 hiy hix hsy hsx
        have hyy : ∀ (j : Nat) (u : Value), y.cells[j]? = some u → wr.cell? ⟨b, off + (i - 1) * 4 + j, none⟩ = some u := hxx (i - 1) y.cells (by rw [List.getElem?_map, hy]; rfl)
        have hd : decide (0 < i) = true := by simp; omega
        have hrg := good_cmpLn.rng y x
        have hbf : before y x = decide (cmpLn y x < 0) := by unfold before; rcases hrg with e | e | e <;> rw [e] <;> rfl
        have ZY := hid (lnSize y)
        rw [hbf] at hp
        generalize cmpLn y x = m at *
        generalize rightLn x = q at *
        generalize x.cells = fcs at *
        generalize y.cells = ycs at *
        have C1 := hid c1
        have C2 := hid c2
        have HP := hid hp
        have HYY := hid hyy
        have i1 : (0 : Int) ≤ (i : Int) - 1 := by omega
        have i2 : ((i : Int) - 1).toNat = i - 1 := by omega
        have i3 : (i : Int) - 1 < (L : Int) := by omega
        clear hx hxx hx' hix c1 c2 hp HA HI HS HL HX hb ho h0 hy hiy hsy hyy hrg hbf
        go_wp2_with (first | (with_reducible refine wpList_load_at (o := ⟨some 11, _, _, _, _, _⟩) rfl _ _ rfl b (off + i * 4) rfl fcs _ HPX.out Tryd.underlying44 rfl ZF.out ?_) | (with_reducible refine wpList_store_row (o := ⟨none, _, _, _, _, _⟩) rfl _ _ _ rfl wr.heap.size fcs.toArray rfl rfl _ _ (heap_alloc_new _ _) ZA.out ZO.out H1C.out ?_))
        generalize hW2 : (World.alloc wr _).setRow _ _ = W2
        have hb2 : Below wr.heap.size wr W2 := by rw [← hW2]; exact rowed_below' _ _ _
        have hX2 : BoxAt W2 wr.heap.size fcs := by rw [← hW2]; exact rowed_box' _ _ _ _
        have K2 := hid (reg_cells (off := 0) (fun (j : Nat) (u : Value) (h : fcs[j]? = some u) => show W2.cell? ⟨wr.heap.size, 0 + j, none⟩ = some u by rw [Nat.zero_add]; exact hX2 j u h))
        have D1 := hid (C1.out W2 hb2)
        have B2 := hid (HB.out.trans (hb2.mono HB.out.size))
        have D2 := hid (C2.out W2 hb2)
        have KY := hid (reg_cells (off := off + (i - 1) * 4) (fun (j : Nat) (u : Value) (h : ycs[j]? = some u) => Keeps.of_below hb2 _ _ _ (HYY.out j u h)))
        clear C1 C2 hW2 hb2 hX2 HB HPX ZA ZO H1C HYY
        cases q
        · have HN : Hid (R = false) := hid HP.out
          simp only [Act.put]
          refine wp_region_quiet_below (by kernel_rfl) (by kernel_rfl) ?_
          repeat (first | ((with_reducible refine wpQuiet_load_at (o := ⟨some 12, _, _, _, _, _⟩) rfl _ _ rfl wr.heap.size 0 rfl fcs _ K2.out Tryd.underlying44 rfl ZF.out ?_); simp only [Act.put, List.setIfInBounds_toArray, List.set_cons_zero, List.set_cons_succ]) | go_big_quiet_step (first | (with_reducible exact D1.out _ _)))
          refine wpQuiet_nil ?_
          intro _ hw'
          obtain ⟨⟨dq, osq⟩, hw''⟩ := hw'
          subst hw''
          have B3 := hid (B2.out.trans ((below_regrown W2 dq osq).mono B2.out.size))
          go_wp2_with fail
          go_ret
          exact ⟨ret_bool HN.out.symm, B3.out⟩
        · have HP2 : Hid (R = (decide (m < 0) && riseAt l (i + 1))) := hid HP.out
          clear HP
          simp only [Act.put]
          refine wp_region_quiet_below (by kernel_rfl) (by kernel_rfl) ?_
          repeat (first | ((with_reducible refine wpQuiet_load_at (o := ⟨some 12, _, _, _, _, _⟩) rfl _ _ rfl wr.heap.size 0 rfl fcs _ K2.out Tryd.underlying44 rfl ZF.out ?_); simp only [Act.put, List.setIfInBounds_toArray, List.set_cons_zero, List.set_cons_succ]) | ((with_reducible refine wpQuiet_load_at (o := ⟨some 23, _, _, _, _, _⟩) rfl _ _ rfl b (off + (i - 1) * 4) rfl ycs _ KY.out Tryd.underlying44 rfl ZY.out ?_); simp only [Act.put, List.setIfInBounds_toArray, List.set_cons_zero, List.set_cons_succ]) | ((with_reducible refine wpQuiet_load_at (o := ⟨some 24, _, _, _, _, _⟩) rfl _ _ rfl wr.heap.size 0 rfl fcs _ K2.out Tryd.underlying44 rfl ZF.out ?_); simp only [Act.put, List.setIfInBounds_toArray, List.set_cons_zero, List.set_cons_succ]) | go_big_quiet_step (first | (with_reducible exact D1.out _ _) | (with_reducible exact D2.out _ _)))
          refine wpQuiet_nil ?_
          intro _ hw'
          obtain ⟨⟨dq, osq⟩, hw''⟩ := hw'
          subst hw''
          have B3 := hid (B2.out.trans ((below_regrown W2 dq osq).mono B2.out.size))
          by_cases hm : m < 0
          · have HN : Hid (riseAt l (i + 1) = R) := hid (by rw [HP2.out, decide_eq_true hm]; rfl)
            clear HP2
            go_wp2_with fail
            go_roundg (gk - 1)
            case measure => omega
            case rel => exact ⟨i + 1, by go_num, by omega, by omega, HN, B3⟩
          · have HN : Hid (R = false) := hid (by rw [HP2.out, decide_eq_false hm]; rfl)
            clear HP2
            go_wp2_with fail
            go_ret
            exact ⟨ret_bool HN.out.symm, B3.out⟩

    · have HN : Hid (R = true) := hid (by rw [← HA.out]; exact rise_end (by rw [HL.out]; omega))
      clear HA HI HS HL HX hb
      go_wp2_with fail
      go_ret
      exact ⟨ret_bool HN.out.symm, HB.out⟩
end Go.Proofs.YtannfhbocfghkaaDoor.EnvC
/- Where a type lies; how much there is in it. -/
namespace Go.Proofs.YtannfhbocfghkaaDoor.EnvC
open Go Go.RowKit Go.Lib Go.Sort Go.Proofs.YtannfhbocfghkaaDoor.EnvP

/-- a type lies here -/
def TyAt (w : World) (b o : Nat) (t : ETy) : Prop := (∀ (j : Nat) (u : Value), t.cells[j]? = some u → w.cell? ⟨b, o + j, none⟩ = some u) ∧ t.In w
theorem TyAt.keep {w w' : World} {b o : Nat} {t : ETy} (h : TyAt w b o t) (k : Keeps w w') : TyAt w' b o t := ⟨fun j u hj => k _ _ _ (h.1 j u hj), ETy.In.keep k t h.2⟩
/-- how many steps, loans there are: not too many -/
def Small (t : ETy) : Prop := wT t ≤ 1048576
theorem Small.loans {t : ETy} (h : Small t) : t.loans.length ≤ 1048576 ∧ ∀ l ∈ t.loans, l.pl.steps.length ≤ 1048576 := by
  obtain ⟨k, m, g, lv, ls, kv, kids⟩ := t
  unfold Small at h
  rw [wT] at h
  have := loans_len ls
  refine ⟨by show ls.length ≤ _; omega, fun l hl => ?_⟩
  have h2 := mem_sum wLn (show l ∈ ls from hl)
  rw [← wLns_sum] at h2
  unfold wLn wPl at h2
  omega
theorem Small.kids {t : ETy} (h : Small t) : t.kids.length ≤ 1048576 ∧ ∀ u ∈ t.kids, Small u := by
  obtain ⟨k, m, g, lv, ls, kv, kids⟩ := t
  unfold Small at h
  rw [wT] at h
  have := kids_len kids
  refine ⟨by show kids.length ≤ _; omega, fun l hl => ?_⟩
  have h2 := mem_sum wT (show l ∈ kids from hl)
  rw [← wTs_sum] at h2
  unfold Small
  omega
theorem lies_slice {α : Type} {w : World} {size : Nat} {v : Value} {f : α → List Value} {l : List α} (h : Lies w size v (l.map f)) : ∃ p c, l.length ≤ c ∧ v = .slice p l.length c := by
  obtain ⟨p, c, e, hc, _⟩ := h
  rw [List.length_map] at e hc
  exact ⟨p, c, hc, e⟩
def ptCells (b o : Nat) (i : Bool) : List Value := [.pointer (some ⟨b, o, none⟩), .bool i]

end Go.Proofs.YtannfhbocfghkaaDoor.EnvC
/- Contracts of the kids of a part, and of a pair of parts. -/
namespace Go.Proofs.YtannfhbocfghkaaDoor.EnvC
open Go Go.RowKit Go.Lib Go.Sort Go.Proofs.YtannfhbocfghkaaDoor.EnvP

/-- a part: where it lies, whether within a Box or a Ref, what it is -/
structure Pt where
  b : Nat
  o : Nat
  ins : Bool
  t : ETy
def Pt.cells (x : Pt) : List Value := [.pointer (some ⟨x.b, x.o, none⟩), .bool x.ins]
def adr : Value → Nat × Nat | .slice (some a) _ _ => (a.block, a.off) | _ => (0, 0)
def kidAt (v : Value) (i : Nat) : Nat × Nat := ((adr v).1, (adr v).2 + i * 5)
def Pt.kid (x : Pt) (i : Nat) (t : ETy) : Pt := ⟨(kidAt x.t.kv i).1, (kidAt x.t.kv i).2, x.ins || innerK x.t.kind, t⟩
def Pt.kids (x : Pt) : List Pt := x.t.kids.mapIdx x.kid
/-- a pair of parts -/
structure Pr where
  b : Nat
  o : Nat
  t : ETy
  c : Nat
  q : Nat
  u : ETy
def Pr.cells (x : Pr) : List Value := [.pointer (some ⟨x.b, x.o, none⟩), .pointer (some ⟨x.c, x.q, none⟩)]
def Pr.kid (x : Pr) (i : Nat) (p : ETy × ETy) : Pr := ⟨(kidAt x.t.kv i).1, (kidAt x.t.kv i).2, p.1, (kidAt x.u.kv i).1, (kidAt x.u.kv i).2, p.2⟩
def Pr.kids (x : Pr) : List Pr := (x.t.kids.zip x.u.kids).mapIdx x.kid

theorem own_lower {w : World} {b c : Nat} {e : TypeId} {size n : Nat} {v : Value} {xs : List Value} (h : w.ownsRow c e size v n xs) (hb : b ≤ c) : w.ownsRow b e size v n xs := by
  obtain ⟨h1, h2 | ⟨g, cap, cur, h2, h3, h4⟩⟩ := h
  · exact ⟨h1, .inl h2⟩
  · exact ⟨h1, .inr ⟨g, cap, cur, h2, by omega, h4⟩⟩
/-- a row whose first things hold these cells, two each -/
def Filled (xs : List Value) (ks : List (List Value)) (i : Nat) : Prop := ∀ j, j < i → ∀ c, ks[j]? = some c → ∀ k u, c[k]? = some u → xs[j * 2 + k]? = some u
theorem Filled.step {xs : List Value} {ks : List (List Value)} {i : Nat} (h : Filled xs ks i) {a b : Value} (hc : ks[i]? = some [a, b]) (h2 : ∀ c ∈ ks, c.length = 2) (hi : i * 2 + 2 ≤ xs.length) : Filled ((xs.set (i * 2) a).set (i * 2 + 1) b) ks (i + 1) := by
  intro j hj c hcj k u hk
  have hl : k < 2 := by
    have := h2 c (List.mem_of_getElem? hcj)
    have hk2 := (List.getElem?_eq_some_iff.1 hk).1
    omega
  rw [List.getElem?_set, List.getElem?_set]
  by_cases hji : j = i
  · subst hji
    rw [hc] at hcj
    cases hcj
    match k, hk, hl with
    | 0, hk, _ => cases hk; rw [if_neg (by omega), if_pos (by omega), if_pos (by omega)]
    | 1, hk, _ => cases hk; rw [if_pos rfl, if_pos (by rw [List.length_set]; omega)]
  · rw [if_neg (by omega), if_neg (by omega)]
    exact h j (by omega) c hcj k u hk
theorem filled_lies {w : World} {base : Nat} {e : TypeId} {g n cap : Nat} {xs : List Value} {ks : List (List Value)} (h : w.ownsRow base e 2 (.slice (some ⟨g, 0, none⟩) n cap) n xs) (hf : Filled xs ks n) (hn : ks.length = n) (h2 : ∀ c ∈ ks, c.length = 2) : Lies w 2 (.slice (some ⟨g, 0, none⟩) n cap) ks := by
  obtain ⟨h1, ⟨h3, _⟩ | ⟨g', cap', cur, h3, _, _, h5, _⟩⟩ := id h
  · cases h3
  injection h3 with e1 e2 e3
  subst e3
  refine ⟨_, _, by rw [hn], by rw [hn]; exact h5, fun _ => ⟨g, 0, rfl, fun i c hi j u hj => ?_⟩⟩
  have hlt : i < n := by rw [← hn]; exact (List.getElem?_eq_some_iff.1 hi).1
  have hjl : j < 2 := by
    have := h2 c (List.mem_of_getElem? hi)
    have hk2 := (List.getElem?_eq_some_iff.1 hj).1
    omega
  rw [Nat.zero_add]
  exact (h.cellAt _ (by omega)).trans (hf i hlt c hi j u hj)
theorem pt_info : (Tryd.prog.info? 53).map (fun i => (i.zero, i.size, i.bytes)) = some (some (.agg #[.pointer none, .bool false]), 2, 16) := by kernel_rfl
theorem pr_info : (Tryd.prog.info? 59).map (fun i => (i.zero, i.size, i.bytes)) = some (some (.agg #[.pointer none, .pointer none]), 2, 16) := by kernel_rfl

set_option maxHeartbeats 8000000 in
set_option maxRecDepth 100000 in
theorem kids_any (x : Pt) (w : World) (h : TyAt w x.b x.o x.t) (hs : Small x.t) :
    Calls Tryd.prog 35 #[.agg x.cells.toArray] w fun r w' => ∃ g c n xs, r = .returned (.slice (some ⟨g, 0, none⟩) n c) ∧ (x.kids.map Pt.cells).length = n ∧ w'.ownsRow w.heap.size 53 2 (.slice (some ⟨g, 0, none⟩) n c) n xs ∧ Filled xs (x.kids.map Pt.cells) n ∧ Below w.heap.size w w' := by
  obtain ⟨i0, hinf, hz0, hz1, hz2⟩ := info_parts pt_info
  have hsm := hs.kids
  obtain ⟨b, o, ins, t⟩ := x
  obtain ⟨k, m, g, lv, ls, kv, kids⟩ := t
  have h2 := h.2
  rw [ETy.In] at h2
  obtain ⟨q, d, hd, hq⟩ := lies_slice h2.2.2.1
  obtain ⟨p, d', e', _, hpo⟩ := h2.2.2.1
  rw [hq] at e'
  injection e' with e1 e2 e3
  subst e1 e3
  clear e2
  have hx := h.1
  dsimp only at hx hsm
  have B0 : Below w.heap.size w (w.alloc (.cells #[.pointer (some ⟨b, o, none⟩), .bool ins] 53 (0, 0))) := (Below.refl _ _).alloc (Nat.le_refl _) _
  have X0 : BoxAt (w.alloc (.cells #[.pointer (some ⟨b, o, none⟩), .bool ins] 53 (0, 0))) w.heap.size [.pointer (some ⟨b, o, none⟩), .bool ins] := BoxAt.new w _ _
  have y0 := later B0 (hx 0 (.int .i64 k) rfl)
  have y4 := later B0 (hx 4 kv rfl)
  rw [Nat.add_zero] at y0
  subst hq
  obtain ⟨KS, hKS⟩ : ∃ KS, (Pt.kids ⟨b, o, ins, .mk k m g lv ls (.slice q kids.length d) kids⟩).map Pt.cells = KS := ⟨_, rfl⟩
  rw [hKS]
  have hKl : KS.length = kids.length := by rw [← hKS, List.length_map]; unfold Pt.kids; rw [List.length_mapIdx]; rfl
  have hK2 : ∀ c ∈ KS, c.length = 2 := by intro c hc; rw [← hKS] at hc; obtain ⟨y, _, rfl⟩ := List.mem_map.1 hc; rfl
  obtain ⟨I, hI⟩ : ∃ I, (ins || innerK k) = I := ⟨_, rfl⟩
  have hKi : ∀ i, i < kids.length → ∃ kb ko, q = some ⟨kb, ko, none⟩ ∧ KS[i]? = some [.pointer (some ⟨kb, ko + i * 5, none⟩), .bool I] := fun i hi => by
    obtain ⟨kb, ko, e, _⟩ := hpo (by intro e; rw [List.map_eq_nil_iff] at e; rw [e] at hi; simp at hi)
    subst e
    refine ⟨kb, ko, rfl, ?_⟩
    rw [← hKS, List.getElem?_map]
    unfold Pt.kids
    rw [List.getElem?_mapIdx, show ETy.kids _ = kids from rfl, List.getElem?_eq_getElem hi]
    show some (Pt.cells _) = _
    rw [← hI]; rfl
  have hN := hsm.1
  change kids.length ≤ 1048576 at hN
  clear h h2 hs hsm hx hpo hKS
  generalize kids.length = N at *
  have HI := hid hI
  have HKi := hid hKi
  have HK2 := hid hK2
  have HKl := hid hKl
  have H0 := hid B0
  have HX := hid X0
  clear hI hKi hK2 hKl B0 X0
  unfold Pt.cells
  dsimp only
  have hcase : ins = true ∨ (ins = false ∧ k = 2) ∨ (ins = false ∧ k = 4) ∨ (ins = false ∧ (k == 2) = false ∧ (k == 4) = false) := by
    cases ins
    · by_cases h2 : k = 2
      · exact .inr (.inl ⟨rfl, h2⟩)
      · by_cases h4 : k = 4
        · exact .inr (.inr (.inl ⟨rfl, h4⟩))
        · exact .inr (.inr (.inr ⟨rfl, by simp [h2], by simp [h4]⟩))
    · exact .inl rfl
  have T3 : Hid (∀ c : Bool, (ins = true → c = true) → True) := hid fun _ _ => trivial
  rcases hcase with rfl | ⟨rfl, rfl⟩ | ⟨rfl, rfl⟩ | ⟨rfl, hk2, hk4⟩
  all_goals (
    have hI := HI.out
    first | rw [show (true || innerK k) = true from rfl] at hI | rw [show (false || innerK 2) = true from rfl] at hI | rw [show (false || innerK 4) = true from rfl] at hI | rw [show (false || innerK k) = false by unfold innerK; rw [hk2, hk4]; rfl] at hI
    subst hI
    clear HI T3
    go_enter Tryd.func35, Tryd.ntmps35
    go_wp2_with (at_make; go_loud (refine wpList_make_full _ rfl _ _ 97 rfl (w.heap.size + 1) 53 i0 (.agg #[.pointer none, .bool false]) 2 Tryd.underlying97 hinf hz0 hz1 .i64 .i64 _ _ N rfl rfl rfl rfl (by rw [hz2]; omega) (by unfold maxLen; omega) (by rw [World.size_alloc]; omega) ?_); intro w1 hown hgr)
    generalize hW0 : World.alloc w _ = W0 at *
    have hs0 : W0.heap.size = w.heap.size + 1 := by rw [← hW0]; simp
    rw [hs0] at hown
    have hb1 : Below (w.heap.size + 1) W0 w1 := (Below.refl _ _).grown hgr (by omega) (by simp)
    have HO := hid hown
    have HB := hid hb1
    have HS := hid hs0
    have x0 := HX.out 0 (.pointer (some ⟨b, o, none⟩)) rfl
    have hltb : b < w.heap.size + 1 := by rw [← hs0]; exact World.block_lt_of_cell? _ _ y4
    clear hown hb1 hs0 hW0 hgr
    go_loopg [33] N (fun gf u wx => ∃ (i : Nat) (xs : List Value), u = .int .i64 (i : Int) ∧ i ≤ N ∧ N ≤ i + gf ∧ Hid (wx.ownsRow (w.heap.size + 1) 53 2 (.slice (some ⟨w.heap.size + 1, 0, none⟩) N N) N xs) ∧ Hid (Filled xs KS i) ∧ Hid (Below (w.heap.size + 1) W0 wx))
    case atStart => exact ⟨0, _, rfl, by omega, by omega, HO, hid (fun j hj => by omega), HB⟩
    case round =>
      obtain ⟨i, xs, rfl, hi, hg, HOi, HF, HBi⟩ := hrel
      clear HO HB
      by_cases hlt : i < N
      · obtain ⟨kb, ko, rfl, hk⟩ := HKi.out i hlt
        have z0 := (HBi.out.cell (p := ⟨w.heap.size, 0, none⟩) (Nat.lt_succ_self _)).trans x0
        have z4 := (HBi.out.cell (p := ⟨b, o + 4, none⟩) hltb).trans y4
        have hxl : xs.length = N * 2 := HOi.out.1
        have f0 := HOi.out.frozenAt (i * 2)
        have f1 := HOi.out.frozenAt (i * 2 + 1)
        obtain ⟨v0, hv0⟩ : ∃ v, xs[i * 2]? = some v := ⟨xs[i * 2]'(by omega), List.getElem?_eq_getElem _⟩
        obtain ⟨v1, hv1⟩ : ∃ v, xs[i * 2 + 1]? = some v := ⟨xs[i * 2 + 1]'(by omega), List.getElem?_eq_getElem _⟩
        have c0 := (HOi.out.cellAt (i * 2) (by omega)).trans hv0
        have c1 := (HOi.out.cellAt (i * 2 + 1) (by omega)).trans hv1
        have HN : Hid (Filled ((xs.set (i * 2) (.pointer (some ⟨kb, ko + i * 5, none⟩))).set (i * 2 + 1) (.bool _)) KS (i + 1)) := hid (HF.out.step hk HK2.out (by omega))
        have HO2 := hid fun (I' : Bool) => (((HOi.out.stored (i * 2) (.pointer (some ⟨kb, ko + i * 5, none⟩))).1.stored (i * 2 + 1) (.bool I')).1)
        have HB2 := hid fun (I' : Bool) => ((HBi.out.setCell (p := ⟨w.heap.size + 1, i * 2, none⟩) (Nat.le_refl _) (.pointer (some ⟨kb, ko + i * 5, none⟩))).setCell (p := ⟨w.heap.size + 1, i * 2 + 1, none⟩) (Nat.le_refl _) (.bool I'))
        clear hv0 hv1 hk x0 y0 y4 HX hxl HKi HF
        go_wp2_with fail
        go_roundg (gk - 1)
        case measure => omega
        case rel => exact ⟨i + 1, _, by go_num, by omega, by omega, HO2.out _, HN, HB2.out _⟩
      · obtain rfl : i = N := by omega
        clear HX x0 y0 y4
        go_wp2_with fail
        go_ret
        exact ⟨_, _, _, _, rfl, HKl.out, own_lower HOi.out (Nat.le_succ _), HF.out, H0.out.trans (HBi.out.mono (by omega))⟩
    )

set_option maxHeartbeats 8000000 in
set_option maxRecDepth 100000 in
theorem prKids_any (x : Pr) (w : World) (h : TyAt w x.b x.o x.t) (h' : TyAt w x.c x.q x.u) (hs : Small x.t) (hlen : x.t.kids.length = x.u.kids.length) :
    Calls Tryd.prog 43 #[.agg x.cells.toArray] w fun r w' => ∃ g c n xs, r = .returned (.slice (some ⟨g, 0, none⟩) n c) ∧ (x.kids.map Pr.cells).length = n ∧ w'.ownsRow w.heap.size 59 2 (.slice (some ⟨g, 0, none⟩) n c) n xs ∧ Filled xs (x.kids.map Pr.cells) n ∧ Below w.heap.size w w' := by
  obtain ⟨i0, hinf, hz0, hz1, hz2⟩ := info_parts pr_info
  have hsm := hs.kids
  obtain ⟨b, o, t, c, q, u⟩ := x
  obtain ⟨k, m, g, lv, ls, kv, kids⟩ := t
  obtain ⟨k', m', g', lv', ls', kv', kids'⟩ := u
  have h2 := h.2
  have h2' := h'.2
  rw [ETy.In] at h2 h2'
  obtain ⟨pa, da, hda, ha⟩ := lies_slice h2.2.2.1
  obtain ⟨pb, db, hdb, hb⟩ := lies_slice h2'.2.2.1
  obtain ⟨p1, d1, e1, _, hpo⟩ := h2.2.2.1
  obtain ⟨p2, d2, e2, _, hpo'⟩ := h2'.2.2.1
  rw [ha] at e1
  rw [hb] at e2
  injection e1 with e11 e12 e13
  injection e2 with e21 e22 e23
  subst e11 e13 e21 e23
  clear e12 e22
  have hx := h.1
  have hx' := h'.1
  change kids.length = kids'.length at hlen
  dsimp only at hx hx' hsm
  have B0 : Below w.heap.size w (w.alloc (.cells #[.pointer (some ⟨b, o, none⟩), .pointer (some ⟨c, q, none⟩)] 59 (0, 0))) := (Below.refl _ _).alloc (Nat.le_refl _) _
  have X0 : BoxAt (w.alloc (.cells #[.pointer (some ⟨b, o, none⟩), .pointer (some ⟨c, q, none⟩)] 59 (0, 0))) w.heap.size [.pointer (some ⟨b, o, none⟩), .pointer (some ⟨c, q, none⟩)] := BoxAt.new w _ _
  have y4 := later B0 (hx 4 kv rfl)
  have y4' := later B0 (hx' 4 kv' rfl)
  subst ha hb
  obtain ⟨KS, hKS⟩ : ∃ KS, (Pr.kids ⟨b, o, .mk k m g lv ls (.slice pa kids.length da) kids, c, q, .mk k' m' g' lv' ls' (.slice pb kids'.length db) kids'⟩).map Pr.cells = KS := ⟨_, rfl⟩
  rw [hKS]
  have hKl : KS.length = kids.length := by rw [← hKS, List.length_map]; unfold Pr.kids; rw [List.length_mapIdx, List.length_zip]; show min kids.length kids'.length = _; omega
  have hK2 : ∀ c ∈ KS, c.length = 2 := by intro c hc; rw [← hKS] at hc; obtain ⟨y, _, rfl⟩ := List.mem_map.1 hc; rfl
  have hKi : ∀ i, i < kids.length → ∃ kb ko kc kq, pa = some ⟨kb, ko, none⟩ ∧ pb = some ⟨kc, kq, none⟩ ∧ KS[i]? = some [.pointer (some ⟨kb, ko + i * 5, none⟩), .pointer (some ⟨kc, kq + i * 5, none⟩)] := fun i hi => by
    obtain ⟨kb, ko, e, _⟩ := hpo (by intro e; rw [List.map_eq_nil_iff] at e; rw [e] at hi; simp at hi)
    obtain ⟨kc, kq, e', _⟩ := hpo' (by intro e; rw [List.map_eq_nil_iff] at e; rw [hlen, e] at hi; simp at hi)
    subst e e'
    refine ⟨kb, ko, kc, kq, rfl, rfl, ?_⟩
    rw [← hKS, List.getElem?_map]
    unfold Pr.kids
    rw [List.getElem?_mapIdx]
    have e : (kids.zip kids')[i]? = some (kids[i], kids'[i]'(by omega)) := by rw [List.getElem?_eq_getElem (by rw [List.length_zip]; omega), List.getElem_zip]
    show Option.map Pr.cells (Option.map _ ((kids.zip kids')[i]?)) = _
    rw [e]
    rfl
  have hN := hsm.1
  change kids.length ≤ 1048576 at hN
  rw [← hlen] at y4'
  clear h h' h2 h2' hs hsm hx hx' hpo hpo' hKS
  rw [← hlen] at hdb
  generalize kids.length = N at *
  clear hlen
  have HKi := hid hKi
  have HK2 := hid hK2
  have HKl := hid hKl
  have H0 := hid B0
  have HX := hid X0
  clear hKi hK2 hKl B0 X0
  unfold Pr.cells
  dsimp only
  go_enter Tryd.func43, Tryd.ntmps43
  go_wp2_with (at_make; go_loud (refine wpList_make_full _ rfl _ _ 101 rfl (w.heap.size + 1) 59 i0 (.agg #[.pointer none, .pointer none]) 2 Tryd.underlying101 hinf hz0 hz1 .i64 .i64 _ _ N rfl rfl rfl rfl (by rw [hz2]; omega) (by unfold maxLen; omega) (by rw [World.size_alloc]; omega) ?_); intro w1 hown hgr)
  generalize hW0 : World.alloc w _ = W0 at *
  have hs0 : W0.heap.size = w.heap.size + 1 := by rw [← hW0]; simp
  rw [hs0] at hown
  have hb1 : Below (w.heap.size + 1) W0 w1 := (Below.refl _ _).grown hgr (by omega) (by simp)
  have HO := hid hown
  have HB := hid hb1
  have x0 := HX.out 0 (.pointer (some ⟨b, o, none⟩)) rfl
  have x1 := HX.out 1 (.pointer (some ⟨c, q, none⟩)) rfl
  have hltb : b < w.heap.size + 1 := by rw [← hs0]; exact World.block_lt_of_cell? _ _ y4
  have hltc : c < w.heap.size + 1 := by rw [← hs0]; exact World.block_lt_of_cell? _ _ y4'
  clear hown hb1 hs0 hW0 hgr
  go_loopg [14] N (fun gf u wx => ∃ (i : Nat) (xs : List Value), u = .int .i64 (i : Int) ∧ i ≤ N ∧ N ≤ i + gf ∧ Hid (wx.ownsRow (w.heap.size + 1) 59 2 (.slice (some ⟨w.heap.size + 1, 0, none⟩) N N) N xs) ∧ Hid (Filled xs KS i) ∧ Hid (Below (w.heap.size + 1) W0 wx))
  case atStart => exact ⟨0, _, rfl, by omega, by omega, HO, hid (fun j hj => by omega), HB⟩
  case round =>
    obtain ⟨i, xs, rfl, hi, hg, HOi, HF, HBi⟩ := hrel
    clear HO HB
    by_cases hlt : i < N
    · obtain ⟨kb, ko, kc, kq, rfl, rfl, hk⟩ := HKi.out i hlt
      have z0 := (HBi.out.cell (p := ⟨w.heap.size, 0, none⟩) (Nat.lt_succ_self _)).trans x0
      have z1 := (HBi.out.cell (p := ⟨w.heap.size, 1, none⟩) (Nat.lt_succ_self _)).trans x1
      have z4 := (HBi.out.cell (p := ⟨b, o + 4, none⟩) hltb).trans y4
      have z4' := (HBi.out.cell (p := ⟨c, q + 4, none⟩) hltc).trans y4'
      have hxl : xs.length = N * 2 := HOi.out.1
      have f0 := HOi.out.frozenAt (i * 2)
      have f1 := HOi.out.frozenAt (i * 2 + 1)
      obtain ⟨v0, hv0⟩ : ∃ v, xs[i * 2]? = some v := ⟨xs[i * 2]'(by omega), List.getElem?_eq_getElem _⟩
      obtain ⟨v1, hv1⟩ : ∃ v, xs[i * 2 + 1]? = some v := ⟨xs[i * 2 + 1]'(by omega), List.getElem?_eq_getElem _⟩
      have c0 := (HOi.out.cellAt (i * 2) (by omega)).trans hv0
      have c1 := (HOi.out.cellAt (i * 2 + 1) (by omega)).trans hv1
      have HN : Hid (Filled ((xs.set (i * 2) (.pointer (some ⟨kb, ko + i * 5, none⟩))).set (i * 2 + 1) (.pointer (some ⟨kc, kq + i * 5, none⟩))) KS (i + 1)) := hid (HF.out.step hk HK2.out (by omega))
      have HO2 := hid ((((HOi.out.stored (i * 2) (.pointer (some ⟨kb, ko + i * 5, none⟩))).1.stored (i * 2 + 1) (.pointer (some ⟨kc, kq + i * 5, none⟩))).1).drew)
      have HB2 := hid (((HBi.out.setCell (p := ⟨w.heap.size + 1, i * 2, none⟩) (Nat.le_refl _) (.pointer (some ⟨kb, ko + i * 5, none⟩))).setCell (p := ⟨w.heap.size + 1, i * 2 + 1, none⟩) (Nat.le_refl _) (.pointer (some ⟨kc, kq + i * 5, none⟩))).drew)
      clear hv0 hv1 hk x0 x1 y4 y4' HX hxl HKi HF
      go_wp2_with fail
      go_region
      go_wp2_with fail
      go_roundg (gk - 1)
      case measure => omega
      case rel => exact ⟨i + 1, _, by go_num, by omega, by omega, HO2, HN, HB2⟩
    · obtain rfl : i = N := by omega
      clear HX x0 x1 y4 y4'
      go_wp2_with fail
      go_ret
      exact ⟨_, _, _, _, rfl, HKl.out, own_lower HOi.out (Nat.le_succ _), HF.out, H0.out.trans (HBi.out.mono (by omega))⟩
end Go.Proofs.YtannfhbocfghkaaDoor.EnvC
/-
  DERIVED: THE SHELF's CONTRACTS AT THIS DUMP, IN PLAIN WORDS (tools/lay-plain.mjs out of 'TrydShelfRev.lean', which tools/lay-shelf.mjs wrote): THE SAME DECLARATIONS UNDER THE SAME NAMES: 'import', 'namespace', 'open', 'def', 'theorem' AND NOTHING ELSE: no command of the shelf's: FOR A HAND-IN. Each laying: the table of numbers ('.._ren') and one theorem, a field a fact of the dump's own or the kernel's comparison; each contract: ONE APPLICATION.
-/
namespace Go.Proofs
open Go.Shelf
def Tryd.reversePt_ren : Go.Shelf.Ren := ⟨fun | 35 => 57 | n => n, fun | 22 => 97 | 23 => 53 | 3 => 3 | 4 => 4 | 0 => 0 | n => n, fun | n => n⟩
theorem Tryd.reversePt : Go.Proofs.SlLaysE0.n35 Tryd.prog Tryd.reversePt_ren := {
  mixed := by kernel_rfl
  f35 := ⟨Tryd.f57.name, by decide, Tryd.func57.trans (congrArg some (by kernel_rfl))⟩
  t0 := Tryd.underlying0
  a0 := Tryd.isAgg0
  z0 := Tryd.sizeOf0
  v0 := Tryd.zeroValue0
  t3 := Tryd.underlying3
  a3 := Tryd.isAgg3
  z3 := Tryd.sizeOf3
  v3 := Tryd.zeroValue3
  t4 := Tryd.underlying4
  a4 := Tryd.isAgg4
  z4 := Tryd.sizeOf4
  v4 := Tryd.zeroValue4
  t22 := Tryd.underlying97
  a22 := Tryd.isAgg97
  z22 := Tryd.sizeOf97
  v22 := Tryd.zeroValue97 }
def Tryd.reversePr_ren : Go.Shelf.Ren := ⟨fun | 35 => 60 | n => n, fun | 22 => 101 | 23 => 59 | 3 => 3 | 4 => 4 | 0 => 0 | n => n, fun | n => n⟩
theorem Tryd.reversePr : Go.Proofs.SlLaysE0.n35 Tryd.prog Tryd.reversePr_ren := {
  mixed := by kernel_rfl
  f35 := ⟨Tryd.f60.name, by decide, Tryd.func60.trans (congrArg some (by kernel_rfl))⟩
  t0 := Tryd.underlying0
  a0 := Tryd.isAgg0
  z0 := Tryd.sizeOf0
  v0 := Tryd.zeroValue0
  t3 := Tryd.underlying3
  a3 := Tryd.isAgg3
  z3 := Tryd.sizeOf3
  v3 := Tryd.zeroValue3
  t4 := Tryd.underlying4
  a4 := Tryd.isAgg4
  z4 := Tryd.sizeOf4
  v4 := Tryd.zeroValue4
  t22 := Tryd.underlying101
  a22 := Tryd.isAgg101
  z22 := Tryd.sizeOf101
  v22 := Tryd.zeroValue101 }
end Go.Proofs

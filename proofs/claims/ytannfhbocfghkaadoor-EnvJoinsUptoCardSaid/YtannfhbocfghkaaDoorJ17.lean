/- Texts joined: EnvJL, EnvW, JRow, JFact. -/
import Derived.Test.YtannfhbocfghkaaDoorJ16
import Derived.Test.YtannfhbocfghkaaDoorJ11
import Derived.Test.YtannfhbocfghkaaDoorJ01
import Derived.Test.YtannfhbocfghkaaDoorRows
import Derived.OpenShut
import Derived.Deep.Slices
import Derived.WideShapes
import Derived.Test.YtannfhbocfghkaaDoorCards
import Derived.Test.YtannfhbocfghkaaDoorTie
import Derived.ProofKit
import Derived.Deep.DeepHandedRow
import Derived.LaidHandle
import Derived.LaidLaws
/- The contract of the statement EnvJoins: it returns true, whatever the environments (of bulk at most 1048576 together). -/
namespace Go.Proofs.YtannfhbocfghkaaDoor.EnvC
open Go Go.RowKit Go.Lib Go.Sort Go.Proofs.YtannfhbocfghkaaDoor.EnvP

mutual
theorem same_join : ∀ t u j i : ETy, Joins t u j → Joins t u i → sameT j i = true
  | .mk k m g _ ls _ ks, .mk _ _ g' _ ls' _ ks', .mk k2 m2 g2 _ ls2 _ ks2, .mk k3 m3 g3 _ ls3 _ ks3, h, h' => by
    rw [Joins] at h h'
    obtain ⟨rfl, rfl, rfl, h4, h5⟩ := h
    obtain ⟨rfl, rfl, rfl, h4', h5'⟩ := h'
    rw [sameT, alikes_trans h4 (alikes_symm h4'), same_joins ks ks' ks2 ks3 h5 h5']
    simp
theorem same_joins : ∀ t u j i : List ETy, JoinsL t u j → JoinsL t u i → sameTs j i = true
  | [], [], [], [], _, _ => rfl
  | t :: ts, u :: us, j :: js, i :: is, h, h' => by
    rw [JoinsL] at h h'
    rw [sameTs, same_join t u j i h.1 h'.1, same_joins ts us js is h.2 h'.2]; rfl
  | [], [], [], _ :: _, _, h' => by simp [JoinsL] at h'
  | _ :: _, _ :: _, _ :: _, [], _, h' => by simp [JoinsL] at h'
  | [], [], _ :: _, _, h, _ => by simp [JoinsL] at h
  | [], _ :: _, _, _, h, _ => by simp [JoinsL] at h
  | _ :: _, [], _, _, h, _ => by simp [JoinsL] at h
  | _ :: _, _ :: _, [], _, h, _ => by simp [JoinsL] at h
end
theorem same_joinE : ∀ a b j i : List Bd, JoinsE a b j → JoinsE a b i → sameE j i = true
  | [], [], [], [], _, _ => rfl
  | a :: x, b :: y, j :: z, i :: k, h, h' => by
    rw [JoinsE] at h h'
    rw [sameE, same_join _ _ _ _ h.2.1 h'.2.1, same_joinE x y z k h.2.2 h'.2.2, h.1, h'.1]
    simp
  | [], [], [], _ :: _, _, h' => by simp [JoinsE] at h'
  | _ :: _, _ :: _, _ :: _, [], _, h' => by simp [JoinsE] at h'
  | [], [], _ :: _, _, h, _ => by simp [JoinsE] at h
  | [], _ :: _, _, _, h, _ => by simp [JoinsE] at h
  | _ :: _, [], _, _, h, _ => by simp [JoinsE] at h
  | _ :: _, _ :: _, [], _, h, _ => by simp [JoinsE] at h
theorem wBds_join2 : ∀ a b j : List Bd, JoinsE a b j → wBds j ≤ wBds a + wBds b
  | [], [], [], _ => Nat.zero_le _
  | a :: x, b :: y, j :: z, h => by
    rw [JoinsE] at h
    have h1 := join_w _ _ _ h.2.1
    have h2 := wBds_join2 x y z h.2.2
    have h3 : j.name.size = a.name.size := congrArg List.length h.1
    rw [wBds, wBds, wBds]
    unfold wBd
    omega
  | [], [], _ :: _, h => by simp [JoinsE] at h
  | [], _ :: _, _, h => by simp [JoinsE] at h
  | _ :: _, [], _, h => by simp [JoinsE] at h
  | _ :: _, _ :: _, [], h => by simp [JoinsE] at h
theorem bd_w2 {e : List Bd} {i : Nat} {x : Bd} (h : e[i]? = some x) : wT x.ty ≤ wBds e := by
  have := mem_sum wBd (List.mem_of_getElem? h)
  rw [← wBds_sum] at this
  unfold wBd at this
  omega

set_option maxHeartbeats 8000000 in
set_option maxRecDepth 100000 in
theorem envJoins_any (a b : List Bd) (v u : Value) (w : World) (ha : EnvIn w v a) (hb : EnvIn w u b) (hw : wBds a + wBds b ≤ 1048576) (hv : ErrAs.ErrVar w) :
    Calls Tryd.prog 3 #[v, u] w fun r w' => r = .returned (.bool true) ∧ Below w.heap.size w w' := by
  obtain ⟨sa, la⟩ := small_all (e := a) (by omega)
  obtain ⟨sb, lb⟩ := small_all (e := b) (by omega)
  have C0 := hid (awake_any w)
  have c1 := hid (fun (W : World) (k : Below w.heap.size w W) => rSize_any a v W (ha.keep (Keeps.of_below k)) (by omega))
  have c2 := hid (fun (W : World) (k : Below w.heap.size w W) => rSize_any b u W (hb.keep (Keeps.of_below k)) (by omega))
  have c3 := hid (fun (W : World) (k : Below w.heap.size w W) => rightEnv_any a v W (ha.keep (Keeps.of_below k)) sa la)
  have c4 := hid (fun (W : World) (k : Below w.heap.size w W) => rRight_any a v W (ha.keep (Keeps.of_below k)) sa la)
  have c5 := hid (fun (W : World) (k : Below w.heap.size w W) => less_any a b v u W (ha.keep (Keeps.of_below k)) (hb.keep (Keeps.of_below k)) sa sb la lb)
  have c6 := hid (fun (W : World) (k : Below w.heap.size w W) => rLess_any a b v u W (ha.keep (Keeps.of_below k)) (hb.keep (Keeps.of_below k)) sa sb la lb)
  have hss : ∀ (i : Nat) (x y : Bd), a[i]? = some x → b[i]? = some y → wT x.ty + wT y.ty ≤ 1048576 := fun i x y hx hy => by have := bd_w2 hx; have := bd_w2 hy; omega
  have c7 := hid (fun (W : World) (k : Below w.heap.size w W) => joinEnv_any a b v u W (ha.keep (Keeps.of_below k)) (hb.keep (Keeps.of_below k)) sa sb la lb hss)
  have c8 := hid (fun (W : World) (k : Below w.heap.size w W) => rBoth_any a b v u W (ha.keep (Keeps.of_below k)) (hb.keep (Keeps.of_below k)) sa sb la lb)
  have c9 := hid (fun (hbt : both a b = true) (W : World) (k : Below w.heap.size w W) => rJoin_any a b v u W (ha.keep (Keeps.of_below k)) (hb.keep (Keeps.of_below k)) sa sb la hbt hss)
  have d1 := fun (x : Bd) (hx : x ∈ a) (y : Bd) (hy : y ∈ b) (W : World) (k : Below w.heap.size w W) (d : Nat) (os : Array Obj) => Calls.regrown_of (fits_any x.ty y.ty (grow (redrawn W d) os) (ETy.In.keep (regKeeps k d os) _ (ha.2 x hx)) (ETy.In.keep (regKeeps k d os) _ (hb.2 y hy)) (sa x hx) (sb y hy))
  have d2 := fun (x : Bd) (hx : x ∈ a) (y : Bd) (hy : y ∈ b) (W : World) (k : Below w.heap.size w W) (d : Nat) (os : Array Obj) => Calls.regrown_of (rFits_any 1048576 x.ty y.ty (grow (redrawn W d) os) (sa x hx) (Nat.le_refl _) (sb y hy) (ETy.In.keep (regKeeps k d os) _ (ha.2 x hx)) (ETy.In.keep (regKeeps k d os) _ (hb.2 y hy)))
  have D1 := hid d1
  have D2 := hid d2
  have HE := hid (And.intro ha hb)
  have HW := hid hw
  have HV := hid hv
  obtain ⟨p, cap, hcap, rfl⟩ := lies_slice ha.1
  obtain ⟨p', cap', hcap', rfl⟩ := lies_slice hb.1
  clear ha hb hw hv sa sb hss d1 d2
  generalize hN : a.length = N at *
  generalize hN2 : b.length = N2 at *
  have HN := hid (And.intro hN hN2)
  clear hN hN2
  go_enter Tryd.func3, Tryd.ntmps3
  go_wp2_with fail
  refine C0.out.mono ?_
  rintro e0 W2 ⟨rfl, hb2⟩
  have H2 := hid hb2
  have E1 := hid (c1.out W2 hb2)
  clear hb2 C0 c1
  go_wp2_with fail
  refine E1.out.mono ?_
  rintro e0 W3 ⟨⟨n, rfl⟩, hb3⟩
  have H3 := hid (H2.out.trans (hb3.mono H2.out.size))
  clear hb3 E1 H2
  by_cases h400 : 400 < n
  · have d0 : decide (400 < n) = true := by simp [h400]
    go_wp2_with fail
    go_ret
    exact ⟨rfl, H3.out⟩
  have d0 : decide (400 < n) = false := by simp [h400]
  have E2 := hid (c2.out W3 H3.out)
  go_wp2_with fail
  refine E2.out.mono ?_
  rintro e0 W4 ⟨⟨n2, rfl⟩, hb4⟩
  have H4 := hid (H3.out.trans (hb4.mono H3.out.size))
  clear hb4 E2 H3 c2 d0
  by_cases h4002 : 400 < n2
  · have d0 : decide (400 < n2) = true := by simp [h4002]
    go_wp2_with fail
    go_ret
    exact ⟨rfl, H4.out⟩
  have d0 : decide (400 < n2) = false := by simp [h4002]
  have q3 := c3.out
  have q4 := c4.out
  have q5 := c5.out
  have q6 := c6.out
  generalize right a = rr at *
  generalize less a b = rl at *
  have E3 := hid (q3 W4 H4.out)
  have C4 := hid q4
  have C5 := hid q5
  have C6 := hid q6
  clear q3 q4 q5 q6 c3 c4 c5 c6
  go_wp2_with fail
  refine E3.out.mono ?_
  rintro e0 W5 ⟨rfl, hb5⟩
  have H5 := hid (H4.out.trans (hb5.mono H4.out.size))
  have E4 := hid (C4.out W5 H5.out)
  clear hb5 E3 H4 d0 C4
  go_wp2_with fail
  refine E4.out.mono ?_
  rintro e0 W6 ⟨rfl, hb6⟩
  have H6 := hid (H5.out.trans (hb6.mono H5.out.size))
  have E5 := hid (C5.out W6 H6.out)
  clear hb6 E4 H5 C5
  go_wp2_with fail
  refine E5.out.mono ?_
  rintro e0 W7 ⟨rfl, hb7⟩
  have H7 := hid (H6.out.trans (hb7.mono H6.out.size))
  have E6 := hid (C6.out W7 H7.out)
  clear hb7 E5 H6 C6
  go_wp2_with fail
  refine E6.out.mono ?_
  rintro e0 W8 ⟨rfl, hb8⟩
  have H8 := hid (H7.out.trans (hb8.mono H7.out.size))
  clear hb8 E6 H7
  go_wp2_with fail
  go_loopg [5] N (fun gf t wx => ∃ j : Nat, t = .int .i64 (j : Int) ∧ j ≤ N ∧ N ≤ j + gf ∧ Hid (Below w.heap.size w wx))
  case atStart => exact ⟨0, rfl, by omega, by omega, H8⟩
  case round =>
    obtain ⟨j, rfl, hj, hg, HB⟩ := hrel
    clear H8
    by_cases hlt : j < N ∧ j < N2
    · obtain ⟨hlt1, hlt2⟩ := hlt
      obtain ⟨x, hx⟩ : ∃ x, a[j]? = some x := ⟨a[j]'(by rw [HN.out.1]; exact hlt1), List.getElem?_eq_getElem _⟩
      obtain ⟨y, hy⟩ : ∃ y, b[j]? = some y := ⟨b[j]'(by rw [HN.out.2]; exact hlt2), List.getElem?_eq_getElem _⟩
      have hbw := HB.out
      obtain ⟨b1, off, c0, e', _, hxx⟩ := Lies.at (HE.out.1.1.keep (Keeps.of_below hbw)) (i := j) (by rw [List.length_map, HN.out.1]; exact hlt1)
      obtain ⟨b2, off2, c02, e'', _, hyy⟩ := Lies.at (HE.out.2.1.keep (Keeps.of_below hbw)) (i := j) (by rw [List.length_map, HN.out.2]; exact hlt2)
      injection e' with e1 e2 e3
      injection e'' with e4 e5 e6
      subst e1 e4
      clear e2 e3 e5 e6
      have hxc := hxx j x.cells (by rw [List.getElem?_map, hx]; rfl)
      have hyc := hyy j y.cells (by rw [List.getElem?_map, hy]; rfl)
      have hxt : ∀ (a : Nat) (u : Value), x.ty.cells[a]? = some u → wr.cell? ⟨b1, off + j * 6 + 1 + a, none⟩ = some u := fun a u hu => by
        have := hxc (1 + a) u (by unfold Bd.cells; rw [List.getElem?_append_right (by simp)]; simpa using hu)
        rw [Nat.add_assoc (off + j * 6)]; exact this
      have hyt : ∀ (a : Nat) (u : Value), y.ty.cells[a]? = some u → wr.cell? ⟨b2, off2 + j * 6 + 1 + a, none⟩ = some u := fun a u hu => by
        have := hyc (1 + a) u (by unfold Bd.cells; rw [List.getElem?_append_right (by simp)]; simpa using hu)
        rw [Nat.add_assoc (off2 + j * 6)]; exact this
      have F1 := hid (D1.out x (List.mem_of_getElem? hx) y (List.mem_of_getElem? hy) wr hbw)
      have F2 := hid (D2.out x (List.mem_of_getElem? hx) y (List.mem_of_getElem? hy) wr hbw)
      change Hid (∀ d os, Calls _ _ #[.agg x.ty.cells.toArray, .agg y.ty.cells.toArray] _ _) at F1
      change Hid (∀ d os, Calls _ _ #[.agg x.ty.cells.toArray, .agg y.ty.cells.toArray] _ _) at F2
      have KX := hid (reg_cells hxt)
      have KY := hid (reg_cells hyt)
      have ZX := hid (tySize x.ty)
      have ZY := hid (tySize y.ty)
      generalize fitsT x.ty y.ty = q at *
      generalize x.ty.cells = xcs at *
      generalize y.ty.cells = ycs at *
      have i1 : (j : Int) < (N : Int) := by omega
      have i2 : (j : Int) < (N2 : Int) := by omega
      have i0 : (0 : Int) ≤ (j : Int) := by omega
      clear hx hy hxx hyy hxc hyc hxt hyt hbw
      go_wp2_with fail
      refine wp_region_quiet_below (by kernel_rfl) (by kernel_rfl) ?_
      repeat (first | ((with_reducible refine wpQuiet_load_at (o := ⟨some 48, _, _, _, _, _⟩) rfl _ _ rfl b1 (off + j * 6 + 1) rfl xcs _ KX.out Tryd.underlying31 rfl ZX.out ?_); simp only [Act.put, List.setIfInBounds_toArray, List.set_cons_zero, List.set_cons_succ]) | ((with_reducible refine wpQuiet_load_at (o := ⟨some 53, _, _, _, _, _⟩) rfl _ _ rfl b2 (off2 + j * 6 + 1) rfl ycs _ KY.out Tryd.underlying31 rfl ZY.out ?_); simp only [Act.put, List.setIfInBounds_toArray, List.set_cons_zero, List.set_cons_succ]) | ((with_reducible refine wpQuiet_load_at (o := ⟨some 59, _, _, _, _, _⟩) rfl _ _ rfl b1 (off + j * 6 + 1) rfl xcs _ KX.out Tryd.underlying31 rfl ZX.out ?_); simp only [Act.put, List.setIfInBounds_toArray, List.set_cons_zero, List.set_cons_succ]) | ((with_reducible refine wpQuiet_load_at (o := ⟨some 64, _, _, _, _, _⟩) rfl _ _ rfl b2 (off2 + j * 6 + 1) rfl ycs _ KY.out Tryd.underlying31 rfl ZY.out ?_); simp only [Act.put, List.setIfInBounds_toArray, List.set_cons_zero, List.set_cons_succ]) | go_big_quiet_step (first | (with_reducible exact F1.out _ _) | (with_reducible exact F2.out _ _)))
      refine wpQuiet_nil ?_
      intro _ hw'
      obtain ⟨⟨dq, osq⟩, hw''⟩ := hw'
      subst hw''
      have B3 := hid (HB.out.trans ((below_regrown wr dq osq).mono HB.out.size))
      clear HB F1 F2 KX KY
      cases q
      all_goals
        go_wp2_with fail
        go_roundg (gk - 1)
        case measure => omega
        case rel => exact ⟨j + 1, by go_num, by omega, by omega, B3⟩
    · have hd : ¬ ((j : Int) < (N : Int) ∧ (j : Int) < (N2 : Int)) := by omega
      have D7 := hid (c7.out wr HB.out)
      by_cases hj1 : j < N
      · have hj2 : ¬ (j : Int) < (N2 : Int) := by omega
        have hj1' : (j : Int) < (N : Int) := by omega
        clear hd
        go_wp2_with fail
        refine D7.out.mono ?_
        have HB9 := HB
        clear D7 c7 HB
        rintro e0 W9 ⟨hb9, ⟨hbt, vo, jj, rfl, hj9, hJ9⟩ | ⟨hbt, rfl⟩⟩
        rotate_left
        · have H9 := hid (HB9.out.trans (hb9.mono HB9.out.size))
          have e8 := c8.out W9 H9.out
          rw [hbt] at e8
          have E8 := hid e8
          clear hb9 hbt e8 c8 c9 HB9
          go_wp2_with fail
          refine E8.out.mono ?_
          clear E8
          rintro e0 W10 ⟨rfl, hb10⟩
          have H10 := hid (H9.out.trans (hb10.mono H9.out.size))
          have E9 := hid (ErrAs.code_code 5 W10 (by decide) (HV.out.below H10.out))
          clear hb10 H9
          go_wp2_with fail
          refine E9.out.mono ?_
          clear E9
          rintro e0 W11 ⟨rfl, hb11⟩
          have H11 := hid (H10.out.trans (hb11.mono H10.out.size))
          clear hb11 H10
          go_wp2_with fail
          go_ret
          exact ⟨rfl, H11.out⟩
        have H9 := hid (HB9.out.trans (hb9.mono HB9.out.size))
        have e8 := c8.out W9 H9.out
        rw [hbt] at e8
        have E8 := hid e8
        have HJ := hid (And.intro hj9 (And.intro hJ9 hbt))
        clear hb9 hbt e8 c8 HB9 hj9 hJ9
        go_wp2_with fail
        refine E8.out.mono ?_
        clear E8
        rintro e0 W10 ⟨rfl, hb10⟩
        have H10 := hid (H9.out.trans (hb10.mono H9.out.size))
        have E9 := hid (c9.out HJ.out.2.2 W10 H10.out)
        have hj10 := HJ.out.1.keep (Keeps.of_below hb10)
        have J10 := hid hj10
        clear hb10 H9 c9 hj10
        go_wp2_with fail
        refine E9.out.mono ?_
        clear E9
        rintro e0 W11 ⟨vj, jr, rfl, hjr, hJr, hb11⟩
        have H11 := hid (H10.out.trans (hb11.mono H10.out.size))
        have wj : wBds jj ≤ 1048576 := by have := wBds_join2 a b jj HJ.out.2.1; have := HW.out; omega
        have wk : wBds jr ≤ 1048576 := by have := wBds_join2 a b jr hJr; have := HW.out; omega
        obtain ⟨sj, lj⟩ := small_all wj
        obtain ⟨sk, lk⟩ := small_all wk
        have hj11 : EnvIn W11 vo jj := J10.out.keep (Keeps.of_below hb11)
        have e10 := rSame_any jj jr vo vj W11 hj11 hjr sj sk lj lk
        rw [same_joinE a b jj jr HJ.out.2.1 hJr] at e10
        have e11 := fun (W : World) (q : Below W11.heap.size W11 W) => rightEnv_any jj vo W (hj11.keep (Keeps.of_below q)) sj lj
        rw [(joinE_all HJ.out.2.1 HJ.out.2.2).1] at e11
        have E10 := hid e10
        have E11 := hid e11
        clear hb11 H10 J10 wj wk sj sk lj lk hj11 e10 e11 hjr hJr HJ
        go_wp2_with fail
        refine E10.out.mono ?_
        clear E10
        rintro e0 W12 ⟨rfl, hb12⟩
        have H12 := hid (H11.out.trans (hb12.mono H11.out.size))
        have E12 := hid (E11.out W12 hb12)
        clear hb12 H11 E11
        go_wp2_with fail
        refine E12.out.mono ?_
        clear E12
        rintro e0 W13 ⟨rfl, hb13⟩
        have H13 := hid (H12.out.trans (hb13.mono H12.out.size))
        clear hb13 H12
        go_wp2_with fail
        go_ret
        exact ⟨rfl, H13.out⟩
      · have hj2 : ¬ (j : Int) < (N : Int) := by omega
        clear hd
        go_wp2_with fail
        refine D7.out.mono ?_
        have HB9 := HB
        clear D7 c7 HB
        rintro e0 W9 ⟨hb9, ⟨hbt, vo, jj, rfl, hj9, hJ9⟩ | ⟨hbt, rfl⟩⟩
        rotate_left
        · have H9 := hid (HB9.out.trans (hb9.mono HB9.out.size))
          have e8 := c8.out W9 H9.out
          rw [hbt] at e8
          have E8 := hid e8
          clear hb9 hbt e8 c8 c9 HB9
          go_wp2_with fail
          refine E8.out.mono ?_
          clear E8
          rintro e0 W10 ⟨rfl, hb10⟩
          have H10 := hid (H9.out.trans (hb10.mono H9.out.size))
          have E9 := hid (ErrAs.code_code 5 W10 (by decide) (HV.out.below H10.out))
          clear hb10 H9
          go_wp2_with fail
          refine E9.out.mono ?_
          clear E9
          rintro e0 W11 ⟨rfl, hb11⟩
          have H11 := hid (H10.out.trans (hb11.mono H10.out.size))
          clear hb11 H10
          go_wp2_with fail
          go_ret
          exact ⟨rfl, H11.out⟩
        have H9 := hid (HB9.out.trans (hb9.mono HB9.out.size))
        have e8 := c8.out W9 H9.out
        rw [hbt] at e8
        have E8 := hid e8
        have HJ := hid (And.intro hj9 (And.intro hJ9 hbt))
        clear hb9 hbt e8 c8 HB9 hj9 hJ9
        go_wp2_with fail
        refine E8.out.mono ?_
        clear E8
        rintro e0 W10 ⟨rfl, hb10⟩
        have H10 := hid (H9.out.trans (hb10.mono H9.out.size))
        have E9 := hid (c9.out HJ.out.2.2 W10 H10.out)
        have hj10 := HJ.out.1.keep (Keeps.of_below hb10)
        have J10 := hid hj10
        clear hb10 H9 c9 hj10
        go_wp2_with fail
        refine E9.out.mono ?_
        clear E9
        rintro e0 W11 ⟨vj, jr, rfl, hjr, hJr, hb11⟩
        have H11 := hid (H10.out.trans (hb11.mono H10.out.size))
        have wj : wBds jj ≤ 1048576 := by have := wBds_join2 a b jj HJ.out.2.1; have := HW.out; omega
        have wk : wBds jr ≤ 1048576 := by have := wBds_join2 a b jr hJr; have := HW.out; omega
        obtain ⟨sj, lj⟩ := small_all wj
        obtain ⟨sk, lk⟩ := small_all wk
        have hj11 : EnvIn W11 vo jj := J10.out.keep (Keeps.of_below hb11)
        have e10 := rSame_any jj jr vo vj W11 hj11 hjr sj sk lj lk
        rw [same_joinE a b jj jr HJ.out.2.1 hJr] at e10
        have e11 := fun (W : World) (q : Below W11.heap.size W11 W) => rightEnv_any jj vo W (hj11.keep (Keeps.of_below q)) sj lj
        rw [(joinE_all HJ.out.2.1 HJ.out.2.2).1] at e11
        have E10 := hid e10
        have E11 := hid e11
        clear hb11 H10 J10 wj wk sj sk lj lk hj11 e10 e11 hjr hJr HJ
        go_wp2_with fail
        refine E10.out.mono ?_
        clear E10
        rintro e0 W12 ⟨rfl, hb12⟩
        have H12 := hid (H11.out.trans (hb12.mono H11.out.size))
        have E12 := hid (E11.out W12 hb12)
        clear hb12 H11 E11
        go_wp2_with fail
        refine E12.out.mono ?_
        clear E12
        rintro e0 W13 ⟨rfl, hb13⟩
        have H13 := hid (H12.out.trans (hb13.mono H12.out.size))
        clear hb13 H12
        go_wp2_with fail
        go_ret
        exact ⟨rfl, H13.out⟩
end Go.Proofs.YtannfhbocfghkaaDoor.EnvC
/- An argument read as data: the loan, the environment that it is, how it lies in memory, and that it weighs at most the data's bulk. -/
namespace Go.Proofs.YtannfhbocfghkaaDoor.EnvO
open Go Go.RowKit Go.ChangeShapes Go.WideShapes Go.Proofs.YtannfhbocfghkaaDoor.EnvP

theorem list_of {α : Type} {p : Nat → α → Prop} : ∀ n : Nat, (∀ i, i < n → ∃ x, p i x) → ∃ l : List α, l.length = n ∧ ∀ (i : Nat) (a : α), l[i]? = some a → p i a
  | 0, _ => ⟨[], rfl, fun i a h => by simp at h⟩
  | n + 1, h => by
    obtain ⟨l, hl, hp⟩ := list_of n fun i hi => h i (by omega)
    obtain ⟨x, hx⟩ := h n (by omega)
    refine ⟨l ++ [x], by simp [hl], fun i a hi => ?_⟩
    by_cases h1 : i < l.length
    · rw [List.getElem?_append_left h1] at hi
      exact hp i a hi
    · rw [List.getElem?_append_right (by omega)] at hi
      have hlt : i - l.length < [x].length := (List.getElem?_eq_some_iff.1 hi).1
      have e : i = n := by simp at hlt; omega
      subst e
      simp [hl] at hi
      subst hi
      exact hx
theorem sum_bulk {H α : Type} (wt : α → Nat) : ∀ (l : List α) (es : List (DataW H)), l.length = es.length → (∀ (i : Nat) (a : α) (y : DataW H), l[i]? = some a → es[i]? = some y → wt a ≤ Rows.uptoBulk y) → (l.map wt).sum ≤ Rows.uptoBulkAll es
  | [], [], _, _ => by simp
  | a :: l, y :: es, hl, h => by
    have h0 := h 0 a y rfl rfl
    have := sum_bulk wt l es (by simpa using hl) fun i b z hb hz => h (i + 1) b z (by simpa using hb) (by simpa using hz)
    simp only [List.map_cons, List.sum_cons, Rows.uptoBulkAll]
    omega
  | [], y :: es, hl, _ => by simp at hl
  | a :: l, [], hl, _ => by simp at hl

section
variable {H : Type} {enc : TypeId × Value → H} {w : World} {base : Nat} {sp : Nat → Bool} {hd : Bool}

theorem open_rows {α : Type} {P : Program} (cells : α → List Value) (Q : α → Prop) (wt : α → Nat) {t e : TypeId} {size n : Nat} {cs : List Value} {x : DataW H × List MemPlace}
    (ht : P.underlying t = some (.slice e)) (hc : P.cellsOf e = size) (hs : 0 < size)
    (ih : ∀ m, m < n → ∀ cs' y, DataW.trod enc P w base sp hd m e cs' = some y → ∃ a, cs' = cells a ∧ Q a ∧ wt a ≤ Rows.uptoBulk y.1)
    (h : DataW.trod enc P w base sp hd n t cs = some x) :
    ∃ (v : Value) (l : List α), cs = [v] ∧ Lies w size v (l.map cells) ∧ (∀ a ∈ l, Q a) ∧ 1 + (l.map wt).sum ≤ Rows.uptoBulk x.1 := by
  rcases DataW.trod_slice ht h with ⟨rfl, rfl⟩ | ⟨a, len, cap, elems, rest, m, rfl, rfl, rfl, hb, hl, hm, hlen, hel, _, _⟩
  · exact ⟨_, [], rfl, ⟨none, 0, rfl, by simp, fun h => absurd rfl h⟩, by simp, by simp [Rows.uptoBulk]⟩
  · have key : ∀ i, i < len → ∃ A : α, ∃ y, elems[i]? = some y ∧ w.cells? base (a.add (i * size)) size = some (cells A) ∧ Q A ∧ wt A ≤ Rows.uptoBulk y.1 := by
      intro i hi
      have h1 := hel i hi
      rw [hc, List.getElem?_eq_getElem (by omega)] at h1
      obtain ⟨cs', h2, h3⟩ := Option.bind_eq_some_iff.1 h1
      obtain ⟨A, rfl, hq, hw⟩ := ih m (by omega) cs' _ h3
      exact ⟨A, _, List.getElem?_eq_getElem _, h2, hq, hw⟩
    obtain ⟨l, hll, hp⟩ := list_of len key
    refine ⟨_, l, rfl, ⟨some a, cap, by simp [hll], by simp [hll]; omega, fun hne => ?_⟩, fun A hA => ?_, ?_⟩
    · obtain ⟨b, off, spot⟩ := a
      have hpos : 0 < l.length := by
        cases l with
        | nil => exact absurd rfl hne
        | cons _ _ => simp
      obtain ⟨A0, hA0⟩ : ∃ A0, l[0]? = some A0 := ⟨_, List.getElem?_eq_getElem hpos⟩
      obtain ⟨y, _, h2, _, _⟩ := hp 0 A0 hA0
      obtain ⟨_, hlen0, hcell⟩ := World.cells?_some h2
      have g0 := hcell 0 hs
      obtain ⟨c0, hc0⟩ : ∃ c0, (cells A0)[0]? = some c0 := ⟨_, List.getElem?_eq_getElem (by omega)⟩
      rw [hc0] at g0
      have hspot : spot = none := by simpa [Addr.add] using World.cell?_spot g0
      subst hspot
      refine ⟨b, off, rfl, fun i c hi j u hj => ?_⟩
      rw [List.getElem?_map] at hi
      obtain ⟨A, hA, rfl⟩ := Option.map_eq_some_iff.1 hi
      obtain ⟨y, _, h2, _, _⟩ := hp i A hA
      obtain ⟨_, hlenA, hcell⟩ := World.cells?_some h2
      have hjlt : j < size := by rw [← hlenA]; exact (List.getElem?_eq_some_iff.1 hj).1
      have := hcell j hjlt
      rw [WideShapes.add_plain, WideShapes.add_plain, hj] at this
      exact this
    · obtain ⟨i, hi, rfl⟩ := List.getElem_of_mem hA
      obtain ⟨y, _, _, hq, _⟩ := hp i _ (List.getElem?_eq_getElem hi)
      exact hq
    · have := sum_bulk (H := H) wt l (elems.map (·.1)) (by simp [hll, hlen]) fun i A y hA hy => by
        obtain ⟨z, hz, _, _, hwz⟩ := hp i A hA
        rw [List.getElem?_map, hz] at hy
        simp at hy
        subst hy
        exact hwz
      simp only [Rows.uptoBulk]
      omega

theorem size_toList (s : ByteArray) : s.data.toList.length = s.size := by rw [Array.length_toList]; rfl

theorem field {P : Program} {m : Nat} {fs : Array Field} {cs : List Value} {xs : List (DataW H × List MemPlace)} (hf : ∀ (i : Nat) (f : Field), fs[i]? = some f → DataW.trod enc P w base sp hd m f.type ((cs.drop f.offset).take (P.cellsOf f.type)) = xs[i]?)
    (i t o n : Nat) (h : (fs[i]?).map (fun f => (f.type, f.offset)) = some (t, o)) (hc : P.cellsOf t = n) : DataW.trod enc P w base sp hd m t ((cs.drop o).take n) = xs[i]? := by
  obtain ⟨f, h1, h2⟩ := Option.map_eq_some_iff.1 h
  have := hf i f h1
  simp only [Prod.mk.injEq] at h2
  obtain ⟨rfl, rfl⟩ := h2
  rw [hc] at this
  exact this
theorem c_int : Tryd.prog.cellsOf 3 = 1 := by kernel_rfl
theorem c_string : Tryd.prog.cellsOf 9 = 1 := by kernel_rfl
theorem c_bool : Tryd.prog.cellsOf 4 = 1 := by kernel_rfl
theorem c_ty : Tryd.prog.cellsOf 31 = 5 := by kernel_rfl
theorem c_loan : Tryd.prog.cellsOf 44 = 4 := by kernel_rfl
theorem c_place : Tryd.prog.cellsOf 42 = 2 := by kernel_rfl
theorem c_bind : Tryd.prog.cellsOf 33 = 6 := by kernel_rfl
theorem c_ints : Tryd.prog.cellsOf 40 = 1 := by kernel_rfl
theorem c_tys : Tryd.prog.cellsOf 29 = 1 := by kernel_rfl
theorem c_loans : Tryd.prog.cellsOf 28 = 1 := by kernel_rfl

theorem sum_ones {α : Type} : ∀ l : List α, (l.map fun _ => 1).sum = l.length
  | [] => rfl
  | x :: l => by rw [List.map_cons, List.sum_cons, sum_ones l, List.length_cons]; omega
theorem open_pl (n : Nat) (cs : List Value) (x : DataW H × List MemPlace) (h : DataW.trod enc Tryd.prog w base sp hd n 42 cs = some x) : ∃ T : Pl, cs = T.cells ∧ T.In w ∧ wPl T ≤ Rows.uptoBulk x.1 := by
  obtain ⟨xs, m, rfl, rfl, hlen, hxs, hf⟩ := DataW.trod_struct Tryd.underlying42 h
  rw [c_place] at hlen
  have f0 := field hf 0 9 0 1 rfl c_string
  have f1 := field hf 1 40 1 1 rfl c_ints
  clear hf h
  obtain ⟨x0, x1, rfl⟩ : ∃ a b, xs = [a, b] := by
    match xs, hxs with
    | [a, b], _ => exact ⟨a, b, rfl⟩
  obtain ⟨c0, c1, rfl⟩ : ∃ a b, cs = [a, b] := by
    match cs, hlen with
    | [a, b], _ => exact ⟨a, b, rfl⟩
  obtain ⟨s, e0, r0, _⟩ := DataW.trod_string Tryd.underlying9 f0
  obtain ⟨v, l, e1, hlies, _, hw⟩ := open_rows (α := Int) stCells (fun _ => True) (fun _ => 1) Tryd.underlying40 c_int (by decide) (fun j _ cs' y hy => by
    obtain ⟨k, rfl, e, _⟩ := DataW.trod_int Tryd.underlying3 hy
    exact ⟨k, rfl, trivial, by rw [e]; simp only [Rows.uptoBulk]; omega⟩) f1
  simp at e0 e1
  subst e0; subst e1; subst r0
  refine ⟨⟨s, c1, l⟩, rfl, hlies, ?_⟩
  rw [sum_ones] at hw
  simp only [wPl, List.map_cons, List.map_nil, Rows.uptoBulk, Rows.uptoBulkAll, size_toList]
  omega

theorem open_ln (n : Nat) (cs : List Value) (x : DataW H × List MemPlace) (h : DataW.trod enc Tryd.prog w base sp hd n 44 cs = some x) : ∃ T : Ln, cs = T.cells ∧ T.pl.In w ∧ wLn T ≤ Rows.uptoBulk x.1 := by
  obtain ⟨xs, m, rfl, rfl, hlen, hxs, hf⟩ := DataW.trod_struct Tryd.underlying44 h
  rw [c_loan] at hlen
  have f0 := field hf 0 9 0 1 rfl c_string
  have f1 := field hf 1 42 1 2 rfl c_place
  have f2 := field hf 2 4 3 1 rfl c_bool
  clear hf h
  obtain ⟨x0, x1, x2, rfl⟩ : ∃ a b c, xs = [a, b, c] := by
    match xs, hxs with
    | [a, b, c], _ => exact ⟨a, b, c, rfl⟩
  obtain ⟨c0, c1, c2, c3, rfl⟩ : ∃ a b c d, cs = [a, b, c, d] := by
    match cs, hlen with
    | [a, b, c, d], _ => exact ⟨a, b, c, d, rfl⟩
  obtain ⟨s, e0, r0, _⟩ := DataW.trod_string Tryd.underlying9 f0
  obtain ⟨p, e1, hpin, hpw⟩ := open_pl _ _ _ f1
  obtain ⟨b, e2, r2⟩ := DataW.trod_bool Tryd.underlying4 f2
  obtain ⟨pv, ps, pt⟩ := p
  simp [Pl.cells] at e0 e1 e2
  obtain ⟨rfl, rfl⟩ := e1
  subst e0; subst e2; subst r0; subst r2
  refine ⟨⟨s, ⟨pv, c2, pt⟩, b⟩, rfl, hpin, ?_⟩
  simp only [wLn, List.map_cons, List.map_nil, Rows.uptoBulk, Rows.uptoBulkAll, size_toList]
  omega

theorem open_ty (n : Nat) : ∀ (cs : List Value) (x : DataW H × List MemPlace), DataW.trod enc Tryd.prog w base sp hd n 31 cs = some x → ∃ T : ETy, cs = T.cells ∧ T.In w ∧ wT T ≤ Rows.uptoBulk x.1 := by
  induction n using Nat.strongRecOn with
  | ind n ih =>
  intro cs x h
  obtain ⟨xs, m, rfl, rfl, hlen, hxs, hf⟩ := DataW.trod_struct Tryd.underlying31 h
  rw [c_ty] at hlen
  have f0 := field hf 0 3 0 1 rfl c_int
  have f1 := field hf 1 4 1 1 rfl c_bool
  have f2 := field hf 2 4 2 1 rfl c_bool
  have f3 := field hf 3 28 3 1 rfl c_loans
  have f4 := field hf 4 29 4 1 rfl c_tys
  clear hf h
  obtain ⟨x0, x1, x2, x3, x4, rfl⟩ : ∃ a b c d e, xs = [a, b, c, d, e] := by
    match xs, hxs with
    | [a, b, c, d, e], _ => exact ⟨a, b, c, d, e, rfl⟩
  obtain ⟨c0, c1, c2, c3, c4, rfl⟩ : ∃ a b c d e, cs = [a, b, c, d, e] := by
    match cs, hlen with
    | [a, b, c, d, e], _ => exact ⟨a, b, c, d, e, rfl⟩
  obtain ⟨k, e0, r0, _⟩ := DataW.trod_int Tryd.underlying3 f0
  obtain ⟨b1, e1, r1⟩ := DataW.trod_bool Tryd.underlying4 f1
  obtain ⟨b2, e2, r2⟩ := DataW.trod_bool Tryd.underlying4 f2
  obtain ⟨v3, l3, e3, hlies3, hq3, hw3⟩ := open_rows Ln.cells (fun l : Ln => l.pl.In w) wLn Tryd.underlying28 c_loan (by decide) (fun j _ => open_ln j) f3
  obtain ⟨v4, l4, e4, hlies4, hq4, hw4⟩ := open_rows ETy.cells (ETy.In w) wT Tryd.underlying29 c_ty (by decide) (fun j hj => ih j (by omega)) f4
  simp at e0 e1 e2 e3 e4
  subst e0; subst e1; subst e2; subst e3; subst e4; subst r0; subst r1; subst r2
  refine ⟨.mk k b1 b2 c3 l3 c4 l4, rfl, ?_, ?_⟩
  · rw [ETy.In, ETy.ins_iff]
    exact ⟨hlies3, hq3, hlies4, hq4⟩
  · simp only [wT, wTs_sum, wLns_sum, List.map_cons, List.map_nil, Rows.uptoBulk, Rows.uptoBulkAll]
    omega

theorem open_bd (n : Nat) (cs : List Value) (x : DataW H × List MemPlace) (h : DataW.trod enc Tryd.prog w base sp hd n 33 cs = some x) : ∃ T : Bd, cs = T.cells ∧ T.ty.In w ∧ wBd T ≤ Rows.uptoBulk x.1 := by
  obtain ⟨xs, m, rfl, rfl, hlen, hxs, hf⟩ := DataW.trod_struct Tryd.underlying33 h
  rw [c_bind] at hlen
  have f0 := field hf 0 9 0 1 rfl c_string
  have f1 := field hf 1 31 1 5 rfl c_ty
  clear hf h
  obtain ⟨x0, x1, rfl⟩ : ∃ a b, xs = [a, b] := by
    match xs, hxs with
    | [a, b], _ => exact ⟨a, b, rfl⟩
  obtain ⟨c0, c1, c2, c3, c4, c5, rfl⟩ : ∃ a b c d e f, cs = [a, b, c, d, e, f] := by
    match cs, hlen with
    | [a, b, c, d, e, f], _ => exact ⟨a, b, c, d, e, f, rfl⟩
  obtain ⟨s, e0, r0, _⟩ := DataW.trod_string Tryd.underlying9 f0
  obtain ⟨p, e1, hpin, hpw⟩ := open_ty _ _ _ f1
  obtain ⟨k, m1, m2, v1, l1, v2, l2⟩ := p
  simp [ETy.cells] at e0 e1
  obtain ⟨rfl, rfl, rfl, rfl, rfl⟩ := e1
  subst e0; subst r0
  refine ⟨⟨s, .mk k m1 m2 c4 l1 c5 l2⟩, rfl, hpin, ?_⟩
  simp only [wBd, List.map_cons, List.map_nil, Rows.uptoBulk, Rows.uptoBulkAll, size_toList]
  omega

set_option maxRecDepth 100000 in
theorem open_env {r : Reach} {b0 : Nat} {v : Value} {d : DataW H} {ps : List MemPlace} (hval : Value.okWide Tryd.prog w r b0 22 v) (h : DataW.Trod enc Tryd.prog w base sp hd 22 v d ps) :
    ∃ e, EnvIn w v e ∧ 1 + wBds e ≤ Rows.uptoBulk d := by
  obtain ⟨a, len, cap, rfl⟩ := okWide_slice Tryd.underlying22 hval
  obtain ⟨n, hn⟩ := h
  obtain ⟨u, l, e, hlies, hq, hw⟩ := open_rows Bd.cells (fun b : Bd => b.ty.In w) wBd Tryd.underlying22 c_bind (by decide) (fun j _ => open_bd j) hn
  simp [Value.cells] at e
  subst e
  exact ⟨l, ⟨hlies, hq⟩, by rw [wBds_sum]; exact hw⟩
set_option maxRecDepth 100000 in
theorem open_loan {r : Reach} {b0 : Nat} {v : Value} {d : DataW H} {ps : List MemPlace} (hval : Value.okWide Tryd.prog w r b0 44 v) (h : DataW.Trod enc Tryd.prog w base sp hd 44 v d ps) :
    ∃ t : Ln, v = t.val ∧ t.pl.In w ∧ wLn t ≤ Rows.uptoBulk d := by
  obtain ⟨cs, rfl, _⟩ := okWide_struct Tryd.underlying44 hval
  obtain ⟨n, hn⟩ := h
  obtain ⟨T, e, hin, hw⟩ := open_ln n _ _ hn
  simp [Value.cells] at e
  exact ⟨T, by rw [Ln.val, ← e], hin, hw⟩
set_option maxRecDepth 100000 in
theorem open_place {r : Reach} {b0 : Nat} {v : Value} {d : DataW H} {ps : List MemPlace} (hval : Value.okWide Tryd.prog w r b0 42 v) (h : DataW.Trod enc Tryd.prog w base sp hd 42 v d ps) :
    ∃ t : Pl, v = t.val ∧ t.In w ∧ wPl t ≤ Rows.uptoBulk d := by
  obtain ⟨cs, rfl, _⟩ := okWide_struct Tryd.underlying42 hval
  obtain ⟨n, hn⟩ := h
  obtain ⟨T, e, hin, hw⟩ := open_pl n _ _ hn
  simp [Value.cells] at e
  exact ⟨T, by rw [Pl.val, ← e], hin, hw⟩
end
end Go.Proofs.YtannfhbocfghkaaDoor.EnvO
/- What the row's list of library variables gives (layer 5), and a world that meets it (the witness). -/
namespace Go.Proofs.YtannfhbocfghkaaDoor.LawR
open Go Go.RowKit Go.Lib Go.Proofs.YtannfhbocfghkaaDoor.ErrAs

theorem laidOut : laidOutB Tryd.prog = true := by kernel_rfl
theorem own : ownKnob Tryd.prog.godebug = none := by kernel_rfl
theorem gEt : Tryd.prog.globalNamed "errors.errorType" = some 0 := by kernel_rfl
theorem rtNum : (Tryd.prog.cutTypes.find? (·.1 == "internal/reflectlite.rtype")).map (·.2) = some 112 := by kernel_rfl
theorem oneRow : ((List.range 159).filter fun t => Tryd.prog.rowNamed t [101, 114, 114, 111, 114]) = [35] := by kernel_rfl
theorem typesSize : Tryd.prog.types.size = 159 := by kernel_rfl

/-- the list, as the row of layer 5 has it -/
def theLaid : List (String × DataW Unit) := [("errors.errorType", Rows.laid_errors_errorType)]
theorem err_of {W : World} (h : laidMetH Tryd.prog theLaid W) : ErrVar W := by
  have h' : laidMet Tryd.prog [] W ∧ handlesMet Tryd.prog [("errors.errorType", Rows.laid_errors_errorType)] W := h
  obtain ⟨name, u, ty, e1, e2, e3, e4, e5⟩ := h'.2 _ (List.mem_singleton.2 rfl)
  have en : name = [101, 114, 114, 111, 114] := (Option.some.inj e1).symm
  subst en
  obtain rfl := Option.some.inj (rtNum.symm.trans e2)
  have hm : ty ∈ (List.range 159).filter fun t => Tryd.prog.rowNamed t [101, 114, 114, 111, 114] := List.mem_filter.2 ⟨List.mem_range.2 (by rw [← typesSize]; exact e3), e4⟩
  rw [oneRow] at hm
  obtain rfl := List.mem_singleton.1 hm
  have hh : typeHandle Tryd.prog 35 = .pointer (some ⟨2, 35, none⟩) := by kernel_rfl
  rw [hh] at e5
  have := World.var?_cell gEt e5 0
  simpa [ErrVar] using this
/-- A world for the witness: the settled one, with the variable laid. -/
noncomputable def laidWorld (os : Os) : World :=
  let w0 := World.holding Tryd.prog os ⟨#[], #[], []⟩
  { w0 with heap := w0.heap.modify 0 fun
      | .cells _ t frozen => .cells #[.iface 112 (.agg #[.pointer (some ⟨2, 35, none⟩)])] t frozen
      | o => o }
set_option maxRecDepth 100000 in
theorem laid_met (os : Os) (args : Array Value) : laidMetH Tryd.prog theLaid ((laidWorld os).forCall (fun _ _ => 0) ⟨#[], args, []⟩).memory :=
  laidMetH_of_parts (laidMet_of_run' 8 (by kernel_rfl) (by kernel_rfl)) (by kernel_rfl)
end Go.Proofs.YtannfhbocfghkaaDoor.LawR
/- The closed facts of the row of envJoins, one by one, and all of them. -/
namespace Go.Proofs.YtannfhbocfghkaaDoor.envJoins
open Go.ChangeShapes Go.WideShapes Go.ChangeAt Go.RowKit
set_option maxRecDepth 100000 in
theorem fact0 : (Rows.envJoinsUptoRow.wf (OpenSpec.ofChange (Rows.OpenSpec.upto Rows.envJoinsSpec).bare)) = true := by kernel_rfl
set_option maxRecDepth 100000 in
theorem fact1 : (laidOutB Tryd.pinned.checked.prog) = true := by kernel_rfl
set_option maxRecDepth 100000 in
theorem fact2 : (mapsRowed Tryd.pinned.checked.prog) = true := by kernel_rfl
set_option maxRecDepth 100000 in
theorem fact3 : (Tryd.f3.params.all (Tryd.pinned.checked.prog.readableRec ·)) = true := by kernel_rfl
set_option maxRecDepth 100000 in
theorem fact4 : (namedTie Tryd.pinned.checked.prog Rows.envJoinsUptoRow.named (Rows.OpenSpec.upto Rows.envJoinsSpec).bare.vars) = true := by kernel_rfl
set_option maxRecDepth 100000 in
theorem fact5 : ((Rows.envJoinsUptoRow.stops == [])) = true := by kernel_rfl
set_option maxRecDepth 100000 in
theorem fact6 : ((Tryd.pinned.checked.prog.stops == [])) = true := by kernel_rfl
set_option maxRecDepth 100000 in
theorem fact7 : ((Rows.envJoinsUptoRow.knobs == [])) = true := by kernel_rfl
set_option maxRecDepth 100000 in
theorem fact8 : ((Tryd.pinned.checked.prog.stopKnobs == [])) = true := by kernel_rfl
set_option maxRecDepth 100000 in
theorem fact9 : ((Rows.envJoinsUptoRow.inPlace == Tryd.pinned.checked.prog.inPlace 3)) = true := by kernel_rfl
set_option maxRecDepth 100000 in
theorem fact10 : ((Rows.envJoinsUptoRow.unfollowed == Tryd.pinned.checked.prog.unfollowed 3)) = true := by kernel_rfl
set_option maxRecDepth 100000 in
theorem fact11 : ((Rows.envJoinsUptoRow.recurses == Tryd.pinned.checked.prog.recurses 3)) = true := by kernel_rfl
set_option maxRecDepth 100000 in
theorem fact12 : ((Rows.envJoinsUptoRow.named == Tryd.pinned.checked.prog.varsNamed 3)) = true := by kernel_rfl
set_option maxRecDepth 100000 in
theorem fact13 : ((Rows.envJoinsUptoRow.maps == (Tryd.f3.params.toList ++ (Rows.OpenSpec.upto Rows.envJoinsSpec).bare.plain.varTypes Tryd.pinned.checked.prog).any (Tryd.pinned.checked.prog.mapsRec ·))) = true := by kernel_rfl
set_option maxRecDepth 100000 in
theorem fact14 : ((Rows.envJoinsUptoRow.ifaces == (Tryd.f3.params.toList ++ (Rows.OpenSpec.upto Rows.envJoinsSpec).bare.plain.varTypes Tryd.pinned.checked.prog).any (Tryd.pinned.checked.prog.ifacesRec ·))) = true := by kernel_rfl
set_option maxRecDepth 100000 in
theorem fact15 : ((Rows.envJoinsUptoRow.mapsOut == Tryd.pinned.checked.prog.mapsAmong Tryd.f3.resultTypes.toList)) = true := by kernel_rfl
set_option maxRecDepth 100000 in
theorem fact16 : ((Rows.envJoinsUptoRow.loops == (Tryd.f3.params.toList ++ (Rows.OpenSpec.upto Rows.envJoinsSpec).bare.plain.varTypes Tryd.pinned.checked.prog).any (Tryd.pinned.checked.prog.loopsFrom ·))) = true := by kernel_rfl
set_option maxRecDepth 100000 in
theorem fact17 : ((Rows.envJoinsUptoRow.wideKeys == (Tryd.f3.params.toList ++ (Rows.OpenSpec.upto Rows.envJoinsSpec).bare.plain.varTypes Tryd.pinned.checked.prog ++ Tryd.f3.resultTypes.toList).any (Tryd.pinned.checked.prog.wideKeysFrom ·))) = true := by kernel_rfl
set_option maxRecDepth 100000 in
theorem fact18 : ((Rows.OpenSpec.upto Rows.envJoinsSpec).bare.vars.all (Tryd.pinned.checked.prog.varReadable ·)) = true := by kernel_rfl
set_option maxRecDepth 100000 in
theorem fact19 : (Tryd.f3.resultTypes.all (fun t => Tryd.pinned.checked.prog.readableRec t && decide (t < Tryd.pinned.checked.prog.types.size))) = true := by kernel_rfl
set_option maxRecDepth 100000 in
theorem fact20 : ((Rows.envJoinsUptoRow.ifacesOut == Tryd.f3.resultTypes.toList.any (Tryd.pinned.checked.prog.ifacesRec ·))) = true := by kernel_rfl
set_option maxRecDepth 100000 in
theorem fact21 : ((Rows.envJoinsUptoRow.loopsOut == Tryd.f3.resultTypes.toList.any (Tryd.pinned.checked.prog.loopsFrom ·))) = true := by kernel_rfl
set_option maxRecDepth 100000 in
theorem fact22 : ((Rows.envJoinsUptoRow.plainKeys == Tryd.pinned.checked.prog.plainKeys)) = true := by kernel_rfl
set_option maxRecDepth 100000 in
theorem fact23 : (Rows.envJoinsUptoRow.shortTexts.isNone) = true := by kernel_rfl
set_option maxRecDepth 100000 in
theorem fact24 : (Tryd.pinned.checked.prog.stopsHeard) = true := by kernel_rfl
set_option maxRecDepth 100000 in
theorem fact25 : (Tryd.pinned.checked.prog.mayEnter) = true := by kernel_rfl
set_option maxRecDepth 100000 in
theorem fact26 : ((Rows.envJoinsUptoRow.lifted == Tryd.pinned.checked.prog.liftsFinal)) = true := by kernel_rfl
set_option maxRecDepth 100000 in
theorem fact27 : ((Tryd.pinned.checked.prog.make == some Rows.envJoinsUptoRow.make)) = true := by kernel_rfl
set_option maxRecDepth 100000 in
theorem fact28 : ((Rows.envJoinsUptoRow.kinds == (if Rows.envJoinsUptoRow.domain.isEmpty then [] else Tryd.f3.params.toList.map fun t => match Tryd.pinned.checked.prog.underlying t with | some (.int k) => some k | _ => none))) = true := by kernel_rfl
set_option maxRecDepth 100000 in
theorem fact29 : ((Rows.envJoinsUptoRow.pinned == Rows.envJoinsUptoRow.pinnedBy)) = true := by kernel_rfl
set_option maxRecDepth 100000 in
theorem fact30 : ((Rows.envJoinsUptoRow.veiled == (Tryd.f3.params.toList ++ (Rows.OpenSpec.upto Rows.envJoinsSpec).bare.plain.varTypes Tryd.pinned.checked.prog ++ Tryd.f3.resultTypes.toList).any (Tryd.pinned.checked.prog.veiledRec ·))) = true := by kernel_rfl
set_option maxRecDepth 100000 in
theorem fact31 : (Rows.envJoinsUptoRow.veiledFits Tryd.pinned.checked.prog Tryd.f3.params.toList (Tryd.f3.params.toList ++ (Rows.OpenSpec.upto Rows.envJoinsSpec).bare.plain.varTypes Tryd.pinned.checked.prog ++ Tryd.f3.resultTypes.toList)) = true := by kernel_rfl
set_option maxRecDepth 100000 in
theorem closed : joinedFacts Tryd.pinned.checked.prog 3 Tryd.f3 (Rows.OpenSpec.upto Rows.envJoinsSpec).bare Rows.envJoinsUptoRow = true := by
  unfold joinedFacts
  simp only [Bool.and_eq_true]
  refine ⟨?_, fact31⟩
  refine ⟨?_, fact30⟩
  refine ⟨?_, fact29⟩
  refine ⟨?_, fact28⟩
  refine ⟨?_, fact27⟩
  refine ⟨?_, fact26⟩
  refine ⟨?_, fact25⟩
  refine ⟨?_, fact24⟩
  refine ⟨?_, fact23⟩
  refine ⟨?_, fact22⟩
  refine ⟨?_, fact21⟩
  refine ⟨?_, fact20⟩
  refine ⟨?_, fact19⟩
  refine ⟨?_, fact18⟩
  refine ⟨?_, fact17⟩
  refine ⟨?_, fact16⟩
  refine ⟨?_, fact15⟩
  refine ⟨?_, fact14⟩
  refine ⟨?_, fact13⟩
  refine ⟨?_, fact12⟩
  refine ⟨?_, fact11⟩
  refine ⟨?_, fact10⟩
  refine ⟨?_, fact9⟩
  refine ⟨?_, fact8⟩
  refine ⟨?_, fact7⟩
  refine ⟨?_, fact6⟩
  refine ⟨?_, fact5⟩
  refine ⟨?_, fact4⟩
  refine ⟨?_, fact3⟩
  refine ⟨?_, fact2⟩
  refine ⟨?_, fact1⟩
  exact fact0
end Go.Proofs.YtannfhbocfghkaaDoor.envJoins

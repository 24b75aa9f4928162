/- Texts joined: EnvZR, EnvW. -/
import Derived.Test.YtannfhbocfghkaaJ10
import Derived.Test.YtannfhbocfghkaaJ11
import Derived.Test.YtannfhbocfghkaaJ12
import Derived.Test.YtannfhbocfghkaaJ01
import Derived.Test.YtannfhbocfghkaaRows
import Derived.OpenShut
import Derived.Deep.Slices
import Derived.WideShapes
/- The contract of the statement EnvLeast: it returns true, whatever the environments, the place and the mode (of bulk at most 1048576 together). -/
namespace Go.Proofs.Ytannfhbocfghkaa.EnvC
open Go Go.RowKit Go.Lib Go.Sort Go.Proofs.Ytannfhbocfghkaa.EnvP

theorem both_symm {a b : List Bd} (h : both a b = true) : both b a = true := by
  rw [both_parts] at h ⊢
  simp only [Bool.and_eq_true, beq_iff_eq] at h ⊢
  exact ⟨⟨⟨h.1.1.2, h.1.1.1⟩, h.1.2.symm⟩, by rw [← zip_symm]; exact h.2⟩
theorem wBds_join : ∀ a b j : List Bd, JoinsE a b j → wBds j ≤ wBds a + wBds b
  | [], [], [], _ => Nat.zero_le _
  | a :: x, b :: y, j :: z, h => by
    rw [JoinsE] at h
    have h1 := join_w _ _ _ h.2.1
    have h2 := wBds_join x y z h.2.2
    have h3 : j.name.size = a.name.size := congrArg List.length h.1
    rw [wBds, wBds, wBds]
    unfold wBd
    omega
  | [], [], _ :: _, h => by simp [JoinsE] at h
  | [], _ :: _, _, h => by simp [JoinsE] at h
  | _ :: _, [], _, h => by simp [JoinsE] at h
  | _ :: _, _ :: _, [], h => by simp [JoinsE] at h
theorem bd_w {e : List Bd} {i : Nat} {x : Bd} (h : e[i]? = some x) : wT x.ty ≤ wBds e := by
  have := mem_sum wBd (List.mem_of_getElem? h)
  rw [← wBds_sum] at this
  unfold wBd at this
  omega

set_option maxHeartbeats 8000000 in
set_option maxRecDepth 100000 in
theorem envLeast_any (a b c : List Bd) (p : Pl) (wt : Bool) (v u z : Value) (w : World) (ha : EnvIn w v a) (hb : EnvIn w u b) (hc : EnvIn w z c) (hp : p.In w) (hw : wBds a + wBds b + wBds c + wPl p ≤ 1048576) :
    Calls Try.prog 4 #[v, u, z, p.val, .bool wt] w fun r w' => r = .returned (.bool true) ∧ Below w.heap.size w w' := by
  have hps : p.steps.length ≤ 1048576 := by unfold wPl at hw; omega
  obtain ⟨sa, la⟩ := small_all (e := a) (by omega)
  obtain ⟨sb, lb⟩ := small_all (e := b) (by omega)
  obtain ⟨sc, lc⟩ := small_all (e := c) (by omega)
  have c1 := hid (fun (W : World) (k : Below w.heap.size w W) => rSize_any a v W (ha.keep (Keeps.of_below k)) (by omega))
  have c2 := hid (fun (W : World) (k : Below w.heap.size w W) => rSize_any b u W (hb.keep (Keeps.of_below k)) (by omega))
  have c3 := hid (fun (W : World) (k : Below w.heap.size w W) => rSize_any c z W (hc.keep (Keeps.of_below k)) (by omega))
  have c4 := hid (fun (W : World) (k : Below w.heap.size w W) => joinEnv_any a b v u W (ha.keep (Keeps.of_below k)) (hb.keep (Keeps.of_below k)) sa sb la lb (fun i x y hx hy => by have := bd_w hx; have := bd_w hy; omega))
  have c5 := hid (fun (W : World) (k : Below w.heap.size w W) => joinEnv_any b a u v W (hb.keep (Keeps.of_below k)) (ha.keep (Keeps.of_below k)) sb sa lb la (fun i x y hx hy => by have := bd_w hx; have := bd_w hy; omega))
  have c6 := hid (fun (W : World) (k : Below w.heap.size w W) => less_any a c v z W (ha.keep (Keeps.of_below k)) (hc.keep (Keeps.of_below k)) sa sc la lc)
  have c7 := hid (fun (W : World) (k : Below w.heap.size w W) => less_any b c u z W (hb.keep (Keeps.of_below k)) (hc.keep (Keeps.of_below k)) sb sc lb lc)
  have HE := hid (And.intro ha (And.intro hb hc))
  have HS := hid (And.intro (And.intro sa la) (And.intro (And.intro sb lb) (And.intro sc lc)))
  have HW := hid hw
  have HP := hid (And.intro hp hps)
  obtain ⟨pp, pq, _, ep⟩ : ∃ pp pq, p.steps.length ≤ pq ∧ p.sv = .slice pp p.steps.length pq := lies_slice hp
  obtain ⟨pv, psv, pst⟩ := p
  dsimp only at ep hps
  subst ep
  clear ha hb hc hp hw sa sb sc la lb lc
  change Calls _ _ #[v, u, z, .agg #[.string pv, .slice pp pst.length pq], .bool wt] _ _
  have B0 : Below w.heap.size w (w.alloc (.cells #[.string pv, .slice pp pst.length pq] 25 (0, 0))) := (Below.refl _ _).alloc (Nat.le_refl _) _
  have X0 : BoxAt (w.alloc (.cells #[.string pv, .slice pp pst.length pq] 25 (0, 0))) w.heap.size [.string pv, .slice pp pst.length pq] := BoxAt.new w _ _
  have C0 := hid (awake_any (w.alloc (.cells #[.string pv, .slice pp pst.length pq] 25 (0, 0))))
  have H0 := hid B0
  have HX := hid X0
  clear B0 X0
  go_enter Try.func4, Try.ntmps4
  go_wp2_with fail
  generalize World.alloc w _ = W1 at *
  refine C0.out.mono ?_
  rintro e0 W2 ⟨rfl, hb2⟩
  have H2 := hid (H0.out.trans (hb2.mono H0.out.size))
  have X2 := hid (HX.out.later hb2)
  have D1 := hid (c1.out W2 H2.out)
  clear hb2 C0 H0 HX c1
  go_wp2_with fail
  refine D1.out.mono ?_
  rintro e0 W3 ⟨⟨n, rfl⟩, hb3⟩
  have H3 := hid (H2.out.trans (hb3.mono H2.out.size))
  have X3 := hid (X2.out.later hb3)
  clear hb3 D1 H2 X2
  by_cases h400 : 400 < n
  · have d0 : decide (400 < n) = true := by simp [h400]
    go_wp2_with fail
    go_ret
    exact ⟨rfl, H3.out⟩
  have d0 : decide (400 < n) = false := by simp [h400]
  have D2 := hid (c2.out W3 H3.out)
  go_wp2_with fail
  refine D2.out.mono ?_
  rintro e0 W4 ⟨⟨n2, rfl⟩, hb4⟩
  have H4 := hid (H3.out.trans (hb4.mono H3.out.size))
  have X4 := hid (X3.out.later hb4)
  clear hb4 D2 H3 X3 c2 d0
  by_cases h4002 : 400 < n2
  · have d0 : decide (400 < n2) = true := by simp [h4002]
    go_wp2_with fail
    go_ret
    exact ⟨rfl, H4.out⟩
  have d0 : decide (400 < n2) = false := by simp [h4002]
  have D3 := hid (c3.out W4 H4.out)
  go_wp2_with fail
  refine D3.out.mono ?_
  rintro e0 W5 ⟨⟨n3, rfl⟩, hb5⟩
  have H5 := hid (H4.out.trans (hb5.mono H4.out.size))
  have X5 := hid (X4.out.later hb5)
  clear hb5 D3 H4 X4 c3 d0
  by_cases h4003 : 400 < n3
  · have d0 : decide (400 < n3) = true := by simp [h4003]
    go_wp2_with fail
    go_ret
    exact ⟨rfl, H5.out⟩
  have d0 : decide (400 < n3) = false := by simp [h4003]
  have x1 := box_get X5.out (j := 1) rfl
  have HPL : Hid (pst.length ≤ 1048576) := hid hps
  by_cases h4004 : 400 < pst.length
  · have d1 : decide ((400 : Int) < (pst.length : Int)) = true := by simp; omega
    go_wp2_with fail
    go_ret
    exact ⟨rfl, H5.out⟩
  have d1 : decide ((400 : Int) < (pst.length : Int)) = false := by simp; omega
  have D4 := hid (c4.out W5 H5.out)
  go_wp2_with fail
  refine D4.out.mono ?_
  clear D4 c4 d0 d1 x1
  rintro e0 W6 ⟨hb6, ⟨hboth, vo, j, rfl, hj, hJ⟩ | ⟨hboth, rfl⟩⟩
  rotate_left
  · have H6 := hid (H5.out.trans (hb6.mono H5.out.size))
    clear hb6 hboth
    go_wp2_with fail
    go_ret
    exact ⟨rfl, H6.out⟩
  have H6 := hid (H5.out.trans (hb6.mono H5.out.size))
  have X6 := hid (X5.out.later hb6)
  have HJ := hid (And.intro hj (And.intro hJ hboth))
  have D5 := hid (c5.out W6 H6.out)
  clear hb6 hj hJ hboth H5 X5 c5
  go_wp2_with fail
  refine D5.out.mono ?_
  clear D5
  rintro e0 W7 ⟨hb7, ⟨hboth', vk, k, rfl, hk, hK⟩ | ⟨hboth', rfl⟩⟩
  rotate_left
  · rw [both_symm HJ.out.2.2] at hboth'
    cases hboth'
  have H7 := hid (H6.out.trans (hb7.mono H6.out.size))
  have X7 := hid (X6.out.later hb7)
  have wj : wBds j ≤ 1048576 := by have := wBds_join a b j HJ.out.2.1; have := HW.out; omega
  have wk : wBds k ≤ 1048576 := by have := wBds_join b a k hK; have := HW.out; omega
  obtain ⟨sj, lj⟩ := small_all wj
  obtain ⟨sk, lk⟩ := small_all wk
  obtain ⟨_, j2, j3, j4, j5, j6⟩ := joinE_all HJ.out.2.1 HJ.out.2.2
  have hj7 : EnvIn W7 vo j := HJ.out.1.keep (Keeps.of_below hb7)
  have K0 : ∀ W, Below W7.heap.size W7 W → Keeps w W := fun W k => Keeps.of_below (H7.out.trans (k.mono H7.out.size))
  have KA : ∀ W, Below W7.heap.size W7 W → EnvIn W v a := fun W q => HE.out.1.keep (K0 W q)
  have KB : ∀ W, Below W7.heap.size W7 W → EnvIn W u b := fun W q => HE.out.2.1.keep (K0 W q)
  have KC : ∀ W, Below W7.heap.size W7 W → EnvIn W z c := fun W q => HE.out.2.2.keep (K0 W q)
  have KJ : ∀ W, Below W7.heap.size W7 W → EnvIn W vo j := fun W q => hj7.keep (Keeps.of_below q)
  have KP : ∀ W, Below W7.heap.size W7 W → Pl.In W ⟨pv, .slice pp pst.length pq, pst⟩ := fun W q => HP.out.1.keep (K0 W q)
  have e1 : ∀ W, Below W7.heap.size W7 W → Calls Try.prog 14 #[vo, vk] W fun r w' => r = .returned (.bool true) ∧ Below W.heap.size W w' := fun W q => by
    have := rSame_any j k vo vk W (KJ W q) (hk.keep (Keeps.of_below q)) sj sk lj lk
    rwa [j6 k hK] at this
  have e2 : ∀ W, Below W7.heap.size W7 W → Calls Try.prog 15 #[v, vo] W fun r w' => r = .returned (.bool true) ∧ Below W.heap.size W w' := fun W q => by
    have := less_any a j v vo W (KA W q) (KJ W q) HS.out.1.1 sj HS.out.1.2 lj
    rwa [j2] at this
  have e3 : ∀ W, Below W7.heap.size W7 W → Calls Try.prog 15 #[u, vo] W fun r w' => r = .returned (.bool true) ∧ Below W.heap.size W w' := fun W q => by
    have := less_any b j u vo W (KB W q) (KJ W q) HS.out.2.1.1 sj HS.out.2.1.2 lj
    rwa [j3] at this
  have e4 := fun W q => less_any j c vo z W (KJ W q) (KC W q) sj HS.out.2.2.1 lj HS.out.2.2.2
  have e5 := fun (W : World) (q : Below W7.heap.size W7 W) (d : Nat) (os : Array Obj) => Calls.regrown_of (hit_any j ⟨pv, .slice pp pst.length pq, pst⟩ wt vo (grow (redrawn W d) os) ((KJ W q).keep (regKeeps (Below.refl _ W) d os)) sj lj ((KP W q).keep (regKeeps (Below.refl _ W) d os)) hps)
  have e6 := fun (W : World) (q : Below W7.heap.size W7 W) (d : Nat) (os : Array Obj) => Calls.regrown_of (hit_any a ⟨pv, .slice pp pst.length pq, pst⟩ wt v (grow (redrawn W d) os) ((KA W q).keep (regKeeps (Below.refl _ W) d os)) HS.out.1.1 HS.out.1.2 ((KP W q).keep (regKeeps (Below.refl _ W) d os)) hps)
  have e7 := fun (W : World) (q : Below W7.heap.size W7 W) (d : Nat) (os : Array Obj) => Calls.regrown_of (hit_any b ⟨pv, .slice pp pst.length pq, pst⟩ wt u (grow (redrawn W d) os) ((KB W q).keep (regKeeps (Below.refl _ W) d os)) HS.out.2.1.1 HS.out.2.1.2 ((KP W q).keep (regKeeps (Below.refl _ W) d os)) hps)
  change ∀ W, Below W7.heap.size W7 W → ∀ d os, Calls _ _ #[vo, .agg #[.string pv, .slice pp pst.length pq], .bool wt] _ _ at e5
  change ∀ W, Below W7.heap.size W7 W → ∀ d os, Calls _ _ #[v, .agg #[.string pv, .slice pp pst.length pq], .bool wt] _ _ at e6
  change ∀ W, Below W7.heap.size W7 W → ∀ d os, Calls _ _ #[u, .agg #[.string pv, .slice pp pst.length pq], .bool wt] _ _ at e7
  have q6 := c6.out
  have q7 := c7.out
  rw [j5 ⟨pv, .slice pp pst.length pq, pst⟩ wt] at e5
  have j4c := j4 c
  generalize hit a ⟨pv, .slice pp pst.length pq, pst⟩ wt = ra at *
  generalize hit b ⟨pv, .slice pp pst.length pq, pst⟩ wt = rb at *
  generalize less a c = r1 at *
  generalize less b c = r2 at *
  generalize less j c = r3 at *
  have E1 := hid e1
  have E2 := hid e2
  have E3 := hid e3
  have E4 := hid e4
  have E5 := hid e5
  have E6 := hid e6
  have E7 := hid e7
  have Q6 := hid q6
  have Q7 := hid q7
  have J4 := hid j4c
  clear e1 e2 e3 e4 e5 e6 e7 q6 q7 j4c c6 c7 KA KB KC KJ KP K0 hj7 j2 j3 j4 j5 j6 sj sk lj lk wj wk hk hK hb7 hboth' HJ HE HS HP H6 X6 HW
  have D1 := hid (E1.out W7 (Below.refl _ _))
  go_wp2_with fail
  refine D1.out.mono ?_
  clear D1 E1
  rintro e0 W8 ⟨rfl, hb8⟩
  have B8 := hid hb8
  have D2 := hid (E2.out W8 B8.out)
  clear hb8 E2
  go_wp2_with fail
  refine D2.out.mono ?_
  clear D2
  rintro e0 W9 ⟨rfl, hb9⟩
  have B9 := hid (B8.out.trans (hb9.mono B8.out.size))
  have D3 := hid (E3.out W9 B9.out)
  clear hb9 E3 B8
  go_wp2_with fail
  refine D3.out.mono ?_
  clear D3
  rintro e0 W10 ⟨rfl, hb10⟩
  have B10 := hid (B9.out.trans (hb10.mono B9.out.size))
  have D4 := hid (Q6.out W10 (H7.out.trans (B10.out.mono H7.out.size)))
  clear hb10 B9 Q6
  go_wp2_with fail
  refine D4.out.mono ?_
  clear D4
  rintro e0 W11 ⟨rfl, hb11⟩
  have B11 := hid (B10.out.trans (hb11.mono B10.out.size))
  clear hb11 B10
  rcases hr1 : r1 with _ | _
  rotate_left
  · subst hr1
    have D5 := hid (Q7.out W11 (H7.out.trans (B11.out.mono H7.out.size)))
    clear Q7
    go_wp2_with fail
    refine D5.out.mono ?_
    clear D5
    rintro e0 W12 ⟨rfl, hb12⟩
    have B12 := hid (B11.out.trans (hb12.mono B11.out.size))
    clear hb12 B11
    rcases hr2 : r2 with _ | _
    rotate_left
    · subst hr2
      have hr3 : r3 = true := by
        have h := J4.out
        first | exact h rfl rfl | exact h trivial rfl | (simp at h; exact h)
      subst hr3
      have D6 := hid (E4.out W12 B12.out)
      clear E4 J4
      go_wp2_with fail
      refine D6.out.mono ?_
      clear D6
      rintro e0 WF ⟨rfl, hb13⟩
      have BF := hid (B12.out.trans (hb13.mono B12.out.size))
      have XF := hid (X7.out.later BF.out)
      have EE := hid (And.intro (E5.out WF BF.out) (And.intro (E6.out WF BF.out) (E7.out WF BF.out)))
      clear hb13 B12 E5 E6 E7
      have k0 := cell_regrown (box_get XF.out (j := 0) rfl)
      have k1 := cell_regrown (box_get XF.out (j := 1) rfl)
      have GF := hid (H7.out.trans (BF.out.mono H7.out.size))
      clear XF BF
      cases ra
      all_goals
        go_wp2_with fail
        refine wp_region_quiet_below (by kernel_rfl) (by kernel_rfl) ?_
        repeat (go_big_quiet_step (first | (with_reducible exact EE.out.1 _ _) | (with_reducible exact EE.out.2.1 _ _) | (with_reducible exact EE.out.2.2 _ _)))
        refine wpQuiet_nil ?_
        intro _ hw'
        obtain ⟨⟨dq, osq⟩, hw''⟩ := hw'
        subst hw''
        go_wp2_with fail
        go_ret
        exact ⟨by first | rfl | (simp; done), GF.out.trans ((below_regrown WF dq osq).mono GF.out.size)⟩
    · subst hr2
      generalize W12 = WF at *
      have BF := B12
      have XF := hid (X7.out.later BF.out)
      have EE := hid (And.intro (E5.out WF BF.out) (And.intro (E6.out WF BF.out) (E7.out WF BF.out)))
      clear B12 E4 E5 E6 E7 J4
      have k0 := cell_regrown (box_get XF.out (j := 0) rfl)
      have k1 := cell_regrown (box_get XF.out (j := 1) rfl)
      have GF := hid (H7.out.trans (BF.out.mono H7.out.size))
      clear XF BF
      cases ra
      all_goals
        go_wp2_with fail
        refine wp_region_quiet_below (by kernel_rfl) (by kernel_rfl) ?_
        repeat (go_big_quiet_step (first | (with_reducible exact EE.out.1 _ _) | (with_reducible exact EE.out.2.1 _ _) | (with_reducible exact EE.out.2.2 _ _)))
        refine wpQuiet_nil ?_
        intro _ hw'
        obtain ⟨⟨dq, osq⟩, hw''⟩ := hw'
        subst hw''
        go_wp2_with fail
        go_ret
        exact ⟨by first | rfl | (simp; done), GF.out.trans ((below_regrown WF dq osq).mono GF.out.size)⟩
  · subst hr1
    generalize W11 = WF at *
    have BF := B11
    have XF := hid (X7.out.later BF.out)
    have EE := hid (And.intro (E5.out WF BF.out) (And.intro (E6.out WF BF.out) (E7.out WF BF.out)))
    clear B11 E4 E5 E6 E7 J4 Q7
    have k0 := cell_regrown (box_get XF.out (j := 0) rfl)
    have k1 := cell_regrown (box_get XF.out (j := 1) rfl)
    have GF := hid (H7.out.trans (BF.out.mono H7.out.size))
    clear XF BF
    cases ra
    all_goals
      go_wp2_with fail
      refine wp_region_quiet_below (by kernel_rfl) (by kernel_rfl) ?_
      repeat (go_big_quiet_step (first | (with_reducible exact EE.out.1 _ _) | (with_reducible exact EE.out.2.1 _ _) | (with_reducible exact EE.out.2.2 _ _)))
      refine wpQuiet_nil ?_
      intro _ hw'
      obtain ⟨⟨dq, osq⟩, hw''⟩ := hw'
      subst hw''
      go_wp2_with fail
      go_ret
      exact ⟨by first | rfl | (simp; done), GF.out.trans ((below_regrown WF dq osq).mono GF.out.size)⟩
end Go.Proofs.Ytannfhbocfghkaa.EnvC
/- An argument read as data: the loan, the environment that it is, how it lies in memory, and that it weighs at most the data's bulk. -/
namespace Go.Proofs.Ytannfhbocfghkaa.EnvO
open Go Go.RowKit Go.ChangeShapes Go.WideShapes Go.Proofs.Ytannfhbocfghkaa.EnvP

theorem list_of {α : Type} {p : Nat → α → Prop} : ∀ n : Nat, (∀ i, i < n → ∃ x, p i x) → ∃ l : List α, l.length = n ∧ ∀ (i : Nat) (a : α), l[i]? = some a → p i a
  | 0, _ => ⟨[], rfl, fun i a h => by simp at h⟩
  | n + 1, h => by
    obtain ⟨l, hl, hp⟩ := list_of n fun i hi => h i (by omega)
    obtain ⟨x, hx⟩ := h n (by omega)
    refine ⟨l ++ [x], by simp [hl], fun i a hi => ?_⟩
    by_cases h1 : i < l.length
    · rw [List.getElem?_append_left h1] at hi
      exact hp i a hi
    · rw [List.getElem?_append_right (by omega)] at hi
      have hlt : i - l.length < [x].length := (List.getElem?_eq_some_iff.1 hi).1
      have e : i = n := by simp at hlt; omega
      subst e
      simp [hl] at hi
      subst hi
      exact hx
theorem sum_bulk {H α : Type} (wt : α → Nat) : ∀ (l : List α) (es : List (DataW H)), l.length = es.length → (∀ (i : Nat) (a : α) (y : DataW H), l[i]? = some a → es[i]? = some y → wt a ≤ Rows.uptoBulk y) → (l.map wt).sum ≤ Rows.uptoBulkAll es
  | [], [], _, _ => by simp
  | a :: l, y :: es, hl, h => by
    have h0 := h 0 a y rfl rfl
    have := sum_bulk wt l es (by simpa using hl) fun i b z hb hz => h (i + 1) b z (by simpa using hb) (by simpa using hz)
    simp only [List.map_cons, List.sum_cons, Rows.uptoBulkAll]
    omega
  | [], y :: es, hl, _ => by simp at hl
  | a :: l, [], hl, _ => by simp at hl

section
variable {H : Type} {enc : TypeId × Value → H} {w : World} {base : Nat} {sp : Nat → Bool} {hd : Bool}

theorem open_rows {α : Type} {P : Program} (cells : α → List Value) (Q : α → Prop) (wt : α → Nat) {t e : TypeId} {size n : Nat} {cs : List Value} {x : DataW H × List MemPlace}
    (ht : P.underlying t = some (.slice e)) (hc : P.cellsOf e = size) (hs : 0 < size)
    (ih : ∀ m, m < n → ∀ cs' y, DataW.trod enc P w base sp hd m e cs' = some y → ∃ a, cs' = cells a ∧ Q a ∧ wt a ≤ Rows.uptoBulk y.1)
    (h : DataW.trod enc P w base sp hd n t cs = some x) :
    ∃ (v : Value) (l : List α), cs = [v] ∧ Lies w size v (l.map cells) ∧ (∀ a ∈ l, Q a) ∧ 1 + (l.map wt).sum ≤ Rows.uptoBulk x.1 := by
  rcases DataW.trod_slice ht h with ⟨rfl, rfl⟩ | ⟨a, len, cap, elems, rest, m, rfl, rfl, rfl, hb, hl, hm, hlen, hel, _, _⟩
  · exact ⟨_, [], rfl, ⟨none, 0, rfl, by simp, fun h => absurd rfl h⟩, by simp, by simp [Rows.uptoBulk]⟩
  · have key : ∀ i, i < len → ∃ A : α, ∃ y, elems[i]? = some y ∧ w.cells? base (a.add (i * size)) size = some (cells A) ∧ Q A ∧ wt A ≤ Rows.uptoBulk y.1 := by
      intro i hi
      have h1 := hel i hi
      rw [hc, List.getElem?_eq_getElem (by omega)] at h1
      obtain ⟨cs', h2, h3⟩ := Option.bind_eq_some_iff.1 h1
      obtain ⟨A, rfl, hq, hw⟩ := ih m (by omega) cs' _ h3
      exact ⟨A, _, List.getElem?_eq_getElem _, h2, hq, hw⟩
    obtain ⟨l, hll, hp⟩ := list_of len key
    refine ⟨_, l, rfl, ⟨some a, cap, by simp [hll], by simp [hll]; omega, fun hne => ?_⟩, fun A hA => ?_, ?_⟩
    · obtain ⟨b, off, spot⟩ := a
      have hpos : 0 < l.length := by
        cases l with
        | nil => exact absurd rfl hne
        | cons _ _ => simp
      obtain ⟨A0, hA0⟩ : ∃ A0, l[0]? = some A0 := ⟨_, List.getElem?_eq_getElem hpos⟩
      obtain ⟨y, _, h2, _, _⟩ := hp 0 A0 hA0
      obtain ⟨_, hlen0, hcell⟩ := World.cells?_some h2
      have g0 := hcell 0 hs
      obtain ⟨c0, hc0⟩ : ∃ c0, (cells A0)[0]? = some c0 := ⟨_, List.getElem?_eq_getElem (by omega)⟩
      rw [hc0] at g0
      have hspot : spot = none := by simpa [Addr.add] using World.cell?_spot g0
      subst hspot
      refine ⟨b, off, rfl, fun i c hi j u hj => ?_⟩
      rw [List.getElem?_map] at hi
      obtain ⟨A, hA, rfl⟩ := Option.map_eq_some_iff.1 hi
      obtain ⟨y, _, h2, _, _⟩ := hp i A hA
      obtain ⟨_, hlenA, hcell⟩ := World.cells?_some h2
      have hjlt : j < size := by rw [← hlenA]; exact (List.getElem?_eq_some_iff.1 hj).1
      have := hcell j hjlt
      rw [WideShapes.add_plain, WideShapes.add_plain, hj] at this
      exact this
    · obtain ⟨i, hi, rfl⟩ := List.getElem_of_mem hA
      obtain ⟨y, _, _, hq, _⟩ := hp i _ (List.getElem?_eq_getElem hi)
      exact hq
    · have := sum_bulk (H := H) wt l (elems.map (·.1)) (by simp [hll, hlen]) fun i A y hA hy => by
        obtain ⟨z, hz, _, _, hwz⟩ := hp i A hA
        rw [List.getElem?_map, hz] at hy
        simp at hy
        subst hy
        exact hwz
      simp only [Rows.uptoBulk]
      omega

theorem size_toList (s : ByteArray) : s.data.toList.length = s.size := by rw [Array.length_toList]; rfl

theorem field {P : Program} {m : Nat} {fs : Array Field} {cs : List Value} {xs : List (DataW H × List MemPlace)} (hf : ∀ (i : Nat) (f : Field), fs[i]? = some f → DataW.trod enc P w base sp hd m f.type ((cs.drop f.offset).take (P.cellsOf f.type)) = xs[i]?)
    (i t o n : Nat) (h : (fs[i]?).map (fun f => (f.type, f.offset)) = some (t, o)) (hc : P.cellsOf t = n) : DataW.trod enc P w base sp hd m t ((cs.drop o).take n) = xs[i]? := by
  obtain ⟨f, h1, h2⟩ := Option.map_eq_some_iff.1 h
  have := hf i f h1
  simp only [Prod.mk.injEq] at h2
  obtain ⟨rfl, rfl⟩ := h2
  rw [hc] at this
  exact this
theorem c_int : Try.prog.cellsOf 3 = 1 := by kernel_rfl
theorem c_string : Try.prog.cellsOf 9 = 1 := by kernel_rfl
theorem c_bool : Try.prog.cellsOf 4 = 1 := by kernel_rfl
theorem c_ty : Try.prog.cellsOf 43 = 5 := by kernel_rfl
theorem c_loan : Try.prog.cellsOf 27 = 4 := by kernel_rfl
theorem c_place : Try.prog.cellsOf 25 = 2 := by kernel_rfl
theorem c_bind : Try.prog.cellsOf 45 = 6 := by kernel_rfl
theorem c_ints : Try.prog.cellsOf 23 = 1 := by kernel_rfl
theorem c_tys : Try.prog.cellsOf 41 = 1 := by kernel_rfl
theorem c_loans : Try.prog.cellsOf 40 = 1 := by kernel_rfl

theorem sum_ones {α : Type} : ∀ l : List α, (l.map fun _ => 1).sum = l.length
  | [] => rfl
  | x :: l => by rw [List.map_cons, List.sum_cons, sum_ones l, List.length_cons]; omega
theorem open_pl (n : Nat) (cs : List Value) (x : DataW H × List MemPlace) (h : DataW.trod enc Try.prog w base sp hd n 25 cs = some x) : ∃ T : Pl, cs = T.cells ∧ T.In w ∧ wPl T ≤ Rows.uptoBulk x.1 := by
  obtain ⟨xs, m, rfl, rfl, hlen, hxs, hf⟩ := DataW.trod_struct Try.underlying25 h
  rw [c_place] at hlen
  have f0 := field hf 0 9 0 1 rfl c_string
  have f1 := field hf 1 23 1 1 rfl c_ints
  clear hf h
  obtain ⟨x0, x1, rfl⟩ : ∃ a b, xs = [a, b] := by
    match xs, hxs with
    | [a, b], _ => exact ⟨a, b, rfl⟩
  obtain ⟨c0, c1, rfl⟩ : ∃ a b, cs = [a, b] := by
    match cs, hlen with
    | [a, b], _ => exact ⟨a, b, rfl⟩
  obtain ⟨s, e0, r0, _⟩ := DataW.trod_string Try.underlying9 f0
  obtain ⟨v, l, e1, hlies, _, hw⟩ := open_rows (α := Int) stCells (fun _ => True) (fun _ => 1) Try.underlying23 c_int (by decide) (fun j _ cs' y hy => by
    obtain ⟨k, rfl, e, _⟩ := DataW.trod_int Try.underlying3 hy
    exact ⟨k, rfl, trivial, by rw [e]; simp only [Rows.uptoBulk]; omega⟩) f1
  simp at e0 e1
  subst e0; subst e1; subst r0
  refine ⟨⟨s, c1, l⟩, rfl, hlies, ?_⟩
  rw [sum_ones] at hw
  simp only [wPl, List.map_cons, List.map_nil, Rows.uptoBulk, Rows.uptoBulkAll, size_toList]
  omega

theorem open_ln (n : Nat) (cs : List Value) (x : DataW H × List MemPlace) (h : DataW.trod enc Try.prog w base sp hd n 27 cs = some x) : ∃ T : Ln, cs = T.cells ∧ T.pl.In w ∧ wLn T ≤ Rows.uptoBulk x.1 := by
  obtain ⟨xs, m, rfl, rfl, hlen, hxs, hf⟩ := DataW.trod_struct Try.underlying27 h
  rw [c_loan] at hlen
  have f0 := field hf 0 9 0 1 rfl c_string
  have f1 := field hf 1 25 1 2 rfl c_place
  have f2 := field hf 2 4 3 1 rfl c_bool
  clear hf h
  obtain ⟨x0, x1, x2, rfl⟩ : ∃ a b c, xs = [a, b, c] := by
    match xs, hxs with
    | [a, b, c], _ => exact ⟨a, b, c, rfl⟩
  obtain ⟨c0, c1, c2, c3, rfl⟩ : ∃ a b c d, cs = [a, b, c, d] := by
    match cs, hlen with
    | [a, b, c, d], _ => exact ⟨a, b, c, d, rfl⟩
  obtain ⟨s, e0, r0, _⟩ := DataW.trod_string Try.underlying9 f0
  obtain ⟨p, e1, hpin, hpw⟩ := open_pl _ _ _ f1
  obtain ⟨b, e2, r2⟩ := DataW.trod_bool Try.underlying4 f2
  obtain ⟨pv, ps, pt⟩ := p
  simp [Pl.cells] at e0 e1 e2
  obtain ⟨rfl, rfl⟩ := e1
  subst e0; subst e2; subst r0; subst r2
  refine ⟨⟨s, ⟨pv, c2, pt⟩, b⟩, rfl, hpin, ?_⟩
  simp only [wLn, List.map_cons, List.map_nil, Rows.uptoBulk, Rows.uptoBulkAll, size_toList]
  omega

theorem open_ty (n : Nat) : ∀ (cs : List Value) (x : DataW H × List MemPlace), DataW.trod enc Try.prog w base sp hd n 43 cs = some x → ∃ T : ETy, cs = T.cells ∧ T.In w ∧ wT T ≤ Rows.uptoBulk x.1 := by
  induction n using Nat.strongRecOn with
  | ind n ih =>
  intro cs x h
  obtain ⟨xs, m, rfl, rfl, hlen, hxs, hf⟩ := DataW.trod_struct Try.underlying43 h
  rw [c_ty] at hlen
  have f0 := field hf 0 3 0 1 rfl c_int
  have f1 := field hf 1 4 1 1 rfl c_bool
  have f2 := field hf 2 4 2 1 rfl c_bool
  have f3 := field hf 3 40 3 1 rfl c_loans
  have f4 := field hf 4 41 4 1 rfl c_tys
  clear hf h
  obtain ⟨x0, x1, x2, x3, x4, rfl⟩ : ∃ a b c d e, xs = [a, b, c, d, e] := by
    match xs, hxs with
    | [a, b, c, d, e], _ => exact ⟨a, b, c, d, e, rfl⟩
  obtain ⟨c0, c1, c2, c3, c4, rfl⟩ : ∃ a b c d e, cs = [a, b, c, d, e] := by
    match cs, hlen with
    | [a, b, c, d, e], _ => exact ⟨a, b, c, d, e, rfl⟩
  obtain ⟨k, e0, r0, _⟩ := DataW.trod_int Try.underlying3 f0
  obtain ⟨b1, e1, r1⟩ := DataW.trod_bool Try.underlying4 f1
  obtain ⟨b2, e2, r2⟩ := DataW.trod_bool Try.underlying4 f2
  obtain ⟨v3, l3, e3, hlies3, hq3, hw3⟩ := open_rows Ln.cells (fun l : Ln => l.pl.In w) wLn Try.underlying40 c_loan (by decide) (fun j _ => open_ln j) f3
  obtain ⟨v4, l4, e4, hlies4, hq4, hw4⟩ := open_rows ETy.cells (ETy.In w) wT Try.underlying41 c_ty (by decide) (fun j hj => ih j (by omega)) f4
  simp at e0 e1 e2 e3 e4
  subst e0; subst e1; subst e2; subst e3; subst e4; subst r0; subst r1; subst r2
  refine ⟨.mk k b1 b2 c3 l3 c4 l4, rfl, ?_, ?_⟩
  · rw [ETy.In, ETy.ins_iff]
    exact ⟨hlies3, hq3, hlies4, hq4⟩
  · simp only [wT, wTs_sum, wLns_sum, List.map_cons, List.map_nil, Rows.uptoBulk, Rows.uptoBulkAll]
    omega

theorem open_bd (n : Nat) (cs : List Value) (x : DataW H × List MemPlace) (h : DataW.trod enc Try.prog w base sp hd n 45 cs = some x) : ∃ T : Bd, cs = T.cells ∧ T.ty.In w ∧ wBd T ≤ Rows.uptoBulk x.1 := by
  obtain ⟨xs, m, rfl, rfl, hlen, hxs, hf⟩ := DataW.trod_struct Try.underlying45 h
  rw [c_bind] at hlen
  have f0 := field hf 0 9 0 1 rfl c_string
  have f1 := field hf 1 43 1 5 rfl c_ty
  clear hf h
  obtain ⟨x0, x1, rfl⟩ : ∃ a b, xs = [a, b] := by
    match xs, hxs with
    | [a, b], _ => exact ⟨a, b, rfl⟩
  obtain ⟨c0, c1, c2, c3, c4, c5, rfl⟩ : ∃ a b c d e f, cs = [a, b, c, d, e, f] := by
    match cs, hlen with
    | [a, b, c, d, e, f], _ => exact ⟨a, b, c, d, e, f, rfl⟩
  obtain ⟨s, e0, r0, _⟩ := DataW.trod_string Try.underlying9 f0
  obtain ⟨p, e1, hpin, hpw⟩ := open_ty _ _ _ f1
  obtain ⟨k, m1, m2, v1, l1, v2, l2⟩ := p
  simp [ETy.cells] at e0 e1
  obtain ⟨rfl, rfl, rfl, rfl, rfl⟩ := e1
  subst e0; subst r0
  refine ⟨⟨s, .mk k m1 m2 c4 l1 c5 l2⟩, rfl, hpin, ?_⟩
  simp only [wBd, List.map_cons, List.map_nil, Rows.uptoBulk, Rows.uptoBulkAll, size_toList]
  omega

set_option maxRecDepth 100000 in
theorem open_env {r : Reach} {b0 : Nat} {v : Value} {d : DataW H} {ps : List MemPlace} (hval : Value.okWide Try.prog w r b0 22 v) (h : DataW.Trod enc Try.prog w base sp hd 22 v d ps) :
    ∃ e, EnvIn w v e ∧ 1 + wBds e ≤ Rows.uptoBulk d := by
  obtain ⟨a, len, cap, rfl⟩ := okWide_slice Try.underlying22 hval
  obtain ⟨n, hn⟩ := h
  obtain ⟨u, l, e, hlies, hq, hw⟩ := open_rows Bd.cells (fun b : Bd => b.ty.In w) wBd Try.underlying22 c_bind (by decide) (fun j _ => open_bd j) hn
  simp [Value.cells] at e
  subst e
  exact ⟨l, ⟨hlies, hq⟩, by rw [wBds_sum]; exact hw⟩
set_option maxRecDepth 100000 in
theorem open_loan {r : Reach} {b0 : Nat} {v : Value} {d : DataW H} {ps : List MemPlace} (hval : Value.okWide Try.prog w r b0 27 v) (h : DataW.Trod enc Try.prog w base sp hd 27 v d ps) :
    ∃ t : Ln, v = t.val ∧ t.pl.In w ∧ wLn t ≤ Rows.uptoBulk d := by
  obtain ⟨cs, rfl, _⟩ := okWide_struct Try.underlying27 hval
  obtain ⟨n, hn⟩ := h
  obtain ⟨T, e, hin, hw⟩ := open_ln n _ _ hn
  simp [Value.cells] at e
  exact ⟨T, by rw [Ln.val, ← e], hin, hw⟩
set_option maxRecDepth 100000 in
theorem open_place {r : Reach} {b0 : Nat} {v : Value} {d : DataW H} {ps : List MemPlace} (hval : Value.okWide Try.prog w r b0 25 v) (h : DataW.Trod enc Try.prog w base sp hd 25 v d ps) :
    ∃ t : Pl, v = t.val ∧ t.In w ∧ wPl t ≤ Rows.uptoBulk d := by
  obtain ⟨cs, rfl, _⟩ := okWide_struct Try.underlying25 hval
  obtain ⟨n, hn⟩ := h
  obtain ⟨T, e, hin, hw⟩ := open_pl n _ _ hn
  simp [Value.cells] at e
  exact ⟨T, by rw [Pl.val, ← e], hin, hw⟩
end
end Go.Proofs.Ytannfhbocfghkaa.EnvO

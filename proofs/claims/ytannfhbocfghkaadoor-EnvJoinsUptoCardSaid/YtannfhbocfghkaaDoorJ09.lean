/- Texts joined: EnvE, EnvJ, EnvN. -/
import Derived.Test.YtannfhbocfghkaaDoorJ02
import Derived.Test.YtannfhbocfghkaaDoorJ04
import Derived.Test.YtannfhbocfghkaaDoorJ05
/- Contract of (env.part).right. -/
namespace Go.Proofs.YtannfhbocfghkaaDoor.EnvC
open Go Go.RowKit Go.Lib Go.Sort Go.Proofs.YtannfhbocfghkaaDoor.EnvP

set_option maxHeartbeats 8000000 in
set_option maxRecDepth 100000 in
theorem right_any (b o : Nat) (i : Bool) (t : ETy) (w : World) (h : TyAt w b o t) (hs : Small t) :
    Calls Tryd.prog 21 #[.agg #[.pointer (some ⟨b, o, none⟩), .bool i]] w fun r w' => r = .returned (.bool (okPart i t)) ∧ Below w.heap.size w w' := by
  have hl := hs.loans
  obtain ⟨k, m, g, lv, ls, kv, kids⟩ := t
  have h2 := h.2
  rw [ETy.In] at h2
  have c1 := fun (W : World) (hb : Below w.heap.size w W) => rightLoans_any ls lv W (h2.1.keep (Keeps.of_below hb)) (fun x hx => (h2.2.1 x hx).keep (Keeps.of_below hb)) hl.2 hl.1
  obtain ⟨p, c, hc, rfl⟩ := lies_slice h2.1
  obtain ⟨q, d, hd, rfl⟩ := lies_slice h2.2.2.1
  have hx := h.1
  have B0 : Below w.heap.size w (w.alloc (.cells #[.pointer (some ⟨b, o, none⟩), .bool i] 53 (0, 0))) := (Below.refl _ _).alloc (Nat.le_refl _) _
  have y0 := later B0 (hx 0 (.int .i64 k) rfl)
  have y1 := later B0 (hx 1 (.bool m) rfl)
  have y2 := later B0 (hx 2 (.bool g) rfl)
  have y3 := later B0 (hx 3 (.slice p ls.length c) rfl)
  have y4 := later B0 (hx 4 (.slice q kids.length d) rfl)
  rw [Nat.add_zero] at y0
  obtain ⟨R, hR⟩ : ∃ R, okPart i (.mk k m g (.slice p ls.length c) ls (.slice q kids.length d) kids) = R := ⟨_, rfl⟩
  rw [hR]
  rw [okPart] at hR
  have C1 := hid (c1 _ B0)
  have H0 := hid B0
  clear h h2 hl hs c1 hx B0
  generalize rightLns ls = rl at *
  generalize ls.length = L at *
  generalize kids.length = N at *
  by_cases hK4 : k = 4
  · subst hK4
    cases i
    case true =>
      have HN : Hid (R = false) := hid (hR.symm.trans (by first | rfl | simp []))
      clear hR
      go_enter Tryd.func21, Tryd.ntmps21
      go_wp2_with fail
      go_ret
      exact ⟨ret_bool (by first | (rw [HN.out]; done) | (rw [HN.out]; simp; done) | (rw [HN.out, Bool.eq_iff_iff]; simp; omega)), H0.out⟩
    cases m
    case true =>
      have HN : Hid (R = (rl && N == 1)) := hid (hR.symm.trans (by first | rfl | simp []))
      clear hR
      go_enter Tryd.func21, Tryd.ntmps21
      go_wp2_with fail
      with_reducible refine C1.out.mono ?_
      rintro e W ⟨rfl, hb⟩
      have y4 := later hb y4
      have H1 := hid (H0.out.trans (hb.mono H0.out.size))
      clear hb C1 y0 y1 y2 y3
      cases rl
      all_goals go_wp2_with fail
      all_goals go_ret
      all_goals exact ⟨ret_bool (by first | (rw [HN.out]; done) | (rw [HN.out]; simp; done) | (rw [HN.out, Bool.eq_iff_iff]; simp; omega)), H1.out⟩
    cases g
    case true =>
      have HN : Hid (R = false) := hid (hR.symm.trans (by first | rfl | simp []))
      clear hR
      go_enter Tryd.func21, Tryd.ntmps21
      go_wp2_with fail
      go_ret
      exact ⟨ret_bool (by first | (rw [HN.out]; done) | (rw [HN.out]; simp; done) | (rw [HN.out, Bool.eq_iff_iff]; simp; omega)), H0.out⟩
    case false =>
      have HN : Hid (R = (rl && N == 1)) := hid (hR.symm.trans (by first | rfl | simp []))
      clear hR
      go_enter Tryd.func21, Tryd.ntmps21
      go_wp2_with fail
      with_reducible refine C1.out.mono ?_
      rintro e W ⟨rfl, hb⟩
      have y4 := later hb y4
      have H1 := hid (H0.out.trans (hb.mono H0.out.size))
      clear hb C1 y0 y1 y2 y3
      cases rl
      all_goals go_wp2_with fail
      all_goals go_ret
      all_goals exact ⟨ret_bool (by first | (rw [HN.out]; done) | (rw [HN.out]; simp; done) | (rw [HN.out, Bool.eq_iff_iff]; simp; omega)), H1.out⟩
  have h4 : (k == 4) = false := by simp [hK4]
  cases i
  case true =>
    cases g
    case true =>
      have HN : Hid (R = false) := hid (hR.symm.trans (by first | rfl | simp [h4]))
      clear hK4
      clear hR
      go_enter Tryd.func21, Tryd.ntmps21
      go_wp2_with fail
      go_ret
      exact ⟨ret_bool (by first | (rw [HN.out]; done) | (rw [HN.out]; simp; done) | (rw [HN.out, Bool.eq_iff_iff]; simp; omega)), H0.out⟩
    by_cases k1 : k = 1
    · subst k1
      cases m
      case true =>
        have HN : Hid (R = false) := hid (hR.symm.trans (by first | rfl | simp []))
        clear hR
        go_enter Tryd.func21, Tryd.ntmps21
        go_wp2_with fail
        go_ret
        exact ⟨ret_bool (by first | (rw [HN.out]; done) | (rw [HN.out]; simp; done) | (rw [HN.out, Bool.eq_iff_iff]; simp; omega)), H0.out⟩
      by_cases hL : L = 0
      · subst hL
        by_cases hN : N = 0
        · subst hN
          have HN : Hid (R = true) := hid (hR.symm.trans (by first | rfl | simp []))
          clear hR
          go_enter Tryd.func21, Tryd.ntmps21
          go_wp2_with fail
          go_ret
          exact ⟨ret_bool (by first | (rw [HN.out]; done) | (rw [HN.out]; simp; done) | (rw [HN.out, Bool.eq_iff_iff]; simp; omega)), H0.out⟩
        · have hne : ((N : Int) == 0) = false := by simp; omega
          have HN : Hid (R = false) := hid (hR.symm.trans (by first | rfl | simp [hN]))
          clear hN
          clear hR
          go_enter Tryd.func21, Tryd.ntmps21
          go_wp2_with fail
          go_ret
          exact ⟨ret_bool (by first | (rw [HN.out]; done) | (rw [HN.out]; simp; done) | (rw [HN.out, Bool.eq_iff_iff]; simp; omega)), H0.out⟩
      · have hne : ((L : Int) == 0) = false := by simp; omega
        have HN : Hid (R = false) := hid (hR.symm.trans (by first | rfl | simp [hL]))
        clear hL
        clear hR
        go_enter Tryd.func21, Tryd.ntmps21
        go_wp2_with fail
        go_ret
        exact ⟨ret_bool (by first | (rw [HN.out]; done) | (rw [HN.out]; simp; done) | (rw [HN.out, Bool.eq_iff_iff]; simp; omega)), H0.out⟩
    have e1 : (k == 1) = false := by simp [k1]
    by_cases k2 : k = 2
    · subst k2
      cases m
      case true =>
        have HN : Hid (R = false) := hid (hR.symm.trans (by first | rfl | simp []))
        clear hR
        go_enter Tryd.func21, Tryd.ntmps21
        go_wp2_with fail
        go_ret
        exact ⟨ret_bool (by first | (rw [HN.out]; done) | (rw [HN.out]; simp; done) | (rw [HN.out, Bool.eq_iff_iff]; simp; omega)), H0.out⟩
      by_cases hL : L = 0
      · subst hL
        by_cases hN : N = 1
        · subst hN
          have HN : Hid (R = true) := hid (hR.symm.trans (by first | rfl | simp []))
          clear hR
          go_enter Tryd.func21, Tryd.ntmps21
          go_wp2_with fail
          go_ret
          exact ⟨ret_bool (by first | (rw [HN.out]; done) | (rw [HN.out]; simp; done) | (rw [HN.out, Bool.eq_iff_iff]; simp; omega)), H0.out⟩
        · have hne : ((N : Int) == 1) = false := by simp; omega
          have HN : Hid (R = false) := hid (hR.symm.trans (by first | rfl | simp [hN]))
          clear hN
          clear hR
          go_enter Tryd.func21, Tryd.ntmps21
          go_wp2_with fail
          go_ret
          exact ⟨ret_bool (by first | (rw [HN.out]; done) | (rw [HN.out]; simp; done) | (rw [HN.out, Bool.eq_iff_iff]; simp; omega)), H0.out⟩
      · have hne : ((L : Int) == 0) = false := by simp; omega
        have HN : Hid (R = false) := hid (hR.symm.trans (by first | rfl | simp [hL]))
        clear hL
        clear hR
        go_enter Tryd.func21, Tryd.ntmps21
        go_wp2_with fail
        go_ret
        exact ⟨ret_bool (by first | (rw [HN.out]; done) | (rw [HN.out]; simp; done) | (rw [HN.out, Bool.eq_iff_iff]; simp; omega)), H0.out⟩
    have e2 : (k == 2) = false := by simp [k2]
    by_cases k3 : k = 3
    · subst k3
      cases m
      case true =>
        have HN : Hid (R = false) := hid (hR.symm.trans (by first | rfl | simp []))
        clear hR
        go_enter Tryd.func21, Tryd.ntmps21
        go_wp2_with fail
        go_ret
        exact ⟨ret_bool (by first | (rw [HN.out]; done) | (rw [HN.out]; simp; done) | (rw [HN.out, Bool.eq_iff_iff]; simp; omega)), H0.out⟩
      by_cases hL : L = 0
      · subst hL
        by_cases hN : 2 ≤ N
        · by_cases hM : N ≤ 30
          · have d1 : decide (2 ≤ N) = true := by simp [hN]
            have d2 : decide (N ≤ 30) = true := by simp [hM]
            have HN : Hid (R = true) := hid (hR.symm.trans (by first | rfl | simp [hN, hM]))
            clear hR
            go_enter Tryd.func21, Tryd.ntmps21
            go_wp2_with fail
            go_ret
            exact ⟨ret_bool (by first | (rw [HN.out]; done) | (rw [HN.out]; simp; done) | (rw [HN.out, Bool.eq_iff_iff]; simp; omega)), H0.out⟩
          · have d1 : decide (2 ≤ N) = true := by simp [hN]
            have d2 : decide (N ≤ 30) = false := by simp [hM]
            have HN : Hid (R = false) := hid (hR.symm.trans (by first | rfl | simp [hN, hM]))
            clear hR
            go_enter Tryd.func21, Tryd.ntmps21
            go_wp2_with fail
            go_ret
            exact ⟨ret_bool (by first | (rw [HN.out]; done) | (rw [HN.out]; simp; done) | (rw [HN.out, Bool.eq_iff_iff]; simp; omega)), H0.out⟩
        · have d1 : decide (2 ≤ N) = false := by simp [hN]
          have HN : Hid (R = false) := hid (hR.symm.trans (by first | rfl | simp [hN]))
          clear hR
          go_enter Tryd.func21, Tryd.ntmps21
          go_wp2_with fail
          go_ret
          exact ⟨ret_bool (by first | (rw [HN.out]; done) | (rw [HN.out]; simp; done) | (rw [HN.out, Bool.eq_iff_iff]; simp; omega)), H0.out⟩
      · have hne : ((L : Int) == 0) = false := by simp; omega
        have HN : Hid (R = false) := hid (hR.symm.trans (by first | rfl | simp [hL]))
        clear hL
        clear hR
        go_enter Tryd.func21, Tryd.ntmps21
        go_wp2_with fail
        go_ret
        exact ⟨ret_bool (by first | (rw [HN.out]; done) | (rw [HN.out]; simp; done) | (rw [HN.out, Bool.eq_iff_iff]; simp; omega)), H0.out⟩
    have e3 : (k == 3) = false := by simp [k3]
    have HN : Hid (R = false) := hid (hR.symm.trans (by first | rfl | simp [k1, k2, k3, hK4]))
    clear k1 k2 k3 hK4
    clear hR
    go_enter Tryd.func21, Tryd.ntmps21
    go_wp2_with fail
    go_ret
    exact ⟨ret_bool (by first | (rw [HN.out]; done) | (rw [HN.out]; simp; done) | (rw [HN.out, Bool.eq_iff_iff]; simp; omega)), H0.out⟩
  case false =>
    by_cases k1 : k = 1
    · subst k1
      cases m
      case true =>
        have HN : Hid (R = false) := hid (hR.symm.trans (by first | rfl | simp []))
        clear hR
        go_enter Tryd.func21, Tryd.ntmps21
        go_wp2_with fail
        go_ret
        exact ⟨ret_bool (by first | (rw [HN.out]; done) | (rw [HN.out]; simp; done) | (rw [HN.out, Bool.eq_iff_iff]; simp; omega)), H0.out⟩
      cases g
      case true =>
        have HN : Hid (R = false) := hid (hR.symm.trans (by first | rfl | simp []))
        clear hR
        go_enter Tryd.func21, Tryd.ntmps21
        go_wp2_with fail
        go_ret
        exact ⟨ret_bool (by first | (rw [HN.out]; done) | (rw [HN.out]; simp; done) | (rw [HN.out, Bool.eq_iff_iff]; simp; omega)), H0.out⟩
      by_cases hL : L = 0
      · subst hL
        by_cases hN : N = 0
        · subst hN
          have HN : Hid (R = true) := hid (hR.symm.trans (by first | rfl | simp []))
          clear hR
          go_enter Tryd.func21, Tryd.ntmps21
          go_wp2_with fail
          go_ret
          exact ⟨ret_bool (by first | (rw [HN.out]; done) | (rw [HN.out]; simp; done) | (rw [HN.out, Bool.eq_iff_iff]; simp; omega)), H0.out⟩
        · have hne : ((N : Int) == 0) = false := by simp; omega
          have HN : Hid (R = false) := hid (hR.symm.trans (by first | rfl | simp [hN]))
          clear hN
          clear hR
          go_enter Tryd.func21, Tryd.ntmps21
          go_wp2_with fail
          go_ret
          exact ⟨ret_bool (by first | (rw [HN.out]; done) | (rw [HN.out]; simp; done) | (rw [HN.out, Bool.eq_iff_iff]; simp; omega)), H0.out⟩
      · have hne : ((L : Int) == 0) = false := by simp; omega
        have HN : Hid (R = false) := hid (hR.symm.trans (by first | rfl | simp [hL]))
        clear hL
        clear hR
        go_enter Tryd.func21, Tryd.ntmps21
        go_wp2_with fail
        go_ret
        exact ⟨ret_bool (by first | (rw [HN.out]; done) | (rw [HN.out]; simp; done) | (rw [HN.out, Bool.eq_iff_iff]; simp; omega)), H0.out⟩
    have e1 : (k == 1) = false := by simp [k1]
    by_cases k2 : k = 2
    · subst k2
      cases m
      case true =>
        have HN : Hid (R = false) := hid (hR.symm.trans (by first | rfl | simp []))
        clear hR
        go_enter Tryd.func21, Tryd.ntmps21
        go_wp2_with fail
        go_ret
        exact ⟨ret_bool (by first | (rw [HN.out]; done) | (rw [HN.out]; simp; done) | (rw [HN.out, Bool.eq_iff_iff]; simp; omega)), H0.out⟩
      by_cases hL : L = 0
      · subst hL
        by_cases hN : N = 1
        · subst hN
          have HN : Hid (R = true) := hid (hR.symm.trans (by first | rfl | simp []))
          clear hR
          go_enter Tryd.func21, Tryd.ntmps21
          go_wp2_with fail
          go_ret
          exact ⟨ret_bool (by first | (rw [HN.out]; done) | (rw [HN.out]; simp; done) | (rw [HN.out, Bool.eq_iff_iff]; simp; omega)), H0.out⟩
        · have hne : ((N : Int) == 1) = false := by simp; omega
          have HN : Hid (R = false) := hid (hR.symm.trans (by first | rfl | simp [hN]))
          clear hN
          clear hR
          go_enter Tryd.func21, Tryd.ntmps21
          go_wp2_with fail
          go_ret
          exact ⟨ret_bool (by first | (rw [HN.out]; done) | (rw [HN.out]; simp; done) | (rw [HN.out, Bool.eq_iff_iff]; simp; omega)), H0.out⟩
      · have hne : ((L : Int) == 0) = false := by simp; omega
        have HN : Hid (R = false) := hid (hR.symm.trans (by first | rfl | simp [hL]))
        clear hL
        clear hR
        go_enter Tryd.func21, Tryd.ntmps21
        go_wp2_with fail
        go_ret
        exact ⟨ret_bool (by first | (rw [HN.out]; done) | (rw [HN.out]; simp; done) | (rw [HN.out, Bool.eq_iff_iff]; simp; omega)), H0.out⟩
    have e2 : (k == 2) = false := by simp [k2]
    by_cases k3 : k = 3
    · subst k3
      cases m
      case true =>
        have HN : Hid (R = false) := hid (hR.symm.trans (by first | rfl | simp []))
        clear hR
        go_enter Tryd.func21, Tryd.ntmps21
        go_wp2_with fail
        go_ret
        exact ⟨ret_bool (by first | (rw [HN.out]; done) | (rw [HN.out]; simp; done) | (rw [HN.out, Bool.eq_iff_iff]; simp; omega)), H0.out⟩
      cases g
      case true =>
        have HN : Hid (R = false) := hid (hR.symm.trans (by first | rfl | simp []))
        clear hR
        go_enter Tryd.func21, Tryd.ntmps21
        go_wp2_with fail
        go_ret
        exact ⟨ret_bool (by first | (rw [HN.out]; done) | (rw [HN.out]; simp; done) | (rw [HN.out, Bool.eq_iff_iff]; simp; omega)), H0.out⟩
      by_cases hL : L = 0
      · subst hL
        by_cases hN : 2 ≤ N
        · by_cases hM : N ≤ 30
          · have d1 : decide (2 ≤ N) = true := by simp [hN]
            have d2 : decide (N ≤ 30) = true := by simp [hM]
            have HN : Hid (R = true) := hid (hR.symm.trans (by first | rfl | simp [hN, hM]))
            clear hR
            go_enter Tryd.func21, Tryd.ntmps21
            go_wp2_with fail
            go_ret
            exact ⟨ret_bool (by first | (rw [HN.out]; done) | (rw [HN.out]; simp; done) | (rw [HN.out, Bool.eq_iff_iff]; simp; omega)), H0.out⟩
          · have d1 : decide (2 ≤ N) = true := by simp [hN]
            have d2 : decide (N ≤ 30) = false := by simp [hM]
            have HN : Hid (R = false) := hid (hR.symm.trans (by first | rfl | simp [hN, hM]))
            clear hR
            go_enter Tryd.func21, Tryd.ntmps21
            go_wp2_with fail
            go_ret
            exact ⟨ret_bool (by first | (rw [HN.out]; done) | (rw [HN.out]; simp; done) | (rw [HN.out, Bool.eq_iff_iff]; simp; omega)), H0.out⟩
        · have d1 : decide (2 ≤ N) = false := by simp [hN]
          have HN : Hid (R = false) := hid (hR.symm.trans (by first | rfl | simp [hN]))
          clear hR
          go_enter Tryd.func21, Tryd.ntmps21
          go_wp2_with fail
          go_ret
          exact ⟨ret_bool (by first | (rw [HN.out]; done) | (rw [HN.out]; simp; done) | (rw [HN.out, Bool.eq_iff_iff]; simp; omega)), H0.out⟩
      · have hne : ((L : Int) == 0) = false := by simp; omega
        have HN : Hid (R = false) := hid (hR.symm.trans (by first | rfl | simp [hL]))
        clear hL
        clear hR
        go_enter Tryd.func21, Tryd.ntmps21
        go_wp2_with fail
        go_ret
        exact ⟨ret_bool (by first | (rw [HN.out]; done) | (rw [HN.out]; simp; done) | (rw [HN.out, Bool.eq_iff_iff]; simp; omega)), H0.out⟩
    have e3 : (k == 3) = false := by simp [k3]
    have HN : Hid (R = false) := hid (hR.symm.trans (by first | rfl | simp [k1, k2, k3, hK4]))
    clear k1 k2 k3 hK4
    clear hR
    go_enter Tryd.func21, Tryd.ntmps21
    go_wp2_with fail
    go_ret
    exact ⟨ret_bool (by first | (rw [HN.out]; done) | (rw [HN.out]; simp; done) | (rw [HN.out, Bool.eq_iff_iff]; simp; omega)), H0.out⟩
end Go.Proofs.YtannfhbocfghkaaDoor.EnvC
/- Contract of env.Right. -/
namespace Go.Proofs.YtannfhbocfghkaaDoor.EnvC
open Go Go.RowKit Go.Shelf Go.Lib Go.Sort Go.Proofs.YtannfhbocfghkaaDoor.EnvP
attribute [local go_sem] Oper.semAt_some

theorem result_cell {fn : Func} {p : Tmp} {ty : TypeId} (h : fn.results = #[.cell p ty]) (tmps : Array Value) (P : Program) (w : World) (g : Nat) (t : TypeId) (v : Value) (d : TypeDesc) (hb : Boxed w g t v) (hp : tmps.getD p undef = .pointer (some ⟨g, 0, none⟩))
    (hu : P.underlying ty = some d) (hd : (match d with | .struct _ | .array _ _ => true | _ => false) = false) : (results fn tmps).run P w = .ok v w := by
  have hc := hb.cell
  have hagg : (isAgg ty).run P w = .ok false w := by
    unfold isAgg
    rw [Sem.run_bind, run_underlying hu w]
    cases d <;> simp_all
  have hp' : tmps[p]?.getD undef = .pointer (some ⟨g, 0, none⟩) := by rw [← hp]; simp
  simp only [results, h]
  simp [Sem.run_bind, hp', asAddr, loadVar, hagg, hc]

def right_one (b : Bd) : Bool := rightT b.ty
theorem bd_at {w : World} {e : List Bd} {v : Value} (h : EnvIn w v e) {i : Nat} {x : Bd} (hx : e[i]? = some x) (hs : Small x.ty) : ∃ b off cap, v = .slice (some ⟨b, off, none⟩) e.length cap ∧ e.length ≤ cap ∧ PtOk w ⟨b, off + i * 6 + 1, false, x.ty⟩ ∧ w.cell? ⟨b, off + i * 6, none⟩ = some (.string x.name) := by
  have hi : i < (e.map Bd.cells).length := by rw [List.length_map]; exact (List.getElem?_eq_some_iff.1 hx).1
  obtain ⟨b, off, cap, e1, e2, hc⟩ := Lies.at h.1 hi
  have hc := hc i x.cells (by rw [List.getElem?_map, hx]; rfl)
  rw [List.length_map] at e1 e2
  refine ⟨b, off, cap, e1, e2, ⟨⟨fun j u hj => ?_, h.2 x (List.mem_of_getElem? hx)⟩, hs⟩, ?_⟩
  · have := hc (1 + j) u (by unfold Bd.cells; rw [List.getElem?_append_right (by simp)]; simpa using hj)
    show w.cell? ⟨b, off + i * 6 + 1 + j, none⟩ = _
    rw [Nat.add_assoc]; exact this
  · exact hc 0 _ rfl

set_option maxHeartbeats 4000000 in
set_option maxRecDepth 100000 in
theorem rightEnv_any (e : List Bd) (v : Value) (w : World) (h : EnvIn w v e) (hs : ∀ b ∈ e, Small b.ty) (hlen : e.length ≤ 1048576) :
    Calls Tryd.prog 6 #[v] w fun r w' => r = .returned (.bool (right e)) ∧ Below w.heap.size w w' := by
  obtain ⟨p, cap, hcap, rfl⟩ := lies_slice h.1
  obtain ⟨R, hR⟩ : ∃ R, right e = R := ⟨_, rfl⟩
  rw [hR]
  generalize hL : e.length = L at *
  have HR := hid hR
  have HL := hid hL
  have HE := hid h
  have HS := hid hs
  clear hR hL h hs
  refine callsIn_wide (n := 12) |>.1 (callsIn_of_wp_marks Tryd.func6 rfl trivial ?_ rfl)
  simp only [Tryd.ntmps6, List.size_toArray, List.length_cons, List.length_nil, Nat.reduceAdd, Nat.reduceSub, Array.replicate_succ, Array.replicate_zero, List.push_toArray, List.append_toArray, List.nil_append, List.cons_append]
  gi_wp2
  have hb1 : Below w.heap.size w (w.alloc (.cells #[.bool false] 4 (0, 0))) := (Below.refl _ _).alloc (Nat.le_refl _) _
  have X1 := Boxed.new w 4 (.bool false)
  have S1 : (w.alloc (.cells #[.bool false] 4 (0, 0))).heap.size = w.heap.size + 1 := by simp
  change Boxed (w.alloc (.cells #[.bool false] 4 (0, 0))) _ _ _ at X1
  generalize World.alloc w _ = W1 at *
  have HB1 := hid hb1
  have HX1 := hid X1
  have HS1 := hid S1
  clear hb1 X1 S1
  refine wpIn_loop_ghost_k (fun gf a wr => ∃ (i : Nat) (ds : List Deferred) (u3 u4 u8 u9 u10 u11 u12 u13 u14 u15 u16 u17 u18 u19 : Value), a = { tmps := #[.slice p L cap, undef, .pointer (some ⟨w.heap.size, 0, none⟩), u3, u4, .slice p L cap, .int .i64 (L : Int), .int .i64 (i : Int), u8, u9, u10, u11, u12, u13, u14, u15, u16, u17, u18, u19], defers := ds } ∧
    i ≤ L ∧ L ≤ i + gf ∧ Hid (Marks (w.heap.size + 1) wr ds) ∧ Hid (Below w.heap.size w wr) ∧ Hid (Boxed wr w.heap.size 4 (.bool false)) ∧ Hid (((e.drop i).all right_one) = R)) L ⟨0, [], _, _, _, _, _, _, _, _, _, _, _, _, _, _, rfl, by omega, by omega, hid trivial, HB1, HX1, hid (by rw [List.drop_zero]; exact HR.out)⟩ ?_
  rintro gk a wr ⟨i, ds, u3, u4, u8, u9, u10, u11, u12, u13, u14, u15, u16, u17, u18, u19, rfl, hi, hg, HM, HB, HX, HI⟩ J K hJ hK
  clear HB1 HX1 HS1 HR
  by_cases hlt : i < L
  · obtain ⟨x, hx⟩ : ∃ x, e[i]? = some x := ⟨e[i]'(by rw [HL.out]; exact hlt), List.getElem?_eq_getElem _⟩
    obtain ⟨b, off, cap', ev, _, hok, _⟩ := bd_at HE.out hx (HS.out x (List.mem_of_getElem? hx))
    injection ev with e1 e2 e3
    subst e1
    have HA := hid (fun W => all_Pt ⟨b, off + i * 6 + 1, false, x.ty⟩ rfl W)
    have HOK := hid hok
    have HI2 : Hid ((rightT x.ty && (e.drop (i + 1)).all right_one) = R) := hid (by have := HI.out; rw [drop_cons hx, List.all_cons] at this; exact this)
    clear e2 e3 hok hx HI
    obtain ⟨rest, hrest⟩ : ∃ rest, (e.drop (i + 1)).all right_one = rest := ⟨_, rfl⟩
    rw [hrest] at HI2
    have HREST := hid hrest
    clear hrest
    gi_wp2
    refine ⟨trivial, callsIn_wide.2 ((HA.out wr).mono ?_)⟩
    rintro e1 W2 ⟨rfl, hb2, h1, h2, hsz⟩
    have HB2 := hid (HB.out.trans (hb2.mono HB.out.size))
    have HM2 := hid (HM.out.later hb2)
    have HX2 := hid (boxed_below HX.out hb2)
    have HD : Hid (∀ D, { target := .collected D, args := #[] } ∈ ds → D < W2.heap.size) := hid (fun D hm => HM2.out.lt D hm)
    have HS2 : Hid (w.heap.size < W2.heap.size) := hid HX2.out.lt
    clear hb2 HA HB HM HX
    gi_wp2
    refine range_of (n := 12) rfl (by omega) (gf := 56) rfl trivial (enters_of Tryd.func56 (by kernel_rfl) rfl)
      (walks_Pt 11 (by omega) ⟨b, off + i * 6 + 1, false, x.ty⟩ wr.heap.size (wr.heap.size + 1) W2 h1 h2 (Nat.le_trans (nT_le _) HOK.out.2)) (Below.refl _ _) rfl (fun A B x ks h hc => h.keep hc.keeps)
      (fun st W => Below W2.heap.size W2 W ∧ (∀ y ∈ st, PtOk w y) ∧ (stAll okPart st && rest) = R)
      (fun W => Below w.heap.size w W ∧ Marks (w.heap.size + 1) W ds ∧ Boxed W w.heap.size 4 (.bool false) ∧ W2.heap.size ≤ W.heap.size ∧ R = false)
      (fun st A B h k => ⟨h.1.trans (k.below h.1.size), h.2⟩)
      (fun A B h k => ⟨h.1.trans ((k.below h.2.2.2.1).mono (Nat.le_of_lt HS2.out)), k.marks h.2.1 HD.out, k.boxed h.2.2.1 HS2.out, Nat.le_trans h.2.2.2.1 k.size, h.2.2.2.2⟩)
      ⟨Below.refl _ _, fun y hy => by rw [List.mem_singleton] at hy; subst hy; exact HOK.out, by rw [← HI2.out]; unfold stAll; rw [List.all_cons, List.all_nil, Bool.and_true, right_all]⟩ ?round ?done ?stop
    case round =>
      rintro l y r W ⟨hB, hok, heq⟩
      have hoy := hok y List.mem_cons_self
      have hq := stAll_step okPart y r
      rw [hq] at heq
      have hoy1 := hoy.1
      have hok2 := stOk_step hok
      rw [show y.cells.toArray = #[.pointer (some ⟨y.b, y.o, none⟩), .bool y.ins] from rfl]
      have hbx : Below W.heap.size W (W.alloc (.cells #[.pointer (some ⟨y.b, y.o, none⟩), .bool y.ins] 53 (0, 0))) := (Below.refl _ _).alloc (Nat.le_refl _) _
      have hnew := World.alloc_heap_new W (.cells #[.pointer (some ⟨y.b, y.o, none⟩), .bool y.ins] 53 (0, 0))
      have HBX := hid hbx
      have HNEW := hid hnew
      have HB3 := hid hB
      have HY1 := hid hoy1
      have HY2 := hid hoy.2
      have HOK2 := hid hok2
      have HEQ := hid heq
      clear hbx hnew hB hoy hoy1 hok hok2 heq hq HI2
      gi_wp2
      refine ⟨Below.keepsFrom HBX.out _, (Below.cellsSame HBX.out).types, fun W4 hb4 hc4 => ?_⟩
      have hn4 := hc4 _ _ HNEW.out rfl
      have d0 : W4.cell? ⟨W.heap.size, 0, none⟩ = some (.pointer (some ⟨y.b, y.o, none⟩)) := by rw [Lib.cell_of_heap hn4]; rfl
      have d1 : W4.cell? ⟨W.heap.size, 1, none⟩ = some (.bool y.ins) := by rw [Lib.cell_of_heap hn4]; rfl
      have HC := hid (CallsIn.inRound l (callsIn_wide (n := 9) |>.2 (right_any y.b y.o y.ins y.t W4 (HY1.out.keep (Keeps.of_below (HB2.out.trans (((HB3.out.trans (HBX.out.mono HB3.out.size)).trans hb4).mono (Nat.le_of_lt HS2.out))))) HY2.out)))
      have HB4 := hid ((HB3.out.trans (HBX.out.mono HB3.out.size)).trans hb4)
      clear HBX HNEW HB3 hb4 hc4 hn4
      generalize okPart y.ins y.t = qq at *
      gi_wp2
      refine ⟨trivial, HC.out.mono ?_⟩
      rintro e5 W5 ⟨rfl, hb5⟩
      have HB5 := hid (HB4.out.trans (hb5.mono HB4.out.size))
      have hx5 := boxed_below HX2.out HB5.out
      have hc5 := hx5.cell
      have hf5 := hx5.frozen
      have HX5 := hid hx5
      have HK5 := hid hb5
      clear HC hb5 hx5 d0 d1
      cases qq
      · have HR : Hid (R = false) := hid (by rw [← HEQ.out]; rfl)
        gi_wp2
        refine ⟨(Below.keepsFrom HK5.out _).trans (KeepsFrom.of_grownBy (grownBy_setCell' W5 _ _) (fun j e => by cases e; exact HS2.out)), (HB2.out.trans (HB5.out.mono (Nat.le_of_lt HS2.out))).setCell (Nat.le_refl _) _, (HM2.out.later HB5.out).set _ _, HX5.out.set _, Nat.le_trans HB5.out.size (by simp [World.setCell]), HR.out⟩
      · gi_wp2
        refine ⟨Below.keepsFrom HK5.out _, (Below.cellsSame HK5.out).types, y.kids, ⟨?_, HY2.out, rfl⟩, HB5.out, HOK2.out, by have := HEQ.out; simpa using this⟩
        exact HY1.out.keep (Keeps.of_below (HB2.out.trans (HB5.out.mono (Nat.le_of_lt HS2.out))))
    case done =>
      rintro D W hD ⟨hB, _, heq⟩ hdef
      have HM3 := hid (Marks.push (HM2.out.later hB) HD.out hD (Nat.le_trans HS2.out hD) hdef)
      have HB3 := hid (HB2.out.trans (hB.mono (Nat.le_of_lt HS2.out)))
      have HX3 := hid (boxed_below HX2.out hB)
      have HI3 : Hid ((e.drop (i + 1)).all right_one = R) := hid (by rw [HREST.out, ← heq]; rfl)
      clear hB heq hdef HB2 HM2 HX2 HI2
      gi_wp2
      exact Handed.intro (gk - 1) (by omega) (hJ _ _ _ ⟨i + 1, _, _, _, _, _, _, _, _, _, _, _, _, _, _, _, rfl, by omega, by omega, HM3, HB3, HX3, HI3⟩)
    case stop =>
      rintro D W hD ⟨hB, hm, hx, hs, rfl⟩ hdef
      clear HB2 HM2 HX2 HI2
      gi_wp2
      exact leaves_marks (b := w.heap.size + 1) (by intro e; cases e) _ _ (Marks.push hm HD.out hD (Nat.le_trans HS2.out hD) hdef) fun w' hb hc => ⟨_, result_cell rfl _ _ _ _ _ _ _ (hc.boxed hx) rfl Tryd.underlying4 rfl, rfl, hB.trans (hb.mono (by omega))⟩
  · have HN : Hid (R = true) := hid (by rw [← HI.out, List.drop_eq_nil_of_le (by rw [HL.out]; omega)]; rfl)
    have hX := HX.out.cell
    have hF := HX.out.frozen
    clear HI HE HS HL
    gi_wp2
    exact leaves_marks (b := w.heap.size + 1) (by intro e; cases e) _ _ (HM.out.set _ _) fun w' hb hc => ⟨_, result_cell rfl _ _ _ _ _ _ _ (hc.boxed (HX.out.set _)) rfl Tryd.underlying4 rfl, by rw [HN.out], ((HB.out.setCell (Nat.le_refl _) _).trans (hb.mono (by omega)))⟩
end Go.Proofs.YtannfhbocfghkaaDoor.EnvC
/- The stack of pairs. Contract of env.Fits. -/
namespace Go.Proofs.YtannfhbocfghkaaDoor.EnvC
open Go Go.RowKit Go.Shelf Go.Lib Go.Sort Go.Proofs.YtannfhbocfghkaaDoor.EnvP
attribute [local go_sem] Oper.semAt_some

mutual
def allQ (q : ETy → ETy → Bool) : ETy → ETy → Bool
  | .mk k m g lv ls kv kids, .mk k' m' g' lv' ls' kv' kids' => q (.mk k m g lv ls kv kids) (.mk k' m' g' lv' ls' kv' kids') && allQs q kids kids'
def allQs (q : ETy → ETy → Bool) : List ETy → List ETy → Bool
  | t :: ts, u :: us => allQ q t u && allQs q ts us
  | _, _ => true
end
theorem allQs_all (q : ETy → ETy → Bool) : ∀ l m : List ETy, allQs q l m = (l.zip m).all fun p => allQ q p.1 p.2
  | [], m => by simp [allQs]
  | t :: ts, [] => by simp [allQs]
  | t :: ts, u :: us => by rw [allQs, List.zip_cons_cons, List.all_cons, allQs_all q ts us]
mutual
theorem fits_all : ∀ t u : ETy, allQ fitP t u = fitsT t u
  | .mk k m g lv ls kv kids, .mk k' m' g' lv' ls' kv' kids' => by
    rw [allQ, fitsT, fits_alls kids kids']; rfl
theorem fits_alls : ∀ l m : List ETy, allQs fitP l m = fitsTs l m
  | [], m => by simp [allQs, fitsTs]
  | t :: ts, [] => by simp [allQs, fitsTs]
  | t :: ts, u :: us => by rw [allQs, fitsTs, fits_all t u, fits_alls ts us]
end
mutual
theorem less_all : ∀ t u : ETy, allQ leP t u = lessT t u
  | .mk k m g lv ls kv kids, .mk k' m' g' lv' ls' kv' kids' => by
    rw [allQ, lessT, less_alls kids kids']
    show ((!g || g') && ls.all (has ls') && _) = _
    cases g <;> cases g' <;> cases ls.all (has ls') <;> cases lessTs kids kids' <;> rfl
theorem less_alls : ∀ l m : List ETy, allQs leP l m = lessTs l m
  | [], m => by simp [allQs, lessTs]
  | t :: ts, [] => by simp [allQs, lessTs]
  | t :: ts, u :: us => by rw [allQs, lessTs, less_all t u, less_alls ts us]
end
def stAll2 (q : ETy → ETy → Bool) (st : List Pr) : Bool := st.all fun x => allQ q x.t x.u
theorem stAll2_step (q : ETy → ETy → Bool) (x : Pr) (r : List Pr) : stAll2 q (x :: r) = (q x.t x.u && stAll2 q (x.kids ++ r)) := by
  unfold stAll2
  rw [List.all_cons, List.all_append]
  obtain ⟨b, o, ⟨k, m, g, lv, ls, kv, kids⟩, c, d, ⟨k', m', g', lv', ls', kv', kids'⟩⟩ := x
  have e := all_mapIdx (fun x : Pr => allQ q x.t x.u) (fun p : ETy × ETy => allQ q p.1 p.2) (kids.zip kids') (Pr.kid ⟨b, o, .mk k m g lv ls kv kids, c, d, .mk k' m' g' lv' ls' kv' kids'⟩) (fun _ _ => rfl)
  show (allQ q (.mk k m g lv ls kv kids) (.mk k' m' g' lv' ls' kv' kids') && _) = (q _ _ && (((kids.zip kids').mapIdx _).all _ && _))
  rw [e, allQ, allQs_all, Bool.and_assoc]
theorem tyAt_kid {w : World} {k : Int} {m g : Bool} {lv : Value} {ls : List Ln} {kv : Value} {kids : List ETy} (h : (ETy.mk k m g lv ls kv kids).In w) {j : Nat} {y : ETy} (hj : kids[j]? = some y) : TyAt w (kidAt kv j).1 (kidAt kv j).2 y := by
  rw [ETy.In] at h
  obtain ⟨b', off, cap, e, _, hx⟩ := Lies.at h.2.2.1 (i := j) (by rw [List.length_map]; exact (List.getElem?_eq_some_iff.1 hj).1)
  refine ⟨fun a u hu => ?_, (ETy.ins_iff w kids).1 h.2.2.2 _ (List.mem_of_getElem? hj)⟩
  have := hx j (ETy.cells y) (by rw [List.getElem?_map, hj]; rfl) a u hu
  rw [e]
  exact this
theorem mem_kids {x y : Pr} (h : y ∈ x.kids) : ∃ j t u, x.t.kids[j]? = some t ∧ x.u.kids[j]? = some u ∧ y = x.kid j (t, u) := by
  unfold Pr.kids at h
  obtain ⟨j, hj, rfl⟩ := List.mem_mapIdx.1 h
  rw [List.length_zip] at hj
  refine ⟨j, x.t.kids[j]'(by omega), x.u.kids[j]'(by omega), List.getElem?_eq_getElem _, List.getElem?_eq_getElem _, ?_⟩
  rw [List.getElem_zip]
theorem prOk_kids {w : World} {x : Pr} (h : PrOk w x) : ∀ y ∈ x.kids, PrOk w y := by
  intro y hy
  obtain ⟨j, t, u, ht, hu, rfl⟩ := mem_kids hy
  obtain ⟨b, o, ⟨k, m, g, lv, ls, kv, kids⟩, c, d, ⟨k', m', g', lv', ls', kv', kids'⟩⟩ := x
  exact ⟨tyAt_kid h.1.2 ht, tyAt_kid h.2.1.2 hu, h.2.2.1.kids.2 t (List.mem_of_getElem? ht), h.2.2.2.kids.2 u (List.mem_of_getElem? hu)⟩
theorem PrOk.keep {w w' : World} {x : Pr} (h : PrOk w x) (k : Keeps w w') : PrOk w' x := ⟨h.1.keep k, h.2.1.keep k, h.2.2⟩
theorem fitP_len {t u : ETy} (h : fitP t u = true) : t.kids.length = u.kids.length := by
  unfold fitP at h
  simp at h
  exact h.2

set_option maxHeartbeats 4000000 in
set_option maxRecDepth 100000 in
theorem fits_any (t u : ETy) (w : World) (ht : t.In w) (hu : u.In w) (hst : Small t) (hsu : Small u) :
    Calls Tryd.prog 10 #[.agg t.cells.toArray, .agg u.cells.toArray] w fun r w' => r = .returned (.bool (fitsT t u)) ∧ Below w.heap.size w w' := by
  obtain ⟨R, hR⟩ : ∃ R, fitsT t u = R := ⟨_, rfl⟩
  rw [hR]
  rw [← fits_all] at hR
  have hb1 : Below w.heap.size w ((w.alloc (.cells t.cells.toArray 31 (0, 0))).alloc (.cells u.cells.toArray 31 (0, 0))) := ((Below.refl _ _).alloc (Nat.le_refl _) _).alloc (by simp) _
  have X1 : BoxAt ((w.alloc (.cells t.cells.toArray 31 (0, 0))).alloc (.cells u.cells.toArray 31 (0, 0))) w.heap.size t.cells := (BoxAt.new w _ _).later ((Below.refl _ _).alloc (Nat.le_refl _) _)
  have X2 : BoxAt ((w.alloc (.cells t.cells.toArray 31 (0, 0))).alloc (.cells u.cells.toArray 31 (0, 0))) (w.heap.size + 1) u.cells := by
    have := BoxAt.new (w.alloc (.cells t.cells.toArray 31 (0, 0))) u.cells 31
    rwa [World.size_alloc] at this
  have hok : PrOk ((w.alloc (.cells t.cells.toArray 31 (0, 0))).alloc (.cells u.cells.toArray 31 (0, 0))) ⟨w.heap.size, 0, t, w.heap.size + 1, 0, u⟩ :=
    ⟨⟨fun j v h => by show World.cell? _ ⟨_, 0 + j, none⟩ = _; rw [Nat.zero_add]; exact X1 j v h, ETy.In.keep (Keeps.of_below hb1) t ht⟩, ⟨fun j v h => by show World.cell? _ ⟨_, 0 + j, none⟩ = _; rw [Nat.zero_add]; exact X2 j v h, ETy.In.keep (Keeps.of_below hb1) u hu⟩, hst, hsu⟩
  have hnt : nT t ≤ 1048576 := Nat.le_trans (nT_le _) hst
  have HR := hid hR
  have HOK := hid hok
  have HB1 := hid hb1
  have HS1 : Hid (((w.alloc (.cells t.cells.toArray 31 (0, 0))).alloc (.cells u.cells.toArray 31 (0, 0))).heap.size = w.heap.size + 2) := hid (by simp)
  clear hR hb1 X1 X2 hok ht hu hst hsu
  refine callsIn_wide (n := 12) |>.1 (callsIn_of_wp_marks Tryd.func10 rfl trivial ?_ rfl)
  simp only [Tryd.ntmps10, List.size_toArray, List.length_cons, List.length_nil, Nat.reduceAdd, Nat.reduceSub, Array.replicate_succ, Array.replicate_zero, List.push_toArray, List.append_toArray, List.nil_append, List.cons_append]
  gi_wp2
  generalize World.alloc (World.alloc w _) _ = V2 at *
  have hb3 : Below V2.heap.size V2 (V2.alloc (.cells #[.bool false] 4 (0, 0))) := (Below.refl _ _).alloc (Nat.le_refl _) _
  have X3 := Boxed.new V2 4 (.bool false)
  rw [HS1.out] at X3
  change Boxed (V2.alloc (.cells #[.bool false] 4 (0, 0))) (w.heap.size + 1 + 1) _ _ at X3
  have HB3 := hid (HB1.out.trans (hb3.mono (by rw [HS1.out]; omega)))
  have HOK3 := hid (HOK.out.keep (Keeps.of_below hb3))
  generalize World.alloc V2 _ = V3 at *
  have HX3 := hid X3
  clear hb3 X3 HB1 HOK HS1
  refine ⟨trivial, callsIn_wide.2 ((all_Pr ⟨w.heap.size, 0, t, w.heap.size + 1, 0, u⟩ V3).mono ?_)⟩
  rintro e1 W2 ⟨rfl, hb2, h1, h2, hsz⟩
  have HX2 := hid (boxed_below HX3.out hb2)
  have HB2 := hid (HB3.out.trans (hb2.mono HB3.out.size))
  have HOK2 := hid (HOK3.out.keep (Keeps.of_below hb2))
  have HS2 : Hid (w.heap.size + 1 + 1 < W2.heap.size) := hid HX2.out.lt
  clear hb2 HX3 HB3 HOK3
  gi_wp2
  refine range_of (n := 12) rfl (by omega) (gf := 59) rfl trivial (enters_of Tryd.func59 (by kernel_rfl) rfl)
    (walks_Pr 11 (by omega) ⟨w.heap.size, 0, t, w.heap.size + 1, 0, u⟩ V3.heap.size (V3.heap.size + 1) W2 h1 h2 hnt) (Below.refl _ _) rfl (fun A B x ks h hc => h.keep hc.keeps)
    (fun st W => Below W2.heap.size W2 W ∧ (∀ y ∈ st, PrOk W2 y) ∧ stAll2 fitP st = R)
    (fun W => Below w.heap.size w W ∧ Boxed W (w.heap.size + 1 + 1) 4 (.bool false) ∧ W2.heap.size ≤ W.heap.size ∧ R = false)
    (fun st A B h k => ⟨h.1.trans (k.below h.1.size), h.2⟩)
    (fun A B h k => ⟨h.1.trans ((k.below h.2.2.1).mono (by have := HS2.out; omega)), k.boxed h.2.1 HS2.out, Nat.le_trans h.2.2.1 k.size, h.2.2.2⟩)
    ⟨Below.refl _ _, fun y hy => by rw [List.mem_singleton] at hy; subst hy; exact HOK2.out, by rw [← HR.out]; unfold stAll2; rw [List.all_cons, List.all_nil, Bool.and_true]⟩ ?round ?done ?stop
  case round =>
    rintro l y r W ⟨hB, hok, heq⟩
    have hoy := hok y List.mem_cons_self
    rw [stAll2_step fitP y r] at heq
    have hok2 : ∀ z ∈ y.kids ++ r, PrOk W2 z := fun z hz => (List.mem_append.1 hz).elim (fun h => prOk_kids hoy z h) (fun h => hok z (List.mem_cons_of_mem _ h))
    rw [show y.cells.toArray = #[.pointer (some ⟨y.b, y.o, none⟩), .pointer (some ⟨y.c, y.q, none⟩)] from rfl]
    have hbx : Below W.heap.size W (W.alloc (.cells #[.pointer (some ⟨y.b, y.o, none⟩), .pointer (some ⟨y.c, y.q, none⟩)] 59 (0, 0))) := (Below.refl _ _).alloc (Nat.le_refl _) _
    have hnew := World.alloc_heap_new W (.cells #[.pointer (some ⟨y.b, y.o, none⟩), .pointer (some ⟨y.c, y.q, none⟩)] 59 (0, 0))
    have HBX := hid hbx
    have HNEW := hid hnew
    have HBW := hid hB
    have HOY := hid hoy
    have HOKK := hid hok2
    have HEQ := hid heq
    clear hbx hnew hB hoy hok hok2 heq
    gi_wp2
    refine ⟨Below.keepsFrom HBX.out _, (Below.cellsSame HBX.out).types, fun W4 hb4 hc4 => ?_⟩
    have hn4 := hc4 _ _ HNEW.out rfl
    have d0 : W4.cell? ⟨W.heap.size, 0, none⟩ = some (.pointer (some ⟨y.b, y.o, none⟩)) := by rw [Lib.cell_of_heap hn4]; rfl
    have d1 : W4.cell? ⟨W.heap.size, 1, none⟩ = some (.pointer (some ⟨y.c, y.q, none⟩)) := by rw [Lib.cell_of_heap hn4]; rfl
    have HB4 := hid ((HBW.out.trans (HBX.out.mono HBW.out.size)).trans hb4)
    have HOY4 := hid (HOY.out.keep (Keeps.of_below HB4.out))
    have HC := hid (CallsIn.inRound l (callsIn_wide (n := 9) |>.2 (fitsP_any y W4 HOY4.out)))
    have HLEN := hid (fitP_len (t := y.t) (u := y.u))
    clear HBX HNEW HBW hb4 hc4 hn4 HOY
    generalize fitP y.t y.u = qq at *
    gi_wp2
    refine ⟨trivial, HC.out.mono ?_⟩
    rintro e5 W5 ⟨rfl, hb5⟩
    have HB5 := hid (HB4.out.trans (hb5.mono HB4.out.size))
    have HOY5 := hid (HOY4.out.keep (Keeps.of_below hb5))
    have hx5 := boxed_below HX2.out HB5.out
    have hc5 := hx5.cell
    have hf5 := hx5.frozen
    have HX5 := hid hx5
    have HK5 := hid hb5
    clear HC hb5 hx5 d0 d1
    cases qq
    · have HR0 : Hid (R = false) := hid (by rw [← HEQ.out]; rfl)
      gi_wp2
      refine ⟨(Below.keepsFrom HK5.out _).trans (KeepsFrom.of_grownBy (grownBy_setCell' W5 _ _) (fun j e => by cases e; exact HS2.out)), (HB2.out.trans (HB5.out.mono (by have := HS2.out; omega))).setCell (by show w.heap.size ≤ w.heap.size + 1 + 1; omega) _, HX5.out.set _, Nat.le_trans HB5.out.size (by simp [World.setCell]), HR0.out⟩
    · gi_wp2
      exact ⟨Below.keepsFrom HK5.out _, (Below.cellsSame HK5.out).types, y.kids, ⟨HOY5.out.1, HOY5.out.2.1, HOY5.out.2.2.1, by first | exact HLEN.out rfl | exact HLEN.out trivial, rfl⟩, HB5.out, HOKK.out, by have := HEQ.out; simpa using this⟩
  case done =>
    rintro D W hD ⟨hB, _, heq⟩ hdef
    have hx := boxed_below HX2.out hB
    have hc := hx.cell
    have hf := hx.frozen
    have HX := hid hx
    have HBD := hid (HB2.out.trans (hB.mono (by have := HS2.out; omega)))
    have HN : Hid (R = true) := hid (by rw [← heq]; rfl)
    have HDEF := hid hdef
    clear hx hB heq hdef HB2 HX2
    gi_wp2
    exact leaves_marks (b := w.heap.size + 1 + 1 + 1) (by intro e; cases e) _ _ ((Marks.push (ds := []) (B := 0) trivial (by simp) (Nat.zero_le _) (Nat.le_trans HS2.out hD) HDEF.out).set _ _) fun w' hb hc => ⟨_, result_cell rfl _ _ _ _ _ _ _ (hc.boxed (HX.out.set _)) rfl Tryd.underlying4 rfl, by rw [HN.out], ((HBD.out.setCell (by show w.heap.size ≤ w.heap.size + 1 + 1; omega) _).trans (hb.mono (by omega)))⟩
  case stop =>
    rintro D W hD ⟨hB, hx, hs, rfl⟩ hdef
    clear HB2 HX2
    gi_wp2
    exact leaves_marks (b := w.heap.size + 1 + 1 + 1) (by intro e; cases e) _ _ (Marks.push (ds := []) (B := 0) trivial (by simp) (Nat.zero_le _) (Nat.le_trans HS2.out hD) hdef) fun w' hb hc => ⟨_, result_cell rfl _ _ _ _ _ _ _ (hc.boxed hx) rfl Tryd.underlying4 rfl, rfl, hB.trans (hb.mono (by omega))⟩
end Go.Proofs.YtannfhbocfghkaaDoor.EnvC

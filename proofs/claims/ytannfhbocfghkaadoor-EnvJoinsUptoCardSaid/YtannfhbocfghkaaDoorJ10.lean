/- Texts joined: EnvO, EnvQ, EnvJC. -/
import Derived.Test.YtannfhbocfghkaaDoorJ09
import Derived.Test.YtannfhbocfghkaaDoorJ06
/- Contracts of env.match. -/
namespace Go.Proofs.YtannfhbocfghkaaDoor.EnvC
open Go Go.RowKit Go.Shelf Go.Lib Go.Sort Go.Proofs.YtannfhbocfghkaaDoor.EnvP

def fitB (x y : Bd) : Bool := bs x.name == bs y.name && fitsT x.ty y.ty
set_option maxHeartbeats 4000000 in
set_option maxRecDepth 100000 in
theorem match1_any (x y : Bd) (w : World) (hx : x.ty.In w) (hy : y.ty.In w) (hsx : Small x.ty) (hsy : Small y.ty) :
    Calls Tryd.prog 41 #[.agg x.cells.toArray, .agg y.cells.toArray] w fun r w' => r = .returned (.bool (fitB x y)) ∧ Below w.heap.size w w' := by
  obtain ⟨R, hR⟩ : ∃ R, fitB x y = R := ⟨_, rfl⟩
  rw [hR]
  unfold fitB at hR
  obtain ⟨nx, tx⟩ := x
  obtain ⟨ny, ty⟩ := y
  have c1 := fun (W : World) (hb : Below w.heap.size w W) => fits_any tx ty W (ETy.In.keep (Keeps.of_below hb) tx hx) (ETy.In.keep (Keeps.of_below hb) ty hy) hsx hsy
  obtain ⟨k, m, g, lv, ls, kv, kids⟩ := tx
  obtain ⟨k', m', g', lv', ls', kv', kids'⟩ := ty
  rw [ETy.In] at hx hy
  have l1 := slice_one hx.1
  have l2 := slice_one hx.2.2.1
  have l3 := slice_one hy.1
  have l4 := slice_one hy.2.2.1
  clear hx hy hsx hsy
  change Calls _ _ #[.agg #[.string nx, .int .i64 k, .bool m, .bool g, lv, kv], .agg #[.string ny, .int .i64 k', .bool m', .bool g', lv', kv']] _ _
  change ∀ W, Below w.heap.size w W → Calls _ _ #[.agg #[.int .i64 k, .bool m, .bool g, lv, kv], .agg #[.int .i64 k', .bool m', .bool g', lv', kv']] _ _ at c1
  dsimp only at *
  generalize fitsT _ _ = q at *
  have B0 : Below w.heap.size w ((w.alloc (.cells #[.string nx, .int .i64 k, .bool m, .bool g, lv, kv] 33 (0, 0))).alloc (.cells #[.string ny, .int .i64 k', .bool m', .bool g', lv', kv'] 33 (0, 0))) := ((Below.refl _ _).alloc (Nat.le_refl _) _).alloc (by simp) _
  have X1 : BoxAt ((w.alloc (.cells #[.string nx, .int .i64 k, .bool m, .bool g, lv, kv] 33 (0, 0))).alloc (.cells #[.string ny, .int .i64 k', .bool m', .bool g', lv', kv'] 33 (0, 0))) w.heap.size [.string nx, .int .i64 k, .bool m, .bool g, lv, kv] := (BoxAt.new w _ _).later ((Below.refl _ _).alloc (Nat.le_refl _) _)
  have X2 : BoxAt ((w.alloc (.cells #[.string nx, .int .i64 k, .bool m, .bool g, lv, kv] 33 (0, 0))).alloc (.cells #[.string ny, .int .i64 k', .bool m', .bool g', lv', kv'] 33 (0, 0))) (w.heap.size + 1) [.string ny, .int .i64 k', .bool m', .bool g', lv', kv'] := by
    have := BoxAt.new (w.alloc (.cells #[.string nx, .int .i64 k, .bool m, .bool g, lv, kv] 33 (0, 0))) [.string ny, .int .i64 k', .bool m', .bool g', lv', kv'] 33
    rwa [World.size_alloc] at this
  have x4 := X1 4 lv rfl
  have x5 := X1 5 kv rfl
  have y4 := X2 4 lv' rfl
  have y5 := X2 5 kv' rfl
  have C1 := hid (c1 _ B0)
  have H0 := hid B0
  have HR : Hid (((nx.toList == ny.toList) && q) = R) := hid (by rw [Lib.toList_data, Lib.toList_data]; exact hR)
  clear c1 hR B0 X1 X2
  cases hn : (nx.toList == ny.toList)
  · have HN : Hid (R = false) := hid (by rw [← HR.out, hn]; rfl)
    clear HR C1
    go_enter Tryd.func41, Tryd.ntmps41
    go_wp2_with fail
    go_ret
    exact ⟨ret_bool HN.out.symm, H0.out⟩
  · have HN : Hid (R = q) := hid (by rw [← HR.out, hn]; rfl)
    clear HR
    go_enter Tryd.func41, Tryd.ntmps41
    go_wp2_with fail
    with_reducible refine C1.out.mono ?_
    rintro e W ⟨rfl, hb⟩
    have H1 := hid (H0.out.trans (hb.mono H0.out.size))
    clear C1 hb H0 x4 x5 y4 y5
    go_wp2_with fail
    go_ret
    exact ⟨ret_bool HN.out.symm, H1.out⟩

def allB (l m : List Bd) : Bool := (l.zip m).all fun p => fitB p.1 p.2
set_option maxHeartbeats 8000000 in
set_option maxRecDepth 100000 in
theorem equalFunc_any (l m : List Bd) (v u : Value) (w : World) (hl : EnvIn w v l) (hm : EnvIn w u m) (hsl : ∀ b ∈ l, Small b.ty) (hsm : ∀ b ∈ m, Small b.ty) (hll : l.length ≤ 1048576) (hlm : m.length ≤ 1048576) :
    Calls Tryd.prog 40 #[v, u, .func (.func 41) #[] #[]] w fun r w' => r = .returned (.bool (l.length == m.length && allB l m)) ∧ Below w.heap.size w w' := by
  obtain ⟨R, hR⟩ : ∃ R, (l.length == m.length && allB l m) = R := ⟨_, rfl⟩
  rw [hR]
  obtain ⟨p, cap, hcap, rfl⟩ := lies_slice hl.1
  obtain ⟨p', cap', hcap', rfl⟩ := lies_slice hm.1
  generalize hL : l.length = L at *
  generalize hM : m.length = M at *
  have HR := hid hR
  have HL := hid (And.intro hL hM)
  have HE := hid (And.intro hl hm)
  have HS := hid (And.intro hsl hsm)
  clear hR hL hM hl hm hsl hsm
  have eg : ∀ (args : Array Value) (w : World), (callFunc 41 args).run Tryd.prog w = .ok (.enter 41 args) w := enters_of Tryd.func41 (by kernel_rfl) rfl
  by_cases hne : L = M
  · subst hne
    have HA : Hid ((((l.drop 0).zip (m.drop 0)).all fun p => fitB p.1 p.2) = R) := hid (by rw [List.drop_zero, List.drop_zero, ← HR.out]; simp [allB])
    clear HR
    go_enter Tryd.func40, Tryd.ntmps40
    go_wp2_with fail
    go_loopg [17] L (fun gf u wx => ∃ i : Nat, u = .int .i64 (i : Int) ∧ i ≤ L ∧ L ≤ i + gf ∧ Hid ((((l.drop i).zip (m.drop i)).all fun p => fitB p.1 p.2) = R) ∧ Hid (Below w.heap.size w wx))
    case atStart => exact ⟨0, rfl, by omega, by omega, HA, hid (Below.refl _ _)⟩
    case round =>
      obtain ⟨i, rfl, hi, hg, HI, HB⟩ := hrel
      clear HA
      by_cases hlt : i < L
      · obtain ⟨x, hx⟩ : ∃ x, l[i]? = some x := ⟨l[i]'(by rw [HL.out.1]; exact hlt), List.getElem?_eq_getElem _⟩
        obtain ⟨y, hy⟩ : ∃ y, m[i]? = some y := ⟨m[i]'(by rw [HL.out.2]; exact hlt), List.getElem?_eq_getElem _⟩
        have kk := Keeps.of_below HB.out
        obtain ⟨b, off, c0, e, _, hxx⟩ := Lies.at (HE.out.1.1.keep kk) (i := i) (by rw [List.length_map, HL.out.1]; exact hlt)
        injection e with e1 e2 e3
        subst e1
        obtain ⟨b', off', c0', e', _, hyy⟩ := Lies.at (HE.out.2.1.keep kk) (i := i) (by rw [List.length_map, HL.out.2]; exact hlt)
        injection e' with e1' e2' e3'
        subst e1'
        clear e2 e3 e2' e3'
        have hxc := hxx i x.cells (by rw [List.getElem?_map, hx]; rfl)
        have hyc := hyy i y.cells (by rw [List.getElem?_map, hy]; rfl)
        have hix := ETy.In.keep kk _ (HE.out.1.2 x (List.mem_of_getElem? hx))
        have hiy := ETy.In.keep kk _ (HE.out.2.2 y (List.mem_of_getElem? hy))
        have c1 := fun (W : World) (hb : Below wr.heap.size wr W) => match1_any x y W (ETy.In.keep (Keeps.of_below hb) _ hix) (ETy.In.keep (Keeps.of_below hb) _ hiy) (HS.out.1 x (List.mem_of_getElem? hx)) (HS.out.2 y (List.mem_of_getElem? hy))
        have hp := HI.out
        rw [drop_cons hx, drop_cons hy, List.zip_cons_cons, List.all_cons] at hp
        dsimp only at hp
        generalize fitB x y = q at *
        obtain ⟨nx, ⟨k, mm, g, lv, ls, kv, kids⟩⟩ := x
        obtain ⟨ny, ⟨k', mm', g', lv', ls', kv', kids'⟩⟩ := y
        rw [ETy.In] at hix hiy
        obtain ⟨p1, q1, _, e1⟩ := lies_slice hix.1
        obtain ⟨p2, q2, _, e2⟩ := lies_slice hix.2.2.1
        obtain ⟨p3, q3, _, e3⟩ := lies_slice hiy.1
        obtain ⟨p4, q4, _, e4⟩ := lies_slice hiy.2.2.1
        subst e1 e2 e3 e4
        generalize ls.length = n1 at *
        generalize kids.length = n2 at *
        generalize ls'.length = n3 at *
        generalize kids'.length = n4 at *
        have bA : Below wr.heap.size wr (wr.alloc (.cells #[.string nx, .int .i64 k, .bool mm, .bool g, .slice p1 n1 q1, .slice p2 n2 q2] 33 (0, 0))) := (Below.refl _ _).alloc (Nat.le_refl _) _
        have bB : Below wr.heap.size wr ((wr.alloc (.cells #[.string nx, .int .i64 k, .bool mm, .bool g, .slice p1 n1 q1, .slice p2 n2 q2] 33 (0, 0))).alloc (.cells #[.string ny, .int .i64 k', .bool mm', .bool g', .slice p3 n3 q3, .slice p4 n4 q4] 33 (0, 0))) := bA.alloc (by simp) _
        have C1 := hid (c1 _ bB)
        change Hid (Calls _ _ #[.agg #[.string nx, .int .i64 k, .bool mm, .bool g, .slice p1 n1 q1, .slice p2 n2 q2], .agg #[.string ny, .int .i64 k', .bool mm', .bool g', .slice p3 n3 q3, .slice p4 n4 q4]] _ _) at C1
        have x0 := hxc 0 (.string nx) rfl
        have x1 := hxc 1 (.int .i64 k) rfl
        have x2 := hxc 2 (.bool mm) rfl
        have x3 := hxc 3 (.bool g) rfl
        have x4 := hxc 4 (.slice p1 n1 q1) rfl
        have x5 := hxc 5 (.slice p2 n2 q2) rfl
        have y0 := later bA (hyc 0 (.string ny) rfl)
        have y1 := later bA (hyc 1 (.int .i64 k') rfl)
        have y2 := later bA (hyc 2 (.bool mm') rfl)
        have y3 := later bA (hyc 3 (.bool g') rfl)
        have y4 := later bA (hyc 4 (.slice p3 n3 q3) rfl)
        have y5 := later bA (hyc 5 (.slice p4 n4 q4) rfl)
        rw [Nat.add_zero] at x0 y0
        have X1 : BoxAt ((wr.alloc (.cells #[.string nx, .int .i64 k, .bool mm, .bool g, .slice p1 n1 q1, .slice p2 n2 q2] 33 (0, 0))).alloc (.cells #[.string ny, .int .i64 k', .bool mm', .bool g', .slice p3 n3 q3, .slice p4 n4 q4] 33 (0, 0))) wr.heap.size [.string nx, .int .i64 k, .bool mm, .bool g, .slice p1 n1 q1, .slice p2 n2 q2] := (BoxAt.new wr _ _).later ((Below.refl _ _).alloc (Nat.le_refl _) _)
        have z0 := X1 0 (.string nx) rfl
        have z1 := X1 1 (.int .i64 k) rfl
        have z2 := X1 2 (.bool mm) rfl
        have z3 := X1 3 (.bool g) rfl
        have z4 := X1 4 (.slice p1 n1 q1) rfl
        have z5 := X1 5 (.slice p2 n2 q2) rfl
        have HP := hid hp
        have B2 := hid (HB.out.trans (bB.mono HB.out.size))
        clear hx hy kk hxx hyy hxc hyc hix hiy c1 hp HI X1 bA bB HB
        go_wp2_with fail
        with_reducible refine C1.out.mono ?_
        rintro e W3 ⟨rfl, hb3⟩
        have B3 := hid (B2.out.trans (hb3.mono B2.out.size))
        clear C1 hb3 B2 x0 x1 x2 x3 x4 x5 y0 y1 y2 y3 y4 y5 z0 z1 z2 z3 z4 z5
        cases q
        · have HN : Hid (R = false) := hid (by rw [← HP.out]; rfl)
          go_wp2_with fail
          go_ret
          exact ⟨ret_bool HN.out.symm, B3.out⟩
        · have HN : Hid ((((l.drop (i + 1)).zip (m.drop (i + 1))).all fun p => fitB p.1 p.2) = R) := hid (by rw [← HP.out]; rfl)
          go_wp2_with fail
          go_roundg (gk - 1)
          case measure => omega
          case rel => exact ⟨i + 1, by go_num, by omega, by omega, HN, B3⟩
      · have HN : Hid (R = true) := hid (by rw [← HI.out, List.drop_eq_nil_of_le (by rw [HL.out.1]; omega)]; rfl)
        clear HI HE HS HL
        go_wp2_with fail
        go_ret
        exact ⟨ret_bool HN.out.symm, HB.out⟩
  · have HN : Hid (R = false) := hid (by rw [← HR.out]; simp [hne])
    have hn2 : ((L : Int) != (M : Int)) = true := by simp; omega
    clear HR HE HS HL hne
    go_enter Tryd.func40, Tryd.ntmps40
    go_wp2_with fail
    go_ret
    exact ⟨ret_bool HN.out.symm, Below.refl _ _⟩

theorem both_eq (a b : List Bd) : both a b = (right a && right b && (a.length == b.length && allB a b)) := by
  unfold both allB fitB
  cases right a <;> cases right b <;> simp
set_option maxHeartbeats 4000000 in
set_option maxRecDepth 100000 in
theorem match_any (a b : List Bd) (v u : Value) (w : World) (ha : EnvIn w v a) (hb : EnvIn w u b) (hsa : ∀ x ∈ a, Small x.ty) (hsb : ∀ x ∈ b, Small x.ty) (hla : a.length ≤ 1048576) (hlb : b.length ≤ 1048576) :
    Calls Tryd.prog 23 #[v, u] w fun r w' => r = .returned (.bool (both a b)) ∧ Below w.heap.size w w' := by
  have c1 := rightEnv_any a v w ha hsa hla
  have c2 := fun (W : World) (h : Below w.heap.size w W) => rightEnv_any b u W (hb.keep (Keeps.of_below h)) hsb hlb
  have c3 := fun (W : World) (h : Below w.heap.size w W) => equalFunc_any a b v u W (ha.keep (Keeps.of_below h)) (hb.keep (Keeps.of_below h)) hsa hsb hla hlb
  have hR := both_eq a b
  generalize both a b = R at *
  generalize right a = p1 at *
  generalize right b = p2 at *
  generalize (a.length == b.length && allB a b) = p3 at *
  have C1 := hid c1
  have C2 := hid c2
  have C3 := hid c3
  have HR := hid hR
  clear c1 c2 c3 hR ha hb hsa hsb
  go_enter Tryd.func23, Tryd.ntmps23
  go_wp2_with fail
  with_reducible refine C1.out.mono ?_
  rintro e W ⟨rfl, hb1⟩
  have B1 := hid hb1
  clear hb1 C1
  cases p1
  · have HN : Hid (R = false) := hid HR.out
    clear HR C2 C3
    go_wp2_with fail
    go_ret
    exact ⟨ret_bool HN.out.symm, B1.out⟩
  have D2 := hid (C2.out W B1.out)
  go_wp2_with fail
  with_reducible refine D2.out.mono ?_
  rintro e W2 ⟨rfl, hb2⟩
  have B2 := hid (B1.out.trans (hb2.mono B1.out.size))
  clear hb2 D2 C2 B1
  cases p2
  · have HN : Hid (R = false) := hid HR.out
    clear HR C3
    go_wp2_with fail
    go_ret
    exact ⟨ret_bool HN.out.symm, B2.out⟩
  have HN : Hid (R = p3) := hid HR.out
  have D3 := hid (C3.out W2 B2.out)
  clear HR C3
  go_wp2_with fail
  with_reducible refine D3.out.mono ?_
  rintro e W3 ⟨rfl, hb3⟩
  have B3 := hid (B2.out.trans (hb3.mono B2.out.size))
  clear D3 hb3 B2
  go_wp2_with fail
  go_ret
  exact ⟨ret_bool HN.out.symm, B3.out⟩
end Go.Proofs.YtannfhbocfghkaaDoor.EnvC
/- Contract of env.Less. -/
namespace Go.Proofs.YtannfhbocfghkaaDoor.EnvC
open Go Go.RowKit Go.Shelf Go.Lib Go.Sort Go.Proofs.YtannfhbocfghkaaDoor.EnvP
attribute [local go_sem] Oper.semAt_some

/-- a pair that fits, the second one right -/
def LeOk (w : World) (x : Pr) : Prop := PrOk w x ∧ fitsT x.t x.u = true ∧ rightT x.u = true
theorem LeOk.keep {w w' : World} {x : Pr} (h : LeOk w x) (k : Keeps w w') : LeOk w' x := ⟨h.1.keep k, h.2⟩
theorem rightTs_mem : ∀ {l : List ETy} {t : ETy}, rightTs l = true → t ∈ l → rightT t = true
  | u :: us, t, h, hm => by
    rw [rightTs, Bool.and_eq_true] at h
    rcases List.mem_cons.1 hm with rfl | hm
    · exact h.1
    · exact rightTs_mem h.2 hm
theorem fitsTs_mem : ∀ {l m : List ETy} {j : Nat} {t u : ETy}, fitsTs l m = true → l[j]? = some t → m[j]? = some u → fitsT t u = true
  | x :: xs, y :: ys, 0, t, u, h, ht, hu => by
    rw [fitsTs, Bool.and_eq_true] at h
    simp at ht hu
    rw [← ht, ← hu]; exact h.1
  | x :: xs, y :: ys, j + 1, t, u, h, ht, hu => by
    rw [fitsTs, Bool.and_eq_true] at h
    exact fitsTs_mem h.2 (by simpa using ht) (by simpa using hu)
  | [], _, j, t, u, _, ht, _ => by simp at ht
  | _ :: _, [], j, t, u, _, _, hu => by simp at hu
theorem leOk_kids {w : World} {x : Pr} (h : LeOk w x) : ∀ y ∈ x.kids, LeOk w y := by
  intro y hy
  have h1 := prOk_kids h.1 y hy
  obtain ⟨j, t, u, ht, hu, rfl⟩ := mem_kids hy
  refine ⟨h1, ?_, ?_⟩
  · obtain ⟨b, o, ⟨k, m, g, lv, ls, kv, kids⟩, c, d, ⟨k', m', g', lv', ls', kv', kids'⟩⟩ := x
    have h2 := h.2.1
    rw [fitsT, Bool.and_eq_true] at h2
    exact fitsTs_mem h2.2 ht hu
  · obtain ⟨b, o, ⟨k, m, g, lv, ls, kv, kids⟩, c, d, ⟨k', m', g', lv', ls', kv', kids'⟩⟩ := x
    have h2 := h.2.2
    rw [rightT, Bool.and_eq_true] at h2
    exact rightTs_mem h2.1 (List.mem_of_getElem? hu)
theorem right_rising {t : ETy} (h : rightT t = true) : rising t.loans = true := by
  obtain ⟨k, m, g, lv, ls, kv, kids⟩ := t
  rw [rightT, Bool.and_eq_true] at h
  have h2 := h.2
  unfold askT at h2
  by_cases h4 : k = 4
  · rw [if_pos h4, Bool.and_eq_true] at h2
    unfold rightLns at h2
    rw [Bool.and_eq_true] at h2
    exact h2.1.2
  · rw [if_neg h4, Bool.and_eq_true, Bool.and_eq_true] at h2
    have : ls = [] := by have := h2.1.2; simpa using this
    show rising ls = true
    rw [this]; rfl
theorem fitsT_len {t u : ETy} (h : fitsT t u = true) : t.kids.length = u.kids.length := by
  obtain ⟨k, m, g, lv, ls, kv, kids⟩ := t
  obtain ⟨k', m', g', lv', ls', kv', kids'⟩ := u
  rw [fitsT] at h
  simp at h
  exact h.1.2
def less_one (p : Bd × Bd) : Bool := lessT p.1.ty p.2.ty

set_option maxHeartbeats 8000000 in
set_option maxRecDepth 100000 in
theorem less_any (a b : List Bd) (v u : Value) (w : World) (ha : EnvIn w v a) (hb : EnvIn w u b) (hsa : ∀ x ∈ a, Small x.ty) (hsb : ∀ x ∈ b, Small x.ty) (hla : a.length ≤ 1048576) (hlb : b.length ≤ 1048576) :
    Calls Tryd.prog 8 #[v, u] w fun r w' => r = .returned (.bool (less a b)) ∧ Below w.heap.size w w' := by
  have c0 := fun (W : World) (h : Below w.heap.size w W) => match_any a b v u W (ha.keep (Keeps.of_below h)) (hb.keep (Keeps.of_below h)) hsa hsb hla hlb
  obtain ⟨p, cap, hcap, rfl⟩ := lies_slice ha.1
  obtain ⟨p', cap', hcap', rfl⟩ := lies_slice hb.1
  obtain ⟨R, hR⟩ : ∃ R, less a b = R := ⟨_, rfl⟩
  rw [hR]
  unfold less at hR
  have hboth : both a b = true → a.length = b.length ∧ right b = true ∧ ∀ (i : Nat) (x y : Bd), a[i]? = some x → b[i]? = some y → fitsT x.ty y.ty = true := by
    intro h
    rw [both_eq] at h
    simp only [Bool.and_eq_true, beq_iff_eq] at h
    refine ⟨h.2.1, h.1.2, fun i x y hx hy => ?_⟩
    have h3 := h.2.2
    unfold allB at h3
    rw [List.all_eq_true] at h3
    have := h3 (x, y) (List.mem_of_getElem? (i := i) (by rw [List.getElem?_zip_eq_some]; exact ⟨hx, hy⟩))
    unfold fitB at this
    rw [Bool.and_eq_true] at this
    exact this.2
  generalize both a b = bt at *
  generalize hLa : a.length = La at *
  generalize hLb : b.length = Lb at *
  have hb1 : Below w.heap.size w (w.alloc (.cells #[.bool false] 4 (0, 0))) := (Below.refl _ _).alloc (Nat.le_refl _) _
  have X1 := Boxed.new w 4 (.bool false)
  change Boxed (w.alloc (.cells #[.bool false] 4 (0, 0))) _ _ _ at X1
  have C0 := hid (callsIn_wide (n := 11) |>.2 (c0 _ hb1))
  have HR := hid hR
  have HBT := hid hboth
  have HL := hid (And.intro hLa hLb)
  have HE := hid (And.intro ha hb)
  have HS := hid (And.intro hsa hsb)
  have HB1 := hid hb1
  have HX1 := hid X1
  clear hR hLa hLb ha hb hsa hsb c0 hboth hb1 X1
  refine callsIn_wide (n := 12) |>.1 (callsIn_of_wp_marks Tryd.func8 rfl trivial ?_ rfl)
  simp only [Tryd.ntmps8, List.size_toArray, List.length_cons, List.length_nil, Nat.reduceAdd, Nat.reduceSub, Array.replicate_succ, Array.replicate_zero, List.push_toArray, List.append_toArray, List.nil_append, List.cons_append]
  gi_wp2
  refine ⟨trivial, C0.out.mono ?_⟩
  generalize World.alloc w _ = W1 at *
  rintro e W2 ⟨rfl, hb2⟩
  have HB2 := hid (HB1.out.trans (hb2.mono HB1.out.size))
  have hx2 := boxed_below HX1.out hb2
  have hc2 := hx2.cell
  have hf2 := hx2.frozen
  have HX2 := hid hx2
  clear hb2 hx2 C0 HB1 HX1
  cases bt
  · have HN : Hid (R = false) := hid HR.out.symm
    clear HR HBT HE HS HL
    gi_wp2
    exact leaves_marks (b := w.heap.size + 1) (by intro e; cases e) [] _ trivial fun w' hb hc => ⟨_, result_cell rfl _ _ _ _ _ _ _ (hc.boxed (HX2.out.set _)) rfl Tryd.underlying4 rfl, by rw [HN.out], ((HB2.out.setCell (Nat.le_refl _) _).trans (hb.mono (by omega)))⟩
  · have HR2 : Hid ((((a.drop 0).zip (b.drop 0)).all less_one) = R) := hid (by rw [List.drop_zero, List.drop_zero, ← HR.out]; rfl)
    obtain ⟨hlen, hrb, hfit⟩ := HBT.out rfl
    subst hlen
    have HF := hid (And.intro hrb hfit)
    clear HR HBT hrb hfit hc2 hf2
    gi_wp2
    refine wpIn_loop_ghost_k (fun gf act wr => ∃ (i : Nat) (ds : List Deferred) (u5 u6 u14 u15 u16 u17 u18 u19 u20 u21 u22 u23 u24 u25 u26 u27 u28 u29 : Value), act = { tmps := #[.slice p La cap, .slice p' La cap', undef, undef, .pointer (some ⟨w.heap.size, 0, none⟩), u5, u6, .slice p La cap, .slice p' La cap', .bool true, .bool false, .slice p La cap, .int .i64 (La : Int), .int .i64 (i : Int), u14, u15, u16, u17, u18, u19, u20, u21, u22, u23, u24, u25, u26, u27, u28, u29], defers := ds } ∧
      i ≤ La ∧ La ≤ i + gf ∧ Hid (Marks (w.heap.size + 1) wr ds) ∧ Hid (Below w.heap.size w wr) ∧ Hid (Boxed wr w.heap.size 4 (.bool false)) ∧ Hid ((((a.drop i).zip (b.drop i)).all less_one) = R)) La ⟨0, [], _, _, _, _, _, _, _, _, _, _, _, _, _, _, _, _, _, _, rfl, by omega, by omega, hid trivial, HB2, HX2, HR2⟩ ?_
    rintro gk act wr ⟨i, ds, u5, u6, u14, u15, u16, u17, u18, u19, u20, u21, u22, u23, u24, u25, u26, u27, u28, u29, rfl, hi, hg, HM, HB, HX, HI⟩ J K hJ hK
    clear HB2 HX2 HR2
    by_cases hlt : i < La
    · obtain ⟨x, hx⟩ : ∃ x, a[i]? = some x := ⟨a[i]'(by rw [HL.out.1]; exact hlt), List.getElem?_eq_getElem _⟩
      obtain ⟨y, hy⟩ : ∃ y, b[i]? = some y := ⟨b[i]'(by rw [HL.out.2]; exact hlt), List.getElem?_eq_getElem _⟩
      obtain ⟨b1, o1, c1, ev, _, ok1, _⟩ := bd_at HE.out.1 hx (HS.out.1 x (List.mem_of_getElem? hx))
      injection ev with e1 e2 e3
      subst e1
      obtain ⟨b2, o2, c2, ev', _, ok2, _⟩ := bd_at HE.out.2 hy (HS.out.2 y (List.mem_of_getElem? hy))
      injection ev' with e1' e2' e3'
      subst e1'
      have hlo : LeOk w ⟨b1, o1 + i * 6 + 1, x.ty, b2, o2 + i * 6 + 1, y.ty⟩ := ⟨⟨ok1.1, ok2.1, ok1.2, ok2.2⟩, HF.out.2 i x y hx hy, by
        have := HF.out.1
        unfold right at this
        rw [List.all_eq_true] at this
        exact this y (List.mem_of_getElem? hy)⟩
      have hI2 := HI.out
      rw [drop_cons hx, drop_cons hy, List.zip_cons_cons, List.all_cons] at hI2
      have HA := hid (fun W => all_Pr ⟨b1, o1 + i * 6 + 1, x.ty, b2, o2 + i * 6 + 1, y.ty⟩ W)
      have HLO := hid hlo
      have HI2 : Hid ((lessT x.ty y.ty && ((a.drop (i + 1)).zip (b.drop (i + 1))).all less_one) = R) := hid hI2
      have ilt : (i : Int) < (La : Int) := by omega
      have i0 : (0 : Int) ≤ (i : Int) := by omega
      clear e2 e3 e2' e3' ok1 ok2 hlo hx hy HI hI2
      obtain ⟨rest, hrest⟩ : ∃ rest, ((a.drop (i + 1)).zip (b.drop (i + 1))).all less_one = rest := ⟨_, rfl⟩
      rw [hrest] at HI2
      have HREST := hid hrest
      clear hrest
      gi_wp2
      refine wpIn_wide.2 ?_
      go_region_held3 (fun w' => True) (first | trivial) (first | (go_at_call 24; refine (HA.out _).mono ?_; rintro e W2 ⟨rfl, hb2, h1, h2, hsz⟩))
      have hb2' : Below wr.heap.size wr W2 := ((Below.refl wr.heap.size wr).drew).trans hb2
      have h1' : W2.heap[wr.heap.size]? = some (.cells (Pr.cells ⟨b1, o1 + i * 6 + 1, x.ty, b2, o2 + i * 6 + 1, y.ty⟩).toArray 59 (0, 0)) := h1
      have h2' : Boxed W2 (wr.heap.size + 1) 74 (.func (.func 43) #[] #[]) := h2
      have HB2 := hid (HB.out.trans (hb2'.mono HB.out.size))
      have HM2 := hid (HM.out.later hb2')
      have HX2 := hid (boxed_below HX.out hb2')
      have HD : Hid (∀ D, { target := .collected D, args := #[] } ∈ ds → D < W2.heap.size) := hid (fun D hm => HM2.out.lt D hm)
      have HS2 : Hid (w.heap.size < W2.heap.size) := hid HX2.out.lt
      have hnt : nT x.ty ≤ 1048576 := Nat.le_trans (nT_le _) HLO.out.1.2.2.1
      clear hb2 hb2' h1 h2 hsz HA HB HM HX
      simp only [Exit.then]
      gi_wp2
      refine range_of (n := 12) rfl (by omega) (gf := 59) rfl trivial (enters_of Tryd.func59 (by kernel_rfl) rfl)
        (walks_Pr 11 (by omega) ⟨b1, o1 + i * 6 + 1, x.ty, b2, o2 + i * 6 + 1, y.ty⟩ wr.heap.size (wr.heap.size + 1) W2 h1' h2' hnt) (Below.refl _ _) rfl (fun A B x ks h hc => h.keep hc.keeps)
        (fun st W => Below W2.heap.size W2 W ∧ (∀ y ∈ st, LeOk w y) ∧ (stAll2 leP st && rest) = R)
        (fun W => Below w.heap.size w W ∧ Marks (w.heap.size + 1) W ds ∧ Boxed W w.heap.size 4 (.bool false) ∧ W2.heap.size ≤ W.heap.size ∧ R = false)
        (fun st A B h k => ⟨h.1.trans (k.below h.1.size), h.2⟩)
        (fun A B h k => ⟨h.1.trans ((k.below h.2.2.2.1).mono (Nat.le_of_lt HS2.out)), k.marks h.2.1 HD.out, k.boxed h.2.2.1 HS2.out, Nat.le_trans h.2.2.2.1 k.size, h.2.2.2.2⟩)
        ⟨Below.refl _ _, fun z hz => by rw [List.mem_singleton] at hz; subst hz; exact HLO.out, by rw [← HI2.out]; unfold stAll2; rw [List.all_cons, List.all_nil, Bool.and_true, less_all]⟩ ?round ?done ?stop
      case round =>
        clear HLO HI2 hnt h1' h2' HREST
        rintro l y r W ⟨hB, hok, heq⟩
        have hoy := hok y List.mem_cons_self
        rw [stAll2_step leP y r] at heq
        have hok2 : ∀ z ∈ y.kids ++ r, LeOk w z := fun z hz => (List.mem_append.1 hz).elim (fun h => leOk_kids hoy z h) (fun h => hok z (List.mem_cons_of_mem _ h))
        rw [show y.cells.toArray = #[.pointer (some ⟨y.b, y.o, none⟩), .pointer (some ⟨y.c, y.q, none⟩)] from rfl]
        have hbx : Below W.heap.size W (W.alloc (.cells #[.pointer (some ⟨y.b, y.o, none⟩), .pointer (some ⟨y.c, y.q, none⟩)] 59 (0, 0))) := (Below.refl _ _).alloc (Nat.le_refl _) _
        have hnew := World.alloc_heap_new W (.cells #[.pointer (some ⟨y.b, y.o, none⟩), .pointer (some ⟨y.c, y.q, none⟩)] 59 (0, 0))
        have HBX := hid hbx
        have HNEW := hid hnew
        have HBW := hid hB
        have HOY := hid hoy
        have HOKK := hid hok2
        have HEQ := hid heq
        clear hbx hnew hB hoy hok hok2 heq
        gi_wp2
        refine ⟨Below.keepsFrom HBX.out _, (Below.cellsSame HBX.out).types, fun W4 hb4 hc4 => ?_⟩
        have hn4 := hc4 _ _ HNEW.out rfl
        have d0 : W4.cell? ⟨W.heap.size, 0, none⟩ = some (.pointer (some ⟨y.b, y.o, none⟩)) := by rw [Lib.cell_of_heap hn4]; rfl
        have d1 : W4.cell? ⟨W.heap.size, 1, none⟩ = some (.pointer (some ⟨y.c, y.q, none⟩)) := by rw [Lib.cell_of_heap hn4]; rfl
        have HB4 := hid ((HBW.out.trans (HBX.out.mono HBW.out.size)).trans hb4)
        have HOY4 := hid (HOY.out.keep (Keeps.of_below (HB2.out.trans (HB4.out.mono (Nat.le_of_lt HS2.out)))))
        have HC := hid (CallsIn.inRound l (callsIn_wide (n := 9) |>.2 (atMost_any y W4 HOY4.out.1 (right_rising HOY4.out.2.2))))
        clear HBX HNEW HBW hb4 hc4 hn4 HOY
        generalize leP y.t y.u = qq at *
        gi_wp2
        refine ⟨trivial, HC.out.mono ?_⟩
        rintro e5 W5 ⟨rfl, hb5⟩
        have HB5 := hid (HB4.out.trans (hb5.mono HB4.out.size))
        have HOY5 := hid (HOY4.out.keep (Keeps.of_below hb5))
        have hx5 := boxed_below HX2.out HB5.out
        have hc5 := hx5.cell
        have hf5 := hx5.frozen
        have HX5 := hid hx5
        have HK5 := hid hb5
        clear HC hb5 hx5 d0 d1
        cases qq
        · have HR0 : Hid (R = false) := hid (by rw [← HEQ.out]; rfl)
          gi_wp2
          refine ⟨(Below.keepsFrom HK5.out _).trans (KeepsFrom.of_grownBy (grownBy_setCell' W5 _ _) (fun j e => by cases e; exact HS2.out)), (HB2.out.trans (HB5.out.mono (Nat.le_of_lt HS2.out))).setCell (Nat.le_refl _) _, (HM2.out.later HB5.out).set _ _, HX5.out.set _, Nat.le_trans HB5.out.size (by simp [World.setCell]), HR0.out⟩
        · gi_wp2
          exact ⟨Below.keepsFrom HK5.out _, (Below.cellsSame HK5.out).types, y.kids, ⟨HOY5.out.1.1, HOY5.out.1.2.1, HOY5.out.1.2.2.1, fitsT_len HOY5.out.2.1, rfl⟩, HB5.out, HOKK.out, by have := HEQ.out; simpa using this⟩
      case done =>
        rintro D W hD ⟨hB, _, heq⟩ hdef
        have HM3 := hid (Marks.push (HM2.out.later hB) HD.out hD (Nat.le_trans HS2.out hD) hdef)
        have HB3 := hid (HB2.out.trans (hB.mono (Nat.le_of_lt HS2.out)))
        have HX3 := hid (boxed_below HX2.out hB)
        have HI3 : Hid ((((a.drop (i + 1)).zip (b.drop (i + 1))).all less_one) = R) := hid (by rw [HREST.out, ← heq]; rfl)
        clear hB heq hdef HB2 HM2 HX2 HI2
        gi_wp2
        exact Handed.intro (gk - 1) (by omega) (hJ _ _ _ ⟨i + 1, _, _, _, _, _, _, _, _, _, _, _, _, _, _, _, _, _, _, _, rfl, by omega, by omega, HM3, HB3, HX3, HI3⟩)
      case stop =>
        rintro D W hD ⟨hB, hm, hx, hs, rfl⟩ hdef
        clear HB2 HM2 HX2 HI2
        gi_wp2
        exact leaves_marks (b := w.heap.size + 1) (by intro e; cases e) _ _ (Marks.push hm HD.out hD (Nat.le_trans HS2.out hD) hdef) fun w' hb hc => ⟨_, result_cell rfl _ _ _ _ _ _ _ (hc.boxed hx) rfl Tryd.underlying4 rfl, rfl, hB.trans (hb.mono (by omega))⟩
    · have HN : Hid (R = true) := hid (by rw [← HI.out, List.drop_eq_nil_of_le (by rw [HL.out.1]; omega)]; rfl)
      have hX := HX.out.cell
      have hF := HX.out.frozen
      clear HI HE HS HL HF
      gi_wp2
      exact leaves_marks (b := w.heap.size + 1) (by intro e; cases e) _ _ (HM.out.set _ _) fun w' hb hc => ⟨_, result_cell rfl _ _ _ _ _ _ _ (hc.boxed (HX.out.set _)) rfl Tryd.underlying4 rfl, by rw [HN.out], ((HB.out.setCell (Nat.le_refl _) _).trans (hb.mono (by omega)))⟩
end Go.Proofs.YtannfhbocfghkaaDoor.EnvC
/- The document's Fits and lessTy (lienbookref05). -/
namespace Go.Proofs.YtannfhbocfghkaaDoor.EnvC
open Go Go.RowKit Go.Lib Go.Sort Go.Proofs.YtannfhbocfghkaaDoor.EnvP

theorem fits_ne {k k' : Int} {m m' : Bool} {g g' : Bool} {lv kv lv' kv' : Value} {ls ls' : List Ln} {ks ks' : List ETy} (h : ¬ ks.length = ks'.length) : fitsT (.mk k m g lv ls kv ks) (.mk k' m' g' lv' ls' kv' ks') = false := by
  rw [fitsT, beq_eq_false_iff_ne.2 h]; simp
set_option maxHeartbeats 8000000 in
set_option maxRecDepth 100000 in
theorem rFits_any : ∀ (n : Nat) (t u : ETy) (w : World), wT t ≤ n → n ≤ 1048576 → wT u ≤ 1048576 → t.In w → u.In w →
    Calls Tryd.prog 11 #[t.val, u.val] w fun r w' => r = .returned (.bool (fitsT t u)) ∧ Below w.heap.size w w' := by
  intro n
  induction n using Nat.strongRecOn with
  | ind n ih =>
    intro t u w hw hn hwu ht hu
    have hsm : Small t := by unfold Small; omega
    have hsl := hsm.loans
    have hsm2 : Small u := hwu
    have hsl2 := hsm2.loans
    obtain ⟨k, m, g, lv, ls, kv, kids⟩ := t
    obtain ⟨k2, m2, g2, lv2, ls2, kv2, kids2⟩ := u
    rw [ETy.In] at ht hu
    obtain ⟨pl, cl, hcl, rfl⟩ := lies_slice ht.1
    obtain ⟨pk, ck, hck, rfl⟩ := lies_slice ht.2.2.1
    obtain ⟨pl2, cl2, hcl2, rfl⟩ := lies_slice hu.1
    obtain ⟨pk2, ck2, hck2, rfl⟩ := lies_slice hu.2.2.1
    rw [wT] at hw hwu
    have hkl := kids_len kids
    have hLb : ls.length ≤ 1048576 := hsl.1
    have hNb : kids.length ≤ 1048576 := by omega
    clear hkl
    obtain ⟨R, hR⟩ : ∃ R, fitsT (.mk k m g (.slice pl ls.length cl) ls (.slice pk kids.length ck) kids) (.mk k2 m2 g2 (.slice pl2 ls2.length cl2) ls2 (.slice pk2 kids2.length ck2) kids2) = R := ⟨_, rfl⟩
    rw [hR]
    rw [fitsT] at hR
    have ihk := fun (x : ETy) (hx : x ∈ kids) (y : ETy) (hy : y ∈ kids2) (W : World) (hb : Below w.heap.size w W) => ih (wT x) (by have := mem_sum wT hx; rw [← wTs_sum] at this; omega) x y W (Nat.le_refl _) (by have := mem_sum wT hx; rw [← wTs_sum] at this; omega) (by have := mem_sum wT hy; rw [← wTs_sum] at this; omega) (ETy.In.keep (Keeps.of_below hb) x ((ETy.ins_iff w kids).1 ht.2.2.2 x hx)) (ETy.In.keep (Keeps.of_below hb) y ((ETy.ins_iff w kids2).1 hu.2.2.2 y hy))
    change Calls _ _ #[.agg #[.int .i64 k, .bool m, .bool g, .slice pl ls.length cl, .slice pk kids.length ck], .agg #[.int .i64 k2, .bool m2, .bool g2, .slice pl2 ls2.length cl2, .slice pk2 kids2.length ck2]] _ _
    generalize hL : ls.length = L at *
    generalize hN : kids.length = N at *
    generalize hL2 : ls2.length = L2 at *
    generalize hN2 : kids2.length = N2 at *
    have bA : Below w.heap.size w ((w.alloc (.cells #[.int .i64 k, .bool m, .bool g, .slice pl L cl, .slice pk N ck] 31 (0, 0))).alloc (.cells #[.int .i64 k2, .bool m2, .bool g2, .slice pl2 L2 cl2, .slice pk2 N2 ck2] 31 (0, 0))) := ((Below.refl _ _).alloc (Nat.le_refl _) _).alloc (by simp) _
    have X1 : BoxAt ((w.alloc (.cells #[.int .i64 k, .bool m, .bool g, .slice pl L cl, .slice pk N ck] 31 (0, 0))).alloc (.cells #[.int .i64 k2, .bool m2, .bool g2, .slice pl2 L2 cl2, .slice pk2 N2 ck2] 31 (0, 0))) w.heap.size [.int .i64 k, .bool m, .bool g, .slice pl L cl, .slice pk N ck] := (BoxAt.new w _ _).later ((Below.refl _ _).alloc (Nat.le_refl _) _)
    have X2 : BoxAt ((w.alloc (.cells #[.int .i64 k, .bool m, .bool g, .slice pl L cl, .slice pk N ck] 31 (0, 0))).alloc (.cells #[.int .i64 k2, .bool m2, .bool g2, .slice pl2 L2 cl2, .slice pk2 N2 ck2] 31 (0, 0))) (w.heap.size + 1) [.int .i64 k2, .bool m2, .bool g2, .slice pl2 L2 cl2, .slice pk2 N2 ck2] := by
      have := BoxAt.new (w.alloc (.cells #[.int .i64 k, .bool m, .bool g, .slice pl L cl, .slice pk N ck] 31 (0, 0))) [.int .i64 k2, .bool m2, .bool g2, .slice pl2 L2 cl2, .slice pk2 N2 ck2] 31
      rwa [World.size_alloc] at this
    have HB0 := hid bA
    have HX := hid (And.intro X1 X2)
    have HT := hid ht
    have HU := hid hu
    have HIK := hid ihk
    have HL := hid (And.intro hL hN)
    have HL2 := hid (And.intro hL2 hN2)
    have HR := hid hR
    clear bA X1 X2 ht hu ihk hL hN hL2 hN2 hR ih hw hwu hsm hsl hsm2 hsl2
    by_cases h1 : ¬ k = k2
    · have HN : Hid (R = false) := hid (by rw [← HR.out, beq_eq_false_iff_ne.2 h1]; rfl)
      clear HR
      go_enter Tryd.func11, Tryd.ntmps11
      go_wp2_with fail
      go_ret
      exact ⟨ret_bool HN.out.symm, HB0.out⟩
    obtain rfl : k = k2 := Decidable.not_not.1 h1
    clear h1
    by_cases h2 : ¬ m = m2
    · have HN : Hid (R = false) := hid (by rw [← HR.out, beq_eq_false_iff_ne.2 h2]; simp)
      have h2' : (m != m2) = true := by simp [h2]
      clear HR
      go_enter Tryd.func11, Tryd.ntmps11
      go_wp2_with fail
      go_ret
      exact ⟨ret_bool HN.out.symm, HB0.out⟩
    obtain rfl : m = m2 := Decidable.not_not.1 h2
    clear h2
    by_cases h5 : ¬ N = N2
    · have HN : Hid (R = false) := hid (by rw [← HR.out, beq_eq_false_iff_ne.2 h5]; simp)
      have h5' : ¬ (N : Int) = N2 := by omega
      clear HR
      go_enter Tryd.func11, Tryd.ntmps11
      go_wp2_with fail
      go_ret
      exact ⟨ret_bool HN.out.symm, HB0.out⟩
    obtain rfl : N = N2 := Decidable.not_not.1 h5
    clear h5
    have HK : Hid (fitsTs (kids.drop 0) (kids2.drop 0) = R) := hid (by rw [← HR.out, List.drop_zero, List.drop_zero]; simp)
    clear HR
    go_enter Tryd.func11, Tryd.ntmps11
    go_wp2_with fail
    generalize (World.alloc (World.alloc w _) _) = wq at *
    go_loopg [5] N (fun gf u wx => ∃ j : Nat, u = .int .i64 (j : Int) ∧ j ≤ N ∧ N ≤ j + gf ∧ Hid (fitsTs (kids.drop j) (kids2.drop j) = R) ∧ Hid (Below wq.heap.size wq wx))
    case atStart => exact ⟨0, rfl, by omega, by omega, HK, hid (Below.refl _ _)⟩
    case round =>
      obtain ⟨j, rfl, hj, hg2, HJ, HB⟩ := hrel
      clear HK
      have hbx := HB.out
      have hbw := HB0.out.trans (HB.out.mono HB0.out.size)
      by_cases hlt2 : j < N
      · obtain ⟨x, hx⟩ : ∃ x, kids[j]? = some x := ⟨kids[j]'(by rw [HL.out.2]; exact hlt2), List.getElem?_eq_getElem _⟩
        obtain ⟨y, hy⟩ : ∃ y, kids2[j]? = some y := ⟨kids2[j]'(by rw [HL2.out.2]; exact hlt2), List.getElem?_eq_getElem _⟩
        obtain ⟨b, off, c0, e, _, hxx⟩ := Lies.at (HT.out.2.2.1.keep (Keeps.of_below hbw)) (i := j) (by rw [List.length_map, HL.out.2]; exact hlt2)
        obtain ⟨b2, off2, c2, e', _, hyy⟩ := Lies.at (HU.out.2.2.1.keep (Keeps.of_below hbw)) (i := j) (by rw [List.length_map, HL2.out.2]; exact hlt2)
        injection e with e1 e2 e3
        injection e' with e4 e5 e6
        subst e1 e4
        clear e2 e3 e5 e6
        have hxc := hxx j x.cells (by rw [List.getElem?_map, hx]; rfl)
        have hyc := hyy j y.cells (by rw [List.getElem?_map, hy]; rfl)
        have z4 := HX.out.1.later hbx 4 (.slice (some ⟨b, off, none⟩) N ck) rfl
        have y4 := HX.out.2.later hbx 4 (.slice (some ⟨b2, off2, none⟩) N ck2) rfl
        have k4 := cell_regrown z4
        have j4 := cell_regrown y4
        have CY := hid (fun (d : Nat) (os : Array Obj) => Calls.regrown_of (HIK.out x (List.mem_of_getElem? hx) y (List.mem_of_getElem? hy) (grow (redrawn wr d) os) (hbw.trans ((below_regrown wr d os).mono hbw.size))))
        change Hid (∀ d os, Calls _ _ #[.agg x.cells.toArray, .agg y.cells.toArray] _ _) at CY
        have KX := hid (reg_cells hxc)
        have KY := hid (reg_cells hyc)
        have ZX := hid (tySize x)
        have ZY := hid (tySize y)
        have hp := HJ.out
        rw [drop_cons hx, drop_cons hy, fitsTs] at hp
        generalize fitsT x y = q at *
        generalize x.cells = xcs at *
        generalize y.cells = ycs at *
        have HP := hid hp
        have HBW2 := hid hbw
        have i1 : (j : Int) < (N : Int) := by omega
        have i0 : (0 : Int) ≤ (j : Int) := by omega
        clear hx hy hxx hyy hxc hyc hp HJ hbx hbw
        go_wp2_with fail
        refine wp_region_quiet_below (by kernel_rfl) (by kernel_rfl) ?_
        repeat (first | ((with_reducible refine wpQuiet_load_at (o := ⟨some 38, _, _, _, _, _⟩) rfl _ _ rfl b (off + j * 5) rfl xcs _ KX.out Tryd.underlying31 rfl ZX.out ?_); simp only [Act.put, List.setIfInBounds_toArray, List.set_cons_zero, List.set_cons_succ]) | ((with_reducible refine wpQuiet_load_at (o := ⟨some 43, _, _, _, _, _⟩) rfl _ _ rfl b2 (off2 + j * 5) rfl ycs _ KY.out Tryd.underlying31 rfl ZY.out ?_); simp only [Act.put, List.setIfInBounds_toArray, List.set_cons_zero, List.set_cons_succ]) | go_big_quiet_step (first | (with_reducible exact CY.out _ _)))
        refine wpQuiet_nil ?_
        intro _ hw'
        obtain ⟨⟨dq, osq⟩, hw''⟩ := hw'
        subst hw''
        have B3 := hid (HB.out.trans ((below_regrown wr dq osq).mono HB.out.size))
        have B4 := hid (HBW2.out.trans ((below_regrown wr dq osq).mono HBW2.out.size))
        clear HB CY KX KY HBW2 z4 y4 k4 j4
        cases q
        · have HN : Hid (R = false) := hid (by rw [← HP.out]; rfl)
          clear HP
          go_wp2_with fail
          go_ret
          exact ⟨ret_bool HN.out.symm, B4.out⟩
        · have HN : Hid (fitsTs (kids.drop (j + 1)) (kids2.drop (j + 1)) = R) := hid (by rw [← HP.out]; rfl)
          clear HP
          go_wp2_with fail
          go_roundg (gk - 1)
          case measure => omega
          case rel => exact ⟨j + 1, by go_num, by omega, by omega, HN, B3⟩
      · have HN : Hid (R = true) := hid (by rw [← HJ.out, List.drop_eq_nil_of_le (by rw [HL.out.2]; omega), List.drop_eq_nil_of_le (by rw [HL2.out.2]; omega)]; rfl)
        have z4 := HX.out.1.later hbx 4 (.slice pk N ck) rfl
        have HBW2 := hid hbw
        clear HJ hbx hbw
        go_wp2_with fail
        go_ret
        exact ⟨ret_bool HN.out.symm, HBW2.out⟩
set_option maxHeartbeats 8000000 in
set_option maxRecDepth 100000 in
theorem rLessT_any : ∀ (n : Nat) (t u : ETy) (w : World), wT t ≤ n → n ≤ 1048576 → wT u ≤ 1048576 → t.In w → u.In w → fitsT t u = true →
    Calls Tryd.prog 26 #[t.val, u.val] w fun r w' => r = .returned (.bool (lessT t u)) ∧ Below w.heap.size w w' := by
  intro n
  induction n using Nat.strongRecOn with
  | ind n ih =>
    intro t u w hw hn hwu ht hu hf
    have hsm : Small t := by unfold Small; omega
    have hsl := hsm.loans
    have hsm2 : Small u := hwu
    have hsl2 := hsm2.loans
    obtain ⟨k, m, g, lv, ls, kv, kids⟩ := t
    obtain ⟨k2, m2, g2, lv2, ls2, kv2, kids2⟩ := u
    rw [ETy.In] at ht hu
    obtain ⟨pl, cl, hcl, rfl⟩ := lies_slice ht.1
    obtain ⟨pk, ck, hck, rfl⟩ := lies_slice ht.2.2.1
    obtain ⟨pl2, cl2, hcl2, rfl⟩ := lies_slice hu.1
    obtain ⟨pk2, ck2, hck2, rfl⟩ := lies_slice hu.2.2.1
    rw [wT] at hw hwu
    have hkl := kids_len kids
    have hLb : ls.length ≤ 1048576 := hsl.1
    have hNb : kids.length ≤ 1048576 := by omega
    clear hkl
    obtain ⟨R, hR⟩ : ∃ R, lessT (.mk k m g (.slice pl ls.length cl) ls (.slice pk kids.length ck) kids) (.mk k2 m2 g2 (.slice pl2 ls2.length cl2) ls2 (.slice pk2 kids2.length ck2) kids2) = R := ⟨_, rfl⟩
    rw [hR]
    rw [lessT] at hR
    rw [fitsT, Bool.and_eq_true] at hf
    have hlk : kids.length = kids2.length := by have := hf.1; simp at this; exact this.2
    have hfk := hf.2
    have ihk := fun (x : ETy) (hx : x ∈ kids) (y : ETy) (hy : y ∈ kids2) (hxy : fitsT x y = true) (W : World) (hb : Below w.heap.size w W) => ih (wT x) (by have := mem_sum wT hx; rw [← wTs_sum] at this; omega) x y W (Nat.le_refl _) (by have := mem_sum wT hx; rw [← wTs_sum] at this; omega) (by have := mem_sum wT hy; rw [← wTs_sum] at this; omega) (ETy.In.keep (Keeps.of_below hb) x ((ETy.ins_iff w kids).1 ht.2.2.2 x hx)) (ETy.In.keep (Keeps.of_below hb) y ((ETy.ins_iff w kids2).1 hu.2.2.2 y hy)) hxy
    have ihl := fun (x : Ln) (hx : x ∈ ls) (W : World) (hb : Below w.heap.size w W) (d : Nat) (os : Array Obj) => Calls.regrown_of (rHas_any ls2 x (.slice pl2 ls2.length cl2) (grow (redrawn W d) os) (hu.1.keep (regKeeps hb d os)) (fun y hy => ⟨(hu.2.1 y hy).keep (regKeeps hb d os), hsl2.2 y hy⟩) ((ht.2.1 x hx).keep (regKeeps hb d os)) (hsl.2 x hx) (by have := hsl2.1; change ls2.length ≤ _ at this; omega))
    change Calls _ _ #[.agg #[.int .i64 k, .bool m, .bool g, .slice pl ls.length cl, .slice pk kids.length ck], .agg #[.int .i64 k2, .bool m2, .bool g2, .slice pl2 ls2.length cl2, .slice pk2 kids2.length ck2]] _ _
    generalize hL : ls.length = L at *
    generalize hN : kids.length = N at *
    generalize hL2 : ls2.length = L2 at *
    generalize hN2 : kids2.length = N2 at *
    obtain rfl : N = N2 := hlk
    have bA : Below w.heap.size w ((w.alloc (.cells #[.int .i64 k, .bool m, .bool g, .slice pl L cl, .slice pk N ck] 31 (0, 0))).alloc (.cells #[.int .i64 k2, .bool m2, .bool g2, .slice pl2 L2 cl2, .slice pk2 N ck2] 31 (0, 0))) := ((Below.refl _ _).alloc (Nat.le_refl _) _).alloc (by simp) _
    have X1 : BoxAt ((w.alloc (.cells #[.int .i64 k, .bool m, .bool g, .slice pl L cl, .slice pk N ck] 31 (0, 0))).alloc (.cells #[.int .i64 k2, .bool m2, .bool g2, .slice pl2 L2 cl2, .slice pk2 N ck2] 31 (0, 0))) w.heap.size [.int .i64 k, .bool m, .bool g, .slice pl L cl, .slice pk N ck] := (BoxAt.new w _ _).later ((Below.refl _ _).alloc (Nat.le_refl _) _)
    have X2 : BoxAt ((w.alloc (.cells #[.int .i64 k, .bool m, .bool g, .slice pl L cl, .slice pk N ck] 31 (0, 0))).alloc (.cells #[.int .i64 k2, .bool m2, .bool g2, .slice pl2 L2 cl2, .slice pk2 N ck2] 31 (0, 0))) (w.heap.size + 1) [.int .i64 k2, .bool m2, .bool g2, .slice pl2 L2 cl2, .slice pk2 N ck2] := by
      have := BoxAt.new (w.alloc (.cells #[.int .i64 k, .bool m, .bool g, .slice pl L cl, .slice pk N ck] 31 (0, 0))) [.int .i64 k2, .bool m2, .bool g2, .slice pl2 L2 cl2, .slice pk2 N ck2] 31
      rwa [World.size_alloc] at this
    have HB0 := hid bA
    have HX := hid (And.intro X1 X2)
    have HT := hid ht
    have HU := hid hu
    have HIK := hid ihk
    have HL := hid (And.intro hL hN)
    have HL2 := hid (And.intro hL2 hN2)
    have HR := hid hR
    have HIL := hid ihl
    have HFK := hid hfk
    have HR' : Hid (((ls.drop 0).all (has ls2) && lessTs kids kids2 && (!g || g2)) = R) := hid (by rw [List.drop_zero]; exact HR.out)
    clear bA X1 X2 ht hu ihk ihl hL hN hL2 hN2 hR ih hw hwu hsm hsl hsm2 hsl2 hf hfk HR
    go_enter Tryd.func26, Tryd.ntmps26
    go_wp2_with fail
    generalize (World.alloc (World.alloc w _) _) = W1 at *
    go_loopg [5] L (fun gf u wx => ∃ i : Nat, u = .int .i64 (i : Int) ∧ i ≤ L ∧ L ≤ i + gf ∧ Hid (((ls.drop i).all (has ls2) && lessTs kids kids2 && (!g || g2)) = R) ∧ Hid (Below W1.heap.size W1 wx))
    case atStart => exact ⟨0, rfl, by omega, by omega, HR', hid (Below.refl _ _)⟩
    case round =>
      obtain ⟨i, rfl, hi, hg, HI, HB⟩ := hrel
      clear HR'
      have hbw := HB0.out.trans (HB.out.mono HB0.out.size)
      by_cases hlt : i < L
      · obtain ⟨x, hx⟩ : ∃ x, ls[i]? = some x := ⟨ls[i]'(by rw [HL.out.1]; exact hlt), List.getElem?_eq_getElem _⟩
        obtain ⟨b, off, c0, e, _, hxx⟩ := Lies.at (HT.out.1.keep (Keeps.of_below hbw)) (i := i) (by rw [List.length_map, HL.out.1]; exact hlt)
        injection e with e1 e2 e3
        subst e1
        clear e2 e3
        have hxc := hxx i x.cells (by rw [List.getElem?_map, hx]; rfl)
        have z3 := HX.out.1.later HB.out 3 (.slice (some ⟨b, off, none⟩) L cl) rfl
        have y3 := HX.out.2.later HB.out 3 (.slice pl2 L2 cl2) rfl
        have k3 := cell_regrown z3
        have j3 := cell_regrown y3
        have CY := hid (HIL.out x (List.mem_of_getElem? hx) _ hbw)
        change Hid (∀ d os, Calls _ _ #[_, .agg x.cells.toArray] _ _) at CY
        have KX := hid (reg_cells hxc)
        have ZX := hid (lnSize x)
        have hp := HI.out
        rw [drop_cons hx, List.all_cons] at hp
        generalize has ls2 x = q at *
        generalize x.cells = xcs at *
        have HP := hid hp
        have HBW2 := hid hbw
        have i1 : (i : Int) < (L : Int) := by omega
        have i0 : (0 : Int) ≤ (i : Int) := by omega
        clear hx hxx hxc hp HI hbw
        go_wp2_with fail
        refine wp_region_quiet_below (by kernel_rfl) (by kernel_rfl) ?_
        repeat (first | ((with_reducible refine wpQuiet_load_at (o := ⟨some 20, _, _, _, _, _⟩) rfl _ _ rfl b (off + i * 4) rfl xcs _ KX.out Tryd.underlying44 rfl ZX.out ?_); simp only [Act.put, List.setIfInBounds_toArray, List.set_cons_zero, List.set_cons_succ]) | go_big_quiet_step (first | (with_reducible exact CY.out _ _)))
        refine wpQuiet_nil ?_
        intro _ hw'
        obtain ⟨⟨dq, osq⟩, hw''⟩ := hw'
        subst hw''
        have B3 := hid (HB.out.trans ((below_regrown wr dq osq).mono HB.out.size))
        have B4 := hid (HBW2.out.trans ((below_regrown wr dq osq).mono HBW2.out.size))
        clear HB CY KX HBW2 z3 y3 k3 j3
        cases q
        · have HN : Hid (R = false) := hid (by rw [← HP.out]; rfl)
          clear HP
          go_wp2_with fail
          go_ret
          exact ⟨ret_bool HN.out.symm, B4.out⟩
        · have HN : Hid (((ls.drop (i + 1)).all (has ls2) && lessTs kids kids2 && (!g || g2)) = R) := hid (by rw [← HP.out]; rfl)
          clear HP
          go_wp2_with fail
          go_roundg (gk - 1)
          case measure => omega
          case rel => exact ⟨i + 1, by go_num, by omega, by omega, HN, B3⟩
      · have HK : Hid ((lessTs (kids.drop 0) (kids2.drop 0) && (!g || g2)) = R) := hid (by have := HI.out; rw [List.drop_eq_nil_of_le (by rw [HL.out.1]; omega)] at this; rw [List.drop_zero, List.drop_zero]; exact this)
        have z3 := HX.out.1.later HB.out 3 (.slice pl L cl) rfl
        clear HI HIL
        go_wp2_with fail
        have HBB := hid HB.out
        have HBW := hid hbw
        clear HB z3 hbw
        generalize hwq : wr = wq at *
        clear hwq
        go_loopg [6] N (fun gf u wx => ∃ j : Nat, u = .int .i64 (j : Int) ∧ j ≤ N ∧ N ≤ j + gf ∧ Hid ((lessTs (kids.drop j) (kids2.drop j) && (!g || g2)) = R) ∧ Hid (Below wq.heap.size wq wx))
        case atStart => exact ⟨0, rfl, by omega, by omega, HK, hid (Below.refl _ _)⟩
        case round =>
          obtain ⟨j, rfl, hj, hg2, HJ, HB⟩ := hrel
          clear HK
          have hbx := HBB.out.trans (HB.out.mono HBB.out.size)
          have hbw := HBW.out.trans (HB.out.mono HBW.out.size)
          by_cases hlt2 : j < N
          · obtain ⟨x, hx⟩ : ∃ x, kids[j]? = some x := ⟨kids[j]'(by rw [HL.out.2]; exact hlt2), List.getElem?_eq_getElem _⟩
            obtain ⟨y, hy⟩ : ∃ y, kids2[j]? = some y := ⟨kids2[j]'(by rw [HL2.out.2]; exact hlt2), List.getElem?_eq_getElem _⟩
            obtain ⟨b, off, c0, e, _, hxx⟩ := Lies.at (HT.out.2.2.1.keep (Keeps.of_below hbw)) (i := j) (by rw [List.length_map, HL.out.2]; exact hlt2)
            obtain ⟨b2, off2, c2, e', _, hyy⟩ := Lies.at (HU.out.2.2.1.keep (Keeps.of_below hbw)) (i := j) (by rw [List.length_map, HL2.out.2]; exact hlt2)
            injection e with e1 e2 e3
            injection e' with e4 e5 e6
            subst e1 e4
            clear e2 e3 e5 e6
            have hxc := hxx j x.cells (by rw [List.getElem?_map, hx]; rfl)
            have hyc := hyy j y.cells (by rw [List.getElem?_map, hy]; rfl)
            have z4 := HX.out.1.later hbx 4 (.slice (some ⟨b, off, none⟩) N ck) rfl
            have y4 := HX.out.2.later hbx 4 (.slice (some ⟨b2, off2, none⟩) N ck2) rfl
            have k4 := cell_regrown z4
            have j4 := cell_regrown y4
            have CY := hid (fun (d : Nat) (os : Array Obj) => Calls.regrown_of (HIK.out x (List.mem_of_getElem? hx) y (List.mem_of_getElem? hy) (fitsTs_mem HFK.out hx hy) (grow (redrawn wr d) os) (hbw.trans ((below_regrown wr d os).mono hbw.size))))
            change Hid (∀ d os, Calls _ _ #[.agg x.cells.toArray, .agg y.cells.toArray] _ _) at CY
            have KX := hid (reg_cells hxc)
            have KY := hid (reg_cells hyc)
            have ZX := hid (tySize x)
            have ZY := hid (tySize y)
            have hp := HJ.out
            rw [drop_cons hx, drop_cons hy, lessTs] at hp
            generalize lessT x y = q at *
            generalize x.cells = xcs at *
            generalize y.cells = ycs at *
            have HP := hid hp
            have HBW2 := hid hbw
            have i1 : (j : Int) < (N : Int) := by omega
            have i0 : (0 : Int) ≤ (j : Int) := by omega
            clear hx hy hxx hyy hxc hyc hp HJ hbx hbw
            go_wp2_with fail
            refine wp_region_quiet_below (by kernel_rfl) (by kernel_rfl) ?_
            repeat (first | ((with_reducible refine wpQuiet_load_at (o := ⟨some 34, _, _, _, _, _⟩) rfl _ _ rfl b (off + j * 5) rfl xcs _ KX.out Tryd.underlying31 rfl ZX.out ?_); simp only [Act.put, List.setIfInBounds_toArray, List.set_cons_zero, List.set_cons_succ]) | ((with_reducible refine wpQuiet_load_at (o := ⟨some 39, _, _, _, _, _⟩) rfl _ _ rfl b2 (off2 + j * 5) rfl ycs _ KY.out Tryd.underlying31 rfl ZY.out ?_); simp only [Act.put, List.setIfInBounds_toArray, List.set_cons_zero, List.set_cons_succ]) | go_big_quiet_step (first | (with_reducible exact CY.out _ _)))
            refine wpQuiet_nil ?_
            intro _ hw'
            obtain ⟨⟨dq, osq⟩, hw''⟩ := hw'
            subst hw''
            have B3 := hid (HB.out.trans ((below_regrown wr dq osq).mono HB.out.size))
            have B4 := hid (HBW2.out.trans ((below_regrown wr dq osq).mono HBW2.out.size))
            clear HB CY KX KY HBW2 z4 y4 k4 j4
            cases q
            · have HN : Hid (R = false) := hid (by rw [← HP.out]; rfl)
              clear HP
              go_wp2_with fail
              go_ret
              exact ⟨ret_bool HN.out.symm, B4.out⟩
            · have HN : Hid ((lessTs (kids.drop (j + 1)) (kids2.drop (j + 1)) && (!g || g2)) = R) := hid (by rw [← HP.out]; rfl)
              clear HP
              go_wp2_with fail
              go_roundg (gk - 1)
              case measure => omega
              case rel => exact ⟨j + 1, by go_num, by omega, by omega, HN, B3⟩
          · have HN : Hid ((!g || g2) = R) := hid (by rw [← HJ.out, List.drop_eq_nil_of_le (by rw [HL.out.2]; omega), List.drop_eq_nil_of_le (by rw [HL2.out.2]; omega)]; rfl)
            have z4 := HX.out.1.later hbx 4 (.slice pk N ck) rfl
            have z2 := HX.out.1.later hbx 2 (.bool g) rfl
            have y2 := HX.out.2.later hbx 2 (.bool g2) rfl
            have HBW2 := hid hbw
            clear HJ hbx hbw
            cases g
            all_goals
              go_wp2_with fail
              go_ret
              exact ⟨ret_bool (by rw [← HN.out]; rfl), HBW2.out⟩
end Go.Proofs.YtannfhbocfghkaaDoor.EnvC

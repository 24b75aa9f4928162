/- Texts joined: EnvO, EnvQ, EnvZP. -/
import Derived.Test.YtannfhbocfghkaaJ08
import Derived.Test.YtannfhbocfghkaaJ07
/- Contracts of env.match. -/
namespace Go.Proofs.Ytannfhbocfghkaa.EnvC
open Go Go.RowKit Go.Shelf Go.Lib Go.Sort Go.Proofs.Ytannfhbocfghkaa.EnvP

def fitB (x y : Bd) : Bool := bs x.name == bs y.name && fitsT x.ty y.ty
set_option maxHeartbeats 4000000 in
set_option maxRecDepth 100000 in
theorem match1_any (x y : Bd) (w : World) (hx : x.ty.In w) (hy : y.ty.In w) (hsx : Small x.ty) (hsy : Small y.ty) :
    Calls Try.prog 40 #[.agg x.cells.toArray, .agg y.cells.toArray] w fun r w' => r = .returned (.bool (fitB x y)) ∧ Below w.heap.size w w' := by
  obtain ⟨R, hR⟩ : ∃ R, fitB x y = R := ⟨_, rfl⟩
  rw [hR]
  unfold fitB at hR
  obtain ⟨nx, tx⟩ := x
  obtain ⟨ny, ty⟩ := y
  have c1 := fun (W : World) (hb : Below w.heap.size w W) => fits_any tx ty W (ETy.In.keep (Keeps.of_below hb) tx hx) (ETy.In.keep (Keeps.of_below hb) ty hy) hsx hsy
  obtain ⟨k, m, g, lv, ls, kv, kids⟩ := tx
  obtain ⟨k', m', g', lv', ls', kv', kids'⟩ := ty
  rw [ETy.In] at hx hy
  have l1 := slice_one hx.1
  have l2 := slice_one hx.2.2.1
  have l3 := slice_one hy.1
  have l4 := slice_one hy.2.2.1
  clear hx hy hsx hsy
  change Calls _ _ #[.agg #[.string nx, .int .i64 k, .bool m, .bool g, lv, kv], .agg #[.string ny, .int .i64 k', .bool m', .bool g', lv', kv']] _ _
  change ∀ W, Below w.heap.size w W → Calls _ _ #[.agg #[.int .i64 k, .bool m, .bool g, lv, kv], .agg #[.int .i64 k', .bool m', .bool g', lv', kv']] _ _ at c1
  dsimp only at *
  generalize fitsT _ _ = q at *
  have B0 : Below w.heap.size w ((w.alloc (.cells #[.string nx, .int .i64 k, .bool m, .bool g, lv, kv] 45 (0, 0))).alloc (.cells #[.string ny, .int .i64 k', .bool m', .bool g', lv', kv'] 45 (0, 0))) := ((Below.refl _ _).alloc (Nat.le_refl _) _).alloc (by simp) _
  have X1 : BoxAt ((w.alloc (.cells #[.string nx, .int .i64 k, .bool m, .bool g, lv, kv] 45 (0, 0))).alloc (.cells #[.string ny, .int .i64 k', .bool m', .bool g', lv', kv'] 45 (0, 0))) w.heap.size [.string nx, .int .i64 k, .bool m, .bool g, lv, kv] := (BoxAt.new w _ _).later ((Below.refl _ _).alloc (Nat.le_refl _) _)
  have X2 : BoxAt ((w.alloc (.cells #[.string nx, .int .i64 k, .bool m, .bool g, lv, kv] 45 (0, 0))).alloc (.cells #[.string ny, .int .i64 k', .bool m', .bool g', lv', kv'] 45 (0, 0))) (w.heap.size + 1) [.string ny, .int .i64 k', .bool m', .bool g', lv', kv'] := by
    have := BoxAt.new (w.alloc (.cells #[.string nx, .int .i64 k, .bool m, .bool g, lv, kv] 45 (0, 0))) [.string ny, .int .i64 k', .bool m', .bool g', lv', kv'] 45
    rwa [World.size_alloc] at this
  have x4 := X1 4 lv rfl
  have x5 := X1 5 kv rfl
  have y4 := X2 4 lv' rfl
  have y5 := X2 5 kv' rfl
  have C1 := hid (c1 _ B0)
  have H0 := hid B0
  have HR : Hid (((nx.toList == ny.toList) && q) = R) := hid (by rw [Lib.toList_data, Lib.toList_data]; exact hR)
  clear c1 hR B0 X1 X2
  cases hn : (nx.toList == ny.toList)
  · have HN : Hid (R = false) := hid (by rw [← HR.out, hn]; rfl)
    clear HR C1
    go_enter Try.func40, Try.ntmps40
    go_wp2_with fail
    go_ret
    exact ⟨ret_bool HN.out.symm, H0.out⟩
  · have HN : Hid (R = q) := hid (by rw [← HR.out, hn]; rfl)
    clear HR
    go_enter Try.func40, Try.ntmps40
    go_wp2_with fail
    with_reducible refine C1.out.mono ?_
    rintro e W ⟨rfl, hb⟩
    have H1 := hid (H0.out.trans (hb.mono H0.out.size))
    clear C1 hb H0 x4 x5 y4 y5
    go_wp2_with fail
    go_ret
    exact ⟨ret_bool HN.out.symm, H1.out⟩

def allB (l m : List Bd) : Bool := (l.zip m).all fun p => fitB p.1 p.2
set_option maxHeartbeats 8000000 in
set_option maxRecDepth 100000 in
theorem equalFunc_any (l m : List Bd) (v u : Value) (w : World) (hl : EnvIn w v l) (hm : EnvIn w u m) (hsl : ∀ b ∈ l, Small b.ty) (hsm : ∀ b ∈ m, Small b.ty) (hll : l.length ≤ 1048576) (hlm : m.length ≤ 1048576) :
    Calls Try.prog 39 #[v, u, .func (.func 40) #[] #[]] w fun r w' => r = .returned (.bool (l.length == m.length && allB l m)) ∧ Below w.heap.size w w' := by
  obtain ⟨R, hR⟩ : ∃ R, (l.length == m.length && allB l m) = R := ⟨_, rfl⟩
  rw [hR]
  obtain ⟨p, cap, hcap, rfl⟩ := lies_slice hl.1
  obtain ⟨p', cap', hcap', rfl⟩ := lies_slice hm.1
  generalize hL : l.length = L at *
  generalize hM : m.length = M at *
  have HR := hid hR
  have HL := hid (And.intro hL hM)
  have HE := hid (And.intro hl hm)
  have HS := hid (And.intro hsl hsm)
  clear hR hL hM hl hm hsl hsm
  have eg : ∀ (args : Array Value) (w : World), (callFunc 40 args).run Try.prog w = .ok (.enter 40 args) w := enters_of Try.func40 (by kernel_rfl) rfl
  by_cases hne : L = M
  · subst hne
    have HA : Hid ((((l.drop 0).zip (m.drop 0)).all fun p => fitB p.1 p.2) = R) := hid (by rw [List.drop_zero, List.drop_zero, ← HR.out]; simp [allB])
    clear HR
    go_enter Try.func39, Try.ntmps39
    go_wp2_with fail
    go_loopg [17] L (fun gf u wx => ∃ i : Nat, u = .int .i64 (i : Int) ∧ i ≤ L ∧ L ≤ i + gf ∧ Hid ((((l.drop i).zip (m.drop i)).all fun p => fitB p.1 p.2) = R) ∧ Hid (Below w.heap.size w wx))
    case atStart => exact ⟨0, rfl, by omega, by omega, HA, hid (Below.refl _ _)⟩
    case round =>
      obtain ⟨i, rfl, hi, hg, HI, HB⟩ := hrel
      clear HA
      by_cases hlt : i < L
      · obtain ⟨x, hx⟩ : ∃ x, l[i]? = some x := ⟨l[i]'(by rw [HL.out.1]; exact hlt), List.getElem?_eq_getElem _⟩
        obtain ⟨y, hy⟩ : ∃ y, m[i]? = some y := ⟨m[i]'(by rw [HL.out.2]; exact hlt), List.getElem?_eq_getElem _⟩
        have kk := Keeps.of_below HB.out
        obtain ⟨b, off, c0, e, _, hxx⟩ := Lies.at (HE.out.1.1.keep kk) (i := i) (by rw [List.length_map, HL.out.1]; exact hlt)
        injection e with e1 e2 e3
        subst e1
        obtain ⟨b', off', c0', e', _, hyy⟩ := Lies.at (HE.out.2.1.keep kk) (i := i) (by rw [List.length_map, HL.out.2]; exact hlt)
        injection e' with e1' e2' e3'
        subst e1'
        clear e2 e3 e2' e3'
        have hxc := hxx i x.cells (by rw [List.getElem?_map, hx]; rfl)
        have hyc := hyy i y.cells (by rw [List.getElem?_map, hy]; rfl)
        have hix := ETy.In.keep kk _ (HE.out.1.2 x (List.mem_of_getElem? hx))
        have hiy := ETy.In.keep kk _ (HE.out.2.2 y (List.mem_of_getElem? hy))
        have c1 := fun (W : World) (hb : Below wr.heap.size wr W) => match1_any x y W (ETy.In.keep (Keeps.of_below hb) _ hix) (ETy.In.keep (Keeps.of_below hb) _ hiy) (HS.out.1 x (List.mem_of_getElem? hx)) (HS.out.2 y (List.mem_of_getElem? hy))
        have hp := HI.out
        rw [drop_cons hx, drop_cons hy, List.zip_cons_cons, List.all_cons] at hp
        dsimp only at hp
        generalize fitB x y = q at *
        obtain ⟨nx, ⟨k, mm, g, lv, ls, kv, kids⟩⟩ := x
        obtain ⟨ny, ⟨k', mm', g', lv', ls', kv', kids'⟩⟩ := y
        rw [ETy.In] at hix hiy
        obtain ⟨p1, q1, _, e1⟩ := lies_slice hix.1
        obtain ⟨p2, q2, _, e2⟩ := lies_slice hix.2.2.1
        obtain ⟨p3, q3, _, e3⟩ := lies_slice hiy.1
        obtain ⟨p4, q4, _, e4⟩ := lies_slice hiy.2.2.1
        subst e1 e2 e3 e4
        generalize ls.length = n1 at *
        generalize kids.length = n2 at *
        generalize ls'.length = n3 at *
        generalize kids'.length = n4 at *
        have bA : Below wr.heap.size wr (wr.alloc (.cells #[.string nx, .int .i64 k, .bool mm, .bool g, .slice p1 n1 q1, .slice p2 n2 q2] 45 (0, 0))) := (Below.refl _ _).alloc (Nat.le_refl _) _
        have bB : Below wr.heap.size wr ((wr.alloc (.cells #[.string nx, .int .i64 k, .bool mm, .bool g, .slice p1 n1 q1, .slice p2 n2 q2] 45 (0, 0))).alloc (.cells #[.string ny, .int .i64 k', .bool mm', .bool g', .slice p3 n3 q3, .slice p4 n4 q4] 45 (0, 0))) := bA.alloc (by simp) _
        have C1 := hid (c1 _ bB)
        change Hid (Calls _ _ #[.agg #[.string nx, .int .i64 k, .bool mm, .bool g, .slice p1 n1 q1, .slice p2 n2 q2], .agg #[.string ny, .int .i64 k', .bool mm', .bool g', .slice p3 n3 q3, .slice p4 n4 q4]] _ _) at C1
        have x0 := hxc 0 (.string nx) rfl
        have x1 := hxc 1 (.int .i64 k) rfl
        have x2 := hxc 2 (.bool mm) rfl
        have x3 := hxc 3 (.bool g) rfl
        have x4 := hxc 4 (.slice p1 n1 q1) rfl
        have x5 := hxc 5 (.slice p2 n2 q2) rfl
        have y0 := later bA (hyc 0 (.string ny) rfl)
        have y1 := later bA (hyc 1 (.int .i64 k') rfl)
        have y2 := later bA (hyc 2 (.bool mm') rfl)
        have y3 := later bA (hyc 3 (.bool g') rfl)
        have y4 := later bA (hyc 4 (.slice p3 n3 q3) rfl)
        have y5 := later bA (hyc 5 (.slice p4 n4 q4) rfl)
        rw [Nat.add_zero] at x0 y0
        have X1 : BoxAt ((wr.alloc (.cells #[.string nx, .int .i64 k, .bool mm, .bool g, .slice p1 n1 q1, .slice p2 n2 q2] 45 (0, 0))).alloc (.cells #[.string ny, .int .i64 k', .bool mm', .bool g', .slice p3 n3 q3, .slice p4 n4 q4] 45 (0, 0))) wr.heap.size [.string nx, .int .i64 k, .bool mm, .bool g, .slice p1 n1 q1, .slice p2 n2 q2] := (BoxAt.new wr _ _).later ((Below.refl _ _).alloc (Nat.le_refl _) _)
        have z0 := X1 0 (.string nx) rfl
        have z1 := X1 1 (.int .i64 k) rfl
        have z2 := X1 2 (.bool mm) rfl
        have z3 := X1 3 (.bool g) rfl
        have z4 := X1 4 (.slice p1 n1 q1) rfl
        have z5 := X1 5 (.slice p2 n2 q2) rfl
        have HP := hid hp
        have B2 := hid (HB.out.trans (bB.mono HB.out.size))
        clear hx hy kk hxx hyy hxc hyc hix hiy c1 hp HI X1 bA bB HB
        go_wp2_with fail
        with_reducible refine C1.out.mono ?_
        rintro e W3 ⟨rfl, hb3⟩
        have B3 := hid (B2.out.trans (hb3.mono B2.out.size))
        clear C1 hb3 B2 x0 x1 x2 x3 x4 x5 y0 y1 y2 y3 y4 y5 z0 z1 z2 z3 z4 z5
        cases q
        · have HN : Hid (R = false) := hid (by rw [← HP.out]; rfl)
          go_wp2_with fail
          go_ret
          exact ⟨ret_bool HN.out.symm, B3.out⟩
        · have HN : Hid ((((l.drop (i + 1)).zip (m.drop (i + 1))).all fun p => fitB p.1 p.2) = R) := hid (by rw [← HP.out]; rfl)
          go_wp2_with fail
          go_roundg (gk - 1)
          case measure => omega
          case rel => exact ⟨i + 1, by go_num, by omega, by omega, HN, B3⟩
      · have HN : Hid (R = true) := hid (by rw [← HI.out, List.drop_eq_nil_of_le (by rw [HL.out.1]; omega)]; rfl)
        clear HI HE HS HL
        go_wp2_with fail
        go_ret
        exact ⟨ret_bool HN.out.symm, HB.out⟩
  · have HN : Hid (R = false) := hid (by rw [← HR.out]; simp [hne])
    have hn2 : ((L : Int) != (M : Int)) = true := by simp; omega
    clear HR HE HS HL hne
    go_enter Try.func39, Try.ntmps39
    go_wp2_with fail
    go_ret
    exact ⟨ret_bool HN.out.symm, Below.refl _ _⟩

theorem both_eq (a b : List Bd) : both a b = (right a && right b && (a.length == b.length && allB a b)) := by
  unfold both allB fitB
  cases right a <;> cases right b <;> simp
set_option maxHeartbeats 4000000 in
set_option maxRecDepth 100000 in
theorem match_any (a b : List Bd) (v u : Value) (w : World) (ha : EnvIn w v a) (hb : EnvIn w u b) (hsa : ∀ x ∈ a, Small x.ty) (hsb : ∀ x ∈ b, Small x.ty) (hla : a.length ≤ 1048576) (hlb : b.length ≤ 1048576) :
    Calls Try.prog 28 #[v, u] w fun r w' => r = .returned (.bool (both a b)) ∧ Below w.heap.size w w' := by
  have c1 := rightEnv_any a v w ha hsa hla
  have c2 := fun (W : World) (h : Below w.heap.size w W) => rightEnv_any b u W (hb.keep (Keeps.of_below h)) hsb hlb
  have c3 := fun (W : World) (h : Below w.heap.size w W) => equalFunc_any a b v u W (ha.keep (Keeps.of_below h)) (hb.keep (Keeps.of_below h)) hsa hsb hla hlb
  have hR := both_eq a b
  generalize both a b = R at *
  generalize right a = p1 at *
  generalize right b = p2 at *
  generalize (a.length == b.length && allB a b) = p3 at *
  have C1 := hid c1
  have C2 := hid c2
  have C3 := hid c3
  have HR := hid hR
  clear c1 c2 c3 hR ha hb hsa hsb
  go_enter Try.func28, Try.ntmps28
  go_wp2_with fail
  with_reducible refine C1.out.mono ?_
  rintro e W ⟨rfl, hb1⟩
  have B1 := hid hb1
  clear hb1 C1
  cases p1
  · have HN : Hid (R = false) := hid HR.out
    clear HR C2 C3
    go_wp2_with fail
    go_ret
    exact ⟨ret_bool HN.out.symm, B1.out⟩
  have D2 := hid (C2.out W B1.out)
  go_wp2_with fail
  with_reducible refine D2.out.mono ?_
  rintro e W2 ⟨rfl, hb2⟩
  have B2 := hid (B1.out.trans (hb2.mono B1.out.size))
  clear hb2 D2 C2 B1
  cases p2
  · have HN : Hid (R = false) := hid HR.out
    clear HR C3
    go_wp2_with fail
    go_ret
    exact ⟨ret_bool HN.out.symm, B2.out⟩
  have HN : Hid (R = p3) := hid HR.out
  have D3 := hid (C3.out W2 B2.out)
  clear HR C3
  go_wp2_with fail
  with_reducible refine D3.out.mono ?_
  rintro e W3 ⟨rfl, hb3⟩
  have B3 := hid (B2.out.trans (hb3.mono B2.out.size))
  clear D3 hb3 B2
  go_wp2_with fail
  go_ret
  exact ⟨ret_bool HN.out.symm, B3.out⟩
end Go.Proofs.Ytannfhbocfghkaa.EnvC
/- Contract of env.Less. -/
namespace Go.Proofs.Ytannfhbocfghkaa.EnvC
open Go Go.RowKit Go.Shelf Go.Lib Go.Sort Go.Proofs.Ytannfhbocfghkaa.EnvP
attribute [local go_sem] Oper.semAt_some

/-- a pair that fits, the second one right -/
def LeOk (w : World) (x : Pr) : Prop := PrOk w x ∧ fitsT x.t x.u = true ∧ rightT x.u = true
theorem LeOk.keep {w w' : World} {x : Pr} (h : LeOk w x) (k : Keeps w w') : LeOk w' x := ⟨h.1.keep k, h.2⟩
theorem rightTs_mem : ∀ {l : List ETy} {t : ETy}, rightTs l = true → t ∈ l → rightT t = true
  | u :: us, t, h, hm => by
    rw [rightTs, Bool.and_eq_true] at h
    rcases List.mem_cons.1 hm with rfl | hm
    · exact h.1
    · exact rightTs_mem h.2 hm
theorem fitsTs_mem : ∀ {l m : List ETy} {j : Nat} {t u : ETy}, fitsTs l m = true → l[j]? = some t → m[j]? = some u → fitsT t u = true
  | x :: xs, y :: ys, 0, t, u, h, ht, hu => by
    rw [fitsTs, Bool.and_eq_true] at h
    simp at ht hu
    rw [← ht, ← hu]; exact h.1
  | x :: xs, y :: ys, j + 1, t, u, h, ht, hu => by
    rw [fitsTs, Bool.and_eq_true] at h
    exact fitsTs_mem h.2 (by simpa using ht) (by simpa using hu)
  | [], _, j, t, u, _, ht, _ => by simp at ht
  | _ :: _, [], j, t, u, _, _, hu => by simp at hu
theorem leOk_kids {w : World} {x : Pr} (h : LeOk w x) : ∀ y ∈ x.kids, LeOk w y := by
  intro y hy
  have h1 := prOk_kids h.1 y hy
  obtain ⟨j, t, u, ht, hu, rfl⟩ := mem_kids hy
  refine ⟨h1, ?_, ?_⟩
  · obtain ⟨b, o, ⟨k, m, g, lv, ls, kv, kids⟩, c, d, ⟨k', m', g', lv', ls', kv', kids'⟩⟩ := x
    have h2 := h.2.1
    rw [fitsT, Bool.and_eq_true] at h2
    exact fitsTs_mem h2.2 ht hu
  · obtain ⟨b, o, ⟨k, m, g, lv, ls, kv, kids⟩, c, d, ⟨k', m', g', lv', ls', kv', kids'⟩⟩ := x
    have h2 := h.2.2
    rw [rightT, Bool.and_eq_true] at h2
    exact rightTs_mem h2.1 (List.mem_of_getElem? hu)
theorem right_rising {t : ETy} (h : rightT t = true) : rising t.loans = true := by
  obtain ⟨k, m, g, lv, ls, kv, kids⟩ := t
  rw [rightT, Bool.and_eq_true] at h
  have h2 := h.2
  unfold askT at h2
  by_cases h4 : k = 4
  · rw [if_pos h4, Bool.and_eq_true] at h2
    unfold rightLns at h2
    rw [Bool.and_eq_true] at h2
    exact h2.1.2
  · rw [if_neg h4, Bool.and_eq_true, Bool.and_eq_true] at h2
    have : ls = [] := by have := h2.1.2; simpa using this
    show rising ls = true
    rw [this]; rfl
theorem fitsT_len {t u : ETy} (h : fitsT t u = true) : t.kids.length = u.kids.length := by
  obtain ⟨k, m, g, lv, ls, kv, kids⟩ := t
  obtain ⟨k', m', g', lv', ls', kv', kids'⟩ := u
  rw [fitsT] at h
  simp at h
  exact h.1.2
def less_one (p : Bd × Bd) : Bool := lessT p.1.ty p.2.ty

set_option maxHeartbeats 8000000 in
set_option maxRecDepth 100000 in
theorem less_any (a b : List Bd) (v u : Value) (w : World) (ha : EnvIn w v a) (hb : EnvIn w u b) (hsa : ∀ x ∈ a, Small x.ty) (hsb : ∀ x ∈ b, Small x.ty) (hla : a.length ≤ 1048576) (hlb : b.length ≤ 1048576) :
    Calls Try.prog 15 #[v, u] w fun r w' => r = .returned (.bool (less a b)) ∧ Below w.heap.size w w' := by
  have c0 := fun (W : World) (h : Below w.heap.size w W) => match_any a b v u W (ha.keep (Keeps.of_below h)) (hb.keep (Keeps.of_below h)) hsa hsb hla hlb
  obtain ⟨p, cap, hcap, rfl⟩ := lies_slice ha.1
  obtain ⟨p', cap', hcap', rfl⟩ := lies_slice hb.1
  obtain ⟨R, hR⟩ : ∃ R, less a b = R := ⟨_, rfl⟩
  rw [hR]
  unfold less at hR
  have hboth : both a b = true → a.length = b.length ∧ right b = true ∧ ∀ (i : Nat) (x y : Bd), a[i]? = some x → b[i]? = some y → fitsT x.ty y.ty = true := by
    intro h
    rw [both_eq] at h
    simp only [Bool.and_eq_true, beq_iff_eq] at h
    refine ⟨h.2.1, h.1.2, fun i x y hx hy => ?_⟩
    have h3 := h.2.2
    unfold allB at h3
    rw [List.all_eq_true] at h3
    have := h3 (x, y) (List.mem_of_getElem? (i := i) (by rw [List.getElem?_zip_eq_some]; exact ⟨hx, hy⟩))
    unfold fitB at this
    rw [Bool.and_eq_true] at this
    exact this.2
  generalize both a b = bt at *
  generalize hLa : a.length = La at *
  generalize hLb : b.length = Lb at *
  have hb1 : Below w.heap.size w (w.alloc (.cells #[.bool false] 4 (0, 0))) := (Below.refl _ _).alloc (Nat.le_refl _) _
  have X1 := Boxed.new w 4 (.bool false)
  change Boxed (w.alloc (.cells #[.bool false] 4 (0, 0))) _ _ _ at X1
  have C0 := hid (callsIn_wide (n := 11) |>.2 (c0 _ hb1))
  have HR := hid hR
  have HBT := hid hboth
  have HL := hid (And.intro hLa hLb)
  have HE := hid (And.intro ha hb)
  have HS := hid (And.intro hsa hsb)
  have HB1 := hid hb1
  have HX1 := hid X1
  clear hR hLa hLb ha hb hsa hsb c0 hboth hb1 X1
  refine callsIn_wide (n := 12) |>.1 (callsIn_of_wp_marks Try.func15 rfl trivial ?_ rfl)
  simp only [Try.ntmps15, List.size_toArray, List.length_cons, List.length_nil, Nat.reduceAdd, Nat.reduceSub, Array.replicate_succ, Array.replicate_zero, List.push_toArray, List.append_toArray, List.nil_append, List.cons_append]
  gi_wp2
  refine ⟨trivial, C0.out.mono ?_⟩
  generalize World.alloc w _ = W1 at *
  rintro e W2 ⟨rfl, hb2⟩
  have HB2 := hid (HB1.out.trans (hb2.mono HB1.out.size))
  have hx2 := boxed_below HX1.out hb2
  have hc2 := hx2.cell
  have hf2 := hx2.frozen
  have HX2 := hid hx2
  clear hb2 hx2 C0 HB1 HX1
  cases bt
  · have HN : Hid (R = false) := hid HR.out.symm
    clear HR HBT HE HS HL
    gi_wp2
    exact leaves_marks (b := w.heap.size + 1) (by intro e; cases e) [] _ trivial fun w' hb hc => ⟨_, result_cell rfl _ _ _ _ _ _ _ (hc.boxed (HX2.out.set _)) rfl Try.underlying4 rfl, by rw [HN.out], ((HB2.out.setCell (Nat.le_refl _) _).trans (hb.mono (by omega)))⟩
  · have HR2 : Hid ((((a.drop 0).zip (b.drop 0)).all less_one) = R) := hid (by rw [List.drop_zero, List.drop_zero, ← HR.out]; rfl)
    obtain ⟨hlen, hrb, hfit⟩ := HBT.out rfl
    subst hlen
    have HF := hid (And.intro hrb hfit)
    clear HR HBT hrb hfit hc2 hf2
    gi_wp2
    refine wpIn_loop_ghost_k (fun gf act wr => ∃ (i : Nat) (ds : List Deferred) (u5 u6 u14 u15 u16 u17 u18 u19 u20 u21 u22 u23 u24 u25 u26 u27 u28 u29 : Value), act = { tmps := #[.slice p La cap, .slice p' La cap', undef, undef, .pointer (some ⟨w.heap.size, 0, none⟩), u5, u6, .slice p La cap, .slice p' La cap', .bool true, .bool false, .slice p La cap, .int .i64 (La : Int), .int .i64 (i : Int), u14, u15, u16, u17, u18, u19, u20, u21, u22, u23, u24, u25, u26, u27, u28, u29], defers := ds } ∧
      i ≤ La ∧ La ≤ i + gf ∧ Hid (Marks (w.heap.size + 1) wr ds) ∧ Hid (Below w.heap.size w wr) ∧ Hid (Boxed wr w.heap.size 4 (.bool false)) ∧ Hid ((((a.drop i).zip (b.drop i)).all less_one) = R)) La ⟨0, [], _, _, _, _, _, _, _, _, _, _, _, _, _, _, _, _, _, _, rfl, by omega, by omega, hid trivial, HB2, HX2, HR2⟩ ?_
    rintro gk act wr ⟨i, ds, u5, u6, u14, u15, u16, u17, u18, u19, u20, u21, u22, u23, u24, u25, u26, u27, u28, u29, rfl, hi, hg, HM, HB, HX, HI⟩ J K hJ hK
    clear HB2 HX2 HR2
    by_cases hlt : i < La
    · obtain ⟨x, hx⟩ : ∃ x, a[i]? = some x := ⟨a[i]'(by rw [HL.out.1]; exact hlt), List.getElem?_eq_getElem _⟩
      obtain ⟨y, hy⟩ : ∃ y, b[i]? = some y := ⟨b[i]'(by rw [HL.out.2]; exact hlt), List.getElem?_eq_getElem _⟩
      obtain ⟨b1, o1, c1, ev, _, ok1, _⟩ := bd_at HE.out.1 hx (HS.out.1 x (List.mem_of_getElem? hx))
      injection ev with e1 e2 e3
      subst e1
      obtain ⟨b2, o2, c2, ev', _, ok2, _⟩ := bd_at HE.out.2 hy (HS.out.2 y (List.mem_of_getElem? hy))
      injection ev' with e1' e2' e3'
      subst e1'
      have hlo : LeOk w ⟨b1, o1 + i * 6 + 1, x.ty, b2, o2 + i * 6 + 1, y.ty⟩ := ⟨⟨ok1.1, ok2.1, ok1.2, ok2.2⟩, HF.out.2 i x y hx hy, by
        have := HF.out.1
        unfold right at this
        rw [List.all_eq_true] at this
        exact this y (List.mem_of_getElem? hy)⟩
      have hI2 := HI.out
      rw [drop_cons hx, drop_cons hy, List.zip_cons_cons, List.all_cons] at hI2
      have HA := hid (fun W => all_Pr ⟨b1, o1 + i * 6 + 1, x.ty, b2, o2 + i * 6 + 1, y.ty⟩ W)
      have HLO := hid hlo
      have HI2 : Hid ((lessT x.ty y.ty && ((a.drop (i + 1)).zip (b.drop (i + 1))).all less_one) = R) := hid hI2
      have ilt : (i : Int) < (La : Int) := by omega
      have i0 : (0 : Int) ≤ (i : Int) := by omega
      clear e2 e3 e2' e3' ok1 ok2 hlo hx hy HI hI2
      obtain ⟨rest, hrest⟩ : ∃ rest, ((a.drop (i + 1)).zip (b.drop (i + 1))).all less_one = rest := ⟨_, rfl⟩
      rw [hrest] at HI2
      have HREST := hid hrest
      clear hrest
      gi_wp2
      refine wpIn_wide.2 ?_
      go_region_held3 (fun w' => True) (first | trivial) (first | (go_at_call 30; refine (HA.out _).mono ?_; rintro e W2 ⟨rfl, hb2, h1, h2, hsz⟩))
      have hb2' : Below wr.heap.size wr W2 := ((Below.refl wr.heap.size wr).drew).trans hb2
      have h1' : W2.heap[wr.heap.size]? = some (.cells (Pr.cells ⟨b1, o1 + i * 6 + 1, x.ty, b2, o2 + i * 6 + 1, y.ty⟩).toArray 68 (0, 0)) := h1
      have h2' : Boxed W2 (wr.heap.size + 1) 77 (.func (.func 43) #[] #[]) := h2
      have HB2 := hid (HB.out.trans (hb2'.mono HB.out.size))
      have HM2 := hid (HM.out.later hb2')
      have HX2 := hid (boxed_below HX.out hb2')
      have HD : Hid (∀ D, { target := .collected D, args := #[] } ∈ ds → D < W2.heap.size) := hid (fun D hm => HM2.out.lt D hm)
      have HS2 : Hid (w.heap.size < W2.heap.size) := hid HX2.out.lt
      have hnt : nT x.ty ≤ 1048576 := Nat.le_trans (nT_le _) HLO.out.1.2.2.1
      clear hb2 hb2' h1 h2 hsz HA HB HM HX
      simp only [Exit.then]
      gi_wp2
      refine range_of (n := 12) rfl (by omega) (gf := 54) rfl trivial (enters_of Try.func54 (by kernel_rfl) rfl)
        (walks_Pr 11 (by omega) ⟨b1, o1 + i * 6 + 1, x.ty, b2, o2 + i * 6 + 1, y.ty⟩ wr.heap.size (wr.heap.size + 1) W2 h1' h2' hnt) (Below.refl _ _) rfl (fun A B x ks h hc => h.keep hc.keeps)
        (fun st W => Below W2.heap.size W2 W ∧ (∀ y ∈ st, LeOk w y) ∧ (stAll2 leP st && rest) = R)
        (fun W => Below w.heap.size w W ∧ Marks (w.heap.size + 1) W ds ∧ Boxed W w.heap.size 4 (.bool false) ∧ W2.heap.size ≤ W.heap.size ∧ R = false)
        (fun st A B h k => ⟨h.1.trans (k.below h.1.size), h.2⟩)
        (fun A B h k => ⟨h.1.trans ((k.below h.2.2.2.1).mono (Nat.le_of_lt HS2.out)), k.marks h.2.1 HD.out, k.boxed h.2.2.1 HS2.out, Nat.le_trans h.2.2.2.1 k.size, h.2.2.2.2⟩)
        ⟨Below.refl _ _, fun z hz => by rw [List.mem_singleton] at hz; subst hz; exact HLO.out, by rw [← HI2.out]; unfold stAll2; rw [List.all_cons, List.all_nil, Bool.and_true, less_all]⟩ ?round ?done ?stop
      case round =>
        clear HLO HI2 hnt h1' h2' HREST
        rintro l y r W ⟨hB, hok, heq⟩
        have hoy := hok y List.mem_cons_self
        rw [stAll2_step leP y r] at heq
        have hok2 : ∀ z ∈ y.kids ++ r, LeOk w z := fun z hz => (List.mem_append.1 hz).elim (fun h => leOk_kids hoy z h) (fun h => hok z (List.mem_cons_of_mem _ h))
        rw [show y.cells.toArray = #[.pointer (some ⟨y.b, y.o, none⟩), .pointer (some ⟨y.c, y.q, none⟩)] from rfl]
        have hbx : Below W.heap.size W (W.alloc (.cells #[.pointer (some ⟨y.b, y.o, none⟩), .pointer (some ⟨y.c, y.q, none⟩)] 68 (0, 0))) := (Below.refl _ _).alloc (Nat.le_refl _) _
        have hnew := World.alloc_heap_new W (.cells #[.pointer (some ⟨y.b, y.o, none⟩), .pointer (some ⟨y.c, y.q, none⟩)] 68 (0, 0))
        have HBX := hid hbx
        have HNEW := hid hnew
        have HBW := hid hB
        have HOY := hid hoy
        have HOKK := hid hok2
        have HEQ := hid heq
        clear hbx hnew hB hoy hok hok2 heq
        gi_wp2
        refine ⟨Below.keepsFrom HBX.out _, (Below.cellsSame HBX.out).types, fun W4 hb4 hc4 => ?_⟩
        have hn4 := hc4 _ _ HNEW.out rfl
        have d0 : W4.cell? ⟨W.heap.size, 0, none⟩ = some (.pointer (some ⟨y.b, y.o, none⟩)) := by rw [Lib.cell_of_heap hn4]; rfl
        have d1 : W4.cell? ⟨W.heap.size, 1, none⟩ = some (.pointer (some ⟨y.c, y.q, none⟩)) := by rw [Lib.cell_of_heap hn4]; rfl
        have HB4 := hid ((HBW.out.trans (HBX.out.mono HBW.out.size)).trans hb4)
        have HOY4 := hid (HOY.out.keep (Keeps.of_below (HB2.out.trans (HB4.out.mono (Nat.le_of_lt HS2.out)))))
        have HC := hid (CallsIn.inRound l (callsIn_wide (n := 9) |>.2 (atMost_any y W4 HOY4.out.1 (right_rising HOY4.out.2.2))))
        clear HBX HNEW HBW hb4 hc4 hn4 HOY
        generalize leP y.t y.u = qq at *
        gi_wp2
        refine ⟨trivial, HC.out.mono ?_⟩
        rintro e5 W5 ⟨rfl, hb5⟩
        have HB5 := hid (HB4.out.trans (hb5.mono HB4.out.size))
        have HOY5 := hid (HOY4.out.keep (Keeps.of_below hb5))
        have hx5 := boxed_below HX2.out HB5.out
        have hc5 := hx5.cell
        have hf5 := hx5.frozen
        have HX5 := hid hx5
        have HK5 := hid hb5
        clear HC hb5 hx5 d0 d1
        cases qq
        · have HR0 : Hid (R = false) := hid (by rw [← HEQ.out]; rfl)
          gi_wp2
          refine ⟨(Below.keepsFrom HK5.out _).trans (KeepsFrom.of_grownBy (grownBy_setCell' W5 _ _) (fun j e => by cases e; exact HS2.out)), (HB2.out.trans (HB5.out.mono (Nat.le_of_lt HS2.out))).setCell (Nat.le_refl _) _, (HM2.out.later HB5.out).set _ _, HX5.out.set _, Nat.le_trans HB5.out.size (by simp [World.setCell]), HR0.out⟩
        · gi_wp2
          exact ⟨Below.keepsFrom HK5.out _, (Below.cellsSame HK5.out).types, y.kids, ⟨HOY5.out.1.1, HOY5.out.1.2.1, HOY5.out.1.2.2.1, fitsT_len HOY5.out.2.1, rfl⟩, HB5.out, HOKK.out, by have := HEQ.out; simpa using this⟩
      case done =>
        rintro D W hD ⟨hB, _, heq⟩ hdef
        have HM3 := hid (Marks.push (HM2.out.later hB) HD.out hD (Nat.le_trans HS2.out hD) hdef)
        have HB3 := hid (HB2.out.trans (hB.mono (Nat.le_of_lt HS2.out)))
        have HX3 := hid (boxed_below HX2.out hB)
        have HI3 : Hid ((((a.drop (i + 1)).zip (b.drop (i + 1))).all less_one) = R) := hid (by rw [HREST.out, ← heq]; rfl)
        clear hB heq hdef HB2 HM2 HX2 HI2
        gi_wp2
        exact Handed.intro (gk - 1) (by omega) (hJ _ _ _ ⟨i + 1, _, _, _, _, _, _, _, _, _, _, _, _, _, _, _, _, _, _, _, rfl, by omega, by omega, HM3, HB3, HX3, HI3⟩)
      case stop =>
        rintro D W hD ⟨hB, hm, hx, hs, rfl⟩ hdef
        clear HB2 HM2 HX2 HI2
        gi_wp2
        exact leaves_marks (b := w.heap.size + 1) (by intro e; cases e) _ _ (Marks.push hm HD.out hD (Nat.le_trans HS2.out hD) hdef) fun w' hb hc => ⟨_, result_cell rfl _ _ _ _ _ _ _ (hc.boxed hx) rfl Try.underlying4 rfl, rfl, hB.trans (hb.mono (by omega))⟩
    · have HN : Hid (R = true) := hid (by rw [← HI.out, List.drop_eq_nil_of_le (by rw [HL.out.1]; omega)]; rfl)
      have hX := HX.out.cell
      have hF := HX.out.frozen
      clear HI HE HS HL HF
      gi_wp2
      exact leaves_marks (b := w.heap.size + 1) (by intro e; cases e) _ _ (HM.out.set _ _) fun w' hb hc => ⟨_, result_cell rfl _ _ _ _ _ _ _ (hc.boxed (HX.out.set _)) rfl Try.underlying4 rfl, by rw [HN.out], ((HB.out.setCell (Nat.le_refl _) _).trans (hb.mono (by omega)))⟩
end Go.Proofs.Ytannfhbocfghkaa.EnvC
/- A join of trees in memory, as it is made: what is yet to be joined, and what is so when all of it has been. No program. -/
namespace Go.Proofs.Ytannfhbocfghkaa.EnvC
open Go Go.RowKit Go.Shelf Go.Lib Go.Sort Go.Proofs.Ytannfhbocfghkaa.EnvP

/-! ### The weight of a join -/
theorem wLn_same {a b : Ln} (h : sameLn a b = true) : wLn a = wLn b := by
  unfold sameLn at h
  simp only [Bool.and_eq_true, beq_iff_eq] at h
  obtain ⟨⟨⟨h1, h2⟩, h3⟩, _⟩ := h
  have e1 : a.life.size = b.life.size := congrArg List.length h1
  have e2 : a.pl.var.size = b.pl.var.size := congrArg List.length h2
  unfold wLn wPl
  rw [e1, e2, h3]
theorem wLns_alikes : ∀ {l m : List Ln}, alikes l m = true → wLns l = wLns m
  | [], [], _ => rfl
  | a :: l, b :: m, h => by
    rw [alikes, Bool.and_eq_true] at h
    rw [wLns, wLns, wLn_same h.1, wLns_alikes h.2]
  | [], _ :: _, h => by cases h
  | _ :: _, [], h => by cases h
theorem wLns_merge : ∀ l m : List Ln, wLns (mergeL l m) ≤ wLns l + wLns m
  | [], m => by rw [merge_end (.inl rfl), List.nil_append]; omega
  | a :: l, [] => by rw [merge_end (.inr rfl), List.append_nil]; omega
  | a :: l, b :: m => by
    rw [mergeL]
    split
    · have := wLns_merge l (b :: m)
      have e : wLns (a :: l) = wLn a + wLns l := rfl
      rw [wLns, e]; omega
    · split
      · rw [wLns, wLns, wLns]; have := wLns_merge l m; omega
      · have := wLns_merge (a :: l) m
        have e : wLns (b :: m) = wLn b + wLns m := rfl
        rw [wLns, e]; omega
termination_by l m => l.length + m.length
mutual
theorem join_w : ∀ t u j : ETy, Joins t u j → wT j ≤ wT t + wT u
  | .mk k m g _ ls _ ks, .mk _ _ g' _ ls' _ ks', .mk k2 m2 g2 _ ls2 _ ks2, h => by
    rw [Joins] at h
    obtain ⟨_, _, _, h4, h5⟩ := h
    have h6 := wLns_alikes h4
    have h7 := wLns_merge ls ls'
    have h8 := join_ws ks ks' ks2 h5
    rw [wT, wT, wT]; omega
theorem join_ws : ∀ t u j : List ETy, JoinsL t u j → wTs j ≤ wTs t + wTs u
  | [], [], [], _ => Nat.zero_le _
  | t :: ts, u :: us, j :: js, h => by
    rw [JoinsL] at h
    have h1 := join_w t u j h.1
    have h2 := join_ws ts us js h.2
    rw [wTs, wTs, wTs]; omega
  | [], [], _ :: _, h => by simp [JoinsL] at h
  | [], _ :: _, _, h => by simp [JoinsL] at h
  | _ :: _, [], _, h => by simp [JoinsL] at h
  | _ :: _, _ :: _, [], h => by simp [JoinsL] at h
end

/-! ### What is yet to be joined -/
def Done (W : World) (x : Pr) : Prop := ∃ j, TyAt W x.b x.o j ∧ Joins x.t x.u j
structure Pend (w0 W : World) (x : Pr) : Prop where
  here : ∃ T cur, (T = 43 ∨ T = 45) ∧ W.heap[x.b]? = some (.cells cur T (0, 0)) ∧ ∀ (j : Nat) (v : Value), x.t.cells[j]? = some v → cur[x.o + j]? = some v
  base : w0.heap.size ≤ x.b
  left : x.t.In w0
  right : TyAt w0 x.c x.q x.u
  small : wT x.t + wT x.u ≤ 1048576
  fit : fitsT x.t x.u = true
def Off (x : Pr) (k o : Nat) : Prop := ¬ (x.b = k ∧ x.o ≤ o ∧ o < x.o + 5)
def Apart (x y : Pr) : Prop := x.b ≠ y.b ∨ x.o + 5 ≤ y.o ∨ y.o + 5 ≤ x.o
/-- the one world is as the other one, but at the places of these pairs -/
structure Agree (w0 : World) (S : List Pr) (W W' : World) : Prop where
  base : Keeps w0 W'
  loans : RowKept 27 W W'
  ints : RowKept 3 W W'
  cells : ∀ (k : Nat) (cs : Array Value) (T : TypeId) (o : Nat) (v : Value), W.heap[k]? = some (.cells cs T (0, 0)) → (T = 43 ∨ T = 45) → cs[o]? = some v → (∀ x ∈ S, Off x k o) → W'.cell? ⟨k, o, none⟩ = some v
/-- these pairs are yet to be joined; when they are, and all else is as it is, so is this -/
structure Wand (w0 : World) (G : World → Prop) (S : List Pr) (W : World) : Prop where
  pend : ∀ x ∈ S, Pend w0 W x
  apart : S.Pairwise Apart
  last : ∀ W', Agree w0 S W W' → (∀ x ∈ S, Done W' x) → G W'
/-- all that a join builds is as it was -/
structure Built (W W' : World) : Prop where
  loans : RowKept 27 W W'
  ints : RowKept 3 W W'
  types : RowKept 43 W W'
  binds : RowKept 45 W W'
theorem Built.row {W W' : World} (h : Built W W') {k : Nat} {cs : Array Value} {T : TypeId} (hT : T = 43 ∨ T = 45) (hk : W.heap[k]? = some (.cells cs T (0, 0))) : W'.heap[k]? = some (.cells cs T (0, 0)) := by
  rcases hT with rfl | rfl
  · exact h.types k cs _ hk
  · exact h.binds k cs _ hk
theorem Wand.built {w0 W W2 : World} {G : World → Prop} {S : List Pr} (h : Wand w0 G S W) (k : Built W W2) : Wand w0 G S W2 := by
  refine ⟨fun x hx => ?_, h.apart, fun W' a hd => h.last W' ⟨a.base, k.loans.trans a.loans, k.ints.trans a.ints, fun i cs T o v hi hT hv ho => a.cells i cs T o v (k.row hT hi) hT hv ho⟩ hd⟩
  have p := h.pend x hx
  obtain ⟨T, cur, hT, h1, h2⟩ := p.here
  exact { p with here := ⟨T, cur, hT, k.row hT h1, h2⟩ }
theorem Wand.done {w0 W : World} {G : World → Prop} (h : Wand w0 G [] W) (hb : Below w0.heap.size w0 W) : G W :=
  h.last W ⟨Keeps.of_below hb, RowKept.refl _ _, RowKept.refl _ _, fun k cs T o v hk _ hv _ => by rw [Lib.cell_of_heap hk]; exact hv⟩ fun x hx => absurd hx (by simp)

/-! ### One pair joined -/
/-- what lies where a pair has been joined, as long as its kids are the old ones -/
def Pr.got (x : Pr) (lv kv : Value) (L : List Ln) : Pr := ⟨x.b, x.o, .mk x.t.kind x.t.mt (x.t.gone || x.u.gone) lv L kv x.t.kids, x.c, x.q, x.u⟩
theorem types_of {P : Nat → ETy → Prop} : ∀ (n : Nat), (∀ i, i < n → ∃ j, P i j) → ∃ l : List ETy, l.length = n ∧ ∀ i j, l[i]? = some j → P i j
  | 0, _ => ⟨[], rfl, fun i j h => by simp at h⟩
  | n + 1, h => by
    obtain ⟨l, h1, h2⟩ := types_of n (fun i hi => h i (by omega))
    obtain ⟨j, hj⟩ := h n (by omega)
    refine ⟨l ++ [j], by simp [h1], fun i x hx => ?_⟩
    by_cases hi : i < n
    · rw [List.getElem?_append_left (by omega)] at hx; exact h2 i x hx
    · have : i = n := by have := (List.getElem?_eq_some_iff.1 hx).1; simp at this; omega
      subst this
      rw [List.getElem?_append_right (by omega), h1, Nat.sub_self] at hx
      cases hx; exact hj
theorem joinsL_of : ∀ (ts us js : List ETy), ts.length = us.length → js.length = ts.length → (∀ (i : Nat) t u j, ts[i]? = some t → us[i]? = some u → js[i]? = some j → Joins t u j) → JoinsL ts us js
  | [], [], [], _, _, _ => by simp [JoinsL]
  | t :: ts, u :: us, j :: js, h1, h2, h => by
    rw [JoinsL]
    exact ⟨h 0 t u j rfl rfl rfl, joinsL_of ts us js (by simpa using h1) (by simpa using h2) fun i a b c ha hb hc => h (i + 1) a b c (by simpa using ha) (by simpa using hb) (by simpa using hc)⟩
  | [], [], _ :: _, _, h2, _ => by simp at h2
  | [], _ :: _, _, h1, _, _ => by simp at h1
  | _ :: _, [], _, h1, _, _ => by simp at h1
  | _ :: _, _ :: _, [], _, h2, _ => by simp at h2
theorem ty_len (l : List ETy) : ∀ c ∈ l.map ETy.cells, c.length = 5 := by
  intro c hc; obtain ⟨x, _, rfl⟩ := List.mem_map.1 hc; cases x; rfl
theorem mem_w {l : List ETy} {t : ETy} (h : t ∈ l) : wT t ≤ wTs l := by rw [wTs_sum]; exact mem_sum wT h

theorem kids_o (x : Pr) (i : Nat) (hi : i < x.kids.length) : (x.kids[i]).o = (adr x.t.kv).2 + i * 5 := by
  have e : x.kids[i] = x.kid i ((x.t.kids.zip x.u.kids)[i]'(by unfold Pr.kids at hi; rwa [List.length_mapIdx] at hi)) := List.getElem_mapIdx
  rw [e]; rfl

theorem Wand.step {w0 W W2 : World} {G : World → Prop} {x : Pr} {r : List Pr} {T : TypeId} {cur : Array Value} (h : Wand w0 G (x :: r) W) (hwb : Below w0.heap.size w0 W) (hT : T = 43 ∨ T = 45)
    (hb : W.heap[x.b]? = some (.cells cur T (0, 0))) (hj : Joined w0 W x.b x.o T cur x.t x.u W2) : ∃ ks, Pr.Kids2 W2 x ks ∧ Wand w0 G (ks ++ r) W2 := by
  obtain ⟨b, o, ⟨k, m, g, lv, ls, kv, ks⟩, c, q, ⟨k', m', g', lv', ls', kv', ks'⟩⟩ := x
  have px := h.pend _ List.mem_cons_self
  obtain ⟨T', cur', hT', hb', hcur⟩ := px.here
  have hbase := px.base
  have hl := px.left
  have hr := px.right
  have hsm := px.small
  have hfit := px.fit
  dsimp only at hb hb' hj hbase hl hr hsm hfit hcur
  rw [hb] at hb'
  injection hb' with e
  injection e with e1 e2 _
  subst e1 e2
  obtain ⟨hbl, hsz, hsame, cur2, lv2, kv2, L, h2, hs2, c2, c3, c4, hA, hL, hK⟩ := hj
  have hlen : ks.length = ks'.length := fitsT_len hfit
  have hl' := hl
  rw [ETy.In] at hl'
  rw [wT, wT] at hsm
  rw [fitsT, Bool.and_eq_true] at hfit
  have k0 : Keeps w0 W2 := Keeps.of_below hbl
  have hlt : b < W.heap.size := (Array.getElem?_eq_some_iff.1 hb).1
  have hcell : ∀ a v, ([.int .i64 k, .bool m, .bool (g || g'), lv2, kv2] : List Value)[a]? = some v → a < 5 ∧ cur2[o + a]? = some v := by
    intro a v hv
    match a, hv with
    | 0, hv => cases hv; rw [hs2 _ (.inl (by omega))]; exact ⟨by omega, hcur 0 _ rfl⟩
    | 1, hv => cases hv; rw [hs2 _ (.inl (by omega))]; exact ⟨by omega, hcur 1 _ rfl⟩
    | 2, hv => cases hv; exact ⟨by omega, c2⟩
    | 3, hv => cases hv; exact ⟨by omega, c3⟩
    | 4, hv => cases hv; exact ⟨by omega, c4⟩
    | a + 5, hv => simp at hv
  have hkb : ∀ (i : Nat) (t : ETy), ks[i]? = some t → ∃ kb cap cs, kv2 = .slice (some ⟨kb, 0, none⟩) ks.length cap ∧ W.heap.size ≤ kb ∧ W2.heap[kb]? = some (.cells cs 43 (0, 0)) ∧ ∀ (a : Nat) (v : Value), t.cells[a]? = some v → cs[i * 5 + a]? = some v := by
    intro i t hi
    obtain ⟨_, ⟨_, e⟩ | ⟨kb, cap, cs, e, hB, hh, hn, hc, hcs, htake⟩⟩ := id hK
    · have := (List.getElem?_eq_some_iff.1 hi).1
      change ks.length = 0 at e
      omega
    · refine ⟨kb, cap, cs, e, hB, hh, fun a v hv => ?_⟩
      have h9 := flatten_at (ty_len ks) i t.cells (by rw [List.getElem?_map, hi]; rfl) a v hv
      change cs.toList.take (ks.length * 5) = (ks.map ETy.cells).flatten at htake
      rw [← htake] at h9
      have hlt := (List.getElem?_eq_some_iff.1 h9).1
      rw [List.length_take] at hlt
      rw [List.getElem?_take, if_pos (by omega)] at h9
      simpa using h9
  have hkid : ∀ y ∈ (Pr.got ⟨b, o, .mk k m g lv ls kv ks, c, q, .mk k' m' g' lv' ls' kv' ks'⟩ lv2 kv2 L).kids, W.heap.size ≤ y.b := by
    intro y hy
    obtain ⟨j, t, u, ht, hu, rfl⟩ := mem_kids hy
    obtain ⟨kb, cap, cs, e, hB, _⟩ := hkb j t ht
    show W.heap.size ≤ (kidAt kv2 j).1
    rw [e]; exact hB
  have kT : ∀ X, T ≠ X → RowKept X W W2 := fun X hX i cs f e => by
    have hne : i ≠ b := fun ei => by subst ei; rw [hb] at e; injection e with e; injection e with _ e _; exact hX e
    exact (hsame i (Array.getElem?_eq_some_iff.1 e).1 hne).trans e
  have hTL : T ≠ 27 := by rcases hT with rfl | rfl <;> decide
  have hTI : T ≠ 3 := by rcases hT with rfl | rfl <;> decide
  refine ⟨(Pr.got ⟨b, o, .mk k m g lv ls kv ks, c, q, .mk k' m' g' lv' ls' kv' ks'⟩ lv2 kv2 L).kids, ⟨.mk k m (g || g') lv2 L kv2 ks, Nat.le_of_eq (by rw [nT, nT]), ⟨fun a v hv => ?_, ?_⟩, hr.keep k0, ?_, hlen, rfl⟩, ?_⟩
  · rw [Lib.cell_of_heap h2]; exact (hcell a v hv).2
  · rw [ETy.In]
    exact ⟨(hL W2 (RowKept.refl _ _) (RowKept.refl _ _)).1, (hL W2 (RowKept.refl _ _) (RowKept.refl _ _)).2, own_lies (ty_len ks) (by rw [List.length_map]; exact hK), (ETy.ins_iff W2 ks).2 fun t ht => ETy.In.keep k0 t ((ETy.ins_iff w0 ks).1 hl'.2.2.2 t ht)⟩
  · unfold Small
    rw [wT]
    have h6 := wLns_alikes hA
    have h7 := wLns_merge ls ls'
    change wLns L = wLns (mergeL ls ls') at h6
    omega
  · refine ⟨fun y hy => ?_, List.pairwise_append.2 ⟨List.pairwise_iff_getElem.2 fun i j hi hj hij => ?_, (List.pairwise_cons.1 h.apart).2, fun a ha y hy => ?_⟩, fun W' a hd => h.last W' ?_ ?_⟩
    · rcases List.mem_append.1 hy with hy | hy
      · obtain ⟨j, t, u, ht, hu, rfl⟩ := mem_kids hy
        change ks[j]? = some t at ht
        change ks'[j]? = some u at hu
        obtain ⟨kb, cap, cs, e, hB, hh, hc⟩ := hkb j t ht
        have e1 : kidAt kv2 j = (kb, 0 + j * 5) := by rw [e]; rfl
        have ht1 := mem_w (List.mem_of_getElem? ht)
        have hu1 := mem_w (List.mem_of_getElem? hu)
        exact { here := ⟨_, cs, .inl rfl, (by show W2.heap[(kidAt kv2 j).1]? = _; rw [e1]; exact hh), fun a v hv => (by show cs[(kidAt kv2 j).2 + a]? = _; rw [e1]; dsimp only; rw [Nat.zero_add]; exact hc a v hv)⟩,
                base := (by show _ ≤ (kidAt kv2 j).1; rw [e1]; exact Nat.le_trans hwb.size hB),
                left := (ETy.ins_iff w0 ks).1 hl'.2.2.2 t (List.mem_of_getElem? ht), right := tyAt_kid hr.2 hu, small := (by show wT t + wT u ≤ _; omega), fit := fitsTs_mem hfit.2 ht hu }
      · have p := h.pend y (List.mem_cons_of_mem _ hy)
        obtain ⟨Ty, cury, hTy, hyb, hcy⟩ := p.here
        by_cases hyb' : y.b = b
        · rw [hyb', hb] at hyb
          injection hyb with e
          injection e with e1 e2 _
          subst e1 e2
          refine { p with here := ⟨T, cur2, hT, by rw [hyb']; exact h2, fun a v hv => ?_⟩ }
          have ha : a < 5 := by
            have := (List.getElem?_eq_some_iff.1 hv).1
            have e : y.t.cells.length = 5 := by cases y.t; rfl
            omega
          rcases (List.pairwise_cons.1 h.apart).1 y hy with e | e | e
          · exact absurd hyb'.symm e
          · change o + 5 ≤ y.o at e
            rw [hs2 _ (.inr (by omega))]; exact hcy a v hv
          · change y.o + 5 ≤ o at e
            rw [hs2 _ (.inl (by omega))]; exact hcy a v hv
        · exact { p with here := ⟨Ty, cury, hTy, (hsame y.b (Array.getElem?_eq_some_iff.1 hyb).1 hyb').trans hyb, hcy⟩ }
    · refine .inr (.inl ?_)
      rw [kids_o, kids_o]
      show (adr kv2).2 + i * 5 + 5 ≤ (adr kv2).2 + j * 5
      omega
    · have h1 := hkid a ha
      obtain ⟨_, _, _, h3, _⟩ := (h.pend y (List.mem_cons_of_mem _ hy)).here
      have h4 := (Array.getElem?_eq_some_iff.1 h3).1
      exact .inl (by omega)
    · refine ⟨a.base, (kT _ hTL).trans a.loans, (kT _ hTI).trans a.ints, fun i cs T2 o2 v hi hT2 hv hoff => ?_⟩
      have hi2 := (Array.getElem?_eq_some_iff.1 hi).1
      have hoffs : ∀ y ∈ (Pr.got ⟨b, o, .mk k m g lv ls kv ks, c, q, .mk k' m' g' lv' ls' kv' ks'⟩ lv2 kv2 L).kids ++ r, Off y i o2 := fun y hy => (List.mem_append.1 hy).elim (fun hy => fun e => by have := hkid y hy; have := e.1; omega) (fun hy => hoff y (List.mem_cons_of_mem _ hy))
      by_cases hib : i = b
      · subst hib
        rw [hb] at hi
        injection hi with e
        injection e with e1 e2 _
        subst e1 e2
        have hx := hoff _ List.mem_cons_self
        refine a.cells i cur2 T o2 v h2 hT ?_ hoffs
        rw [hs2 o2 (by unfold Off at hx; dsimp only at hx; omega)]; exact hv
      · exact a.cells i cs T2 o2 v ((hsame i hi2 hib).trans hi) hT2 hv hoffs
    · intro y hy
      rcases List.mem_cons.1 hy with rfl | hy
      · obtain ⟨js, hjl, hjs⟩ := types_of (P := fun i j => ∀ t u, ks[i]? = some t → ks'[i]? = some u → TyAt W' (kidAt kv2 i).1 (kidAt kv2 i).2 j ∧ Joins t u j) ks.length (fun i hi => by
          obtain ⟨j, h1, h3⟩ := hd (Pr.kid (Pr.got ⟨b, o, .mk k m g lv ls kv ks, c, q, .mk k' m' g' lv' ls' kv' ks'⟩ lv2 kv2 L) i (ks[i], ks'[i]'(by omega))) (List.mem_append_left _ (by
            unfold Pr.kids
            refine List.mem_mapIdx.2 ⟨i, by rw [List.length_zip]; show i < min ks.length ks'.length; omega, ?_⟩
            rw [List.getElem_zip]; rfl))
          refine ⟨j, fun t u ht hu => ?_⟩
          rw [List.getElem?_eq_getElem hi] at ht
          rw [List.getElem?_eq_getElem (by omega)] at hu
          cases ht; cases hu
          exact ⟨h1, h3⟩)
        have hjt : ∀ (i : Nat) j, js[i]? = some j → TyAt W' (kidAt kv2 i).1 (kidAt kv2 i).2 j := fun i j hj => by
          have h1 := (List.getElem?_eq_some_iff.1 hj).1
          exact (hjs i j hj _ _ (List.getElem?_eq_getElem (by omega)) (List.getElem?_eq_getElem (by omega))).1
        refine ⟨.mk k m (g || g') lv2 L kv2 js, ⟨fun i v hv => ?_, ?_⟩, ?_⟩
        · obtain ⟨ha, hv2⟩ := hcell i v hv
          refine a.cells b cur2 T (o + i) v h2 hT hv2 fun y hy => ?_
          rcases List.mem_append.1 hy with hy | hy
          · intro e
            have := hkid y hy
            have := e.1
            omega
          · intro e
            rcases (List.pairwise_cons.1 h.apart).1 y hy with e' | e' | e'
            · exact e' e.1.symm
            · change o + 5 ≤ y.o at e'; have := e.2; omega
            · change y.o + 5 ≤ o at e'; have := e.2; omega
        · rw [ETy.In]
          obtain ⟨h3, h4⟩ := hL W' a.loans a.ints
          refine ⟨h3, h4, ?_, (ETy.ins_iff W' js).2 fun j hj => ?_⟩
          · obtain ⟨p, cp, ekv, hcp, hp⟩ := own_lies (ty_len ks) (w := W2) (v := kv2) (base := W.heap.size) (e := 43) (by rw [List.length_map]; exact hK)
            rw [List.length_map] at ekv hcp
            refine ⟨p, cp, by rw [ekv, List.length_map, hjl], by rw [List.length_map, hjl]; exact hcp, fun hne => ?_⟩
            have hne2 : ks.map ETy.cells ≠ [] := fun e => hne (by rw [List.map_eq_nil_iff] at e ⊢; rw [e] at hjl; exact List.length_eq_zero_iff.1 hjl)
            obtain ⟨kb, off, rfl, _⟩ := hp hne2
            refine ⟨kb, off, rfl, fun i cc hi j v hv => ?_⟩
            rw [List.getElem?_map] at hi
            obtain ⟨jj, hjj, rfl⟩ := Option.map_eq_some_iff.1 hi
            have h5 := (hjt i jj hjj).1 j v hv
            rw [ekv] at h5
            exact h5
          · obtain ⟨i, hi⟩ := List.getElem?_of_mem hj
            exact (hjt i j hi).2
        · show Joins (.mk k m g lv ls kv ks) (.mk k' m' g' lv' ls' kv' ks') _
          rw [Joins]
          exact ⟨rfl, rfl, rfl, hA, joinsL_of ks ks' js hlen hjl fun i t u j ht hu hj => (hjs i j hj t u ht hu).2⟩
      · exact hd y (List.mem_append_right _ hy)
end Go.Proofs.Ytannfhbocfghkaa.EnvC

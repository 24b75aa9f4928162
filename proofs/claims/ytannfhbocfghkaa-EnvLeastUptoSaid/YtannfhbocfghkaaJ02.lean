/- Texts joined: EnvC, EnvD, EnvE0. -/
import Derived.Test.YtannfhbocfghkaaJ01
import Derived.Deep.RegionHeld3
/- Contracts of cmp.Or, slices.Compare at ints, env.one, env.Cmp, env.Overlap, env.rightLoan. -/
namespace Go.Proofs.Ytannfhbocfghkaa.EnvC
open Go Go.RowKit Go.Lib Go.Sort Go.Proofs.Ytannfhbocfghkaa.EnvP

theorem or_at {l : List Int} {i : Nat} {x : Int} (h : l[i]? = some x) : (l.drop i).foldr orI 0 = if x = 0 then (l.drop (i + 1)).foldr orI 0 else x := by
  rw [drop_cons h]; rfl
set_option maxHeartbeats 2000000 in
set_option maxRecDepth 100000 in
theorem or_any (l : List Int) (p : Option Addr) (cap : Nat) (w : World) (hl : StAt w p l) (hlen : l.length ≤ 1048576) :
    Calls Try.prog 20 #[.slice p l.length cap] w fun r w' => r = .returned (.int .i64 (l.foldr orI 0)) ∧ w = w' := by
  obtain ⟨R, hR⟩ : ∃ R, l.foldr orI 0 = R := ⟨_, rfl⟩
  rw [hR]
  generalize hL : l.length = L at *
  have HL := hid hL
  have HX := hid hl
  have HR := hid hR
  clear hL hl hR
  go_enter Try.func20, Try.ntmps20
  go_wp2_with fail
  go_loopg [8] L (fun gf u wx => ∃ i : Nat, u = .int .i64 (i : Int) ∧ i ≤ L ∧ L ≤ i + gf ∧ Hid ((l.drop i).foldr orI 0 = R) ∧ wx = w)
  case atStart => exact ⟨0, rfl, by omega, by omega, hid (by rw [List.drop_zero]; exact HR.out), rfl⟩
  case round =>
    obtain ⟨i, rfl, hi, hg, HI, rfl⟩ := hrel
    by_cases hlt : i < L
    · obtain ⟨x, hx⟩ : ∃ x, l[i]? = some x := ⟨l[i]'(by rw [HL.out]; exact hlt), List.getElem?_eq_getElem _⟩
      obtain ⟨b, o, rfl, xa⟩ := HX.out i x hx
      have hp := or_at hx
      have HI := HI.out
      rw [hp] at HI
      by_cases h0 : x = 0
      · subst h0
        rw [if_pos rfl] at HI
        have HI := hid HI
        clear hx hp HX HL HR
        go_wp2_with fail
        go_roundg (gk - 1)
        case measure => omega
        case rel => exact ⟨i + 1, by go_num, by omega, by omega, HI, rfl⟩
      · rw [if_neg h0] at HI
        have HI := hid HI
        have hne : (x != 0) = true := by simp [h0]
        clear hx hp HX HL HR h0
        go_wp2_with fail
        go_ret
        exact ⟨by first | rfl | exact ret_int HI.out, rfl⟩
    · have HI := HI.out
      rw [List.drop_eq_nil_of_le (by rw [HL.out]; omega)] at HI
      have HI := hid HI
      clear HL HX HR
      go_wp2_with fail
      go_ret
      exact ⟨by first | rfl | exact ret_int HI.out, rfl⟩

set_option maxHeartbeats 2000000 in
set_option maxRecDepth 100000 in
theorem compare_any (a b : List Int) (pa pb : Option Addr) (ca cb : Nat) (w : World) (ha : StAt w pa a) (hb : StAt w pb b) (hla : a.length ≤ 1048576) (hlb : b.length ≤ 1048576) :
    Calls Try.prog 22 #[.slice pa a.length ca, .slice pb b.length cb] w fun r w' => r = .returned (.int .i64 (lexC cmpI a b)) ∧ w = w' := by
  have c1 := fun (x y : Int) => Try.cmp_Compare_int x y w
  obtain ⟨R, hR⟩ : ∃ R, lexC cmpI a b = R := ⟨_, rfl⟩
  rw [hR]
  generalize hLa : a.length = La at *
  generalize hLb : b.length = Lb at *
  have HA := hid ha
  have HB := hid hb
  have HR := hid hR
  have HL := hid (And.intro hLa hLb)
  have C1 := hid c1
  clear ha hb hR hLa hLb c1
  go_enter Try.func22, Try.ntmps22
  go_wp2_with fail
  go_loopg [11] La (fun gf u wx => ∃ i : Nat, u = .int .i64 (i : Int) ∧ i ≤ La ∧ La ≤ i + gf ∧ i ≤ Lb ∧ Hid (lexC cmpI (a.drop i) (b.drop i) = R) ∧ wx = w)
  case atStart => exact ⟨0, rfl, by omega, by omega, by omega, hid (by rw [List.drop_zero, List.drop_zero]; exact HR.out), rfl⟩
  case round =>
    obtain ⟨i, rfl, hi, hg, hib, HI, rfl⟩ := hrel
    by_cases hlt : i < La
    · obtain ⟨x, hx⟩ : ∃ x, a[i]? = some x := ⟨a[i]'(by rw [HL.out.1]; exact hlt), List.getElem?_eq_getElem _⟩
      obtain ⟨ba, oa, rfl, xa⟩ := HA.out i x hx
      by_cases hltb : i < Lb
      · obtain ⟨y, hy⟩ : ∃ y, b[i]? = some y := ⟨b[i]'(by rw [HL.out.2]; exact hltb), List.getElem?_eq_getElem _⟩
        obtain ⟨bb, ob, rfl, xb⟩ := HB.out i y hy
        have hp := lex_at hx hy
        have HI := HI.out
        rw [hp] at HI
        have C := hid (C1.out x y)
        have hz := good_cmpI.zero x y
        have hnd : (if x = y then lexC cmpI (a.drop (i + 1)) (b.drop (i + 1)) else cmpI x y) = if cmpI x y = 0 then lexC cmpI (a.drop (i + 1)) (b.drop (i + 1)) else cmpI x y := by
          by_cases e : x = y
          · rw [if_pos e, if_pos (hz.2 e)]
          · rw [if_neg e, if_neg (fun k => e (hz.1 k))]
        rw [hnd] at HI
        clear hp hx hy HA HB HR hz hnd C1
        change Hid (Calls _ _ _ _ fun e w' => e = .returned (.int .i64 (cmpI x y)) ∧ _) at C
        generalize cmpI x y = m at *
        have HI := hid HI
        go_wp2_with fail
        with_reducible refine C.out.mono ?_
        rintro e W ⟨rfl, rfl⟩
        clear C
        have HI := HI.out
        by_cases h0 : m = 0
        · subst h0
          rw [if_pos rfl] at HI
          have HI := hid HI
          go_wp2_with fail
          go_roundg (gk - 1)
          case measure => omega
          case rel => exact ⟨i + 1, by go_num, by omega, by omega, by omega, HI, rfl⟩
        · rw [if_neg h0] at HI
          have HI := hid HI
          have hne : (m != 0) = true := by simp [h0]
          clear h0
          go_wp2_with fail
          go_ret
          exact ⟨by first | rfl | exact ret_int HI.out, rfl⟩
      · have HI := HI.out
        rw [lex_end (by rw [HL.out.1]; omega) (by rw [HL.out.2]; omega) (by rw [HL.out.1, HL.out.2]; omega), HL.out.1, HL.out.2, if_neg (by omega), if_pos (by omega)] at HI
        have HI := hid HI
        clear HA HB HR C1 HL hx
        go_wp2_with fail
        go_ret
        exact ⟨by first | rfl | exact ret_int HI.out, rfl⟩
    · have HI := HI.out
      rw [lex_end (by rw [HL.out.1]; omega) (by rw [HL.out.2]; omega) (by rw [HL.out.1, HL.out.2]; omega), HL.out.1, HL.out.2] at HI
      clear HA HB HR C1 HL
      by_cases h : La < Lb
      · rw [if_pos h] at HI
        have HI := hid HI
        go_wp2_with fail
        go_ret
        exact ⟨by first | rfl | exact ret_int HI.out, rfl⟩
      · rw [if_neg h, if_neg (by omega)] at HI
        have HI := hid HI
        go_wp2_with fail
        go_ret
        exact ⟨by first | rfl | exact ret_int HI.out, rfl⟩

theorem one_any (m : Bool) (w : World) : Calls Try.prog 24 #[.bool m] w fun r w' => r = .returned (.int .i64 (oneI m)) ∧ w = w' := by
  cases m
  all_goals go_enter Try.func24, Try.ntmps24
  all_goals go_wp2_with fail
  all_goals go_ret
  all_goals exact ⟨rfl, rfl⟩

theorem st_of {w : World} {v : Value} {l : List Int} (h : Lies w 1 v (l.map stCells)) : ∃ p cap, v = .slice p l.length cap ∧ l.length ≤ cap ∧ StAt w p l := st_at h
set_option maxHeartbeats 4000000 in
set_option maxRecDepth 100000 in
theorem cmp_any (a b : Ln) (w : World) (ha : a.pl.In w) (hb : b.pl.In w) (hla : a.pl.steps.length ≤ 1048576) (hlb : b.pl.steps.length ≤ 1048576) :
    Calls Try.prog 9 #[a.val, b.val] w fun r w' => r = .returned (.int .i64 (cmpLn a b)) ∧ Below w.heap.size w w' := by
  obtain ⟨pa, ca, ea, hca, hxa⟩ := st_of ha
  obtain ⟨pb, cb, eb, hcb, hxb⟩ := st_of hb
  clear ha hb
  obtain ⟨R, hR⟩ : ∃ R, cmpLn a b = R := ⟨_, rfl⟩
  rw [hR]
  unfold cmpLn at hR
  obtain ⟨la, ⟨va, sa, ta⟩, ma⟩ := a
  obtain ⟨lb, ⟨vb, sb, tb⟩, mb⟩ := b
  unfold Ln.val Ln.cells
  dsimp only at *
  subst ea eb
  have B0 : Below w.heap.size w ((w.alloc (.cells #[.string la, .string va, .slice pa ta.length ca, .bool ma] 27 (0, 0))).alloc (.cells #[.string lb, .string vb, .slice pb tb.length cb, .bool mb] 27 (0, 0))) := ((Below.refl _ _).alloc (Nat.le_refl _) _).alloc (by simp) _
  have X0 : BoxAt ((w.alloc (.cells #[.string la, .string va, .slice pa ta.length ca, .bool ma] 27 (0, 0))).alloc (.cells #[.string lb, .string vb, .slice pb tb.length cb, .bool mb] 27 (0, 0))) w.heap.size [.string la, .string va, .slice pa ta.length ca, .bool ma] := (BoxAt.new w _ _).later ((Below.refl _ _).alloc (Nat.le_refl _) _)
  have X1 : BoxAt ((w.alloc (.cells #[.string la, .string va, .slice pa ta.length ca, .bool ma] 27 (0, 0))).alloc (.cells #[.string lb, .string vb, .slice pb tb.length cb, .bool mb] 27 (0, 0))) (w.heap.size + 1) [.string lb, .string vb, .slice pb tb.length cb, .bool mb] := by
    have := BoxAt.new (w.alloc (.cells #[.string la, .string va, .slice pa ta.length ca, .bool ma] 27 (0, 0))) [.string lb, .string vb, .slice pb tb.length cb, .bool mb] 27
    rwa [World.size_alloc] at this
  have HA := hid (StAt.later (l := ta) hxa B0)
  have HB := hid (StAt.later (l := tb) hxb B0)
  have H0 := hid B0
  have k0 := hid (box_get X0 (j := 0) rfl)
  have k1 := hid (box_get X0 (j := 1) rfl)
  have k2 := hid (box_get X0 (j := 2) rfl)
  have k3 := hid (box_get X0 (j := 3) rfl)
  have m0 := hid (box_get X1 (j := 0) rfl)
  have m1 := hid (box_get X1 (j := 1) rfl)
  have m2 := hid (box_get X1 (j := 2) rfl)
  have m3 := hid (box_get X1 (j := 3) rfl)
  have c1 := fun (W : World) (h1 : StAt W pa ta) (h2 : StAt W pb tb) => compare_any ta tb pa pb ca cb W h1 h2 hla hlb
  have c2 := fun (W : World) => Try.strings_Compare la lb W
  have c3 := fun (W : World) => Try.strings_Compare va vb W
  have c4 := fun (W : World) => one_any ma W
  have c5 := fun (W : World) => one_any mb W
  have c6 := fun (W : World) => Try.cmp_Compare_int (oneI ma) (oneI mb) W
  change ∀ W, Calls _ _ _ _ fun e w' => e = .returned (.int .i64 (cmpS la lb)) ∧ _ at c2
  change ∀ W, Calls _ _ _ _ fun e w' => e = .returned (.int .i64 (cmpS va vb)) ∧ _ at c3
  change ∀ W, Calls _ _ _ _ fun e w' => e = .returned (.int .i64 (cmpI (oneI ma) (oneI mb))) ∧ _ at c6
  generalize cmpI (oneI ma) (oneI mb) = r4 at *
  generalize lexC cmpI ta tb = r3 at *
  generalize cmpS va vb = r2 at *
  generalize cmpS la lb = r1 at *
  generalize oneI ma = oa at *
  generalize oneI mb = ob at *
  generalize hLa : ta.length = La at *
  generalize hLb : tb.length = Lb at *
  have HR := hid hR
  have C1 := hid c1
  have C2 := hid c2
  have C3 := hid c3
  have C4 := hid c4
  have C5 := hid c5
  have C6 := hid c6
  clear hxa hxb B0 X0 X1 hR hLa hLb c1 c2 c3 c4 c5 c6
  go_enter Try.func9, Try.ntmps9
  go_wp2_with fail
  generalize (World.alloc (World.alloc w _) _) = W1 at *
  have n0 := k0.out
  have n1 := k1.out
  have n2 := k2.out
  have n3 := k3.out
  have o0 := m0.out
  have o1 := m1.out
  have o2 := m2.out
  have o3 := m3.out
  clear k0 k1 k2 k3 m0 m1 m2 m3
  have HS := hid (And.intro n0 (And.intro n1 (And.intro n2 (And.intro n3 (And.intro o0 (And.intro o1 (And.intro o2 (And.intro o3 (And.intro HA.out HB.out)))))))))
  have hbA : Below W1.heap.size W1 (W1.alloc (.cells #[.int .i64 r1, .int .i64 r2, .int .i64 r3, .int .i64 r4] 3 (0, 0))) := (Below.refl _ _).alloc (Nat.le_refl _) _
  have HSA := hid (And.intro (later hbA n0) (And.intro (later hbA n1) (And.intro (later hbA n2) (And.intro (later hbA n3) (And.intro (later hbA o0) (And.intro (later hbA o1) (And.intro (later hbA o2) (And.intro (later hbA o3) (And.intro (HA.out.later hbA) (HB.out.later hbA))))))))))
  have hst : StAt (W1.alloc (.cells #[.int .i64 r1, .int .i64 r2, .int .i64 r3, .int .i64 r4] 3 (0, 0))).drew (some ⟨W1.heap.size, 0, none⟩) [r1, r2, r3, r4] := fun i x hi => ⟨_, _, rfl, by
    rw [Nat.zero_add]
    refine box_cell W1 [.int .i64 r1, .int .i64 r2, .int .i64 r3, .int .i64 r4] 3 i _ ?_
    match i, hi with
    | 0, hi => cases hi; rfl
    | 1, hi => cases hi; rfl
    | 2, hi => cases hi; rfl
    | 3, hi => cases hi; rfl
    | i + 4, hi => simp at hi⟩
  have OR := hid (or_any [r1, r2, r3, r4] (some ⟨W1.heap.size, 0, none⟩) 4 _ hst (by simp))
  have HBA := hid hbA
  clear hbA hst
  go_region_held3 (fun w' => w'.cell? ⟨w.heap.size, 0, none⟩ = some (.string la) ∧ w'.cell? ⟨w.heap.size, 1, none⟩ = some (.string va) ∧ w'.cell? ⟨w.heap.size, 2, none⟩ = some (.slice pa La ca) ∧ w'.cell? ⟨w.heap.size, 3, none⟩ = some (.bool ma) ∧ w'.cell? ⟨w.heap.size + 1, 0, none⟩ = some (.string lb) ∧ w'.cell? ⟨w.heap.size + 1, 1, none⟩ = some (.string vb) ∧ w'.cell? ⟨w.heap.size + 1, 2, none⟩ = some (.slice pb Lb cb) ∧ w'.cell? ⟨w.heap.size + 1, 3, none⟩ = some (.bool mb) ∧ StAt w' pa ta ∧ StAt w' pb tb)
    (first | exact HS.out | exact HSA.out | go_keep)
    (first | (go_at_call 20; refine (OR.out).mono ?_; rintro e W ⟨rfl, rfl⟩) | (go_at_call 22; refine (C1.out _ (by exact HA.out) (by exact HB.out)).mono ?_; rintro e W ⟨rfl, rfl⟩) | (go_at_call 24; (with_reducible refine (C4.out _).mono ?_); rintro e W ⟨rfl, rfl⟩) | (go_at_call 24; (with_reducible refine (C5.out _).mono ?_); rintro e W ⟨rfl, rfl⟩) | (go_at_call 21; (with_reducible refine (C2.out _).mono ?_); rintro e W ⟨rfl, rfl⟩) | (go_at_call 21; (with_reducible refine (C3.out _).mono ?_); rintro e W ⟨rfl, rfl⟩) | (go_at_call 23; (with_reducible refine (C6.out _).mono ?_); rintro e W ⟨rfl, rfl⟩))
  go_wp2_with fail
  go_ret
  refine ⟨ret_int ?_, H0.out.trans (HBA.out.drew.mono H0.out.size)⟩
  rw [← HR.out]
  show orI r1 (orI r2 (orI r3 (orI r4 0))) = _
  rw [show orI r4 0 = r4 by unfold orI; split <;> omega]

theorem eq_any (a b : List Int) (pa pb : Option Addr) (ca cb : Nat) (w : World) (ha : StAt w pa a) (hb : StAt w pb b) (hla : a.length ≤ 1048576) (hlb : b.length ≤ 1048576) :
    Calls Try.prog 18 #[.slice pa (min a.length b.length) ca, .slice pb (min a.length b.length) cb] w fun r w' => r = .returned (.bool (a.isPrefixOf b || b.isPrefixOf a)) ∧ ∃ q, w' = w.drewN q := by
  rw [← take_min]
  by_cases h0 : min a.length b.length = 0
  · rw [h0]
    refine (Try.slices_Equal_int_empty pa pb ca 0 cb w (by omega)).mono ?_
    rintro e W ⟨rfl, rfl⟩
    exact ⟨ret_bool (by simp), 0, rfl⟩
  · obtain ⟨x, hx⟩ : ∃ x, a[0]? = some x := ⟨a[0]'(by omega), List.getElem?_eq_getElem _⟩
    obtain ⟨y, hy⟩ : ∃ y, b[0]? = some y := ⟨b[0]'(by omega), List.getElem?_eq_getElem _⟩
    obtain ⟨b1, o1, rfl, _⟩ := ha 0 x hx
    obtain ⟨b2, o2, rfl, _⟩ := hb 0 y hy
    have f : ∀ {l : List Int} {b o : Nat}, StAt w (some ⟨b, o, none⟩) l → ∀ j, j < l.length → w.cell? ⟨b, o + j, none⟩ = some (.int .i64 (l.getD j 0)) := fun {l b o} h j hj => by
      obtain ⟨b', o', e, hc⟩ := h j l[j] (List.getElem?_eq_getElem hj)
      cases e
      rw [hc]; simp [List.getD, List.getElem?_eq_getElem hj]
    exact Try.slices_Equal_int b1 o1 _ ca b2 o2 _ cb a b w (by omega) (by omega) (by omega) (by omega) (f ha) (f hb)

set_option maxHeartbeats 4000000 in
set_option maxRecDepth 100000 in
theorem overlap_any (a b : Pl) (w : World) (ha : a.In w) (hb : b.In w) (hla : a.steps.length ≤ 1048576) (hlb : b.steps.length ≤ 1048576) :
    Calls Try.prog 7 #[a.val, b.val] w fun r w' => r = .returned (.bool (overlap a b)) ∧ Below w.heap.size w w' := by
  obtain ⟨pa, ca, ea, hca, hxa⟩ := st_of ha
  obtain ⟨pb, cb, eb, hcb, hxb⟩ := st_of hb
  clear ha hb
  obtain ⟨R, hR⟩ : ∃ R, overlap a b = R := ⟨_, rfl⟩
  rw [hR]
  unfold overlap at hR
  obtain ⟨va, sa, la⟩ := a
  obtain ⟨vb, sb, lb⟩ := b
  unfold Pl.val Pl.cells
  dsimp only at *
  subst ea eb
  have B0 : Below w.heap.size w ((w.alloc (.cells #[.string va, .slice pa la.length ca] 25 (0, 0))).alloc (.cells #[.string vb, .slice pb lb.length cb] 25 (0, 0))) := ((Below.refl _ _).alloc (Nat.le_refl _) _).alloc (by simp) _
  have X0 : BoxAt ((w.alloc (.cells #[.string va, .slice pa la.length ca] 25 (0, 0))).alloc (.cells #[.string vb, .slice pb lb.length cb] 25 (0, 0))) w.heap.size [.string va, .slice pa la.length ca] := (BoxAt.new w _ _).later ((Below.refl _ _).alloc (Nat.le_refl _) _)
  have X1 : BoxAt ((w.alloc (.cells #[.string va, .slice pa la.length ca] 25 (0, 0))).alloc (.cells #[.string vb, .slice pb lb.length cb] 25 (0, 0))) (w.heap.size + 1) [.string vb, .slice pb lb.length cb] := by
    have := BoxAt.new (w.alloc (.cells #[.string va, .slice pa la.length ca] 25 (0, 0))) [.string vb, .slice pb lb.length cb] 25
    rwa [World.size_alloc] at this
  have c1 := fun (W : World) (h : Below w.heap.size w W) d os => Calls.regrown_of (((eq_any la lb pa pb ca cb (grow (redrawn W d) os) (hxa.later (h.trans ((below_regrown W d os).mono h.size))) (hxb.later (h.trans ((below_regrown W d os).mono h.size))) hla hlb).mono (R' := fun r w' => r = .returned (.bool (la.isPrefixOf lb || lb.isPrefixOf la)) ∧ Below (grow (redrawn W d) os).heap.size (grow (redrawn W d) os) w') fun e w' he => ⟨he.1, by obtain ⟨_, q, rfl⟩ := he; exact below_drewN (Below.refl _ _) _⟩))
  have hmin : min (la.length : Int) (lb.length : Int) = ((min la.length lb.length : Nat) : Int) := by omega
  generalize hP : (la.isPrefixOf lb || lb.isPrefixOf la) = P at *
  have HV : Hid (R = ((va.toList == vb.toList) && P)) := hid (by rw [← hR, Lib.toList_data, Lib.toList_data])
  have HP := hid hP
  clear hR hP hxa hxb
  generalize hLa : la.length = La at *
  generalize hLb : lb.length = Lb at *
  clear hLa hLb
  have C1 := hid c1
  have H0 := hid B0
  have HX := hid (And.intro X0 X1)
  clear c1 X0 X1 B0
  go_enter Try.func7, Try.ntmps7
  go_wp2_with fail
  generalize (World.alloc (World.alloc w _) _) = W1 at *
  have D1 := hid (C1.out W1 H0.out)
  have x0 := cell_regrown (box_get HX.out.1 (j := 0) rfl)
  have x1 := cell_regrown (box_get HX.out.1 (j := 1) rfl)
  have y0 := cell_regrown (box_get HX.out.2 (j := 0) rfl)
  have y1 := cell_regrown (box_get HX.out.2 (j := 1) rfl)
  have hm1 : ((min La Lb : Nat) : Int) ≤ (ca : Int) := by omega
  have hm2 : ((min La Lb : Nat) : Int) ≤ (cb : Int) := by omega
  generalize min La Lb = m at *
  have hm0 : (0 : Int) ≤ (m : Int) := by omega
  clear C1 HX HP hmin
  cases hv : (va.toList == vb.toList)
  · have HN : Hid (R = false) := hid (by rw [HV.out, hv]; rfl)
    clear HV
    refine wp_region_quiet_below (by kernel_rfl) (by kernel_rfl) ?_
    repeat (go_big_quiet_step (first | (with_reducible exact D1.out _ _)))
    refine wpQuiet_nil ?_
    intro _ hw'
    obtain ⟨⟨dq, osq⟩, hw''⟩ := hw'
    subst hw''
    go_wp2_with fail
    go_ret
    exact ⟨ret_bool HN.out.symm, H0.out.trans ((below_regrown W1 dq osq).mono H0.out.size)⟩
  · have HN : Hid (R = P) := hid (by rw [HV.out, hv]; rfl)
    clear HV
    refine wp_region_quiet_below (by kernel_rfl) (by kernel_rfl) ?_
    repeat (go_big_quiet_step (first | (with_reducible exact D1.out _ _)))
    refine wpQuiet_nil ?_
    intro _ hw'
    obtain ⟨⟨dq, osq⟩, hw''⟩ := hw'
    subst hw''
    go_wp2_with fail
    go_ret
    exact ⟨ret_bool HN.out.symm, H0.out.trans ((below_regrown W1 dq osq).mono H0.out.size)⟩
end Go.Proofs.Ytannfhbocfghkaa.EnvC
/- Contracts of env.rightLoan, env.rightLoans. -/
namespace Go.Proofs.Ytannfhbocfghkaa.EnvC
open Go Go.RowKit Go.Lib Go.Sort Go.Proofs.Ytannfhbocfghkaa.EnvP

theorem emp (s : ByteArray) : (bs s).isEmpty = (s.toList == []) := by
  rw [Lib.toList_data]; unfold bs; cases s.data.toList <;> rfl
set_option maxHeartbeats 2000000 in
set_option maxRecDepth 100000 in
theorem rightLoan_any (l : Ln) (w : World) (h : l.pl.In w) : Calls Try.prog 58 #[l.val] w fun r w' => r = .returned (.bool (rightLn l)) ∧ Below w.heap.size w w' := by
  obtain ⟨p, c, e, hc, _⟩ := st_of h
  clear h
  obtain ⟨R, hR⟩ : ∃ R, rightLn l = R := ⟨_, rfl⟩
  rw [hR]
  unfold rightLn at hR
  obtain ⟨la, ⟨va, sa, ta⟩, ma⟩ := l
  unfold Ln.val Ln.cells
  dsimp only at *
  subst e
  rw [emp, emp] at hR
  generalize ta.length = L at *
  cases h1 : (la.toList == [])
  case true =>
    have HN : Hid (R = true) := hid (by rw [← hR, h1]; rfl)
    clear hR
    go_enter Try.func58, Try.ntmps58
    go_wp2_with fail
    go_ret
    exact ⟨ret_bool HN.out.symm, (Below.refl _ _).alloc (Nat.le_refl _) _⟩
  cases h2 : (va.toList == [])
  case false =>
    have HN : Hid (R = false) := hid (by rw [← hR, h1, h2]; rfl)
    clear hR
    go_enter Try.func58, Try.ntmps58
    go_wp2_with fail
    go_ret
    exact ⟨ret_bool HN.out.symm, (Below.refl _ _).alloc (Nat.le_refl _) _⟩
  by_cases h3 : L = 0
  · subst h3
    have HN : Hid (R = !ma) := hid (by rw [← hR, h1, h2]; cases ma <;> rfl)
    clear hR
    go_enter Try.func58, Try.ntmps58
    go_wp2_with fail
    go_ret
    exact ⟨by rw [HN.out]; rfl, (Below.refl _ _).alloc (Nat.le_refl _) _⟩
  · have HN : Hid (R = false) := hid (by rw [← hR, h1, h2]; simp [h3])
    have hne : ((L : Int) == 0) = false := by simp; omega
    clear hR h3
    go_enter Try.func58, Try.ntmps58
    go_wp2_with fail
    go_ret
    exact ⟨ret_bool HN.out.symm, (Below.refl _ _).alloc (Nat.le_refl _) _⟩

theorem regKeeps {w W : World} (hb : Below w.heap.size w W) (d : Nat) (os : Array Obj) : Keeps w (grow (redrawn W d) os) := Keeps.of_below (hb.trans ((below_regrown W d os).mono hb.size))
theorem cmp_reg {w W : World} (y x : Ln) (hb : Below w.heap.size w W) (hy : y.pl.In w) (hx : x.pl.In w) (hly : y.pl.steps.length ≤ 1048576) (hlx : x.pl.steps.length ≤ 1048576) (d : Nat) (os : Array Obj) :
    Calls Try.prog 9 #[.agg y.cells.toArray, .agg x.cells.toArray] (grow (redrawn W d) os) fun e w'' => e = .returned (.int .i64 (cmpLn y x)) ∧ ∃ p : Regrown, w'' = grow (redrawn W p.d) p.os :=
  Calls.regrown_of (cmp_any y x _ (hy.keep (regKeeps hb d os)) (hx.keep (regKeeps hb d os)) hly hlx)
theorem rightLoan_reg {w W : World} (x : Ln) (hb : Below w.heap.size w W) (hx : x.pl.In w) (d : Nat) (os : Array Obj) :
    Calls Try.prog 58 #[.agg x.cells.toArray] (grow (redrawn W d) os) fun e w'' => e = .returned (.bool (rightLn x)) ∧ ∃ p : Regrown, w'' = grow (redrawn W p.d) p.os :=
  Calls.regrown_of (rightLoan_any x _ (hx.keep (regKeeps hb d os)))
/-- from a place on: what is still to be seen -/
def riseAt (l : List Ln) (i : Nat) : Bool := (l.drop i).all rightLn && rising (l.drop (i - 1))
theorem rise_zero {l : List Ln} {x : Ln} (h : l[0]? = some x) : riseAt l 0 = (rightLn x && riseAt l 1) := by
  unfold riseAt
  rw [drop_cons h, List.all_cons, Bool.and_assoc]
theorem rise_succ {l : List Ln} {i : Nat} {x y : Ln} (h : l[i + 1]? = some x) (k : l[i]? = some y) : riseAt l (i + 1) = (rightLn x && before y x && riseAt l (i + 2)) := by
  unfold riseAt
  rw [show i + 1 - 1 = i from rfl, show i + 2 - 1 = i + 1 from rfl, drop_cons k, drop_cons h, List.all_cons, rising]
  cases rightLn x <;> cases before y x <;> simp
theorem rise_end {l : List Ln} {i : Nat} (h : l.length ≤ i) : riseAt l i = true := by
  unfold riseAt
  rw [List.drop_eq_nil_of_le h]
  by_cases h2 : l.length ≤ i - 1
  · rw [List.drop_eq_nil_of_le h2]; rfl
  · obtain ⟨x, hx⟩ : ∃ x, l[i - 1]? = some x := ⟨l[i - 1], List.getElem?_eq_getElem _⟩
    rw [drop_cons hx, List.drop_eq_nil_of_le (by omega)]; rfl

set_option maxHeartbeats 4000000 in
set_option maxRecDepth 100000 in
theorem rightLoans_any (l : List Ln) (v : Value) (w : World) (hl : Lies w 4 v (l.map Ln.cells)) (hin : ∀ x ∈ l, x.pl.In w) (hst : ∀ x ∈ l, x.pl.steps.length ≤ 1048576) (hlen : l.length ≤ 1048576) :
    Calls Try.prog 49 #[v] w fun r w' => r = .returned (.bool (rightLns l)) ∧ Below w.heap.size w w' := by
  obtain ⟨R, hR⟩ : ∃ R, rightLns l = R := ⟨_, rfl⟩
  rw [hR]
  obtain ⟨p, cap, rfl, hcap, hx⟩ := id hl
  rw [List.length_map] at *
  generalize hL : l.length = L at *
  have HR : Hid (riseAt l 0 = R) := hid (by rw [← hR]; rfl)
  have HL := hid hL
  have HX := hid hl
  have HI := hid hin
  have HS := hid hst
  clear hx hL hl hin hst hR
  go_enter Try.func49, Try.ntmps49
  go_wp2_with fail
  go_loopg [7] L (fun gf u wx => ∃ i : Nat, u = .int .i64 (i : Int) ∧ i ≤ L ∧ L ≤ i + gf ∧ Hid (riseAt l i = R) ∧ Hid (Below w.heap.size w wx))
  case atStart => exact ⟨0, rfl, by omega, by omega, HR, hid (Below.refl _ _)⟩
  case round =>
    obtain ⟨i, rfl, hi, hg, HA, HB⟩ := hrel
    have hb := HB.out
    clear HR
    by_cases hlt : i < L
    · obtain ⟨x, hx⟩ : ∃ x, l[i]? = some x := ⟨l[i]'(by rw [HL.out]; exact hlt), List.getElem?_eq_getElem _⟩
      obtain ⟨b, off, cap', e, _, hxx⟩ := Lies.at (HX.out.keep (Keeps.of_below hb)) (i := i) (by rw [List.length_map, HL.out]; exact hlt)
      injection e with e1 e2 e3
      subst e1
      clear e2 e3
      have hx' := hxx i x.cells (by rw [List.getElem?_map, hx]; rfl)
      have hix := (HI.out x (List.mem_of_getElem? hx)).keep (Keeps.of_below hb)
      have hsx := HS.out x (List.mem_of_getElem? hx)
      have ho := ln_ones hix
      unfold Ones at ho
      have ZF := hid (lnSize x)
      have ZA : Hid ((Try.prog.info? 27).map (·.size) = some x.cells.toArray.size) := hid (lnSize x)
      have ZO : Hid ((#[.string ⟨#[]⟩, .string ⟨#[]⟩, .slice none 0 0, .bool false] : Array Value).size = x.cells.toArray.size) := hid rfl
      have H1C := hid ho
      have HPX : Hid (∀ (j : Nat) (u : Value), x.cells[j]? = some u → wr.cell? ⟨b, off + i * 4 + j, none⟩ = some u) := hid hx'
      have c1 := fun (W : World) (hb2 : Below wr.heap.size wr W) => rightLoan_reg x hb2 hix
      by_cases h0 : i = 0
      · have hp : riseAt l i = (rightLn x && riseAt l (i + 1)) := by subst h0; exact rise_zero hx
        rw [HA.out] at hp
        have hd : decide (0 < i) = false := by simp; omega
        generalize rightLn x = q at *
        generalize x.cells = fcs at *
        have C1 := hid c1
        have HP := hid hp
        clear hx hxx hx' hix c1 hp HA HI HS HL HX hb ho h0
        go_wp2_with (first | (with_reducible refine wpList_load_at (o := ⟨some 11, _, _, _, _, _⟩) rfl _ _ rfl b (off + i * 4) rfl fcs _ HPX.out Try.underlying27 rfl ZF.out ?_) | (with_reducible refine wpList_store_row (o := ⟨none, _, _, _, _, _⟩) rfl _ _ _ rfl wr.heap.size fcs.toArray rfl rfl _ _ (heap_alloc_new _ _) ZA.out ZO.out H1C.out ?_))
        generalize hW2 : (World.alloc wr _).setRow _ _ = W2
        have hb2 : Below wr.heap.size wr W2 := by rw [← hW2]; exact rowed_below' _ _ _
        have hX2 : BoxAt W2 wr.heap.size fcs := by rw [← hW2]; exact rowed_box' _ _ _ _
        have K2 := hid (reg_cells (off := 0) (fun (j : Nat) (u : Value) (h : fcs[j]? = some u) => show W2.cell? ⟨wr.heap.size, 0 + j, none⟩ = some u by rw [Nat.zero_add]; exact hX2 j u h))
        have D1 := hid (C1.out W2 hb2)
        have B2 := hid (HB.out.trans (hb2.mono HB.out.size))
        clear C1 hW2 hb2 hX2 HB HPX ZA ZO H1C
        cases q
        · have HN : Hid (R = false) := hid HP.out
          simp only [Act.put]
          refine wp_region_quiet_below (by kernel_rfl) (by kernel_rfl) ?_
          repeat (first | ((with_reducible refine wpQuiet_load_at (o := ⟨some 12, _, _, _, _, _⟩) rfl _ _ rfl wr.heap.size 0 rfl fcs _ K2.out Try.underlying27 rfl ZF.out ?_); simp only [Act.put, List.setIfInBounds_toArray, List.set_cons_zero, List.set_cons_succ]) | go_big_quiet_step (first | (with_reducible exact D1.out _ _)))
          refine wpQuiet_nil ?_
          intro _ hw'
          obtain ⟨⟨dq, osq⟩, hw''⟩ := hw'
          subst hw''
          have B3 := hid (B2.out.trans ((below_regrown W2 dq osq).mono B2.out.size))
          go_wp2_with fail
          go_ret
          exact ⟨ret_bool HN.out.symm, B3.out⟩
        · have HN : Hid (riseAt l (i + 1) = R) := hid HP.out.symm
          simp only [Act.put]
          refine wp_region_quiet_below (by kernel_rfl) (by kernel_rfl) ?_
          repeat (first | ((with_reducible refine wpQuiet_load_at (o := ⟨some 12, _, _, _, _, _⟩) rfl _ _ rfl wr.heap.size 0 rfl fcs _ K2.out Try.underlying27 rfl ZF.out ?_); simp only [Act.put, List.setIfInBounds_toArray, List.set_cons_zero, List.set_cons_succ]) | go_big_quiet_step (first | (with_reducible exact D1.out _ _)))
          refine wpQuiet_nil ?_
          intro _ hw'
          obtain ⟨⟨dq, osq⟩, hw''⟩ := hw'
          subst hw''
          have B3 := hid (B2.out.trans ((below_regrown W2 dq osq).mono B2.out.size))
          go_wp2_with fail
          go_roundg (gk - 1)
          case measure => omega
          case rel => exact ⟨i + 1, by go_num, by omega, by omega, HN, B3⟩

      · obtain ⟨y, hy⟩ : ∃ y, l[i - 1]? = some y := ⟨l[i - 1]'(by rw [HL.out]; omega), List.getElem?_eq_getElem _⟩
        have hp : riseAt l i = (rightLn x && before y x && riseAt l (i + 1)) := by
          obtain ⟨k, rfl⟩ : ∃ k, i = k + 1 := ⟨i - 1, by omega⟩
          exact rise_succ hx hy
        rw [HA.out] at hp
        have hiy := (HI.out y (List.mem_of_getElem? hy)).keep (Keeps.of_below hb)
        have hsy := HS.out y (List.mem_of_getElem? hy)
        have c2 := fun (W : World) (hb2 : Below wr.heap.size wr W) => cmp_reg y x hb2 hiy hix hsy hsx
        have hyy : ∀ (j : Nat) (u : Value), y.cells[j]? = some u → wr.cell? ⟨b, off + (i - 1) * 4 + j, none⟩ = some u := hxx (i - 1) y.cells (by rw [List.getElem?_map, hy]; rfl)
        have hd : decide (0 < i) = true := by simp; omega
        have hrg := good_cmpLn.rng y x
        have hbf : before y x = decide (cmpLn y x < 0) := by unfold before; rcases hrg with e | e | e <;> rw [e] <;> rfl
        have ZY := hid (lnSize y)
        rw [hbf] at hp
        generalize cmpLn y x = m at *
        generalize rightLn x = q at *
        generalize x.cells = fcs at *
        generalize y.cells = ycs at *
        have C1 := hid c1
        have C2 := hid c2
        have HP := hid hp
        have HYY := hid hyy
        have i1 : (0 : Int) ≤ (i : Int) - 1 := by omega
        have i2 : ((i : Int) - 1).toNat = i - 1 := by omega
        have i3 : (i : Int) - 1 < (L : Int) := by omega
        clear hx hxx hx' hix c1 c2 hp HA HI HS HL HX hb ho h0 hy hiy hsy hyy hrg hbf
        go_wp2_with (first | (with_reducible refine wpList_load_at (o := ⟨some 11, _, _, _, _, _⟩) rfl _ _ rfl b (off + i * 4) rfl fcs _ HPX.out Try.underlying27 rfl ZF.out ?_) | (with_reducible refine wpList_store_row (o := ⟨none, _, _, _, _, _⟩) rfl _ _ _ rfl wr.heap.size fcs.toArray rfl rfl _ _ (heap_alloc_new _ _) ZA.out ZO.out H1C.out ?_))
        generalize hW2 : (World.alloc wr _).setRow _ _ = W2
        have hb2 : Below wr.heap.size wr W2 := by rw [← hW2]; exact rowed_below' _ _ _
        have hX2 : BoxAt W2 wr.heap.size fcs := by rw [← hW2]; exact rowed_box' _ _ _ _
        have K2 := hid (reg_cells (off := 0) (fun (j : Nat) (u : Value) (h : fcs[j]? = some u) => show W2.cell? ⟨wr.heap.size, 0 + j, none⟩ = some u by rw [Nat.zero_add]; exact hX2 j u h))
        have D1 := hid (C1.out W2 hb2)
        have B2 := hid (HB.out.trans (hb2.mono HB.out.size))
        have D2 := hid (C2.out W2 hb2)
        have KY := hid (reg_cells (off := off + (i - 1) * 4) (fun (j : Nat) (u : Value) (h : ycs[j]? = some u) => Keeps.of_below hb2 _ _ _ (HYY.out j u h)))
        clear C1 C2 hW2 hb2 hX2 HB HPX ZA ZO H1C HYY
        cases q
        · have HN : Hid (R = false) := hid HP.out
          simp only [Act.put]
          refine wp_region_quiet_below (by kernel_rfl) (by kernel_rfl) ?_
          repeat (first | ((with_reducible refine wpQuiet_load_at (o := ⟨some 12, _, _, _, _, _⟩) rfl _ _ rfl wr.heap.size 0 rfl fcs _ K2.out Try.underlying27 rfl ZF.out ?_); simp only [Act.put, List.setIfInBounds_toArray, List.set_cons_zero, List.set_cons_succ]) | go_big_quiet_step (first | (with_reducible exact D1.out _ _)))
          refine wpQuiet_nil ?_
          intro _ hw'
          obtain ⟨⟨dq, osq⟩, hw''⟩ := hw'
          subst hw''
          have B3 := hid (B2.out.trans ((below_regrown W2 dq osq).mono B2.out.size))
          go_wp2_with fail
          go_ret
          exact ⟨ret_bool HN.out.symm, B3.out⟩
        · have HP2 : Hid (R = (decide (m < 0) && riseAt l (i + 1))) := hid HP.out
          clear HP
          simp only [Act.put]
          refine wp_region_quiet_below (by kernel_rfl) (by kernel_rfl) ?_
          repeat (first | ((with_reducible refine wpQuiet_load_at (o := ⟨some 12, _, _, _, _, _⟩) rfl _ _ rfl wr.heap.size 0 rfl fcs _ K2.out Try.underlying27 rfl ZF.out ?_); simp only [Act.put, List.setIfInBounds_toArray, List.set_cons_zero, List.set_cons_succ]) | ((with_reducible refine wpQuiet_load_at (o := ⟨some 23, _, _, _, _, _⟩) rfl _ _ rfl b (off + (i - 1) * 4) rfl ycs _ KY.out Try.underlying27 rfl ZY.out ?_); simp only [Act.put, List.setIfInBounds_toArray, List.set_cons_zero, List.set_cons_succ]) | ((with_reducible refine wpQuiet_load_at (o := ⟨some 24, _, _, _, _, _⟩) rfl _ _ rfl wr.heap.size 0 rfl fcs _ K2.out Try.underlying27 rfl ZF.out ?_); simp only [Act.put, List.setIfInBounds_toArray, List.set_cons_zero, List.set_cons_succ]) | go_big_quiet_step (first | (with_reducible exact D1.out _ _) | (with_reducible exact D2.out _ _)))
          refine wpQuiet_nil ?_
          intro _ hw'
          obtain ⟨⟨dq, osq⟩, hw''⟩ := hw'
          subst hw''
          have B3 := hid (B2.out.trans ((below_regrown W2 dq osq).mono B2.out.size))
          by_cases hm : m < 0
          · have HN : Hid (riseAt l (i + 1) = R) := hid (by rw [HP2.out, decide_eq_true hm]; rfl)
            clear HP2
            go_wp2_with fail
            go_roundg (gk - 1)
            case measure => omega
            case rel => exact ⟨i + 1, by go_num, by omega, by omega, HN, B3⟩
          · have HN : Hid (R = false) := hid (by rw [HP2.out, decide_eq_false hm]; rfl)
            clear HP2
            go_wp2_with fail
            go_ret
            exact ⟨ret_bool HN.out.symm, B3.out⟩

    · have HN : Hid (R = true) := hid (by rw [← HA.out]; exact rise_end (by rw [HL.out]; omega))
      clear HA HI HS HL HX hb
      go_wp2_with fail
      go_ret
      exact ⟨ret_bool HN.out.symm, HB.out⟩
end Go.Proofs.Ytannfhbocfghkaa.EnvC
/- Where a type lies; how much there is in it. -/
namespace Go.Proofs.Ytannfhbocfghkaa.EnvC
open Go Go.RowKit Go.Lib Go.Sort Go.Proofs.Ytannfhbocfghkaa.EnvP

/-- a type lies here -/
def TyAt (w : World) (b o : Nat) (t : ETy) : Prop := (∀ (j : Nat) (u : Value), t.cells[j]? = some u → w.cell? ⟨b, o + j, none⟩ = some u) ∧ t.In w
theorem TyAt.keep {w w' : World} {b o : Nat} {t : ETy} (h : TyAt w b o t) (k : Keeps w w') : TyAt w' b o t := ⟨fun j u hj => k _ _ _ (h.1 j u hj), ETy.In.keep k t h.2⟩
/-- how many steps, loans there are: not too many -/
def Small (t : ETy) : Prop := wT t ≤ 1048576
theorem Small.loans {t : ETy} (h : Small t) : t.loans.length ≤ 1048576 ∧ ∀ l ∈ t.loans, l.pl.steps.length ≤ 1048576 := by
  obtain ⟨k, m, g, lv, ls, kv, kids⟩ := t
  unfold Small at h
  rw [wT] at h
  have := loans_len ls
  refine ⟨by show ls.length ≤ _; omega, fun l hl => ?_⟩
  have h2 := mem_sum wLn (show l ∈ ls from hl)
  rw [← wLns_sum] at h2
  unfold wLn wPl at h2
  omega
theorem Small.kids {t : ETy} (h : Small t) : t.kids.length ≤ 1048576 ∧ ∀ u ∈ t.kids, Small u := by
  obtain ⟨k, m, g, lv, ls, kv, kids⟩ := t
  unfold Small at h
  rw [wT] at h
  have := kids_len kids
  refine ⟨by show kids.length ≤ _; omega, fun l hl => ?_⟩
  have h2 := mem_sum wT (show l ∈ kids from hl)
  rw [← wTs_sum] at h2
  unfold Small
  omega
theorem lies_slice {α : Type} {w : World} {size : Nat} {v : Value} {f : α → List Value} {l : List α} (h : Lies w size v (l.map f)) : ∃ p c, l.length ≤ c ∧ v = .slice p l.length c := by
  obtain ⟨p, c, e, hc, _⟩ := h
  rw [List.length_map] at e hc
  exact ⟨p, c, hc, e⟩
def ptCells (b o : Nat) (i : Bool) : List Value := [.pointer (some ⟨b, o, none⟩), .bool i]

end Go.Proofs.Ytannfhbocfghkaa.EnvC

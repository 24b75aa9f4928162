/- Texts joined: EnvJG, EnvJA. -/
import Derived.Test.YtannfhbocfghkaaDoorJ06
import Derived.Test.YtannfhbocfghkaaDoorJ02
/- The document's Add (lienbookref05): a loan among some that rise. -/
namespace Go.Proofs.YtannfhbocfghkaaDoor.EnvC
open Go Go.RowKit Go.Lib Go.Sort Go.Proofs.YtannfhbocfghkaaDoor.EnvP

theorem lies_take {w : World} {k n cap A : Nat} {p : Option Addr} {xs : List (List Value)} (h : Lies w k (.slice p n cap) xs) (hA : A ≤ n) : Lies w k (.slice p A cap) (xs.take A) := by
  obtain ⟨p', c', e, h1, h2⟩ := h
  injection e with e1 e2 e3
  subst e1 e2 e3
  refine ⟨p, cap, by rw [List.length_take, Nat.min_eq_left hA], by rw [List.length_take]; omega, fun hne => ?_⟩
  obtain ⟨b, off, rfl, hx⟩ := h2 (by intro e; rw [e] at hne; simp at hne)
  refine ⟨b, off, rfl, fun i c hi j u hj => hx i c ?_ j u hj⟩
  rw [List.getElem?_take] at hi
  split at hi
  · exact hi
  · cases hi
theorem lies_drop {w : World} {k n cap A b off : Nat} {xs : List (List Value)} (h : Lies w k (.slice (some ⟨b, off, none⟩) n cap) xs) (hA : A ≤ n) : Lies w k (.slice (some ⟨b, off + A * k, none⟩) (n - A) (cap - A)) (xs.drop A) := by
  obtain ⟨p', c', e, h1, h2⟩ := h
  injection e with e1 e2 e3
  subst e1 e2 e3
  refine ⟨_, cap - A, by rw [List.length_drop], by rw [List.length_drop]; omega, fun hne => ?_⟩
  obtain ⟨b', off', e, hx⟩ := h2 (by intro e; rw [e] at hne; simp at hne)
  injection e with e
  injection e with e1 e2 _
  subst e1 e2
  refine ⟨b, off + A * k, rfl, fun i c hi j u hj => ?_⟩
  rw [List.getElem?_drop] at hi
  have := hx (A + i) c hi j u hj
  rw [show off + A * k + i * k + j = off + (A + i) * k + j by rw [Nat.add_mul]; omega]
  exact this
set_option maxHeartbeats 8000000 in
set_option maxRecDepth 100000 in
theorem rAdd_any (l : List Ln) (x : Ln) (v : Value) (w : World) (h : Lies w 4 v (l.map Ln.cells)) (hl : LnsIn w l) (hx : x.pl.In w) (hsx : x.pl.steps.length ≤ 1048576) (hlen : l.length ≤ 1048576) :
    Calls Tryd.prog 55 #[v, x.val] w fun r w' => ∃ v', r = .returned v' ∧ Below w.heap.size w w' ∧ ((addL l x = l ∧ v' = v) ∨ w'.ownsRow w.heap.size 44 4 v' (addL l x).length ((addL l x).map Ln.cells).flatten) := by
  have ch := fun (W : World) (hb : Below w.heap.size w W) => rHas_any l x v W (h.keep (Keeps.of_below hb)) (lnsIn_keep (Keeps.of_below hb) hl) (hx.keep (Keeps.of_below hb)) hsx (by omega)
  obtain ⟨p, cap, hcap, rfl⟩ := lies_slice h
  obtain ⟨i0, hinf, hz0, hz1, hz2⟩ := info_parts ln_info
  have hc := fun (y : Ln) (hy : y ∈ l) (W : World) (hb : Below w.heap.size w W) (d : Nat) (os : Array Obj) => Calls.regrown_of (rBefore_any y x (grow (redrawn W d) os) ((hl y hy).1.keep (regKeeps hb d os)) (hx.keep (regKeeps hb d os)) (hl y hy).2 hsx)
  have HC := hid hc
  have HH := hid ch
  have ho := ln_ones hx
  unfold Ones at ho
  obtain ⟨xp, xq, _, ex⟩ : ∃ pp pq, x.pl.steps.length ≤ pq ∧ x.pl.sv = .slice pp x.pl.steps.length pq := lies_slice hx
  have HA1 := hid (fun (i : Nat) (y : Ln) (q : i < atL l x) (e : l[i]? = some y) => at_lt q e)
  have HA2 := hid (fun (y : Ln) (e : l[atL l x]? = some y) => at_eq e)
  have HA3 := atL_le l x
  have HADD : Hid (addL l x = if has l x then l else l.take (atL l x) ++ x :: l.drop (atL l x)) := hid (by unfold addL; rw [insL_at])
  generalize hA : atL l x = A at *
  generalize hR : addL l x = R at *
  obtain ⟨xl, ⟨xv, xs, xt⟩, xm⟩ := x
  dsimp only at ex hsx
  subst ex
  change Calls _ _ #[.slice p l.length cap, .agg #[.string xl, .string xv, .slice xp xt.length xq, .bool xm]] _ _
  change Hid (∀ y : Ln, y ∈ l → ∀ W, Below w.heap.size w W → ∀ d os, Calls _ _ #[.agg y.cells.toArray, .agg #[.string xl, .string xv, .slice xp xt.length xq, .bool xm]] _ _) at HC
  change Hid (∀ W, Below w.heap.size w W → Calls _ _ #[.slice p l.length cap, .agg #[.string xl, .string xv, .slice xp xt.length xq, .bool xm]] _ _) at HH
  change (([.string xl, .string xv, .slice xp xt.length xq, .bool xm] : List Value).toArray.all (·.oneCell')) = true at ho
  generalize has l _ = hs at *
  generalize hN : l.length = N at *
  have X1 := BoxAt.new w [.string xl, .string xv, .slice xp xt.length xq, .bool xm] 44
  have bA : Below w.heap.size w (w.alloc (.cells #[.string xl, .string xv, .slice xp xt.length xq, .bool xm] 44 (0, 0))) := (Below.refl _ _).alloc (Nat.le_refl _) _
  change BoxAt (w.alloc (.cells #[.string xl, .string xv, .slice xp xt.length xq, .bool xm] 44 (0, 0))) _ _ at X1
  have HB0 := hid bA
  have HX := hid X1
  have HT := hid h
  have HLI := hid hl
  have HL := hid hN
  have HO := hid ho
  have D1 := hid (HH.out _ bA)
  have HD := hid (And.intro hA hR)
  clear bA X1 h hl hx hN hc ch ho hA hR HH
  go_enter Tryd.func55, Tryd.ntmps55
  go_wp2_with fail
  generalize World.alloc w _ = W1 at *
  refine D1.out.mono ?_
  rintro e0 W2 ⟨rfl, hb2⟩
  have H2 := hid (HB0.out.trans (hb2.mono HB0.out.size))
  have X2 := hid (HX.out.later hb2)
  clear hb2 D1 HB0 HX
  cases hs
  rotate_left
  · have HRl : Hid (R = l) := HADD.out
    go_wp2_with fail
    go_ret
    exact ⟨_, rfl, H2.out, .inl ⟨HRl.out, rfl⟩⟩
  have HRl : Hid (R = l.take A ++ ⟨xl, ⟨xv, .slice xp xt.length xq, xt⟩, xm⟩ :: l.drop A) := HADD.out
  clear HADD
  go_wp2_with fail
  go_loopg [5] N (fun gf u wx => ∃ i : Nat, u = .int .i64 (i : Int) ∧ i ≤ A ∧ N ≤ i + gf ∧ Hid (Below W2.heap.size W2 wx))
  case atStart => exact ⟨0, rfl, by omega, by omega, hid (Below.refl _ _)⟩
  case round =>
    obtain ⟨i, rfl, hi, hg, HB⟩ := hrel
    have hbw := H2.out.trans (HB.out.mono H2.out.size)
    have BX := X2.out.later HB.out
    have k0 := cell_regrown (box_get BX (j := 0) rfl)
    have k1 := cell_regrown (box_get BX (j := 1) rfl)
    have k2 := cell_regrown (box_get BX (j := 2) rfl)
    have k3 := cell_regrown (box_get BX (j := 3) rfl)
    clear BX
    have HBW := hid hbw
    by_cases hia : i < A
    · obtain ⟨y, hy⟩ : ∃ y, l[i]? = some y := ⟨l[i]'(by have := HL.out; omega), List.getElem?_eq_getElem _⟩
      obtain ⟨b, off, c0, e, _, hyy⟩ := Lies.at (HT.out.keep (Keeps.of_below hbw)) (i := i) (by rw [List.length_map, HL.out]; omega)
      injection e with e1 e2 e3
      subst e1
      clear e2 e3
      have hyc := hyy i y.cells (by rw [List.getElem?_map, hy]; rfl)
      have D := HC.out y (List.mem_of_getElem? hy) wr hbw
      rw [HA1.out i y hia hy] at D
      have DD := hid D
      have KY := hid (reg_cells hyc)
      have ZY := hid (lnSize y)
      generalize y.cells = ycs at *
      have i1 : (i : Int) < (N : Int) := by omega
      have i0' : (0 : Int) ≤ (i : Int) := by omega
      have dN : decide (i < N) = true := by simp; omega
      clear hy hyy hyc D hbw
      go_wp2_with fail
      refine wp_region_quiet_below (by kernel_rfl) (by kernel_rfl) ?_
      repeat (first | ((with_reducible refine wpQuiet_load_at (o := ⟨some 19, _, _, _, _, _⟩) rfl _ _ rfl b (off + i * 4) rfl ycs _ KY.out Tryd.underlying44 rfl ZY.out ?_); simp only [Act.put, List.setIfInBounds_toArray, List.set_cons_zero, List.set_cons_succ]) | go_big_quiet_step (first | (with_reducible exact DD.out _ _)))
      refine wpQuiet_nil ?_
      intro _ hw'
      obtain ⟨⟨dq, osq⟩, hw''⟩ := hw'
      subst hw''
      have B3 := hid (HB.out.trans ((below_regrown wr dq osq).mono HB.out.size))
      clear HB DD KY k0 k1 k2 k3
      go_wp2_with fail
      have hNN := hlen
      go_roundg (gk - 1)
      case measure => omega
      case rel =>
        refine ⟨i + 1, ?_, by omega, by omega, B3⟩
        first | rfl | go_num | (rw [show wrap64 ((i : Int) + 1) = ((i + 1 : Nat) : Int) by unfold wrap64; omega])
    · obtain rfl : i = A := by omega
      clear hia
      rcases Nat.lt_or_ge i N with hlt | hge
      · obtain ⟨y, hy⟩ : ∃ y, l[i]? = some y := ⟨l[i]'(by have := HL.out; omega), List.getElem?_eq_getElem _⟩
        obtain ⟨b, off, c0, e, _, hyy⟩ := Lies.at (HT.out.keep (Keeps.of_below hbw)) (i := i) (by rw [List.length_map, HL.out]; omega)
        injection e with e1 e2 e3
        subst e1
        clear e2 e3
        have hyc := hyy i y.cells (by rw [List.getElem?_map, hy]; rfl)
        have D := HC.out y (List.mem_of_getElem? hy) wr hbw
        rw [HA2.out y hy] at D
        have DD := hid D
        have KY := hid (reg_cells hyc)
        have ZY := hid (lnSize y)
        generalize y.cells = ycs at *
        have i1 : (i : Int) < (N : Int) := by omega
        have i0' : (0 : Int) ≤ (i : Int) := by omega
        have dN : decide (i < N) = true := by simp; omega
        clear hy hyy hyc D hbw
        go_wp2_with fail
        refine wp_region_quiet_below (by kernel_rfl) (by kernel_rfl) ?_
        repeat (first | ((with_reducible refine wpQuiet_load_at (o := ⟨some 19, _, _, _, _, _⟩) rfl _ _ rfl b (off + i * 4) rfl ycs _ KY.out Tryd.underlying44 rfl ZY.out ?_); simp only [Act.put, List.setIfInBounds_toArray, List.set_cons_zero, List.set_cons_succ]) | go_big_quiet_step (first | (with_reducible exact DD.out _ _)))
        refine wpQuiet_nil ?_
        intro _ hw'
        obtain ⟨⟨dq, osq⟩, hw''⟩ := hw'
        subst hw''
        have B3 := hid (HBW.out.trans ((below_regrown wr dq osq).mono HBW.out.size))
        have X3 := hid (X2.out.later (HB.out.trans ((below_regrown wr dq osq).mono HB.out.size)))
        clear HB HBW DD KY k0 k1 k2 k3
        generalize grow (redrawn wr dq) osq = V at *
        have hi' : i ≤ N := by omega
        have LT : Hid (Lies V 4 (.slice (some ⟨b, off, none⟩) i cap) ((l.take i).map Ln.cells)) := hid (by rw [List.map_take]; exact lies_take (HT.out.keep (Keeps.of_below B3.out)) hi')
        have LTI : Hid (LnsIn w (l.take i)) := hid (fun y hy => HLI.out y (List.mem_of_mem_take hy))
        have LDI : Hid (LnsIn w (l.drop i)) := hid (fun y hy => HLI.out y (List.mem_of_mem_drop hy))
        have LDK : Hid (∀ W, Below w.heap.size w W → Lies W 4 (.slice (some ⟨b, off + i * 4, none⟩) (N - i) (cap - i)) ((l.drop i).map Ln.cells)) := hid (fun W q => by rw [List.map_drop]; exact lies_drop (HT.out.keep (Keeps.of_below q)) hi')
        have lti : (l.take i).length = i := by rw [List.length_take, HL.out]; omega
        have ldi : (l.drop i).length = N - i := by rw [List.length_drop, HL.out]
        have HLT := hid (And.intro lti ldi)
        have hNb := hlen
        have HXO := hid (fun u hu => (Array.all_eq_true_iff_forall_mem.1 HO.out) u (by simpa using hu) : ∀ u ∈ ([.string xl, .string xv, .slice xp xt.length xq, .bool xm] : List Value), u.oneCell' = true)
        clear lti ldi HO
        go_wp2_with (first
          | (at_builtin; (refine wpList_append_lying rfl _ _ 28 rfl w.heap.size 44 i0 _ 4 64 Tryd.underlying28 hinf hz0 hz1 hz2 rfl (by decide) (.slice none 0 0) 0 [] rfl (World.ownsRow_nil _ _ _ _) _ ((l.take i).map Ln.cells) rfl LT.out (ln_len _) (lns_ones LTI.out) (by rw [List.length_map, HLT.out.1]; unfold maxLen; omega) (by rw [List.length_map, HLT.out.1]; omega) B3.out.size ?_); intro v1 V1 own1 gr1; have b1 := own_kept (World.ownsRow_nil V w.heap.size 44 4) gr1 B3.out; have g1 : Below V.heap.size V V1 := (Below.refl V.heap.size V).grown gr1 (Nat.le_refl _) (by intro k hk; exact absurd hk (by simp [Value.ownBlock])); have n0 := later g1 (box_get X3.out (j := 0) rfl); have n1 := later g1 (box_get X3.out (j := 1) rfl); have n2 := later g1 (box_get X3.out (j := 2) rfl); have n3 := later g1 (box_get X3.out (j := 3) rfl); rw [Nat.zero_add, List.length_map, HLT.out.1, List.nil_append] at own1; obtain ⟨q1, c1, rfl⟩ := own_slice own1; have o1 := own_below own1 ((Below.refl V1.heap.size V1).alloc (Nat.le_refl _) (.cells ([.string xl, .string xv, .slice xp xt.length xq, .bool xm] : List Value).toArray 44)); have b1' := b1.alloc b1.size (.cells ([.string xl, .string xv, .slice xp xt.length xq, .bool xm] : List Value).toArray 44); have KA := hid (fun (j : Nat) (u : Value) (h : ([.string xl, .string xv, .slice xp xt.length xq, .bool xm] : List Value)[j]? = some u) => show (V1.alloc (.cells ([.string xl, .string xv, .slice xp xt.length xq, .bool xm] : List Value).toArray 44)).cell? ((⟨V1.heap.size, 0, none⟩ : Addr).add j) = some u by rw [Addr.add_lit, Nat.zero_add]; exact box_cell V1 [.string xl, .string xv, .slice xp xt.length xq, .bool xm] _ j u h); have O1 := hid o1; have B1 := hid b1'; clear own1 gr1 b1 g1 o1 b1')
          | (at_builtin; (refine wpList_append_own _ rfl _ _ 28 rfl w.heap.size 44 i0 _ 4 64 Tryd.underlying28 hinf hz0 hz1 hz2 rfl (by decide) _ _ _ rfl O1.out ⟨V1.heap.size, 0, none⟩ 1 1 [.string xl, .string xv, .slice xp xt.length xq, .bool xm] rfl rfl KA.out HXO.out (by unfold maxLen; omega) (by omega) B1.out.size ?_); intro v2 V2 own2 gr2 hn2; clear hn2; have b2 := own_kept O1.out gr2 B1.out; have O2 := hid own2; have B2 := hid b2; have LD2 := hid (LDK.out V2 b2); obtain ⟨q2, c2, rfl⟩ := own_slice own2; clear own2 gr2 b2 n0 n1 n2 n3)
          | (at_builtin; (refine wpList_append_lying rfl _ _ 28 rfl w.heap.size 44 i0 _ 4 64 Tryd.underlying28 hinf hz0 hz1 hz2 rfl (by decide) _ _ _ rfl O2.out _ ((l.drop i).map Ln.cells) rfl LD2.out (ln_len _) (lns_ones LDI.out) (by rw [List.length_map, HLT.out.2]; unfold maxLen; omega) (by rw [List.length_map, HLT.out.2]; omega) B2.out.size ?_); intro v3 V3 own3 gr3; have b3 := own_kept O2.out gr3 B2.out; rw [List.length_map, HLT.out.2] at own3; have O3 := hid own3; have B4 := hid b3; clear own3 gr3 b3))
        go_ret
        have e1 : (R.map Ln.cells).flatten = ((l.take i).map Ln.cells).flatten ++ [.string xl, .string xv, .slice xp xt.length xq, .bool xm] ++ ((l.drop i).map Ln.cells).flatten := by rw [HRl.out, List.map_append, List.flatten_append, List.map_cons, List.flatten_cons, List.append_assoc]; rfl
        have e2 : R.length = i + 1 + (N - i) := by rw [HRl.out, List.length_append, List.length_cons, HLT.out.1, HLT.out.2]; omega
        exact ⟨_, rfl, B4.out, .inr (by rw [e1, e2]; exact O3.out)⟩
      · obtain rfl : i = N := by omega
        have dN : decide (i < i) = false := by simp
        clear hbw
        go_wp2_with fail
        refine wp_region_quiet_below (by kernel_rfl) (by kernel_rfl) ?_
        repeat (go_big_quiet_step (fail))
        refine wpQuiet_nil ?_
        intro _ hw'
        obtain ⟨⟨dq, osq⟩, hw''⟩ := hw'
        subst hw''
        have B3 := hid (HBW.out.trans ((below_regrown wr dq osq).mono HBW.out.size))
        have X3 := hid (X2.out.later (HB.out.trans ((below_regrown wr dq osq).mono HB.out.size)))
        clear HB HBW k0 k1 k2 k3
        generalize grow (redrawn wr dq) osq = V at *
        cases p with
        | none =>
          have hi0 : i = 0 := by
            obtain ⟨p', c', e, _, h2⟩ := HT.out
            injection e with e1 e2 _
            rw [e2, List.length_map]
            cases hl : l with
            | nil => rfl
            | cons y r => obtain ⟨_, _, e, _⟩ := h2 (by rw [hl]; simp); rw [← e1] at e; cases e
          subst hi0
          have hi' : 0 ≤ 0 := Nat.le_refl _
          have LT : Hid (Lies V 4 (.slice none 0 cap) ((l.take 0).map Ln.cells)) := hid (by rw [List.map_take]; exact lies_take (HT.out.keep (Keeps.of_below B3.out)) hi')
          have LTI : Hid (LnsIn w (l.take 0)) := hid (fun y hy => HLI.out y (List.mem_of_mem_take hy))
          have LDI : Hid (LnsIn w (l.drop 0)) := hid (fun y hy => HLI.out y (List.mem_of_mem_drop hy))
          have LDK : Hid (∀ (W : World) (q : Option Addr) (k : Nat), Lies W 4 (.slice q 0 k) ((l.drop 0).map Ln.cells)) := hid (fun W q k => by rw [List.drop_eq_nil_of_le (by rw [HL.out]; exact Nat.le_refl _)]; exact ⟨q, k, rfl, Nat.zero_le _, fun h => absurd rfl h⟩)
          have lti : (l.take 0).length = 0 := by rw [List.length_take, HL.out]; omega
          have ldi : (l.drop 0).length = 0 - 0 := by rw [List.length_drop, HL.out]
          have HLT := hid (And.intro lti ldi)
          have hNb := hlen
          have HXO := hid (fun u hu => (Array.all_eq_true_iff_forall_mem.1 HO.out) u (by simpa using hu) : ∀ u ∈ ([.string xl, .string xv, .slice xp xt.length xq, .bool xm] : List Value), u.oneCell' = true)
          clear lti ldi HO
          go_wp2_with (first
            | (at_builtin; (refine wpList_append_lying rfl _ _ 28 rfl w.heap.size 44 i0 _ 4 64 Tryd.underlying28 hinf hz0 hz1 hz2 rfl (by decide) (.slice none 0 0) 0 [] rfl (World.ownsRow_nil _ _ _ _) _ ((l.take 0).map Ln.cells) rfl LT.out (ln_len _) (lns_ones LTI.out) (by rw [List.length_map, HLT.out.1]; unfold maxLen; omega) (by rw [List.length_map, HLT.out.1]; omega) B3.out.size ?_); intro v1 V1 own1 gr1; have b1 := own_kept (World.ownsRow_nil V w.heap.size 44 4) gr1 B3.out; have g1 : Below V.heap.size V V1 := (Below.refl V.heap.size V).grown gr1 (Nat.le_refl _) (by intro k hk; exact absurd hk (by simp [Value.ownBlock])); have n0 := later g1 (box_get X3.out (j := 0) rfl); have n1 := later g1 (box_get X3.out (j := 1) rfl); have n2 := later g1 (box_get X3.out (j := 2) rfl); have n3 := later g1 (box_get X3.out (j := 3) rfl); rw [Nat.zero_add, List.length_map, HLT.out.1, List.nil_append] at own1; obtain ⟨q1, c1, rfl⟩ := own_slice own1; have o1 := own_below own1 ((Below.refl V1.heap.size V1).alloc (Nat.le_refl _) (.cells ([.string xl, .string xv, .slice xp xt.length xq, .bool xm] : List Value).toArray 44)); have b1' := b1.alloc b1.size (.cells ([.string xl, .string xv, .slice xp xt.length xq, .bool xm] : List Value).toArray 44); have KA := hid (fun (j : Nat) (u : Value) (h : ([.string xl, .string xv, .slice xp xt.length xq, .bool xm] : List Value)[j]? = some u) => show (V1.alloc (.cells ([.string xl, .string xv, .slice xp xt.length xq, .bool xm] : List Value).toArray 44)).cell? ((⟨V1.heap.size, 0, none⟩ : Addr).add j) = some u by rw [Addr.add_lit, Nat.zero_add]; exact box_cell V1 [.string xl, .string xv, .slice xp xt.length xq, .bool xm] _ j u h); have O1 := hid o1; have B1 := hid b1'; clear own1 gr1 b1 g1 o1 b1')
            | (at_builtin; (refine wpList_append_own _ rfl _ _ 28 rfl w.heap.size 44 i0 _ 4 64 Tryd.underlying28 hinf hz0 hz1 hz2 rfl (by decide) _ _ _ rfl O1.out ⟨V1.heap.size, 0, none⟩ 1 1 [.string xl, .string xv, .slice xp xt.length xq, .bool xm] rfl rfl KA.out HXO.out (by unfold maxLen; omega) (by omega) B1.out.size ?_); intro v2 V2 own2 gr2 hn2; clear hn2; have b2 := own_kept O1.out gr2 B1.out; have O2 := hid own2; have B2 := hid b2; obtain ⟨q2, c2, rfl⟩ := own_slice own2; clear own2 gr2 b2 n0 n1 n2 n3)
            | (at_builtin; (refine wpList_append_lying rfl _ _ 28 rfl w.heap.size 44 i0 _ 4 64 Tryd.underlying28 hinf hz0 hz1 hz2 rfl (by decide) _ _ _ rfl O2.out _ ((l.drop 0).map Ln.cells) rfl (LDK.out _ _ _) (ln_len _) (lns_ones LDI.out) (by rw [List.length_map, HLT.out.2]; unfold maxLen; omega) (by rw [List.length_map, HLT.out.2]; omega) B2.out.size ?_); intro v3 V3 own3 gr3; have b3 := own_kept O2.out gr3 B2.out; rw [List.length_map, HLT.out.2] at own3; have O3 := hid own3; have B4 := hid b3; clear own3 gr3 b3))
          go_ret
          have e1 : (R.map Ln.cells).flatten = ((l.take 0).map Ln.cells).flatten ++ [.string xl, .string xv, .slice xp xt.length xq, .bool xm] ++ ((l.drop 0).map Ln.cells).flatten := by rw [HRl.out, List.map_append, List.flatten_append, List.map_cons, List.flatten_cons, List.append_assoc]; rfl
          have e2 : R.length = 0 + 1 + (0 - 0) := by rw [HRl.out, List.length_append, List.length_cons, HLT.out.1, HLT.out.2]
          exact ⟨_, rfl, B4.out, .inr (by rw [e1, e2]; exact O3.out)⟩
        | some ad =>
          have hi' : i ≤ i := Nat.le_refl _
          have LT : Hid (Lies V 4 (.slice (some ad) i cap) ((l.take i).map Ln.cells)) := hid (by rw [List.map_take]; exact lies_take (HT.out.keep (Keeps.of_below B3.out)) hi')
          have LTI : Hid (LnsIn w (l.take i)) := hid (fun y hy => HLI.out y (List.mem_of_mem_take hy))
          have LDI : Hid (LnsIn w (l.drop i)) := hid (fun y hy => HLI.out y (List.mem_of_mem_drop hy))
          have LDK : Hid (∀ (W : World) (q : Option Addr) (k : Nat), Lies W 4 (.slice q 0 k) ((l.drop i).map Ln.cells)) := hid (fun W q k => by rw [List.drop_eq_nil_of_le (by rw [HL.out]; exact Nat.le_refl _)]; exact ⟨q, k, rfl, Nat.zero_le _, fun h => absurd rfl h⟩)
          have lti : (l.take i).length = i := by rw [List.length_take, HL.out]; omega
          have ldi : (l.drop i).length = i - i := by rw [List.length_drop, HL.out]
          have HLT := hid (And.intro lti ldi)
          have hNb := hlen
          have HXO := hid (fun u hu => (Array.all_eq_true_iff_forall_mem.1 HO.out) u (by simpa using hu) : ∀ u ∈ ([.string xl, .string xv, .slice xp xt.length xq, .bool xm] : List Value), u.oneCell' = true)
          clear lti ldi HO
          go_wp2_with (first
            | (at_builtin; (refine wpList_append_lying rfl _ _ 28 rfl w.heap.size 44 i0 _ 4 64 Tryd.underlying28 hinf hz0 hz1 hz2 rfl (by decide) (.slice none 0 0) 0 [] rfl (World.ownsRow_nil _ _ _ _) _ ((l.take i).map Ln.cells) rfl LT.out (ln_len _) (lns_ones LTI.out) (by rw [List.length_map, HLT.out.1]; unfold maxLen; omega) (by rw [List.length_map, HLT.out.1]; omega) B3.out.size ?_); intro v1 V1 own1 gr1; have b1 := own_kept (World.ownsRow_nil V w.heap.size 44 4) gr1 B3.out; have g1 : Below V.heap.size V V1 := (Below.refl V.heap.size V).grown gr1 (Nat.le_refl _) (by intro k hk; exact absurd hk (by simp [Value.ownBlock])); have n0 := later g1 (box_get X3.out (j := 0) rfl); have n1 := later g1 (box_get X3.out (j := 1) rfl); have n2 := later g1 (box_get X3.out (j := 2) rfl); have n3 := later g1 (box_get X3.out (j := 3) rfl); rw [Nat.zero_add, List.length_map, HLT.out.1, List.nil_append] at own1; obtain ⟨q1, c1, rfl⟩ := own_slice own1; have o1 := own_below own1 ((Below.refl V1.heap.size V1).alloc (Nat.le_refl _) (.cells ([.string xl, .string xv, .slice xp xt.length xq, .bool xm] : List Value).toArray 44)); have b1' := b1.alloc b1.size (.cells ([.string xl, .string xv, .slice xp xt.length xq, .bool xm] : List Value).toArray 44); have KA := hid (fun (j : Nat) (u : Value) (h : ([.string xl, .string xv, .slice xp xt.length xq, .bool xm] : List Value)[j]? = some u) => show (V1.alloc (.cells ([.string xl, .string xv, .slice xp xt.length xq, .bool xm] : List Value).toArray 44)).cell? ((⟨V1.heap.size, 0, none⟩ : Addr).add j) = some u by rw [Addr.add_lit, Nat.zero_add]; exact box_cell V1 [.string xl, .string xv, .slice xp xt.length xq, .bool xm] _ j u h); have O1 := hid o1; have B1 := hid b1'; clear own1 gr1 b1 g1 o1 b1')
            | (at_builtin; (refine wpList_append_own _ rfl _ _ 28 rfl w.heap.size 44 i0 _ 4 64 Tryd.underlying28 hinf hz0 hz1 hz2 rfl (by decide) _ _ _ rfl O1.out ⟨V1.heap.size, 0, none⟩ 1 1 [.string xl, .string xv, .slice xp xt.length xq, .bool xm] rfl rfl KA.out HXO.out (by unfold maxLen; omega) (by omega) B1.out.size ?_); intro v2 V2 own2 gr2 hn2; clear hn2; have b2 := own_kept O1.out gr2 B1.out; have O2 := hid own2; have B2 := hid b2; obtain ⟨q2, c2, rfl⟩ := own_slice own2; clear own2 gr2 b2 n0 n1 n2 n3)
            | (at_builtin; (refine wpList_append_lying rfl _ _ 28 rfl w.heap.size 44 i0 _ 4 64 Tryd.underlying28 hinf hz0 hz1 hz2 rfl (by decide) _ _ _ rfl O2.out _ ((l.drop i).map Ln.cells) rfl (LDK.out _ _ _) (ln_len _) (lns_ones LDI.out) (by rw [List.length_map, HLT.out.2]; unfold maxLen; omega) (by rw [List.length_map, HLT.out.2]; omega) B2.out.size ?_); intro v3 V3 own3 gr3; have b3 := own_kept O2.out gr3 B2.out; rw [List.length_map, HLT.out.2] at own3; have O3 := hid own3; have B4 := hid b3; clear own3 gr3 b3))
          all_goals
            go_ret
            have e1 : (R.map Ln.cells).flatten = ((l.take i).map Ln.cells).flatten ++ [.string xl, .string xv, .slice xp xt.length xq, .bool xm] ++ ((l.drop i).map Ln.cells).flatten := by rw [HRl.out, List.map_append, List.flatten_append, List.map_cons, List.flatten_cons, List.append_assoc]; rfl
            have e2 : R.length = i + 1 + (i - i) := by rw [HRl.out, List.length_append, List.length_cons, HLT.out.1, HLT.out.2]; omega
            exact ⟨_, rfl, B4.out, .inr (by rw [e1, e2]; exact O3.out)⟩
end Go.Proofs.YtannfhbocfghkaaDoor.EnvC
/- Contracts of the document's Refs and Lost (lienbookref05). -/
namespace Go.Proofs.YtannfhbocfghkaaDoor.EnvC
open Go Go.RowKit Go.Lib Go.Sort Go.Proofs.YtannfhbocfghkaaDoor.EnvP

set_option maxHeartbeats 8000000 in
set_option maxRecDepth 100000 in
theorem rRefs_any : ∀ (n : Nat) (t : ETy) (w : World), wT t ≤ n → n ≤ 1048576 → t.In w →
    Calls Tryd.prog 38 #[t.val] w fun r w' => r = .returned (.bool (refsT t)) ∧ Below w.heap.size w w' := by
  intro n
  induction n using Nat.strongRecOn with
  | ind n ih =>
    intro t w hw hn ht
    obtain ⟨k, m, g, lv, ls, kv, kids⟩ := t
    rw [ETy.In] at ht
    obtain ⟨pl, cl, hcl, rfl⟩ := lies_slice ht.1
    obtain ⟨pk, ck, hck, rfl⟩ := lies_slice ht.2.2.1
    rw [wT] at hw
    have hkl := kids_len kids
    have hNb : kids.length ≤ 1048576 := by omega
    obtain ⟨R, hR⟩ : ∃ R, refsT (.mk k m g (.slice pl ls.length cl) ls (.slice pk kids.length ck) kids) = R := ⟨_, rfl⟩
    rw [hR]
    rw [refsT] at hR
    have ihk := fun (x : ETy) (hx : x ∈ kids) (W : World) (hb : Below w.heap.size w W) => ih (wT x) (by have := mem_sum wT hx; rw [← wTs_sum] at this; omega) x W (Nat.le_refl _) (by have := mem_sum wT hx; rw [← wTs_sum] at this; omega) (ETy.In.keep (Keeps.of_below hb) x ((ETy.ins_iff w kids).1 ht.2.2.2 x hx))
    change Calls _ _ #[.agg #[.int .i64 k, .bool m, .bool g, .slice pl ls.length cl, .slice pk kids.length ck]] _ _
    generalize ls.length = L at *
    generalize hN : kids.length = N at *
    have X1 := BoxAt.new w [.int .i64 k, .bool m, .bool g, .slice pl L cl, .slice pk N ck] 31
    have bA : Below w.heap.size w (w.alloc (.cells #[.int .i64 k, .bool m, .bool g, .slice pl L cl, .slice pk N ck] 31 (0, 0))) := (Below.refl _ _).alloc (Nat.le_refl _) _
    change BoxAt (w.alloc (.cells #[.int .i64 k, .bool m, .bool g, .slice pl L cl, .slice pk N ck] 31 (0, 0))) _ _ at X1
    have HB0 := hid bA
    have HX := hid X1
    have HT := hid ht
    have HIK := hid ihk
    have HL := hid hN
    have HR : Hid (((k == 4) || refsTs (kids.drop 0)) = R) := hid (by rw [List.drop_zero]; exact hR)
    clear bA X1 ht ihk hN hR ih hw hkl
    generalize hA : (k == 4) = A0 at *
    go_enter Tryd.func38, Tryd.ntmps38
    go_wp2_with fail
    generalize World.alloc w _ = W1 at *
    go_loopg [3, 4] N (fun gf u3 u4 wx => ∃ (i : Nat) (a : Bool), u3 = .bool a ∧ u4 = .int .i64 (i : Int) ∧ i ≤ N ∧ N ≤ i + gf ∧ Hid ((a || refsTs (kids.drop i)) = R) ∧ Hid (Below W1.heap.size W1 wx))
    case atStart => exact ⟨0, A0, by first | rfl | (rw [← hA]; rfl) | (rw [← hA]; congr 1), rfl, by omega, by omega, HR, hid (Below.refl _ _)⟩
    case round =>
      obtain ⟨i, a, rfl, rfl, hi, hg, HI, HB⟩ := hrel
      clear HR hA
      have z4 := HX.out.later HB.out 4 (.slice pk N ck) rfl
      have hbw := HB0.out.trans (HB.out.mono HB0.out.size)
      by_cases hlt : i < N
      · obtain ⟨y, hy⟩ : ∃ y, kids[i]? = some y := ⟨kids[i]'(by rw [HL.out]; exact hlt), List.getElem?_eq_getElem _⟩
        have hp := HI.out
        rw [drop_cons hy, refsTs] at hp
        cases a
        · obtain ⟨b, off, c0, e, _, hyy⟩ := Lies.at (HT.out.2.2.1.keep (Keeps.of_below hbw)) (i := i) (by rw [List.length_map, HL.out]; exact hlt)
          injection e with e1 e2 e3
          subst e1
          clear e2 e3
          have hyc := hyy i y.cells (by rw [List.getElem?_map, hy]; rfl)
          have CY := hid (HIK.out y (List.mem_of_getElem? hy) wr hbw)
          change Hid (Calls _ _ #[.agg y.cells.toArray] _ _) at CY
          have KY := hid hyc
          have ZY := hid (tySize y)
          generalize refsT y = q at *
          generalize y.cells = ycs at *
          have HP : Hid ((q || refsTs (kids.drop (i + 1))) = R) := hid (by rw [← hp, Bool.false_or])
          have i1 : (i : Int) < (N : Int) := by omega
          have i0 : (0 : Int) ≤ (i : Int) := by omega
          clear hy hyy hyc hp HI hbw
          go_wp2_with (with_reducible refine wpList_load_at (o := ⟨some 21, _, _, _, _, _⟩) rfl _ _ rfl b (off + i * 5) rfl ycs _ KY.out Tryd.underlying31 rfl ZY.out ?_)
          with_reducible refine CY.out.mono ?_
          rintro e3 W3 ⟨rfl, hb3⟩
          have B3 := hid (HB.out.trans (hb3.mono HB.out.size))
          clear HB CY KY z4 hb3
          go_wp2_with fail
          go_roundg (gk - 1)
          case measure => omega
          case rel => exact ⟨i + 1, q, rfl, by go_num, by omega, by omega, HP, B3⟩
        · have HP : Hid ((true || refsTs (kids.drop (i + 1))) = R) := hid (by rw [← hp]; rfl)
          clear hy hp HI hbw
          go_wp2_with fail
          go_roundg (gk - 1)
          case measure => omega
          case rel => exact ⟨i + 1, true, rfl, by go_num, by omega, by omega, HP, HB⟩
      · have HN : Hid (a = R) := hid (by rw [← HI.out, List.drop_eq_nil_of_le (by rw [HL.out]; omega), refsTs, Bool.or_false])
        have HBW := hid hbw
        clear HI hbw
        go_wp2_with fail
        go_ret
        exact ⟨ret_bool HN.out, HBW.out⟩
set_option maxHeartbeats 8000000 in
set_option maxRecDepth 100000 in
theorem rLost_any : ∀ (n : Nat) (t : ETy) (w : World), wT t ≤ n → n ≤ 1048576 → t.In w →
    Calls Tryd.prog 39 #[t.val] w fun r w' => r = .returned (.bool (lostT t)) ∧ Below w.heap.size w w' := by
  intro n
  induction n using Nat.strongRecOn with
  | ind n ih =>
    intro t w hw hn ht
    obtain ⟨k, m, g, lv, ls, kv, kids⟩ := t
    rw [ETy.In] at ht
    obtain ⟨pl, cl, hcl, rfl⟩ := lies_slice ht.1
    obtain ⟨pk, ck, hck, rfl⟩ := lies_slice ht.2.2.1
    rw [wT] at hw
    have hkl := kids_len kids
    have hNb : kids.length ≤ 1048576 := by omega
    obtain ⟨R, hR⟩ : ∃ R, lostT (.mk k m g (.slice pl ls.length cl) ls (.slice pk kids.length ck) kids) = R := ⟨_, rfl⟩
    rw [hR]
    rw [lostT] at hR
    have ihk := fun (x : ETy) (hx : x ∈ kids) (W : World) (hb : Below w.heap.size w W) => ih (wT x) (by have := mem_sum wT hx; rw [← wTs_sum] at this; omega) x W (Nat.le_refl _) (by have := mem_sum wT hx; rw [← wTs_sum] at this; omega) (ETy.In.keep (Keeps.of_below hb) x ((ETy.ins_iff w kids).1 ht.2.2.2 x hx))
    change Calls _ _ #[.agg #[.int .i64 k, .bool m, .bool g, .slice pl ls.length cl, .slice pk kids.length ck]] _ _
    generalize ls.length = L at *
    generalize hN : kids.length = N at *
    have X1 := BoxAt.new w [.int .i64 k, .bool m, .bool g, .slice pl L cl, .slice pk N ck] 31
    have bA : Below w.heap.size w (w.alloc (.cells #[.int .i64 k, .bool m, .bool g, .slice pl L cl, .slice pk N ck] 31 (0, 0))) := (Below.refl _ _).alloc (Nat.le_refl _) _
    change BoxAt (w.alloc (.cells #[.int .i64 k, .bool m, .bool g, .slice pl L cl, .slice pk N ck] 31 (0, 0))) _ _ at X1
    have HB0 := hid bA
    have HX := hid X1
    have HT := hid ht
    have HIK := hid ihk
    have HL := hid hN
    have HR : Hid ((g || lostTs (kids.drop 0)) = R) := hid (by rw [List.drop_zero]; exact hR)
    clear bA X1 ht ihk hN hR ih hw hkl
    generalize hA : g = A0 at *
    go_enter Tryd.func39, Tryd.ntmps39
    go_wp2_with fail
    generalize World.alloc w _ = W1 at *
    go_loopg [3, 4] N (fun gf u3 u4 wx => ∃ (i : Nat) (a : Bool), u3 = .bool a ∧ u4 = .int .i64 (i : Int) ∧ i ≤ N ∧ N ≤ i + gf ∧ Hid ((a || lostTs (kids.drop i)) = R) ∧ Hid (Below W1.heap.size W1 wx))
    case atStart => exact ⟨0, A0, by first | rfl | (rw [← hA]; rfl) | (rw [← hA]; congr 1), rfl, by omega, by omega, HR, hid (Below.refl _ _)⟩
    case round =>
      obtain ⟨i, a, rfl, rfl, hi, hg, HI, HB⟩ := hrel
      clear HR hA
      have z4 := HX.out.later HB.out 4 (.slice pk N ck) rfl
      have hbw := HB0.out.trans (HB.out.mono HB0.out.size)
      by_cases hlt : i < N
      · obtain ⟨y, hy⟩ : ∃ y, kids[i]? = some y := ⟨kids[i]'(by rw [HL.out]; exact hlt), List.getElem?_eq_getElem _⟩
        have hp := HI.out
        rw [drop_cons hy, lostTs] at hp
        cases a
        · obtain ⟨b, off, c0, e, _, hyy⟩ := Lies.at (HT.out.2.2.1.keep (Keeps.of_below hbw)) (i := i) (by rw [List.length_map, HL.out]; exact hlt)
          injection e with e1 e2 e3
          subst e1
          clear e2 e3
          have hyc := hyy i y.cells (by rw [List.getElem?_map, hy]; rfl)
          have CY := hid (HIK.out y (List.mem_of_getElem? hy) wr hbw)
          change Hid (Calls _ _ #[.agg y.cells.toArray] _ _) at CY
          have KY := hid hyc
          have ZY := hid (tySize y)
          generalize lostT y = q at *
          generalize y.cells = ycs at *
          have HP : Hid ((q || lostTs (kids.drop (i + 1))) = R) := hid (by rw [← hp, Bool.false_or])
          have i1 : (i : Int) < (N : Int) := by omega
          have i0 : (0 : Int) ≤ (i : Int) := by omega
          clear hy hyy hyc hp HI hbw
          go_wp2_with (with_reducible refine wpList_load_at (o := ⟨some 20, _, _, _, _, _⟩) rfl _ _ rfl b (off + i * 5) rfl ycs _ KY.out Tryd.underlying31 rfl ZY.out ?_)
          with_reducible refine CY.out.mono ?_
          rintro e3 W3 ⟨rfl, hb3⟩
          have B3 := hid (HB.out.trans (hb3.mono HB.out.size))
          clear HB CY KY z4 hb3
          go_wp2_with fail
          go_roundg (gk - 1)
          case measure => omega
          case rel => exact ⟨i + 1, q, rfl, by go_num, by omega, by omega, HP, B3⟩
        · have HP : Hid ((true || lostTs (kids.drop (i + 1))) = R) := hid (by rw [← hp]; rfl)
          clear hy hp HI hbw
          go_wp2_with fail
          go_roundg (gk - 1)
          case measure => omega
          case rel => exact ⟨i + 1, true, rfl, by go_num, by omega, by omega, HP, HB⟩
      · have HN : Hid (a = R) := hid (by rw [← HI.out, List.drop_eq_nil_of_le (by rw [HL.out]; omega), lostTs, Bool.or_false])
        have HBW := hid hbw
        clear HI hbw
        go_wp2_with fail
        go_ret
        exact ⟨ret_bool HN.out, HBW.out⟩
end Go.Proofs.YtannfhbocfghkaaDoor.EnvC

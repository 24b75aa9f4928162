/- Texts joined: ParH, ParK, ParL, ParT. -/
import Derived.Test.YtemflcojebanlaaGreatDoorJ27
import Derived.Maps.AppendAt
/- The document's own parser: an expression. -/
namespace Go.Proofs.YtemflcojebanlaaGreatDoor.ParC
open Go Go.RowKit Go.Lib Go.Sort LexP TreeP LexC TreeC PageC TextC ParP

/-- an expression, out of sums -/
def exprG (f : S → PE × S) (s : S) : PE × S := if nextB (f s).2 mLess || nextB (f s).2 mSame then (.mk 8 0 (txt 4 (f s).2) false [(f s).1, (f (f s).2.pass).1], (f (f s).2.pass).2) else f s
set_option maxHeartbeats 8000000 in
set_option maxRecDepth 100000 in
theorem expr_any (pb : Nat) (lv : Value) (ts : List Tok) (N L : Nat) (hT : ToksOk ts) (f : S → PE × S) (hf : ∀ s, (f s).2.rest.length ≤ s.rest.length) (hwr : ∀ s, s.wr = true → (f s).2.wr = true) (hg : Good pb lv ts N L 115 f) : Good pb lv ts N L 86 (exprG f) := by
 intro w s X hA h hN hL
 show Calls _ _ _ _ (RetE w pb lv ts X (exprG f s))
 have hTf := hT.few
 have b1 : Below w.heap.size w (w.alloc (.cells exZ 40)) := (Below.refl _ w).alloc (Nat.le_refl _) _
 have HA0 := hid ((At.start h).below b1)
 have HA := hid hA
 have hpb : pb < w.heap.size := hA.lt pb hA.mem
 have HAw := hid ((hA.mono (w' := w.alloc (.cells exZ 40)) (by simp)).add (b := w.heap.size) (by simp))
 have HK := hid (heap_alloc_new w (.cells exZ 40))
 have HG1 := hid (fun W X1 a b => hg W s X1 a b hN hL)
 have HG := hid hg
 have hfs := hf s
 have hw0 := hwr s
 generalize hR : exprG f s = R
 unfold exprG at hR
 have HR := hid hR
 have HL := hid hL
 generalize hs2 : (f s) = r0 at *
 obtain ⟨re0, rs0⟩ := r0
 simp only at hfs HR hw0
 have HL2 := hid (show rs0.wr = true ∨ rs0.rest.length < L from by
  rcases hL with h | h
  ·exact .inl (hw0 h)
  ·exact .inr (by omega))
 clear h hA b1 hg hR hs2 hL hw0
 go_enter Tryz.func86, Tryz.ntmps86
 go_wp2_with fail
 refine (HG1.out _ _ HAw.out HA0.out.pin).mono ?_
 rintro e W1 ⟨T, rfl, hin, her, hp1, hs1⟩
 obtain ⟨k, n, nm, m, p, l, c, kids, rfl⟩ := ex_open hin
 rw [Ex.val_mk]
 have b2 : Below W1.heap.size W1 (W1.alloc (.cells #[.int .i64 k, .int .i64 n, .string nm, .bool m, .slice p l c] 40)) := (Below.refl _ W1).alloc (Nat.le_refl _) _
 have HA2 := hid ((HA0.out.call hp1 hs1).below b2)
 have HK2 := hid (heap_below b2 (heap_step hs1 HK.out (by omega)))
 have HB2 := hid (heap_alloc_new W1 (.cells #[.int .i64 k, .int .i64 n, .string nm, .bool m, .slice p l c] 40))
 have hnew : w.heap.size + 1 ≤ W1.heap.size := by have := hs1.size; simp at this; omega
 have HI2 := hid (Ex.In.keep ((keepsL_add W1 (Nat.le_refl _)).trans (keepsL_below b2)) _ hin)
 have HAw2 := hid (((HAw.out.mono hs1.size).mono b2.size).add (b := W1.heap.size) (by simp))
 have HP := hid (show (if nextB rs0 mLess || nextB rs0 mSame then (PE.mk 8 0 (txt 4 rs0) false [erE (.mk k n nm m (.slice p l c) kids), (f rs0.pass).1], (f rs0.pass).2) else (erE (.mk k n nm m (.slice p l c) kids), rs0)) = R by rw [her]; exact HR.out)
 clear hin her hp1 hs1 b2 HG1 HA0 HK HAw HR HAw2
 go_wp2_with fail
 have HS := hid (next_any _ pb lv ts rs0 mLess HA2.out.pin hTf)
 have HSB := hid (fun q => next_any _ pb lv ts rs0 mSame (HA2.out.pin.drewN q) hTf)
 have hcz : w.heap.size < W1.heap.size := by omega
 have hcw : w.heap.size ≠ W1.heap.size := by omega
 cases hna : nextB rs0 mLess with
 | false =>
  rw [hna] at HS
  cases hnb : nextB rs0 mSame with
  | false =>
   rw [hnb] at HSB
   have hr := HP.out
   rw [hna, hnb, if_neg (by simp)] at hr
   have HR2 := hid hr
   clear hna hnb hr HP HG
   go_wp2_with fail
   refine HS.out.mono ?_
   rintro e W1' ⟨rfl, q1, rfl⟩
   go_wp2_with fail
   refine (HSB.out q1).mono ?_
   rintro e W1' ⟨rfl, q2, rfl⟩
   rw [World.drewN_drewN]
   have HA3 := hid (HA2.out.below (Below.drewN' _ (q1 + q2)))
   have HI3 := hid (Ex.In.keep (keepsL_below (Below.drewN' _ (q1 + q2))) _ HI2.out)
   have HK3 := hid (show ((W1.alloc (.cells #[.int .i64 k, .int .i64 n, .string nm, .bool m, .slice p l c] 40)).drewN (q1 + q2)).heap[w.heap.size]? = _ from HK2.out)
   have HB3 := hid (show ((W1.alloc (.cells #[.int .i64 k, .int .i64 n, .string nm, .bool m, .slice p l c] 40)).drewN (q1 + q2)).heap[W1.heap.size]? = _ from HB2.out)
   obtain ⟨k0, k1, k2, k3, k4⟩ := cells5 HB3.out
   clear HS HSB HA2 HI2 HB2 HK2
   generalize hWq : (W1.alloc (.cells #[.int .i64 k, .int .i64 n, .string nm, .bool m, .slice p l c] 40)).drewN (q1 + q2) = Wq at *
   go_wp2_with (first | (refine wpList_store_row (o := ⟨none, _, _, _, _, _⟩) rfl _ _ _ rfl w.heap.size #[.int .i64 k, .int .i64 n, .string nm, .bool m, .slice p l c] rfl rfl _ _ HK3.out ex_sz rfl (ex_one _ _ _ _ _ _ _) ?_))
   have hr := HR2.out
   subst hr
   refine bodyPost_ret (results_cell_row rfl _ _ w.heap.size _ #[.int .i64 k, .int .i64 n, .string nm, .bool m, .slice p l c] _ _ rfl (setRow_heap _ _ _ _ _ _ HK3.out) Tryz.underlying40 rfl ex_sz) ?_ (by have h := retE_row (X := X) HA3.out (.mk k n nm m (.slice p l c) kids) (Ex.In.keep (keepsL_sub _ (fun b hb => by simp at hb ⊢; rcases hb with h | h <;> simp [h])) _ HI3.out) rfl #[.int .i64 k, .int .i64 n, .string nm, .bool m, .slice p l c]; exact h)
   rfl
  | true =>
   rw [hnb] at HSB
   have nextwr : rs0.wr = false := (next_some hnb (by decide)).1
   go_wp2_with fail
   refine HS.out.mono ?_
   rintro e W1' ⟨rfl, q1, rfl⟩
   go_wp2_with fail
   refine (HSB.out q1).mono ?_
   rintro e W1' ⟨rfl, q2, rfl⟩
   clear HS HSB
   have HT4 := hid (fun q => text_any ((W1.alloc (.cells #[.int .i64 k, .int .i64 n, .string nm, .bool m, .slice p l c] 40)).drewN q) pb lv ts rs0 4 (HA2.out.pin.drewN q) hTf)
   have HT5 := HT4.out (q1 + q2)
   obtain ⟨_, _, _, _, hl3, hne⟩ := ops_step f mLess mSame N (erE (.mk k n nm m (.slice p l c) kids)) rs0 (by simp [hna, hnb]) (by decide) (by decide) (by omega)
   have hr := HP.out
   rw [if_pos (by simp [hna, hnb])] at hr
   have HR2 := hid hr
   have HG2 := hid (fun W X1 a b => HG.out W rs0.pass X1 a b (by omega) (.inr (by have h := HL2.out.resolve_left (by simp [nextwr]); omega)))
   have HW3 := hid (hwr rs0.pass)
   have hf3 := hf rs0.pass
   obtain ⟨x4, hx4⟩ : ∃ x4, txt 4 rs0 = x4 := ⟨_, rfl⟩
   rw [hx4] at HR2 HT5
   have HBS := hid (bs_Sb x4)
   generalize Sb x4 = X4 at *
   clear hna hnb hr HP HT4 hx4
   go_wp2_with fail
   refine HT5.mono ?_
   rintro e W3 ⟨rfl, q3, rfl⟩
   have HA3 := hid (HA2.out.below (Below.drewN' (W1.alloc (.cells #[.int .i64 k, .int .i64 n, .string nm, .bool m, .slice p l c] 40)) ((q1 + q2) + q3)))
   obtain ⟨i, hi1, hi2, hi3⟩ := HA3.out.box
   obtain ⟨_, c1, _⟩ := pin_cells hi3
   have cf := pin_frozen hi3 1
   have hil : i ≤ 1048576 := by omega
   have HA4 := hid (HA3.out.call (pin_pass HA3.out.pin hi1 hi2 hi3 hne) (step_set 1 (.int .i64 ((i : Int) + 1))))
   have HS4 := hid (step_set (w := (W1.alloc (.cells #[.int .i64 k, .int .i64 n, .string nm, .bool m, .slice p l c] 40)).drewN ((q1 + q2) + q3)) (pb := pb) 1 (.int .i64 ((i : Int) + 1)))
   clear HT5 HA3 hi1 hi2 hi3
   go_wp2_with fail
   have hlt1 := heap_lt HB2.out
   have hlt0 := heap_lt HK2.out
   have HAw4 := hid (((HA.out.mono (w' := ((W1.alloc (.cells #[.int .i64 k, .int .i64 n, .string nm, .bool m, .slice p l c] 40)).drewN ((q1 + q2) + q3)).setCell ⟨pb, 1, none⟩ (.int .i64 ((i : Int) + 1))) HA4.out.step.size).add (b := w.heap.size) (by simp; try omega)).add (b := W1.heap.size) (by simp; try omega))
   have HI4 := hid (Ex.In.keep ((keepsL_below (Below.drewN' (W1.alloc (.cells #[.int .i64 k, .int .i64 n, .string nm, .bool m, .slice p l c] 40)) ((q1 + q2) + q3))).trans (keepsL_step HS4.out (by simp [HA.out.mem]))) _ HI2.out)
   have H34 := hid (heap_step HS4.out (show ((W1.alloc (.cells #[.int .i64 k, .int .i64 n, .string nm, .bool m, .slice p l c] 40)).drewN ((q1 + q2) + q3)).heap[W1.heap.size]? = _ from HB2.out) (by omega))
   have H44 := hid (heap_step HS4.out (show ((W1.alloc (.cells #[.int .i64 k, .int .i64 n, .string nm, .bool m, .slice p l c] 40)).drewN ((q1 + q2) + q3)).heap[w.heap.size]? = _ from HK2.out) (by omega))
   clear HS4 HI2 HA2 HB2 HK2 c1 cf
   refine (HG2.out _ _ HAw4.out HA4.out.pin).mono ?_
   rintro e W5 ⟨T5, rfl, hin5, her5, hp5, hs5⟩
   obtain ⟨k', n', nm', m', p', l', c', kids', rfl⟩ := ex_open hin5
   rw [Ex.val_mk]
   have HA5 := hid (HA4.out.call hp5 hs5)
   have HI5 := hid (Ex.In.keep (keepsL_step hs5 (by simp [HA.out.mem])) _ HI4.out)
   have h35 := heap_step hs5 H34.out (by omega)
   have h45 := heap_step hs5 H44.out (by omega)
   obtain ⟨k0, k1, k2, k3, k4⟩ := cells5 h35
   have hlt15 := heap_lt h35
   have hlt05 := heap_lt h45
   have b6 : Below W5.heap.size W5 (W5.alloc (.cells #[.int .i64 k', .int .i64 n', .string nm', .bool m', .slice p' l' c'] 40)) := (Below.refl _ W5).alloc (Nat.le_refl _) _
   have b7 : Below W5.heap.size W5 ((W5.alloc (.cells #[.int .i64 k', .int .i64 n', .string nm', .bool m', .slice p' l' c'] 40)).alloc (.cells #[.int .i64 k, .int .i64 n, .string nm, .bool m, .slice p l c, .int .i64 k', .int .i64 n', .string nm', .bool m', .slice p' l' c'] 40)) := b6.alloc (by simp) _
   have hX6 : (W5.alloc (.cells #[.int .i64 k', .int .i64 n', .string nm', .bool m', .slice p' l' c'] 40)).heap.size ∉ W1.heap.size :: w.heap.size :: X := HAw4.out.not (by have := hs5.size; simp at this ⊢; omega)
   have HI7 := hid (wrapE2 (K := 8) (nv := 0) (nm2 := X4) (m2 := false) hX6 (Ex.In.keep (keepsL_below b6) _ HI5.out) (Ex.In.keep (keepsL_below b6) _ hin5) (by decide))
   have HA7 := hid (HA5.out.below b7)
   have H37 := hid (heap_below b7 h35)
   have H47 := hid (heap_below b7 h45)
   have HE5 := hid her5
   have hw5 := HW3.out
   have HNew := hid (show w.heap.size ≤ W1.heap.size by omega)
   clear hin5 her5 hp5 hs5 h35 h45 b6 b7 hX6 HG2 HAw4 HA4 HI4 H34 H44 HA5 HI5
   have HV := hid (setRow_heap _ _ _ #[.int .i64 8, .int .i64 0, .string X4, .bool false, .slice (some ⟨W5.heap.size + 1, 0, none⟩) 2 2] _ _ H37.out)
   have HV2 := hid ((setRow_other _ W1.heap.size _ #[.int .i64 8, .int .i64 0, .string X4, .bool false, .slice (some ⟨W5.heap.size + 1, 0, none⟩) 2 2] hcw).trans H47.out)
   have ht := er_two 8 0 X4 false (.slice (some ⟨W5.heap.size + 1, 0, none⟩) 2 2) (.mk k n nm m (.slice p l c) kids) (.mk k' n' nm' m' (.slice p' l' c') kids') _ _ rfl HE5.out
   rw [HBS.out] at ht
   have HT := hid ht
   obtain ⟨v0, v1, v2, v3, v4⟩ := cells5 HV.out
   clear ht
   go_wp2_with (first | (refine wpList_store_row (o := ⟨none, _, _, _, _, _⟩) rfl _ _ _ rfl W1.heap.size #[.int .i64 8, .int .i64 0, .string X4, .bool false, .slice (some ⟨W5.heap.size + 1, 0, none⟩) 2 2] rfl rfl _ _ H37.out ex_sz rfl (ex_one _ _ _ _ _ _ _) ?_) | (refine wpList_store_row (o := ⟨none, _, _, _, _, _⟩) rfl _ _ _ rfl w.heap.size #[.int .i64 8, .int .i64 0, .string X4, .bool false, .slice (some ⟨W5.heap.size + 1, 0, none⟩) 2 2] rfl rfl _ _ HV2.out ex_sz rfl (ex_one _ _ _ _ _ _ _) ?_))
   have hr := HR2.out
   subst hr
   refine bodyPost_ret (results_cell_row rfl _ _ w.heap.size _ #[.int .i64 8, .int .i64 0, .string X4, .bool false, .slice (some ⟨W5.heap.size + 1, 0, none⟩) 2 2] _ _ rfl (setRow_heap _ _ _ _ _ _ HV2.out) Tryz.underlying40 rfl ex_sz) ?_ (by have h := retE_row (X := X) (HA7.out.row HNew.out #[.int .i64 8, .int .i64 0, .string X4, .bool false, .slice (some ⟨W5.heap.size + 1, 0, none⟩) 2 2]) (.mk 8 0 X4 false (.slice (some ⟨W5.heap.size + 1, 0, none⟩) 2 2) [.mk k n nm m (.slice p l c) kids, .mk k' n' nm' m' (.slice p' l' c') kids']) (Ex.In.keep ((keepsL_row (X := W1.heap.size :: w.heap.size :: X) _ (by simp) _).trans (keepsL_sub _ (fun b hb => by simp at hb ⊢; rcases hb with h | h <;> simp [h]))) _ (by have := HI7.out; simpa using this)) HT.out #[.int .i64 8, .int .i64 0, .string X4, .bool false, .slice (some ⟨W5.heap.size + 1, 0, none⟩) 2 2]; exact h)
   rfl
 | true =>
  rw [hna] at HS
  have nextwr : rs0.wr = false := (next_some hna (by decide)).1
  obtain ⟨hnb', hnb⟩ : ∃ b, nextB rs0 mSame = b := ⟨_, rfl⟩
  go_wp2_with fail
  refine HS.out.mono ?_
  rintro e W1' ⟨rfl, q, rfl⟩
  clear HS HSB
  have HT4 := hid (fun q => text_any ((W1.alloc (.cells #[.int .i64 k, .int .i64 n, .string nm, .bool m, .slice p l c] 40)).drewN q) pb lv ts rs0 4 (HA2.out.pin.drewN q) hTf)
  have HT5 := HT4.out q
  obtain ⟨_, _, _, _, hl3, hne⟩ := ops_step f mLess mSame N (erE (.mk k n nm m (.slice p l c) kids)) rs0 (by simp [hna, hnb]) (by decide) (by decide) (by omega)
  have hr := HP.out
  rw [if_pos (by simp [hna, hnb])] at hr
  have HR2 := hid hr
  have HG2 := hid (fun W X1 a b => HG.out W rs0.pass X1 a b (by omega) (.inr (by have h := HL2.out.resolve_left (by simp [nextwr]); omega)))
  have HW3 := hid (hwr rs0.pass)
  have hf3 := hf rs0.pass
  obtain ⟨x4, hx4⟩ : ∃ x4, txt 4 rs0 = x4 := ⟨_, rfl⟩
  rw [hx4] at HR2 HT5
  have HBS := hid (bs_Sb x4)
  generalize Sb x4 = X4 at *
  clear hna hnb hr HP HT4 hx4
  go_wp2_with fail
  refine HT5.mono ?_
  rintro e W3 ⟨rfl, q3, rfl⟩
  have HA3 := hid (HA2.out.below (Below.drewN' (W1.alloc (.cells #[.int .i64 k, .int .i64 n, .string nm, .bool m, .slice p l c] 40)) (q + q3)))
  obtain ⟨i, hi1, hi2, hi3⟩ := HA3.out.box
  obtain ⟨_, c1, _⟩ := pin_cells hi3
  have cf := pin_frozen hi3 1
  have hil : i ≤ 1048576 := by omega
  have HA4 := hid (HA3.out.call (pin_pass HA3.out.pin hi1 hi2 hi3 hne) (step_set 1 (.int .i64 ((i : Int) + 1))))
  have HS4 := hid (step_set (w := (W1.alloc (.cells #[.int .i64 k, .int .i64 n, .string nm, .bool m, .slice p l c] 40)).drewN (q + q3)) (pb := pb) 1 (.int .i64 ((i : Int) + 1)))
  clear HT5 HA3 hi1 hi2 hi3
  go_wp2_with fail
  have hlt1 := heap_lt HB2.out
  have hlt0 := heap_lt HK2.out
  have HAw4 := hid (((HA.out.mono (w' := ((W1.alloc (.cells #[.int .i64 k, .int .i64 n, .string nm, .bool m, .slice p l c] 40)).drewN (q + q3)).setCell ⟨pb, 1, none⟩ (.int .i64 ((i : Int) + 1))) HA4.out.step.size).add (b := w.heap.size) (by simp; try omega)).add (b := W1.heap.size) (by simp; try omega))
  have HI4 := hid (Ex.In.keep ((keepsL_below (Below.drewN' (W1.alloc (.cells #[.int .i64 k, .int .i64 n, .string nm, .bool m, .slice p l c] 40)) (q + q3))).trans (keepsL_step HS4.out (by simp [HA.out.mem]))) _ HI2.out)
  have H34 := hid (heap_step HS4.out (show ((W1.alloc (.cells #[.int .i64 k, .int .i64 n, .string nm, .bool m, .slice p l c] 40)).drewN (q + q3)).heap[W1.heap.size]? = _ from HB2.out) (by omega))
  have H44 := hid (heap_step HS4.out (show ((W1.alloc (.cells #[.int .i64 k, .int .i64 n, .string nm, .bool m, .slice p l c] 40)).drewN (q + q3)).heap[w.heap.size]? = _ from HK2.out) (by omega))
  clear HS4 HI2 HA2 HB2 HK2 c1 cf
  refine (HG2.out _ _ HAw4.out HA4.out.pin).mono ?_
  rintro e W5 ⟨T5, rfl, hin5, her5, hp5, hs5⟩
  obtain ⟨k', n', nm', m', p', l', c', kids', rfl⟩ := ex_open hin5
  rw [Ex.val_mk]
  have HA5 := hid (HA4.out.call hp5 hs5)
  have HI5 := hid (Ex.In.keep (keepsL_step hs5 (by simp [HA.out.mem])) _ HI4.out)
  have h35 := heap_step hs5 H34.out (by omega)
  have h45 := heap_step hs5 H44.out (by omega)
  obtain ⟨k0, k1, k2, k3, k4⟩ := cells5 h35
  have hlt15 := heap_lt h35
  have hlt05 := heap_lt h45
  have b6 : Below W5.heap.size W5 (W5.alloc (.cells #[.int .i64 k', .int .i64 n', .string nm', .bool m', .slice p' l' c'] 40)) := (Below.refl _ W5).alloc (Nat.le_refl _) _
  have b7 : Below W5.heap.size W5 ((W5.alloc (.cells #[.int .i64 k', .int .i64 n', .string nm', .bool m', .slice p' l' c'] 40)).alloc (.cells #[.int .i64 k, .int .i64 n, .string nm, .bool m, .slice p l c, .int .i64 k', .int .i64 n', .string nm', .bool m', .slice p' l' c'] 40)) := b6.alloc (by simp) _
  have hX6 : (W5.alloc (.cells #[.int .i64 k', .int .i64 n', .string nm', .bool m', .slice p' l' c'] 40)).heap.size ∉ W1.heap.size :: w.heap.size :: X := HAw4.out.not (by have := hs5.size; simp at this ⊢; omega)
  have HI7 := hid (wrapE2 (K := 8) (nv := 0) (nm2 := X4) (m2 := false) hX6 (Ex.In.keep (keepsL_below b6) _ HI5.out) (Ex.In.keep (keepsL_below b6) _ hin5) (by decide))
  have HA7 := hid (HA5.out.below b7)
  have H37 := hid (heap_below b7 h35)
  have H47 := hid (heap_below b7 h45)
  have HE5 := hid her5
  have hw5 := HW3.out
  have HNew := hid (show w.heap.size ≤ W1.heap.size by omega)
  clear hin5 her5 hp5 hs5 h35 h45 b6 b7 hX6 HG2 HAw4 HA4 HI4 H34 H44 HA5 HI5
  have HV := hid (setRow_heap _ _ _ #[.int .i64 8, .int .i64 0, .string X4, .bool false, .slice (some ⟨W5.heap.size + 1, 0, none⟩) 2 2] _ _ H37.out)
  have HV2 := hid ((setRow_other _ W1.heap.size _ #[.int .i64 8, .int .i64 0, .string X4, .bool false, .slice (some ⟨W5.heap.size + 1, 0, none⟩) 2 2] hcw).trans H47.out)
  have ht := er_two 8 0 X4 false (.slice (some ⟨W5.heap.size + 1, 0, none⟩) 2 2) (.mk k n nm m (.slice p l c) kids) (.mk k' n' nm' m' (.slice p' l' c') kids') _ _ rfl HE5.out
  rw [HBS.out] at ht
  have HT := hid ht
  obtain ⟨v0, v1, v2, v3, v4⟩ := cells5 HV.out
  clear ht
  go_wp2_with (first | (refine wpList_store_row (o := ⟨none, _, _, _, _, _⟩) rfl _ _ _ rfl W1.heap.size #[.int .i64 8, .int .i64 0, .string X4, .bool false, .slice (some ⟨W5.heap.size + 1, 0, none⟩) 2 2] rfl rfl _ _ H37.out ex_sz rfl (ex_one _ _ _ _ _ _ _) ?_) | (refine wpList_store_row (o := ⟨none, _, _, _, _, _⟩) rfl _ _ _ rfl w.heap.size #[.int .i64 8, .int .i64 0, .string X4, .bool false, .slice (some ⟨W5.heap.size + 1, 0, none⟩) 2 2] rfl rfl _ _ HV2.out ex_sz rfl (ex_one _ _ _ _ _ _ _) ?_))
  have hr := HR2.out
  subst hr
  refine bodyPost_ret (results_cell_row rfl _ _ w.heap.size _ #[.int .i64 8, .int .i64 0, .string X4, .bool false, .slice (some ⟨W5.heap.size + 1, 0, none⟩) 2 2] _ _ rfl (setRow_heap _ _ _ _ _ _ HV2.out) Tryz.underlying40 rfl ex_sz) ?_ (by have h := retE_row (X := X) (HA7.out.row HNew.out #[.int .i64 8, .int .i64 0, .string X4, .bool false, .slice (some ⟨W5.heap.size + 1, 0, none⟩) 2 2]) (.mk 8 0 X4 false (.slice (some ⟨W5.heap.size + 1, 0, none⟩) 2 2) [.mk k n nm m (.slice p l c) kids, .mk k' n' nm' m' (.slice p' l' c') kids']) (Ex.In.keep ((keepsL_row (X := W1.heap.size :: w.heap.size :: X) _ (by simp) _).trans (keepsL_sub _ (fun b hb => by simp at hb ⊢; rcases hb with h | h <;> simp [h]))) _ (by have := HI7.out; simpa using this)) HT.out #[.int .i64 8, .int .i64 0, .string X4, .bool false, .slice (some ⟨W5.heap.size + 1, 0, none⟩) 2 2]; exact h)
  rfl
/- Lists of trees that grow: a slice that is owned, and what is in it. No walk. -/

structure Kd (α : Type) where
 cells : α → List Value
 InP : World → α → Prop
 size : Nat
 type : TypeId
 keep : ∀ {w w' : World} (a : α), Keeps w w' → InP w a → InP w' a
 len : ∀ a, (cells a).length = size
 pos : 0 < size
theorem ex_len (a : Ex) : a.cells.length = 5 := by obtain ⟨k, n, s, m, v, l⟩ := a; rfl
theorem ty_len (a : Ty) : a.cells.length = 4 := by obtain ⟨k, s, m, v, l⟩ := a; rfl
theorem st_len (a : St) : a.cells.length = 14 := by
 obtain ⟨k, n, ⟨k1, n1, s1, m1, v1, l1⟩, ⟨k2, n2, s2, m2, v2, l2⟩, tv, t, ev, e⟩ := a
 rfl
theorem pa_len (a : Pa) : a.cells.length = 5 := by obtain ⟨n, ⟨k, s, m, v, l⟩⟩ := a; rfl
theorem fnc_len (f : TreeP.Fn) : f.cells.length = 14 := by
 obtain ⟨n, lv, l, pv, p, ⟨gk, gs, gm, gv, gl⟩, ov, o, bv, b, ⟨ek, en, es, em, ev, el⟩⟩ := f
 rfl
def exK : Kd Ex := ⟨Ex.cells, fun w a => a.In w, 5, 40, fun a k h => Ex.In.keep k a h, ex_len, by decide⟩
def tyK : Kd Ty := ⟨Ty.cells, fun w a => a.In w, 4, 34, fun a k h => Ty.In.keep k a h, ty_len, by decide⟩
def stK : Kd St := ⟨St.cells, fun w a => a.In w, 14, 68, fun a k h => St.In.keep k a h, st_len, by decide⟩
def paK : Kd Pa := ⟨Pa.cells, fun w a => a.In w, 5, 52, fun a k h => Ty.In.keep k a.type h, pa_len, by decide⟩
def fnK : Kd TreeP.Fn := ⟨Fn.cells, fun w a => a.In w, 14, 42, fun _ k h => Fn.In.keep k h, fnc_len, by decide⟩
def nmK : Kd ByteArray := ⟨nmCells, fun _ _ => True, 1, 9, fun _ _ _ => trivial, fun _ => rfl, by decide⟩

variable {α : Type} {K : Kd α} {base : Nat} {w w' : World} {Y : List Nat} {v : Value} {l : List α}
def rowsK (K : Kd α) (l : List α) : List Value := (l.map K.cells).flatten
theorem rowsK_len (K : Kd α) (l : List α) : (rowsK K l).length = l.length * K.size := by
 induction l with
 | nil => simp [rowsK]
 | cons a l ih =>
  have : rowsK K (a :: l) = K.cells a ++ rowsK K l := by simp [rowsK]
  rw [this, List.length_append, ih, K.len, List.length_cons, Nat.add_mul]
  omega
theorem rowsK_snoc (K : Kd α) (l : List α) (a : α) : rowsK K (l ++ [a]) = rowsK K l ++ K.cells a := by simp [rowsK]
/-- the block of a slice, as a list -/
def blk (v : Value) : List Nat := v.ownBlock.toList
structure ListIn (K : Kd α) (base : Nat) (w : World) (Y : List Nat) (v : Value) (l : List α) : Prop where
 own : w.ownsRow base K.type K.size v l.length (rowsK K l)
 ins : ∀ a ∈ l, K.InP (hushL (blk v ++ Y) w) a
theorem blk_of {g : Nat} (h : v.ownBlock = some g) : blk v = [g] := by simp [blk, h]
theorem blk_none (h : v.ownBlock = none) : blk v = [] := by simp [blk, h]
theorem mem_blk {g : Nat} (h : g ∈ blk v) : v.ownBlock = some g := by
 cases hv : v.ownBlock with
 | none => rw [blk_none hv] at h; simp at h
 | some k => rw [blk_of hv] at h; simp at h; rw [h]
theorem ListIn.nil (K : Kd α) (base : Nat) (w : World) (Y : List Nat) : ListIn K base w Y (.slice none 0 0) ([] : List α) :=
 ⟨⟨by simp [rowsK], .inl ⟨rfl, rfl⟩⟩, fun a h => by simp at h⟩
theorem ListIn.one (K : Kd α) (w : World) (Y : List Nat) (a : α) (hb : base ≤ w.heap.size) (h : K.InP (hushL Y w) a) : ListIn K base (w.alloc (.cells (K.cells a).toArray K.type)) Y (.slice (some ⟨w.heap.size, 0, none⟩) 1 1) [a] := by
 refine ⟨⟨by simp [rowsK, K.len], .inr ⟨w.heap.size, 1, (K.cells a).toArray, rfl, hb, heap_alloc_new _ _, Nat.le_refl _, by decide, by simp [K.len], ?_⟩⟩, fun b hb => ?_⟩
 ·have : rowsK K [a] = K.cells a := by simp [rowsK]
  rw [this]
  simp only [List.length_singleton, Nat.one_mul]
  rw [← K.len a, List.take_length]
 ·have e : b = a := by simpa using hb
  subst e
  exact K.keep _ ((keepsL_add w (Nat.le_refl _)).trans (keepsL_below ((Below.refl _ w).alloc (Nat.le_refl _) _))) h
theorem ListIn.lt (h : ListIn K base w Y v l) : ∀ g, v.ownBlock = some g → base ≤ g ∧ g < w.heap.size := h.own.lt
/-- old blocks outside some are kept, and the slice's own is -/
theorem ListIn.move (h : ListIn K base w Y v l) (hk : ∀ k, k < w.heap.size → k ∉ Y → w'.heap[k]? = w.heap[k]?) (hY : ∀ b ∈ Y, b < base) : ListIn K base w' Y v l := by
 have hg : ∀ g, v.ownBlock = some g → w'.heap[g]? = w.heap[g]? := fun g e => by
  obtain ⟨h1, h2⟩ := h.lt g e
  exact hk g h2 fun hm => by have := hY g hm; omega
 refine ⟨⟨h.own.1, ?_⟩, fun a ha => K.keep _ (keepsL fun k h1 h2 => hk k h1 fun hm => h2 (by simp [hm])) (h.ins a ha)⟩
 rcases h.own.2 with h0 | ⟨g, cap, cur, rfl, h1, h2, h3⟩
 ·exact .inl h0
 ·exact .inr ⟨g, cap, cur, rfl, h1, (hg g rfl).trans h2, h3⟩
theorem ListIn.below (h : ListIn K base w Y v l) (hb : Below w.heap.size w w') (hY : ∀ b ∈ Y, b < base) : ListIn K base w' Y v l := h.move (fun k hk _ => hb.block k hk) hY
theorem ListIn.step {pb : Nat} (h : ListIn K base w Y v l) (st : Step pb none w none w') (hp : pb ∈ Y) (hY : ∀ b ∈ Y, b < base) : ListIn K base w' Y v l :=
 h.move (fun k hk hn => st.block k hk (fun e => hn (e ▸ hp)) (by simp)) hY
theorem ListIn.row (h : ListIn K base w Y v l) {b : Nat} (hb : b ∈ Y) (hY : ∀ b ∈ Y, b < base) (cs : Array Value) : ListIn K base (w.setRow b cs) Y v l :=
 h.move (fun _k _ hn => setRow_other _ _ _ _ fun e => hn (e ▸ hb)) hY
theorem ListIn.cell (h : ListIn K base w Y v l) {b : Nat} (hb : b ∈ Y) (hY : ∀ b ∈ Y, b < base) (o : Nat) (u : Value) : ListIn K base (w.setCell ⟨b, o, none⟩ u) Y v l :=
 h.move (fun k _ hn => Below.heap_setCell w _ u k fun e => hn (by simpa using e ▸ hb)) hY
/-- one more behind -/
theorem ListIn.more {v' : Value} (h : ListIn K base w Y v l) (a : α) (ha : K.InP (hushL (blk v ++ Y) w) a) (hown : w'.ownsRow base K.type K.size v' (l.length + 1) (rowsK K l ++ K.cells a)) (hg : w.grownBy w' v.ownBlock) (hat : v'.ownBlock = v.ownBlock ∨ v'.ownBlock = some w.heap.size) :
  ListIn K base w' Y v' (l ++ [a]) := by
 have hk : ∀ b : α, K.InP (hushL (blk v ++ Y) w) b → K.InP (hushL (blk v' ++ Y) w') b := fun b hb => by
  refine K.keep _ (Keeps.trans (b := hushL (blk v' ++ (blk v ++ Y)) w) ?_ (Keeps.trans (b := hushL (blk v' ++ (blk v ++ Y)) w') (keepsL fun k h1 h2 => ?_) (keepsL_sub _ fun b hb => by simp at hb ⊢; rcases hb with h | h <;> simp [h]))) hb
  ·rcases hat with e | e
   ·have e2 : blk v' = blk v := by simp [blk, e]
    rw [e2]
    exact keepsL_sub _ fun c hc => by simp at hc ⊢; exact hc
   ·rw [blk_of e]
    exact keepsL_add w (Nat.le_refl _)
  ·exact hg.block k h1 (fun e => h2 (by simp [blk, ← e]))
 exact ⟨by rw [rowsK_snoc]; simpa using hown, fun b hb => by
  rcases List.mem_append.1 hb with h1 | h1
  ·exact hk b (h.ins b h1)
  ·have e : b = a := by simpa using h1
   subst e
   exact hk _ ha⟩
/-- what it is to the reader of it -/
theorem ListIn.lies (h : ListIn K base w Y v l) (hY : ∀ b ∈ Y, b < base) : Lies (hushL Y w) K.size v (l.map K.cells) ∧ ∀ a ∈ l, K.InP (hushL Y w) a := by
 refine ⟨?_, fun a ha => K.keep _ (keepsL_sub _ fun b hb => by simp [hb]) (h.ins a ha)⟩
 obtain ⟨h1, ⟨rfl, h2⟩ | ⟨g, cap, cur, rfl, h3, h4, h5, h6, h7, h8⟩⟩ := id h.own
 ·cases l with
  | nil => exact lies_none
  | cons s ss => simp at h2
 ·refine ⟨some ⟨g, 0, none⟩, cap, by rw [List.length_map], by rw [List.length_map]; exact h5, fun _ => ⟨g, 0, rfl, fun i c hi j u hj => ?_⟩⟩
  rw [Nat.zero_add]
  refine (hushL_cell _ _ _ _ _).2 ⟨owns_cell h.own (flatG K.size _ (fun c hc => by obtain ⟨a, _, rfl⟩ := List.mem_map.1 hc; exact K.len a) i c hi j u hj), fun hm => ?_⟩
  have := hY g hm
  omega
/- One more tree behind a list that grows (the append); one or more expressions, commas between. -/

/-- what a slice's element type is like -/
structure KdOk {α : Type} (K : Kd α) (sl : TypeId) (z : Value) (bytes : Nat) : Prop where
 und : Tryz.prog.underlying sl = some (.slice K.type)
 info : (Tryz.prog.info? K.type).map (fun i => (i.zero, i.size, i.bytes)) = some (some z, K.size, bytes)
 zs : z.cells.size = K.size
 small : bytes ≤ 1000
theorem exOk : KdOk exK 38 (.agg exZ) 64 := ⟨Tryz.underlying38, by kernel_rfl, rfl, by decide⟩
theorem tyOk : KdOk tyK 32 (.agg tyZ) 56 := ⟨Tryz.underlying32, by kernel_rfl, rfl, by decide⟩
theorem wpList_append_kd {α : Type} {K : Kd α} {sl : TypeId} {z : Value} {bytes : Nat} (ok : KdOk K sl z bytes) {ops : Array Oper} {rest : List Oper} {o : Oper} {a : Act} {Q : Exit → Act → World → Prop} {W : World} {Y : List Nat} (hgd : o.guard = none) (s x : Operand)
  (ho : o.op = .call { callee := .builtin .append, args := #[s, x], argTypes := #[sl, sl] })
  (base : Nat) (v : Value) (l : List α) (hs : a.eval s = v) (hL : ListIn K base W Y v l) (b : Nat) (t : α) (hx : a.eval x = .slice (some ⟨b, 0, none⟩) 1 1)
  (hb : W.heap[b]? = some (.cells (K.cells t).toArray K.type (0, 0))) (ht : K.InP (hushL (blk v ++ Y) W) t) (h1 : ∀ u ∈ K.cells t, u.oneCell' = true) (hn : l.length ≤ 2097152) (hbase : base ≤ W.heap.size)
  (h : ∀ v' w', ListIn K base w' Y v' (l ++ [t]) → W.grownBy w' v.ownBlock → wpList Tryz.prog ops Q rest (a.put o.dst v') w') : wpList Tryz.prog ops Q (o :: rest) a W := by
 obtain ⟨i0, hi, hz0, hz1, hz2⟩ := info_parts ok.info
 refine wpList_append_own_at W hgd s x sl ho base K.type i0 z K.size bytes ok.und hi hz0 hz1 hz2 ok.zs K.pos v l.length (rowsK K l) hs hL.own ⟨b, 0, none⟩ 1 1 (K.cells t) hx (by rw [K.len, Nat.one_mul]) ?_ h1 (by unfold maxLen; omega) ?_ hbase ?_
 ·intro j u hj
  rw [show (⟨b, 0, none⟩ : Addr).add j = ⟨b, j, none⟩ by unfold Addr.add; split <;> simp_all, Lib.cell_of_heap hb, List.getElem?_toArray]
  exact hj
 ·have := ok.small
  have h2 : (l.length + 1) * bytes ≤ 2097153 * 1000 := Nat.mul_le_mul (by omega) this
  omega
 ·intro v' w' h2 h3 _ h5
  exact h v' w' (hL.more t ht h2 h3 h5) h3
theorem At.grown {w0 w w' : World} {pb : Nat} {lv : Value} {ts : List Tok} {s0 s : S} (h : At w0 pb lv ts s0 w s) {row : Option Nat} (hr : ∀ g, row = some g → w0.heap.size ≤ g) (hg : w.grownBy w' row) : At w0 pb lv ts s0 w' s := by
 have hp := h.pin0.lt
 refine ⟨h.pin0, ⟨hg.os.trans h.step.os, hg.tape.trans h.step.tape, hg.output.trans h.step.output, Nat.le_trans h.step.size hg.size, fun k hk h1 h2 => ?_, .inl rfl⟩, h.box.other ?_⟩
 ·refine (hg.block k (Nat.lt_of_lt_of_le hk h.step.size) (fun e => ?_)).trans (h.step.block k hk h1 h2)
  have := hr k e.symm
  omega
 ·refine hg.block pb h.box.lt (fun e => ?_)
  have := hr pb e.symm
  omega
def RetL {α β : Type} (K : Kd α) (er : α → β) (w : World) (pb : Nat) (lv : Value) (ts : List Tok) (X : List Nat) (r : List β × S) (e : Ending) (w' : World) : Prop :=
 ∃ (v : Value) (l : List α), e = .returned v ∧ Lies (hushL X w') K.size v (l.map K.cells) ∧ (∀ a ∈ l, K.InP (hushL X w') a) ∧ l.map er = r.1 ∧ PIn w' pb lv ts r.2 ∧ Step pb none w none w'
theorem more_step {α : Type} (f : S → α × S) (m : Nat) (s : S) (h : nextB s mComma = true) (hm : s.rest.length ≤ m) :
  ∃ k, m = k + 1 ∧ moreS f m s = ((f s.pass).1 :: (moreS f k (f s.pass).2).1, (moreS f k (f s.pass).2).2) ∧ s.pass.rest.length ≤ k ∧ s.pass.rest.length + 1 = s.rest.length := by
 obtain ⟨h1, _⟩ := next_pass h (by decide)
 cases m with
 | zero => omega
 | succ k => exact ⟨k, rfl, by rw [moreS, if_pos h], by omega, h1⟩
theorem more_end {α : Type} (f : S → α × S) (m : Nat) (s : S) (h : nextB s mComma = false) : moreS f m s = ([], s) := by
 cases m with
 | zero => rfl
 | succ k => rw [moreS, if_neg (by simp [h])]
theorem ex_all (k n : Int) (nm : ByteArray) (m : Bool) (p : Option Addr) (l c : Nat) : ∀ u ∈ ([.int .i64 k, .int .i64 n, .string nm, .bool m, .slice p l c] : List Value), u.oneCell' = true := by
 intro u hu
 simp at hu
 rcases hu with rfl | rfl | rfl | rfl | rfl <;> rfl

set_option maxHeartbeats 8000000 in
set_option maxRecDepth 100000 in
theorem exprs_any (pb : Nat) (lv : Value) (ts : List Tok) (N L : Nat) (hN20 : N ≤ 1048576) (hT : ToksOk ts) (f : S → PE × S) (hf : ∀ s, (f s).2.rest.length ≤ s.rest.length) (hwr : ∀ s, s.wr = true → (f s).2.wr = true) (hg : Good pb lv ts N L 86 f)
  (w : World) (s : S) (X : List Nat) (hA : Away w pb X) (h : PIn w pb lv ts s) (hN : s.rest.length ≤ N) (hL : s.wr = true ∨ s.rest.length < L) :
  Calls Tryz.prog 155 #[.pointer (some ⟨pb, 0, none⟩)] w (RetL exK erE w pb lv ts X (rowS f N s)) := by
 have hTf := hT.few
 have HA0 := hid (At.start h)
 have HA := hid hA
 have hpb : pb < w.heap.size := hA.lt pb hA.mem
 have HG1 := hid (hg w s X hA h hN hL)
 have HG := hid hg
 have hfs := hf s
 have hw0 := hwr s
 generalize hR : rowS f N s = R
 unfold rowS at hR
 have HR := hid hR
 have HL := hid hL
 generalize hs2 : (f s) = r0 at *
 obtain ⟨re0, rs0⟩ := r0
 simp only at hfs HR hw0
 have HL2 := hid (show rs0.wr = true ∨ rs0.rest.length < L from by
  rcases hL with h | h
  ·exact .inl (hw0 h)
  ·exact .inr (by omega))
 clear h hA hg hR hs2 hL hw0
 go_enter Tryz.func155, Tryz.ntmps155
 go_wp2_with fail
 refine HG1.out.mono ?_
 rintro e W1 ⟨T, rfl, hin, her, hp1, hs1⟩
 obtain ⟨k, n, nm, m, p, l, c, kids, rfl⟩ := ex_open hin
 rw [Ex.val_mk]
 have b2 : Below W1.heap.size W1 (W1.alloc (.cells #[.int .i64 k, .int .i64 n, .string nm, .bool m, .slice p l c] 40)) := (Below.refl _ W1).alloc (Nat.le_refl _) _
 have b3 : Below W1.heap.size W1 ((W1.alloc (.cells #[.int .i64 k, .int .i64 n, .string nm, .bool m, .slice p l c] 40)).alloc (.cells #[.int .i64 k, .int .i64 n, .string nm, .bool m, .slice p l c] 40)) := b2.alloc (by simp) _
 have HA3 := hid ((HA0.out.call hp1 hs1).below b3)
 have HK3 := hid (alloc2 W1 (.cells #[.int .i64 k, .int .i64 n, .string nm, .bool m, .slice p l c] 40) (.cells #[.int .i64 k, .int .i64 n, .string nm, .bool m, .slice p l c] 40)).1
 have HLI := hid (ListIn.one (base := W1.heap.size + 1) exK (W1.alloc (.cells #[.int .i64 k, .int .i64 n, .string nm, .bool m, .slice p l c] 40)) (W1.heap.size :: X) (.mk k n nm m (.slice p l c) kids) (by simp) (Ex.In.keep ((keepsL_add W1 (Nat.le_refl _)).trans (keepsL_below b2)) _ hin))
 have HLen := hid (show w.heap.size ≤ W1.heap.size from hs1.size)
 have HY := hid (show ∀ b ∈ W1.heap.size :: X, b < W1.heap.size + 1 from fun b hb => by
  rcases List.mem_cons.1 hb with h | h
  ·omega
  ·have := HA.out.lt b h; have := hs1.size; omega)
 have HR2 := hid (show R = ([erE (.mk k n nm m (.slice p l c) kids)] ++ (moreS f N rs0).1, (moreS f N rs0).2) by rw [her]; exact HR.out.symm)
 clear hin her hp1 hs1 b2 b3 HG1 HA0 HR
 go_wp2_with fail
 go_loopg [4] N (fun gf u wx => ∃ (li : List Ex) (s1 : S) (k n : Int) (nm : ByteArray) (m : Bool) (p : Option Addr) (l c : Nat), s1.rest.length ≤ gf ∧ li.length + s1.rest.length ≤ N + 1 ∧ Hid (s1.wr = true ∨ s1.rest.length < L) ∧ Hid (R = (li.map erE ++ (moreS f gf s1).1, (moreS f gf s1).2)) ∧ Hid (ListIn exK (W1.heap.size + 1) wx (W1.heap.size :: X) u li) ∧ Hid (At w pb lv ts s wx s1) ∧ Hid (wx.heap[W1.heap.size]? = some (.cells #[.int .i64 k, .int .i64 n, .string nm, .bool m, .slice p l c] 40 (0, 0))))
 case atStart => exact ⟨[.mk k n nm m (.slice p l c) kids], rs0, _, _, _, _, _, _, _, by omega, by simp; omega, HL2, HR2, by have := HLI.out; simp at this; exact hid this, HA3, HK3⟩
 case round =>
  clear HR2 HLI HA3 HK3 HL2
  obtain ⟨li, s1, k, n, nm, m, p, l, c, hlen, hcount, HLt, HP, HI, HA1, H3⟩ := hrel
  have HS := hid (skip_any _ pb lv ts s1 mComma (by decide) HA1.out.pin hTf)
  cases hna : nextB s1 mComma with
  | false =>
   rw [hna] at HS
   have HSk := hid (show skipS mComma s1 = s1 by unfold skipS; rw [hna]; rfl)
   have hr := HP.out
   rw [more_end _ _ _ hna, List.append_nil] at hr
   have HR2 := hid hr
   clear hna hr HP HG
   go_wp2_with fail
   refine HS.out.mono ?_
   rintro e W2 ⟨rfl, hp2, hs2⟩
   rw [HSk.out] at hp2
   have HA2 := hid (HA1.out.call hp2 hs2)
   have HI2 := hid (HI.out.step hs2 (by simp [HA.out.mem]) HY.out)
   clear hp2 hs2 HS HA1 HI H3
   go_wp2_with fail
   go_ret
   have hr := HR2.out
   subst hr
   obtain ⟨h1, h2⟩ := HI2.out.lies HY.out
   exact ⟨_, li, rfl, h1.keep (keepsL_sub _ fun b hb => by simp [hb]), fun a ha => Ex.In.keep (keepsL_sub _ fun b hb => by simp [hb]) _ (h2 a ha), rfl, HA2.out.pin, HA2.out.step⟩
  | true =>
   rw [hna] at HS
   have nextwr : s1.wr = false := (next_some hna (by decide)).1
   have HSk := hid (show skipS mComma s1 = s1.pass by unfold skipS; rw [hna]; rfl)
   obtain ⟨g2, hg2, hpt, hl2, hl3⟩ := more_step f gk s1 hna hlen
   have hr := HP.out
   rw [hpt] at hr
   have HR2 := hid hr
   have hlt3 : s1.pass.rest.length < L := by have h := HLt.out.resolve_left (by simp [nextwr]); omega
   have HG2 := hid (fun W X1 a b => HG.out W s1.pass X1 a b (by omega) (.inr hlt3))
   have hf3 := hf s1.pass
   clear hna hr hpt HP
   go_wp2_with fail
   refine HS.out.mono ?_
   rintro e W2 ⟨rfl, hp2, hs2⟩
   rw [HSk.out] at hp2
   have HA2 := hid (HA1.out.call hp2 hs2)
   have HI2 := hid (HI.out.step hs2 (by simp [HA.out.mem]) HY.out)
   have H32 := hid (heap_step hs2 H3.out (by have := HLen.out; omega))
   have HAw2 := hid (show Away W2 pb (blk u4 ++ W1.heap.size :: X) from ⟨by simp [HA.out.mem], fun b hb => by
    rcases List.mem_append.1 hb with h | h
    ·exact (HI2.out.lt b (mem_blk h)).2
    ·rcases List.mem_cons.1 h with h | h
     ·subst h; exact heap_lt H32.out
     ·exact Nat.lt_of_lt_of_le (HA.out.lt b h) HA2.out.step.size⟩)
   clear hp2 hs2 HS HA1 HI H3
   go_wp2_with fail
   refine (HG2.out W2 _ HAw2.out HA2.out.pin).mono ?_
   rintro e W3 ⟨T5, rfl, hin5, her5, hp5, hs5⟩
   obtain ⟨k', n', nm', m', p', l', c', kids', rfl⟩ := ex_open hin5
   rw [Ex.val_mk]
   have HA3 := hid ((HA2.out.call hp5 hs5).row (b := W1.heap.size) HLen.out #[.int .i64 k', .int .i64 n', .string nm', .bool m', .slice p' l' c'])
   have H33 := hid (heap_step hs5 H32.out (by have := HLen.out; omega))
   have HV := hid (setRow_heap _ _ _ #[.int .i64 k', .int .i64 n', .string nm', .bool m', .slice p' l' c'] _ _ H33.out)
   have HI3 := hid ((HI2.out.step hs5 (by simp [HA.out.mem]) HY.out).row (b := W1.heap.size) (by simp) HY.out #[.int .i64 k', .int .i64 n', .string nm', .bool m', .slice p' l' c'])
   have HT3 := hid (Ex.In.keep (keepsL_row (X := blk u4 ++ W1.heap.size :: X) W3 (b := W1.heap.size) (by simp) #[.int .i64 k', .int .i64 n', .string nm', .bool m', .slice p' l' c']) _ hin5)
   have HSz := hid (show W1.heap.size < (W3.setRow W1.heap.size #[.int .i64 k', .int .i64 n', .string nm', .bool m', .slice p' l' c']).heap.size from heap_lt HV.out)
   have HE5 := hid her5
   obtain ⟨v0, v1, v2, v3, v4⟩ := cells5 HV.out
   generalize hV : W3.setRow W1.heap.size #[.int .i64 k', .int .i64 n', .string nm', .bool m', .slice p' l' c'] = V at *
   have bV : Below V.heap.size V (V.alloc (.cells #[.int .i64 k', .int .i64 n', .string nm', .bool m', .slice p' l' c'] 40)) := (Below.refl _ V).alloc (Nat.le_refl _) _
   have HA4 := hid (HA3.out.below bV)
   have HI4 := hid (HI3.out.below bV HY.out)
   have HT4 := hid (Ex.In.keep (keepsL_below bV) _ HT3.out)
   have HV4 := hid (heap_below bV HV.out)
   have HN4 := hid (heap_alloc_new V (.cells #[.int .i64 k', .int .i64 n', .string nm', .bool m', .slice p' l' c'] 40))
   have HB4 := hid (show W1.heap.size + 1 ≤ (V.alloc (.cells #[.int .i64 k', .int .i64 n', .string nm', .bool m', .slice p' l' c'] 40)).heap.size by have := HSz.out; simp; omega)
   have HO4 := hid (ex_all k' n' nm' m' p' l' c')
   clear hin5 her5 hp5 hs5 HG2 HAw2 HA2 HI2 H32 HA3 HI3 HT3 HV bV
   go_wp2_with (first | (refine wpList_store_row (o := ⟨none, _, _, _, _, _⟩) rfl _ _ _ rfl W1.heap.size #[.int .i64 k', .int .i64 n', .string nm', .bool m', .slice p' l' c'] rfl rfl _ _ H33.out ex_sz rfl (ex_one _ _ _ _ _ _ _) ?_; rw [hV]) | (at_builtin; refine wpList_append_kd exOk rfl _ _ rfl (W1.heap.size + 1) _ li rfl HI4.out V.heap.size (.mk k' n' nm' m' (.slice p' l' c') kids') rfl HN4.out HT4.out HO4.out ?cc HB4.out ?_))
   case cc => omega
   intro v5 W5 hl5 hg5
   have HA5 := hid (HA4.out.grown (fun g e => by have := (HI4.out.lt g e).1; have := HLen.out; omega) hg5)
   have HV5 := hid ((hg5.block W1.heap.size (heap_lt HV4.out) (fun e => by have := (HI4.out.lt _ e.symm).1; omega)).trans HV4.out)
   have HL5 := hid hl5
   clear hl5 hg5 HA4 HI4 HT4 HV4 HN4 HB4 HO4
   go_wp2_with fail
   go_roundg (gk - 1)
   case measure => omega
   case rel =>
    refine ⟨li ++ [.mk k' n' nm' m' (.slice p' l' c') kids'], (f s1.pass).2, k', n', nm', m', p', l', c', by omega, by simp; omega, hid (.inr (by omega)), hid ?_, HL5, HA5, HV5⟩
    have hr := HR2.out
    rw [hg2, Nat.add_sub_cancel, List.map_append, List.append_assoc, List.map_cons, List.map_nil, HE5.out]
    simpa using hr
/- The document's own parser: types. -/

theorem cells4 {w : World} {b : Nat} {c0 c1 c2 c3 : Value} {t : TypeId} (h : w.heap[b]? = some (.cells #[c0, c1, c2, c3] t (0, 0))) :
  w.cell? ⟨b, 0, none⟩ = some c0 ∧ w.cell? ⟨b, 1, none⟩ = some c1 ∧ w.cell? ⟨b, 2, none⟩ = some c2 ∧ w.cell? ⟨b, 3, none⟩ = some c3 := by
 refine ⟨?_, ?_, ?_, ?_⟩ <;> (rw [Lib.cell_of_heap h]; rfl)
theorem wrapT {W : World} {X : List Nat} {K : Int} {nm2 : ByteArray} {m2 : Bool} {k : Int} {nm : ByteArray} {m : Bool} {p : Option Addr} {l c : Nat} {kids : List Ty} (hX : W.heap.size ∉ X) (h : (Ty.mk k nm m (.slice p l c) kids).In (hushL X W)) :
  (Ty.mk K nm2 m2 (.slice (some ⟨W.heap.size, 0, none⟩) 1 1) [.mk k nm m (.slice p l c) kids]).In (hushL X (W.alloc (.cells #[.int .i64 k, .string nm, .bool m, .slice p l c] 34))) := by
 rw [Ty.In]
 exact ⟨lies_new hX (n := 4) (xs := [[.int .i64 k, .string nm, .bool m, .slice p l c]]) (t := 34) (by simp) (heap_alloc_new _ _) 1 (by simp), ⟨Ty.In.keep (keepsL_below ((Below.refl _ W).alloc (Nat.le_refl _) _)) _ h, trivial⟩⟩
theorem ty_none (w : World) (k : Int) (nm : ByteArray) (m : Bool) : (Ty.mk k nm m (.slice none 0 0) []).In w := by
 rw [Ty.In]
 exact ⟨lies_none, trivial⟩
theorem retT_row {w V : World} {pb : Nat} {lv : Value} {ts : List Tok} {X : List Nat} {s0 s' : S} {re : PT} (hA : At w pb lv ts s0 V s') (T : Ty) (hI : T.In (hushL (w.heap.size :: X) V)) (her : erT T = re) (cs : Array Value) :
  RetT w pb lv ts X (re, s') (.returned T.val) (V.setRow w.heap.size cs) := by
 have h := hA.row (b := w.heap.size) (Nat.le_refl _) cs
 exact ⟨T, rfl, Ty.In.keep ((keepsL_row V (b := w.heap.size) (by simp) cs).trans (keepsL_sub (Y := X) _ (fun b hb => by simp [hb]))) _ hI, her, h.pin, h.step⟩
theorem erT_one (K : Int) (nm : ByteArray) (m : Bool) (v : Value) (T : Ty) (re : PT) (h : erT T = re) : erT (.mk K nm m v [T]) = .mk K (bs nm) m [re] := by rw [erT, erTs, erTs, h]
def GoodT (pb : Nat) (lv : Value) (ts : List Tok) (N L : Nat) (f : S → PT × S) : Prop := ∀ (w : World) (s : S) (X : List Nat), Away w pb X → PIn w pb lv ts s → s.rest.length ≤ N → (s.wr = true ∨ s.rest.length < L) →
  Calls Tryz.prog 84 #[.pointer (some ⟨pb, 0, none⟩)] w (RetT w pb lv ts X (f s))

set_option maxHeartbeats 8000000 in
set_option maxRecDepth 100000 in
theorem kind_bad (pb : Nat) (lv : Value) (ts : List Tok) (w : World) (s : S) (X : List Nat) (hA : Away w pb X) (h : PIn w pb lv ts s) (hw : s.wr = true) :
  Calls Tryz.prog 84 #[.pointer (some ⟨pb, 0, none⟩)] w (RetT w pb lv ts X (tNone, s)) := by
 have b1 : Below w.heap.size w (w.alloc (.cells tyZ 34)) := (Below.refl _ w).alloc (Nat.le_refl _) _
 have HA0 := hid ((At.start h).below b1)
 have hpb : pb < w.heap.size := hA.lt pb hA.mem
 obtain ⟨i', _, _, hi4⟩ := h.box
 obtain ⟨_, _, c2⟩ := pin_cells hi4
 rw [hw] at c2
 clear h hA b1 hi4
 go_enter Tryz.func84, Tryz.ntmps84
 go_wp2_with fail
 refine bodyPost_ret (results_cell_row rfl _ _ w.heap.size _ tyZ _ _ rfl (heap_alloc_new _ _) Tryz.underlying34 rfl ty_sz) rfl ⟨.mk 0 ⟨#[]⟩ false (.slice none 0 0) [], rfl, ty_none _ _ _ _, rfl, HA0.out.pin, HA0.out.step⟩

/-- where 'kind' begins, when nothing is wrong -/
structure BeginT (pb : Nat) (lv : Value) (ts : List Tok) (w : World) (s : S) (X : List Nat) : Prop where
 at0 : At w pb lv ts s (w.alloc (.cells tyZ 34)) s
 key : (w.alloc (.cells tyZ 34)).heap[w.heap.size]? = some (.cells tyZ 34 (0, 0))
 away : Away (w.alloc (.cells tyZ 34)) pb (w.heap.size :: X)
 wr : w.cell? ⟨pb, 2, none⟩ = some (.bool s.wr)
 lt : pb < w.heap.size
theorem beginT_of {pb : Nat} {lv : Value} {ts : List Tok} {w : World} {s : S} {X : List Nat} (hA : Away w pb X) (h : PIn w pb lv ts s) : BeginT pb lv ts w s X := by
 have b1 : Below w.heap.size w (w.alloc (.cells tyZ 34)) := (Below.refl _ w).alloc (Nat.le_refl _) _
 obtain ⟨i', _, _, hi4⟩ := h.box
 obtain ⟨_, _, c2⟩ := pin_cells hi4
 exact ⟨(At.start h).below b1, heap_alloc_new _ _, (hA.mono (by simp)).add (by simp), c2, hA.lt pb hA.mem⟩

set_option maxHeartbeats 8000000 in
set_option maxRecDepth 100000 in
theorem kind_int (pb : Nat) (lv : Value) (ts : List Tok) (hT : ToksOk ts) (w : World) (s : S) (X : List Nat) (hA : Away w pb X) (h : PIn w pb lv ts s) (hw : s.wr = false) (h1 : nextB s kInt = true) :
  Calls Tryz.prog 84 #[.pointer (some ⟨pb, 0, none⟩)] w (RetT w pb lv ts X (.mk 1 [] false [], s.pass)) := by
 have HBeg := hid (beginT_of hA h)
 have HS := hid (fun W hp => skip_any W pb lv ts s kInt (by decide) hp hT.few)
 rw [h1] at HS
 have KHS := hid (show skipS kInt s = s.pass by unfold skipS; rw [h1]; rfl)
 clear h hA h1
 obtain ⟨hat, hkey, haw, c2, hpb⟩ := HBeg.out
 rw [hw] at c2
 have HA0 := hid hat
 have HK0 := hid hkey
 clear hat hkey haw HBeg
 go_enter Tryz.func84, Tryz.ntmps84
 go_wp2_with fail
 refine (HS.out _ HA0.out.pin).mono ?_
 rintro e W1 ⟨rfl, hp, hs⟩
 rw [KHS.out] at hp
 have HA1 := hid (HA0.out.call hp hs)
 have HK1 := hid (heap_step hs HK0.out (by omega))
 clear hp hs HA0 HK0 HS KHS
 go_wp2_with (first | (refine wpList_store_row (o := ⟨none, _, _, _, _, _⟩) rfl _ _ _ rfl w.heap.size #[.int .i64 1, .string ⟨#[]⟩, .bool false, .slice none 0 0] rfl rfl _ _ HK1.out ty_sz rfl (ty_one _ _ _ _ _ _) ?_))
 refine bodyPost_ret (results_cell_row rfl _ _ w.heap.size _ #[.int .i64 1, .string ⟨#[]⟩, .bool false, .slice none 0 0] _ _ rfl (setRow_heap _ _ _ _ _ _ HK1.out) Tryz.underlying34 rfl ty_sz) ?_ (by have h := retT_row (X := X) HA1.out (.mk 1 ⟨#[]⟩ false (.slice none 0 0) []) (ty_none _ _ _ _) rfl #[.int .i64 1, .string ⟨#[]⟩, .bool false, .slice none 0 0]; exact h)
 rfl

set_option maxHeartbeats 8000000 in
set_option maxRecDepth 100000 in
theorem kind_box (pb : Nat) (lv : Value) (ts : List Tok) (hT : ToksOk ts) (w : World) (s : S) (X : List Nat) (hA : Away w pb X) (h : PIn w pb lv ts s) (hw : s.wr = false) (h1 : nextB s kInt = false) (h2 : nextB s kBox = true) (r : PT × S)
  (hr : ∀ (W : World) (X1 : List Nat), Away W pb X1 → PIn W pb lv ts s.pass → Calls Tryz.prog 84 #[.pointer (some ⟨pb, 0, none⟩)] W (RetT W pb lv ts X1 r)) :
  Calls Tryz.prog 84 #[.pointer (some ⟨pb, 0, none⟩)] w (RetT w pb lv ts X (.mk 2 [] false [r.1], r.2)) := by
 have HBeg := hid (beginT_of hA h)
 have HS := hid (fun W hp => skip_any W pb lv ts s kInt (by decide) hp hT.few)
 rw [h1] at HS
 have KHS := hid (show skipS kInt s = s by unfold skipS; rw [h1]; rfl)
 have HB := hid (fun W hp => skip_any W pb lv ts s kBox (by decide) hp hT.few)
 rw [h2] at HB
 have KHB := hid (show skipS kBox s = s.pass by unfold skipS; rw [h2]; rfl)
 have HP := hid hr
 obtain ⟨re, rs⟩ := r
 simp only
 generalize s.pass = s1 at *
 clear h hA h1 h2 hr
 obtain ⟨hat, hkey, haw, c2, hpb⟩ := HBeg.out
 rw [hw] at c2
 have HA0 := hid hat
 have HK0 := hid hkey
 have HAw0 := hid haw
 clear hat hkey haw HBeg
 go_enter Tryz.func84, Tryz.ntmps84
 go_wp2_with fail
 refine (HS.out _ HA0.out.pin).mono ?_
 rintro e W1 ⟨rfl, hp, hs⟩
 rw [KHS.out] at hp
 have HA1 := hid (HA0.out.call hp hs)
 have HK1 := hid (heap_step hs HK0.out (by omega))
 have HAw1 := hid (HAw0.out.mono hs.size)
 clear hp hs HA0 HK0 HAw0 HS KHS
 go_wp2_with fail
 refine (HB.out _ HA1.out.pin).mono ?_
 rintro e W2 ⟨rfl, hp, hs⟩
 rw [KHB.out] at hp
 have HA2 := hid (HA1.out.call hp hs)
 have HK2 := hid (heap_step hs HK1.out (by omega))
 have HAw2 := hid (HAw1.out.mono hs.size)
 clear hp hs HA1 HK1 HAw1 HB KHB
 go_wp2_with fail
 refine (HP.out _ _ HAw2.out HA2.out.pin).mono ?_
 rintro e V ⟨T, rfl, hin, her, hp, hs⟩
 obtain ⟨k, nm, m, p, l, c, kids, rfl⟩ := ty_open hin
 rw [Ty.val_mk]
 have HV := hid (HA2.out.call hp hs)
 have HKV := hid (heap_step hs HK2.out (by omega))
 have b3 : Below V.heap.size V (V.alloc (.cells #[.int .i64 k, .string nm, .bool m, .slice p l c] 34)) := (Below.refl _ V).alloc (Nat.le_refl _) _
 have b4 : Below V.heap.size V ((V.alloc (.cells #[.int .i64 k, .string nm, .bool m, .slice p l c] 34)).alloc (.cells #[.int .i64 k, .string nm, .bool m, .slice p l c] 34)) := b3.alloc (by simp) _
 have HKF := hid (heap_below b4 HKV.out)
 have hX3 : (V.alloc (.cells #[.int .i64 k, .string nm, .bool m, .slice p l c] 34)).heap.size ∉ w.heap.size :: X := HAw2.out.not (by have := hs.size; simp; omega)
 have HI := hid (wrapT (K := 2) (nm2 := ⟨#[]⟩) (m2 := false) hX3 (Ty.In.keep (keepsL_below b3) _ hin))
 have HAF := hid (HV.out.below b4)
 have HE := hid her
 clear hin her hp hs b3 b4 HP HV HA2 HKV HK2 HAw2 hX3
 go_wp2_with (first | (refine wpList_store_row (o := ⟨none, _, _, _, _, _⟩) rfl _ _ _ rfl w.heap.size #[.int .i64 2, .string ⟨#[]⟩, .bool false, .slice (some ⟨V.heap.size + 1, 0, none⟩) 1 1] rfl rfl _ _ HKF.out ty_sz rfl (ty_one _ _ _ _ _ _) ?_))
 refine bodyPost_ret (results_cell_row rfl _ _ w.heap.size _ #[.int .i64 2, .string ⟨#[]⟩, .bool false, .slice (some ⟨V.heap.size + 1, 0, none⟩) 1 1] _ _ rfl (setRow_heap _ _ _ _ _ _ HKF.out) Tryz.underlying34 rfl ty_sz) ?_ (by have h := retT_row (X := X) HAF.out (.mk 2 ⟨#[]⟩ false (.slice (some ⟨V.heap.size + 1, 0, none⟩) 1 1) [.mk k nm m (.slice p l c) kids]) (by have := HI.out; simpa using this) (erT_one _ _ _ _ _ _ HE.out) #[.int .i64 2, .string ⟨#[]⟩, .bool false, .slice (some ⟨V.heap.size + 1, 0, none⟩) 1 1]; exact h)
 rfl
end Go.Proofs.YtemflcojebanlaaGreatDoor.ParC

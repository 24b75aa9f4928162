/- The document's own parser: products and sums. -/
import Derived.Test.YtemflcojebanlaaGreatDoorJ26
namespace Go.Proofs.YtemflcojebanlaaGreatDoor.ParC
open Go Go.RowKit Go.Lib Go.Sort LexP TreeP LexC TreeC PageC TextC ParP

/-- a method that reads an expression meets a plain function, where so many tokens are left at the most -/
def Good (pb : Nat) (lv : Value) (ts : List Tok) (N L F : Nat) (f : S → PE × S) : Prop := ∀ (w : World) (s : S) (X : List Nat), Away w pb X → PIn w pb lv ts s → s.rest.length ≤ N → (s.wr = true ∨ s.rest.length < L) →
  Calls Tryz.prog F #[.pointer (some ⟨pb, 0, none⟩)] w (RetE w pb lv ts X (f s))
theorem ops_step (f : S → PE × S) (a b : List UInt8) (m : Nat) (e : PE) (s : S) (h : (nextB s a || nextB s b) = true) (ha : a ≠ []) (hb : b ≠ []) (hm : s.rest.length ≤ m) :
  ∃ k, m = k + 1 ∧ opsS f a b m e s = opsS f a b k (.mk 8 0 (txt 4 s) false [e, (f s.pass).1]) (f s.pass).2 ∧ s.pass.rest.length ≤ k ∧ s.pass.rest.length + 1 = s.rest.length ∧ s.rest ≠ [] := by
 obtain ⟨h1, hne⟩ : s.pass.rest.length + 1 = s.rest.length ∧ s.rest ≠ [] := by
  have h' : nextB s a = true ∨ nextB s b = true := by simpa using h
  rcases h' with h | h
  ·exact ⟨(next_pass h ha).1, by obtain ⟨_, t, r, e⟩ := next_some h ha; rw [e]; simp⟩
  ·exact ⟨(next_pass h hb).1, by obtain ⟨_, t, r, e⟩ := next_some h hb; rw [e]; simp⟩
 cases m with
 | zero => omega
 | succ k => exact ⟨k, rfl, by rw [opsS, if_pos h], by omega, h1, hne⟩
theorem ops_end (f : S → PE × S) (a b : List UInt8) (m : Nat) (e : PE) (s : S) (h : (nextB s a || nextB s b) = false) : opsS f a b m e s = (e, s) := by
 cases m with
 | zero => rfl
 | succ k => rw [opsS, if_neg (by simp [h])]
/-- an operation of two that lie: both copied into a new block -/
theorem wrapE2 {W : World} {X : List Nat} {K nv : Int} {nm2 : ByteArray} {m2 : Bool} {k n : Int} {nm : ByteArray} {m : Bool} {p : Option Addr} {l c : Nat} {kids : List Ex} {k' n' : Int} {nm' : ByteArray} {m' : Bool} {p' : Option Addr} {l' c' : Nat} {kids' : List Ex}
  (hX : W.heap.size ∉ X) (h : (Ex.mk k n nm m (.slice p l c) kids).In (hushL X W)) (h' : (Ex.mk k' n' nm' m' (.slice p' l' c') kids').In (hushL X W)) (h1 : -9223372036854775808 ≤ nv ∧ nv ≤ 9223372036854775807) :
  (Ex.mk K nv nm2 m2 (.slice (some ⟨W.heap.size, 0, none⟩) 2 2) [.mk k n nm m (.slice p l c) kids, .mk k' n' nm' m' (.slice p' l' c') kids']).In (hushL X (W.alloc (.cells #[.int .i64 k, .int .i64 n, .string nm, .bool m, .slice p l c, .int .i64 k', .int .i64 n', .string nm', .bool m', .slice p' l' c'] 40))) := by
 rw [Ex.In]
 have kb := keepsL_below (X := X) ((Below.refl _ W).alloc (Nat.le_refl _) (.cells #[.int .i64 k, .int .i64 n, .string nm, .bool m, .slice p l c, .int .i64 k', .int .i64 n', .string nm', .bool m', .slice p' l' c'] 40))
 exact ⟨h1, lies_new hX (n := 5) (xs := [[.int .i64 k, .int .i64 n, .string nm, .bool m, .slice p l c], [.int .i64 k', .int .i64 n', .string nm', .bool m', .slice p' l' c']]) (t := 40) (by simp) (heap_alloc_new _ _) 2 (by simp), ⟨Ex.In.keep kb _ h, Ex.In.keep kb _ h', trivial⟩⟩
theorem er_two (K nv : Int) (nm : ByteArray) (m : Bool) (v : Value) (T U : Ex) (re ru : PE) (h : erE T = re) (h' : erE U = ru) : erE (.mk K nv nm m v [T, U]) = .mk K nv (bs nm) m [re, ru] := by rw [erE, erEs, erEs, erEs, h, h']

theorem ops_wr (f : S → PE × S) (a b : List UInt8) (m : Nat) (e : PE) (s : S) (h : s.wr = true) : opsS f a b m e s = (e, s) := ops_end f a b m e s (by simp [nextB, h])
set_option maxHeartbeats 8000000 in
set_option maxRecDepth 100000 in
theorem product_any (pb : Nat) (lv : Value) (ts : List Tok) (N L : Nat) (hT : ToksOk ts) (f : S → PE × S) (hf : ∀ s, (f s).2.rest.length ≤ s.rest.length) (hwr : ∀ s, s.wr = true → (f s).2.wr = true) (hg : Good pb lv ts N L 146 f) : Good pb lv ts N L 132 fun s => opsS f mStar mSlash N (f s).1 (f s).2 := by
 intro w s X hA h hN hL
 show Calls _ _ _ _ (RetE w pb lv ts X (opsS f mStar mSlash N (f s).1 (f s).2))
 have hTf := hT.few
 have b1 : Below w.heap.size w (w.alloc (.cells exZ 40)) := (Below.refl _ w).alloc (Nat.le_refl _) _
 have HA0 := hid ((At.start h).below b1)
 have HA := hid hA
 have hpb : pb < w.heap.size := hA.lt pb hA.mem
 have HAw := hid ((hA.mono (w' := w.alloc (.cells exZ 40)) (by simp)).add (b := w.heap.size) (by simp))
 have HK := hid (heap_alloc_new w (.cells exZ 40))
 have HG1 := hid (fun W X1 a b => hg W s X1 a b hN hL)
 have HG := hid hg
 have hfs := hf s
 have hw0 := hwr s
 generalize hR : opsS f mStar mSlash N (f s).1 (f s).2 = R
 have HR := hid hR
 have HL := hid hL
 generalize hs2 : (f s) = r0 at *
 obtain ⟨re0, rs0⟩ := r0
 simp only at hfs HR hw0
 have HL2 := hid (show rs0.wr = true ∨ rs0.rest.length < L from by
  rcases hL with h | h
  ·exact .inl (hw0 h)
  ·exact .inr (by omega))
 clear h hA b1 hg hR hs2 hL hw0
 go_enter Tryz.func132, Tryz.ntmps132
 go_wp2_with fail
 refine (HG1.out _ _ HAw.out HA0.out.pin).mono ?_
 rintro e W1 ⟨T, rfl, hin, her, hp1, hs1⟩
 obtain ⟨k, n, nm, m, p, l, c, kids, rfl⟩ := ex_open hin
 rw [Ex.val_mk]
 have b2 : Below W1.heap.size W1 (W1.alloc (.cells #[.int .i64 k, .int .i64 n, .string nm, .bool m, .slice p l c] 40)) := (Below.refl _ W1).alloc (Nat.le_refl _) _
 have HA2 := hid ((HA0.out.call hp1 hs1).below b2)
 have HK2 := hid (heap_below b2 (heap_step hs1 HK.out (by omega)))
 have HB2 := hid (heap_alloc_new W1 (.cells #[.int .i64 k, .int .i64 n, .string nm, .bool m, .slice p l c] 40))
 have hnew : w.heap.size + 1 ≤ W1.heap.size := by have := hs1.size; simp at this; omega
 have HI2 := hid (Ex.In.keep ((keepsL_add W1 (Nat.le_refl _)).trans (keepsL_below b2)) _ hin)
 have HAw2 := hid (((HAw.out.mono hs1.size).mono b2.size).add (b := W1.heap.size) (by simp))
 have HR2 := hid (show R = opsS f mStar mSlash N (erE (.mk k n nm m (.slice p l c) kids)) rs0 by rw [her]; exact HR.out.symm)
 clear hin her hp1 hs1 b2 HG1 HA0 HK HAw HR
 go_wp2_with fail
 go_loopg [4, 5] N (fun gf u v wx => ∃ (k n : Int) (nm : ByteArray) (m : Bool) (p : Option Addr) (l c : Nat) (kids : List Ex) (s1 : S), s1.rest.length ≤ gf ∧ s1.rest.length ≤ N ∧ Hid (s1.wr = true ∨ s1.rest.length < L) ∧ Hid (R = opsS f mStar mSlash gf (erE (.mk k n nm m (.slice p l c) kids)) s1) ∧ Hid ((Ex.mk k n nm m (.slice p l c) kids).In (hushL (W1.heap.size :: w.heap.size :: X) wx)) ∧ Hid (At w pb lv ts s wx s1) ∧ Hid (wx.heap[W1.heap.size]? = some (.cells #[.int .i64 k, .int .i64 n, .string nm, .bool m, .slice p l c] 40 (0, 0))) ∧ Hid (wx.heap[w.heap.size]? = some (.cells exZ 40 (0, 0))))
 case atStart => exact ⟨k, n, nm, m, p, l, c, kids, rs0, by omega, by omega, HL2, HR2, HI2, HA2, HB2, HK2⟩
 case round =>
  clear HR2 HI2 HA2 HB2 HK2 HL2 HAw2
  obtain ⟨k, n, nm, m, p, l, c, kids, s1, hlen, hlenN, HLt, HP, HI, HA1, H3, H4⟩ := hrel
  have HS := hid (next_any wr pb lv ts s1 mStar HA1.out.pin hTf)
  have HSB := hid (fun q => next_any (wr.drewN q) pb lv ts s1 mSlash (HA1.out.pin.drewN q) hTf)
  cases hna : nextB s1 mStar with
  | false =>
   rw [hna] at HS
   cases hnb : nextB s1 mSlash with
   | false =>
    rw [hnb] at HSB
    have hr := HP.out
    rw [ops_end _ _ _ _ _ _ (by simp [hna, hnb])] at hr
    have HR2 := hid hr
    clear hna hnb hr HP HG
    go_wp2_with fail
    refine HS.out.mono ?_
    rintro e W1' ⟨rfl, q1, rfl⟩
    go_wp2_with fail
    refine (HSB.out q1).mono ?_
    rintro e W1' ⟨rfl, q2, rfl⟩
    obtain ⟨k0, k1, k2, k3, k4⟩ := cells5 H3.out
    have HA2 := hid (HA1.out.below (Below.drewN' wr (q1 + q2)))
    have HI2 := hid (Ex.In.keep (keepsL_below (Below.drewN' wr (q1 + q2))) _ HI.out)
    have HK2 := hid (show (wr.drewN (q1 + q2)).heap[w.heap.size]? = _ from H4.out)
    clear HS HSB HA1 HI
    go_wp2_with (first | (refine wpList_store_row (o := ⟨none, _, _, _, _, _⟩) rfl _ _ _ rfl w.heap.size #[.int .i64 k, .int .i64 n, .string nm, .bool m, .slice p l c] rfl rfl _ _ HK2.out ex_sz rfl (ex_one _ _ _ _ _ _ _) ?_))
    have hr := HR2.out
    subst hr
    refine bodyPost_ret (results_cell_row rfl _ _ w.heap.size _ #[.int .i64 k, .int .i64 n, .string nm, .bool m, .slice p l c] _ _ rfl (setRow_heap _ _ _ _ _ _ HK2.out) Tryz.underlying40 rfl ex_sz) ?_ (by have h := retE_row (X := X) HA2.out (.mk k n nm m (.slice p l c) kids) (Ex.In.keep (keepsL_sub _ (fun b hb => by simp at hb ⊢; rcases hb with h | h <;> simp [h])) _ HI2.out) rfl #[.int .i64 k, .int .i64 n, .string nm, .bool m, .slice p l c]; exact h)
    rfl
   | true =>
    rw [hnb] at HSB
    have nextwr : s1.wr = false := (next_some hnb (by decide)).1
    go_wp2_with fail
    refine HS.out.mono ?_
    rintro e W1' ⟨rfl, q1, rfl⟩
    go_wp2_with fail
    refine (HSB.out q1).mono ?_
    rintro e W1' ⟨rfl, q2, rfl⟩
    clear HS HSB

    have HT4 := hid (fun q => text_any (wr.drewN q) pb lv ts s1 4 (HA1.out.pin.drewN q) hTf)
    have HT5 := HT4.out (q1 + q2)
    obtain ⟨g2, hg2, hpt, hl2, hl3, hne⟩ := ops_step f mStar mSlash gk (erE (.mk k n nm m (.slice p l c) kids)) s1 (by simp [hna, hnb]) (by decide) (by decide) hlen
    have hr := HP.out
    rw [hpt] at hr
    have HR2 := hid hr
    have HG2 := hid (fun W X1 a b => HG.out W s1.pass X1 a b (by omega) (.inr (by have h := HLt.out.resolve_left (by simp [nextwr]); omega)))
    have HW3 := hid (hwr s1.pass)
    have hf3 := hf s1.pass
    obtain ⟨x4, hx4⟩ : ∃ x4, txt 4 s1 = x4 := ⟨_, rfl⟩
    rw [hx4] at HR2 HT5
    have HBS := hid (bs_Sb x4)
    generalize Sb x4 = X4 at *
    clear hna hnb hr hpt HP HT4 hx4
    go_wp2_with fail
    refine HT5.mono ?_
    rintro e W3 ⟨rfl, q3, rfl⟩
    have HA3 := hid (HA1.out.below (Below.drewN' wr ((q1 + q2) + q3)))
    obtain ⟨i, hi1, hi2, hi3⟩ := HA3.out.box
    obtain ⟨_, c1, _⟩ := pin_cells hi3
    have cf := pin_frozen hi3 1
    have hil : i ≤ 1048576 := by omega
    have HA4 := hid (HA3.out.call (pin_pass HA3.out.pin hi1 hi2 hi3 hne) (step_set 1 (.int .i64 ((i : Int) + 1))))
    have HS4 := hid (step_set (w := wr.drewN ((q1 + q2) + q3)) (pb := pb) 1 (.int .i64 ((i : Int) + 1)))
    clear HT5 HA3 hi1 hi2 hi3
    go_wp2_with fail
    have hlt1 := heap_lt H3.out
    have hlt0 := heap_lt H4.out
    have HAw4 := hid (((HA.out.mono (w' := (wr.drewN ((q1 + q2) + q3)).setCell ⟨pb, 1, none⟩ (.int .i64 ((i : Int) + 1))) HA4.out.step.size).add (b := w.heap.size) (by simp; exact hlt0)).add (b := W1.heap.size) (by simp; exact hlt1))
    have HI4 := hid (Ex.In.keep ((keepsL_below (Below.drewN' wr ((q1 + q2) + q3))).trans (keepsL_step HS4.out (by simp [HA.out.mem]))) _ HI.out)
    have H34 := hid (heap_step HS4.out (show (wr.drewN ((q1 + q2) + q3)).heap[W1.heap.size]? = _ from H3.out) (by omega))
    have H44 := hid (heap_step HS4.out (show (wr.drewN ((q1 + q2) + q3)).heap[w.heap.size]? = _ from H4.out) (by omega))
    clear HS4 HI HA1 H3 H4 c1 cf
    refine (HG2.out _ _ HAw4.out HA4.out.pin).mono ?_
    rintro e W5 ⟨T5, rfl, hin5, her5, hp5, hs5⟩
    obtain ⟨k', n', nm', m', p', l', c', kids', rfl⟩ := ex_open hin5
    rw [Ex.val_mk]
    have HA5 := hid (HA4.out.call hp5 hs5)
    have HI5 := hid (Ex.In.keep (keepsL_step hs5 (by simp [HA.out.mem])) _ HI4.out)
    have h35 := heap_step hs5 H34.out (by omega)
    have h45 := heap_step hs5 H44.out (by omega)
    obtain ⟨k0, k1, k2, k3, k4⟩ := cells5 h35
    have hlt15 := heap_lt h35
    have hlt05 := heap_lt h45
    have b6 : Below W5.heap.size W5 (W5.alloc (.cells #[.int .i64 k', .int .i64 n', .string nm', .bool m', .slice p' l' c'] 40)) := (Below.refl _ W5).alloc (Nat.le_refl _) _
    have b7 : Below W5.heap.size W5 ((W5.alloc (.cells #[.int .i64 k', .int .i64 n', .string nm', .bool m', .slice p' l' c'] 40)).alloc (.cells #[.int .i64 k, .int .i64 n, .string nm, .bool m, .slice p l c, .int .i64 k', .int .i64 n', .string nm', .bool m', .slice p' l' c'] 40)) := b6.alloc (by simp) _
    have hX6 : (W5.alloc (.cells #[.int .i64 k', .int .i64 n', .string nm', .bool m', .slice p' l' c'] 40)).heap.size ∉ W1.heap.size :: w.heap.size :: X := HAw4.out.not (by have := hs5.size; simp at this ⊢; omega)
    have HI7 := hid (wrapE2 (K := 8) (nv := 0) (nm2 := X4) (m2 := false) hX6 (Ex.In.keep (keepsL_below b6) _ HI5.out) (Ex.In.keep (keepsL_below b6) _ hin5) (by decide))
    have HA7 := hid (HA5.out.below b7)
    have H37 := hid (heap_below b7 h35)
    have H47 := hid (heap_below b7 h45)
    have HE5 := hid her5
    have hw5 := HW3.out
    have HNew := hid (show w.heap.size ≤ W1.heap.size by omega)
    clear hin5 her5 hp5 hs5 h35 h45 b6 b7 hX6 HG2 HAw4 HA4 HI4 H34 H44 HA5 HI5
    go_wp2_with (first | (refine wpList_store_row (o := ⟨none, _, _, _, _, _⟩) rfl _ _ _ rfl W1.heap.size #[.int .i64 8, .int .i64 0, .string X4, .bool false, .slice (some ⟨W5.heap.size + 1, 0, none⟩) 2 2] rfl rfl _ _ H37.out ex_sz rfl (ex_one _ _ _ _ _ _ _) ?_))
    go_roundg (gk - 1)
    case measure => omega
    case rel =>
     have ht := er_two 8 0 X4 false (.slice (some ⟨W5.heap.size + 1, 0, none⟩) 2 2) (.mk k n nm m (.slice p l c) kids) (.mk k' n' nm' m' (.slice p' l' c') kids') _ _ rfl HE5.out
     rw [HBS.out] at ht
     refine ⟨8, 0, X4, false, some ⟨W5.heap.size + 1, 0, none⟩, 2, 2, [.mk k n nm m (.slice p l c) kids, .mk k' n' nm' m' (.slice p' l' c') kids'], (f s1.pass).2, by omega, by omega, hid ?_, ?_, hid (Ex.In.keep (keepsL_row _ (by simp) _) _ (by have := HI7.out; simpa using this)), hid (HA7.out.row HNew.out _), hid (setRow_heap _ _ _ _ _ _ H37.out), hid ((setRow_other _ _ _ _ (by omega)).trans H47.out)⟩
     ·have h := HLt.out.resolve_left (by simp [nextwr])
      exact .inr (by omega)
     ·rw [hg2, Nat.add_sub_cancel, ht]
      exact HR2
  | true =>
   rw [hna] at HS
   have nextwr : s1.wr = false := (next_some hna (by decide)).1
   obtain ⟨hnb', hnb⟩ : ∃ b, nextB s1 mSlash = b := ⟨_, rfl⟩
   go_wp2_with fail
   refine HS.out.mono ?_
   rintro e W1' ⟨rfl, q, rfl⟩
   clear HS HSB

   have HT4 := hid (fun q => text_any (wr.drewN q) pb lv ts s1 4 (HA1.out.pin.drewN q) hTf)
   have HT5 := HT4.out q
   obtain ⟨g2, hg2, hpt, hl2, hl3, hne⟩ := ops_step f mStar mSlash gk (erE (.mk k n nm m (.slice p l c) kids)) s1 (by simp [hna, hnb]) (by decide) (by decide) hlen
   have hr := HP.out
   rw [hpt] at hr
   have HR2 := hid hr
   have HG2 := hid (fun W X1 a b => HG.out W s1.pass X1 a b (by omega) (.inr (by have h := HLt.out.resolve_left (by simp [nextwr]); omega)))
   have HW3 := hid (hwr s1.pass)
   have hf3 := hf s1.pass
   obtain ⟨x4, hx4⟩ : ∃ x4, txt 4 s1 = x4 := ⟨_, rfl⟩
   rw [hx4] at HR2 HT5
   have HBS := hid (bs_Sb x4)
   generalize Sb x4 = X4 at *
   clear hna hnb hr hpt HP HT4 hx4
   go_wp2_with fail
   refine HT5.mono ?_
   rintro e W3 ⟨rfl, q3, rfl⟩
   have HA3 := hid (HA1.out.below (Below.drewN' wr (q + q3)))
   obtain ⟨i, hi1, hi2, hi3⟩ := HA3.out.box
   obtain ⟨_, c1, _⟩ := pin_cells hi3
   have cf := pin_frozen hi3 1
   have hil : i ≤ 1048576 := by omega
   have HA4 := hid (HA3.out.call (pin_pass HA3.out.pin hi1 hi2 hi3 hne) (step_set 1 (.int .i64 ((i : Int) + 1))))
   have HS4 := hid (step_set (w := wr.drewN (q + q3)) (pb := pb) 1 (.int .i64 ((i : Int) + 1)))
   clear HT5 HA3 hi1 hi2 hi3
   go_wp2_with fail
   have hlt1 := heap_lt H3.out
   have hlt0 := heap_lt H4.out
   have HAw4 := hid (((HA.out.mono (w' := (wr.drewN (q + q3)).setCell ⟨pb, 1, none⟩ (.int .i64 ((i : Int) + 1))) HA4.out.step.size).add (b := w.heap.size) (by simp; exact hlt0)).add (b := W1.heap.size) (by simp; exact hlt1))
   have HI4 := hid (Ex.In.keep ((keepsL_below (Below.drewN' wr (q + q3))).trans (keepsL_step HS4.out (by simp [HA.out.mem]))) _ HI.out)
   have H34 := hid (heap_step HS4.out (show (wr.drewN (q + q3)).heap[W1.heap.size]? = _ from H3.out) (by omega))
   have H44 := hid (heap_step HS4.out (show (wr.drewN (q + q3)).heap[w.heap.size]? = _ from H4.out) (by omega))
   clear HS4 HI HA1 H3 H4 c1 cf
   refine (HG2.out _ _ HAw4.out HA4.out.pin).mono ?_
   rintro e W5 ⟨T5, rfl, hin5, her5, hp5, hs5⟩
   obtain ⟨k', n', nm', m', p', l', c', kids', rfl⟩ := ex_open hin5
   rw [Ex.val_mk]
   have HA5 := hid (HA4.out.call hp5 hs5)
   have HI5 := hid (Ex.In.keep (keepsL_step hs5 (by simp [HA.out.mem])) _ HI4.out)
   have h35 := heap_step hs5 H34.out (by omega)
   have h45 := heap_step hs5 H44.out (by omega)
   obtain ⟨k0, k1, k2, k3, k4⟩ := cells5 h35
   have hlt15 := heap_lt h35
   have hlt05 := heap_lt h45
   have b6 : Below W5.heap.size W5 (W5.alloc (.cells #[.int .i64 k', .int .i64 n', .string nm', .bool m', .slice p' l' c'] 40)) := (Below.refl _ W5).alloc (Nat.le_refl _) _
   have b7 : Below W5.heap.size W5 ((W5.alloc (.cells #[.int .i64 k', .int .i64 n', .string nm', .bool m', .slice p' l' c'] 40)).alloc (.cells #[.int .i64 k, .int .i64 n, .string nm, .bool m, .slice p l c, .int .i64 k', .int .i64 n', .string nm', .bool m', .slice p' l' c'] 40)) := b6.alloc (by simp) _
   have hX6 : (W5.alloc (.cells #[.int .i64 k', .int .i64 n', .string nm', .bool m', .slice p' l' c'] 40)).heap.size ∉ W1.heap.size :: w.heap.size :: X := HAw4.out.not (by have := hs5.size; simp at this ⊢; omega)
   have HI7 := hid (wrapE2 (K := 8) (nv := 0) (nm2 := X4) (m2 := false) hX6 (Ex.In.keep (keepsL_below b6) _ HI5.out) (Ex.In.keep (keepsL_below b6) _ hin5) (by decide))
   have HA7 := hid (HA5.out.below b7)
   have H37 := hid (heap_below b7 h35)
   have H47 := hid (heap_below b7 h45)
   have HE5 := hid her5
   have hw5 := HW3.out
   have HNew := hid (show w.heap.size ≤ W1.heap.size by omega)
   clear hin5 her5 hp5 hs5 h35 h45 b6 b7 hX6 HG2 HAw4 HA4 HI4 H34 H44 HA5 HI5
   go_wp2_with (first | (refine wpList_store_row (o := ⟨none, _, _, _, _, _⟩) rfl _ _ _ rfl W1.heap.size #[.int .i64 8, .int .i64 0, .string X4, .bool false, .slice (some ⟨W5.heap.size + 1, 0, none⟩) 2 2] rfl rfl _ _ H37.out ex_sz rfl (ex_one _ _ _ _ _ _ _) ?_))
   go_roundg (gk - 1)
   case measure => omega
   case rel =>
    have ht := er_two 8 0 X4 false (.slice (some ⟨W5.heap.size + 1, 0, none⟩) 2 2) (.mk k n nm m (.slice p l c) kids) (.mk k' n' nm' m' (.slice p' l' c') kids') _ _ rfl HE5.out
    rw [HBS.out] at ht
    refine ⟨8, 0, X4, false, some ⟨W5.heap.size + 1, 0, none⟩, 2, 2, [.mk k n nm m (.slice p l c) kids, .mk k' n' nm' m' (.slice p' l' c') kids'], (f s1.pass).2, by omega, by omega, hid ?_, ?_, hid (Ex.In.keep (keepsL_row _ (by simp) _) _ (by have := HI7.out; simpa using this)), hid (HA7.out.row HNew.out _), hid (setRow_heap _ _ _ _ _ _ H37.out), hid ((setRow_other _ _ _ _ (by omega)).trans H47.out)⟩
    ·have h := HLt.out.resolve_left (by simp [nextwr])
     exact .inr (by omega)
    ·rw [hg2, Nat.add_sub_cancel, ht]
     exact HR2
set_option maxHeartbeats 8000000 in
set_option maxRecDepth 100000 in
theorem sum_any (pb : Nat) (lv : Value) (ts : List Tok) (N L : Nat) (hT : ToksOk ts) (f : S → PE × S) (hf : ∀ s, (f s).2.rest.length ≤ s.rest.length) (hwr : ∀ s, s.wr = true → (f s).2.wr = true) (hg : Good pb lv ts N L 132 f) : Good pb lv ts N L 115 fun s => opsS f mPlus mMinus N (f s).1 (f s).2 := by
 intro w s X hA h hN hL
 show Calls _ _ _ _ (RetE w pb lv ts X (opsS f mPlus mMinus N (f s).1 (f s).2))
 have hTf := hT.few
 have b1 : Below w.heap.size w (w.alloc (.cells exZ 40)) := (Below.refl _ w).alloc (Nat.le_refl _) _
 have HA0 := hid ((At.start h).below b1)
 have HA := hid hA
 have hpb : pb < w.heap.size := hA.lt pb hA.mem
 have HAw := hid ((hA.mono (w' := w.alloc (.cells exZ 40)) (by simp)).add (b := w.heap.size) (by simp))
 have HK := hid (heap_alloc_new w (.cells exZ 40))
 have HG1 := hid (fun W X1 a b => hg W s X1 a b hN hL)
 have HG := hid hg
 have hfs := hf s
 have hw0 := hwr s
 generalize hR : opsS f mPlus mMinus N (f s).1 (f s).2 = R
 have HR := hid hR
 have HL := hid hL
 generalize hs2 : (f s) = r0 at *
 obtain ⟨re0, rs0⟩ := r0
 simp only at hfs HR hw0
 have HL2 := hid (show rs0.wr = true ∨ rs0.rest.length < L from by
  rcases hL with h | h
  ·exact .inl (hw0 h)
  ·exact .inr (by omega))
 clear h hA b1 hg hR hs2 hL hw0
 go_enter Tryz.func115, Tryz.ntmps115
 go_wp2_with fail
 refine (HG1.out _ _ HAw.out HA0.out.pin).mono ?_
 rintro e W1 ⟨T, rfl, hin, her, hp1, hs1⟩
 obtain ⟨k, n, nm, m, p, l, c, kids, rfl⟩ := ex_open hin
 rw [Ex.val_mk]
 have b2 : Below W1.heap.size W1 (W1.alloc (.cells #[.int .i64 k, .int .i64 n, .string nm, .bool m, .slice p l c] 40)) := (Below.refl _ W1).alloc (Nat.le_refl _) _
 have HA2 := hid ((HA0.out.call hp1 hs1).below b2)
 have HK2 := hid (heap_below b2 (heap_step hs1 HK.out (by omega)))
 have HB2 := hid (heap_alloc_new W1 (.cells #[.int .i64 k, .int .i64 n, .string nm, .bool m, .slice p l c] 40))
 have hnew : w.heap.size + 1 ≤ W1.heap.size := by have := hs1.size; simp at this; omega
 have HI2 := hid (Ex.In.keep ((keepsL_add W1 (Nat.le_refl _)).trans (keepsL_below b2)) _ hin)
 have HAw2 := hid (((HAw.out.mono hs1.size).mono b2.size).add (b := W1.heap.size) (by simp))
 have HR2 := hid (show R = opsS f mPlus mMinus N (erE (.mk k n nm m (.slice p l c) kids)) rs0 by rw [her]; exact HR.out.symm)
 clear hin her hp1 hs1 b2 HG1 HA0 HK HAw HR
 go_wp2_with fail
 go_loopg [4, 5] N (fun gf u v wx => ∃ (k n : Int) (nm : ByteArray) (m : Bool) (p : Option Addr) (l c : Nat) (kids : List Ex) (s1 : S), s1.rest.length ≤ gf ∧ s1.rest.length ≤ N ∧ Hid (s1.wr = true ∨ s1.rest.length < L) ∧ Hid (R = opsS f mPlus mMinus gf (erE (.mk k n nm m (.slice p l c) kids)) s1) ∧ Hid ((Ex.mk k n nm m (.slice p l c) kids).In (hushL (W1.heap.size :: w.heap.size :: X) wx)) ∧ Hid (At w pb lv ts s wx s1) ∧ Hid (wx.heap[W1.heap.size]? = some (.cells #[.int .i64 k, .int .i64 n, .string nm, .bool m, .slice p l c] 40 (0, 0))) ∧ Hid (wx.heap[w.heap.size]? = some (.cells exZ 40 (0, 0))))
 case atStart => exact ⟨k, n, nm, m, p, l, c, kids, rs0, by omega, by omega, HL2, HR2, HI2, HA2, HB2, HK2⟩
 case round =>
  clear HR2 HI2 HA2 HB2 HK2 HL2 HAw2
  obtain ⟨k, n, nm, m, p, l, c, kids, s1, hlen, hlenN, HLt, HP, HI, HA1, H3, H4⟩ := hrel
  have HS := hid (next_any wr pb lv ts s1 mPlus HA1.out.pin hTf)
  have HSB := hid (fun q => next_any (wr.drewN q) pb lv ts s1 mMinus (HA1.out.pin.drewN q) hTf)
  cases hna : nextB s1 mPlus with
  | false =>
   rw [hna] at HS
   cases hnb : nextB s1 mMinus with
   | false =>
    rw [hnb] at HSB
    have hr := HP.out
    rw [ops_end _ _ _ _ _ _ (by simp [hna, hnb])] at hr
    have HR2 := hid hr
    clear hna hnb hr HP HG
    go_wp2_with fail
    refine HS.out.mono ?_
    rintro e W1' ⟨rfl, q1, rfl⟩
    go_wp2_with fail
    refine (HSB.out q1).mono ?_
    rintro e W1' ⟨rfl, q2, rfl⟩
    obtain ⟨k0, k1, k2, k3, k4⟩ := cells5 H3.out
    have HA2 := hid (HA1.out.below (Below.drewN' wr (q1 + q2)))
    have HI2 := hid (Ex.In.keep (keepsL_below (Below.drewN' wr (q1 + q2))) _ HI.out)
    have HK2 := hid (show (wr.drewN (q1 + q2)).heap[w.heap.size]? = _ from H4.out)
    clear HS HSB HA1 HI
    go_wp2_with (first | (refine wpList_store_row (o := ⟨none, _, _, _, _, _⟩) rfl _ _ _ rfl w.heap.size #[.int .i64 k, .int .i64 n, .string nm, .bool m, .slice p l c] rfl rfl _ _ HK2.out ex_sz rfl (ex_one _ _ _ _ _ _ _) ?_))
    have hr := HR2.out
    subst hr
    refine bodyPost_ret (results_cell_row rfl _ _ w.heap.size _ #[.int .i64 k, .int .i64 n, .string nm, .bool m, .slice p l c] _ _ rfl (setRow_heap _ _ _ _ _ _ HK2.out) Tryz.underlying40 rfl ex_sz) ?_ (by have h := retE_row (X := X) HA2.out (.mk k n nm m (.slice p l c) kids) (Ex.In.keep (keepsL_sub _ (fun b hb => by simp at hb ⊢; rcases hb with h | h <;> simp [h])) _ HI2.out) rfl #[.int .i64 k, .int .i64 n, .string nm, .bool m, .slice p l c]; exact h)
    rfl
   | true =>
    rw [hnb] at HSB
    have nextwr : s1.wr = false := (next_some hnb (by decide)).1
    go_wp2_with fail
    refine HS.out.mono ?_
    rintro e W1' ⟨rfl, q1, rfl⟩
    go_wp2_with fail
    refine (HSB.out q1).mono ?_
    rintro e W1' ⟨rfl, q2, rfl⟩
    clear HS HSB

    have HT4 := hid (fun q => text_any (wr.drewN q) pb lv ts s1 4 (HA1.out.pin.drewN q) hTf)
    have HT5 := HT4.out (q1 + q2)
    obtain ⟨g2, hg2, hpt, hl2, hl3, hne⟩ := ops_step f mPlus mMinus gk (erE (.mk k n nm m (.slice p l c) kids)) s1 (by simp [hna, hnb]) (by decide) (by decide) hlen
    have hr := HP.out
    rw [hpt] at hr
    have HR2 := hid hr
    have HG2 := hid (fun W X1 a b => HG.out W s1.pass X1 a b (by omega) (.inr (by have h := HLt.out.resolve_left (by simp [nextwr]); omega)))
    have HW3 := hid (hwr s1.pass)
    have hf3 := hf s1.pass
    obtain ⟨x4, hx4⟩ : ∃ x4, txt 4 s1 = x4 := ⟨_, rfl⟩
    rw [hx4] at HR2 HT5
    have HBS := hid (bs_Sb x4)
    generalize Sb x4 = X4 at *
    clear hna hnb hr hpt HP HT4 hx4
    go_wp2_with fail
    refine HT5.mono ?_
    rintro e W3 ⟨rfl, q3, rfl⟩
    have HA3 := hid (HA1.out.below (Below.drewN' wr ((q1 + q2) + q3)))
    obtain ⟨i, hi1, hi2, hi3⟩ := HA3.out.box
    obtain ⟨_, c1, _⟩ := pin_cells hi3
    have cf := pin_frozen hi3 1
    have hil : i ≤ 1048576 := by omega
    have HA4 := hid (HA3.out.call (pin_pass HA3.out.pin hi1 hi2 hi3 hne) (step_set 1 (.int .i64 ((i : Int) + 1))))
    have HS4 := hid (step_set (w := wr.drewN ((q1 + q2) + q3)) (pb := pb) 1 (.int .i64 ((i : Int) + 1)))
    clear HT5 HA3 hi1 hi2 hi3
    go_wp2_with fail
    have hlt1 := heap_lt H3.out
    have hlt0 := heap_lt H4.out
    have HAw4 := hid (((HA.out.mono (w' := (wr.drewN ((q1 + q2) + q3)).setCell ⟨pb, 1, none⟩ (.int .i64 ((i : Int) + 1))) HA4.out.step.size).add (b := w.heap.size) (by simp; exact hlt0)).add (b := W1.heap.size) (by simp; exact hlt1))
    have HI4 := hid (Ex.In.keep ((keepsL_below (Below.drewN' wr ((q1 + q2) + q3))).trans (keepsL_step HS4.out (by simp [HA.out.mem]))) _ HI.out)
    have H34 := hid (heap_step HS4.out (show (wr.drewN ((q1 + q2) + q3)).heap[W1.heap.size]? = _ from H3.out) (by omega))
    have H44 := hid (heap_step HS4.out (show (wr.drewN ((q1 + q2) + q3)).heap[w.heap.size]? = _ from H4.out) (by omega))
    clear HS4 HI HA1 H3 H4 c1 cf
    refine (HG2.out _ _ HAw4.out HA4.out.pin).mono ?_
    rintro e W5 ⟨T5, rfl, hin5, her5, hp5, hs5⟩
    obtain ⟨k', n', nm', m', p', l', c', kids', rfl⟩ := ex_open hin5
    rw [Ex.val_mk]
    have HA5 := hid (HA4.out.call hp5 hs5)
    have HI5 := hid (Ex.In.keep (keepsL_step hs5 (by simp [HA.out.mem])) _ HI4.out)
    have h35 := heap_step hs5 H34.out (by omega)
    have h45 := heap_step hs5 H44.out (by omega)
    obtain ⟨k0, k1, k2, k3, k4⟩ := cells5 h35
    have hlt15 := heap_lt h35
    have hlt05 := heap_lt h45
    have b6 : Below W5.heap.size W5 (W5.alloc (.cells #[.int .i64 k', .int .i64 n', .string nm', .bool m', .slice p' l' c'] 40)) := (Below.refl _ W5).alloc (Nat.le_refl _) _
    have b7 : Below W5.heap.size W5 ((W5.alloc (.cells #[.int .i64 k', .int .i64 n', .string nm', .bool m', .slice p' l' c'] 40)).alloc (.cells #[.int .i64 k, .int .i64 n, .string nm, .bool m, .slice p l c, .int .i64 k', .int .i64 n', .string nm', .bool m', .slice p' l' c'] 40)) := b6.alloc (by simp) _
    have hX6 : (W5.alloc (.cells #[.int .i64 k', .int .i64 n', .string nm', .bool m', .slice p' l' c'] 40)).heap.size ∉ W1.heap.size :: w.heap.size :: X := HAw4.out.not (by have := hs5.size; simp at this ⊢; omega)
    have HI7 := hid (wrapE2 (K := 8) (nv := 0) (nm2 := X4) (m2 := false) hX6 (Ex.In.keep (keepsL_below b6) _ HI5.out) (Ex.In.keep (keepsL_below b6) _ hin5) (by decide))
    have HA7 := hid (HA5.out.below b7)
    have H37 := hid (heap_below b7 h35)
    have H47 := hid (heap_below b7 h45)
    have HE5 := hid her5
    have hw5 := HW3.out
    have HNew := hid (show w.heap.size ≤ W1.heap.size by omega)
    clear hin5 her5 hp5 hs5 h35 h45 b6 b7 hX6 HG2 HAw4 HA4 HI4 H34 H44 HA5 HI5
    go_wp2_with (first | (refine wpList_store_row (o := ⟨none, _, _, _, _, _⟩) rfl _ _ _ rfl W1.heap.size #[.int .i64 8, .int .i64 0, .string X4, .bool false, .slice (some ⟨W5.heap.size + 1, 0, none⟩) 2 2] rfl rfl _ _ H37.out ex_sz rfl (ex_one _ _ _ _ _ _ _) ?_))
    go_roundg (gk - 1)
    case measure => omega
    case rel =>
     have ht := er_two 8 0 X4 false (.slice (some ⟨W5.heap.size + 1, 0, none⟩) 2 2) (.mk k n nm m (.slice p l c) kids) (.mk k' n' nm' m' (.slice p' l' c') kids') _ _ rfl HE5.out
     rw [HBS.out] at ht
     refine ⟨8, 0, X4, false, some ⟨W5.heap.size + 1, 0, none⟩, 2, 2, [.mk k n nm m (.slice p l c) kids, .mk k' n' nm' m' (.slice p' l' c') kids'], (f s1.pass).2, by omega, by omega, hid ?_, ?_, hid (Ex.In.keep (keepsL_row _ (by simp) _) _ (by have := HI7.out; simpa using this)), hid (HA7.out.row HNew.out _), hid (setRow_heap _ _ _ _ _ _ H37.out), hid ((setRow_other _ _ _ _ (by omega)).trans H47.out)⟩
     ·have h := HLt.out.resolve_left (by simp [nextwr])
      exact .inr (by omega)
     ·rw [hg2, Nat.add_sub_cancel, ht]
      exact HR2
  | true =>
   rw [hna] at HS
   have nextwr : s1.wr = false := (next_some hna (by decide)).1
   obtain ⟨hnb', hnb⟩ : ∃ b, nextB s1 mMinus = b := ⟨_, rfl⟩
   go_wp2_with fail
   refine HS.out.mono ?_
   rintro e W1' ⟨rfl, q, rfl⟩
   clear HS HSB

   have HT4 := hid (fun q => text_any (wr.drewN q) pb lv ts s1 4 (HA1.out.pin.drewN q) hTf)
   have HT5 := HT4.out q
   obtain ⟨g2, hg2, hpt, hl2, hl3, hne⟩ := ops_step f mPlus mMinus gk (erE (.mk k n nm m (.slice p l c) kids)) s1 (by simp [hna, hnb]) (by decide) (by decide) hlen
   have hr := HP.out
   rw [hpt] at hr
   have HR2 := hid hr
   have HG2 := hid (fun W X1 a b => HG.out W s1.pass X1 a b (by omega) (.inr (by have h := HLt.out.resolve_left (by simp [nextwr]); omega)))
   have HW3 := hid (hwr s1.pass)
   have hf3 := hf s1.pass
   obtain ⟨x4, hx4⟩ : ∃ x4, txt 4 s1 = x4 := ⟨_, rfl⟩
   rw [hx4] at HR2 HT5
   have HBS := hid (bs_Sb x4)
   generalize Sb x4 = X4 at *
   clear hna hnb hr hpt HP HT4 hx4
   go_wp2_with fail
   refine HT5.mono ?_
   rintro e W3 ⟨rfl, q3, rfl⟩
   have HA3 := hid (HA1.out.below (Below.drewN' wr (q + q3)))
   obtain ⟨i, hi1, hi2, hi3⟩ := HA3.out.box
   obtain ⟨_, c1, _⟩ := pin_cells hi3
   have cf := pin_frozen hi3 1
   have hil : i ≤ 1048576 := by omega
   have HA4 := hid (HA3.out.call (pin_pass HA3.out.pin hi1 hi2 hi3 hne) (step_set 1 (.int .i64 ((i : Int) + 1))))
   have HS4 := hid (step_set (w := wr.drewN (q + q3)) (pb := pb) 1 (.int .i64 ((i : Int) + 1)))
   clear HT5 HA3 hi1 hi2 hi3
   go_wp2_with fail
   have hlt1 := heap_lt H3.out
   have hlt0 := heap_lt H4.out
   have HAw4 := hid (((HA.out.mono (w' := (wr.drewN (q + q3)).setCell ⟨pb, 1, none⟩ (.int .i64 ((i : Int) + 1))) HA4.out.step.size).add (b := w.heap.size) (by simp; exact hlt0)).add (b := W1.heap.size) (by simp; exact hlt1))
   have HI4 := hid (Ex.In.keep ((keepsL_below (Below.drewN' wr (q + q3))).trans (keepsL_step HS4.out (by simp [HA.out.mem]))) _ HI.out)
   have H34 := hid (heap_step HS4.out (show (wr.drewN (q + q3)).heap[W1.heap.size]? = _ from H3.out) (by omega))
   have H44 := hid (heap_step HS4.out (show (wr.drewN (q + q3)).heap[w.heap.size]? = _ from H4.out) (by omega))
   clear HS4 HI HA1 H3 H4 c1 cf
   refine (HG2.out _ _ HAw4.out HA4.out.pin).mono ?_
   rintro e W5 ⟨T5, rfl, hin5, her5, hp5, hs5⟩
   obtain ⟨k', n', nm', m', p', l', c', kids', rfl⟩ := ex_open hin5
   rw [Ex.val_mk]
   have HA5 := hid (HA4.out.call hp5 hs5)
   have HI5 := hid (Ex.In.keep (keepsL_step hs5 (by simp [HA.out.mem])) _ HI4.out)
   have h35 := heap_step hs5 H34.out (by omega)
   have h45 := heap_step hs5 H44.out (by omega)
   obtain ⟨k0, k1, k2, k3, k4⟩ := cells5 h35
   have hlt15 := heap_lt h35
   have hlt05 := heap_lt h45
   have b6 : Below W5.heap.size W5 (W5.alloc (.cells #[.int .i64 k', .int .i64 n', .string nm', .bool m', .slice p' l' c'] 40)) := (Below.refl _ W5).alloc (Nat.le_refl _) _
   have b7 : Below W5.heap.size W5 ((W5.alloc (.cells #[.int .i64 k', .int .i64 n', .string nm', .bool m', .slice p' l' c'] 40)).alloc (.cells #[.int .i64 k, .int .i64 n, .string nm, .bool m, .slice p l c, .int .i64 k', .int .i64 n', .string nm', .bool m', .slice p' l' c'] 40)) := b6.alloc (by simp) _
   have hX6 : (W5.alloc (.cells #[.int .i64 k', .int .i64 n', .string nm', .bool m', .slice p' l' c'] 40)).heap.size ∉ W1.heap.size :: w.heap.size :: X := HAw4.out.not (by have := hs5.size; simp at this ⊢; omega)
   have HI7 := hid (wrapE2 (K := 8) (nv := 0) (nm2 := X4) (m2 := false) hX6 (Ex.In.keep (keepsL_below b6) _ HI5.out) (Ex.In.keep (keepsL_below b6) _ hin5) (by decide))
   have HA7 := hid (HA5.out.below b7)
   have H37 := hid (heap_below b7 h35)
   have H47 := hid (heap_below b7 h45)
   have HE5 := hid her5
   have hw5 := HW3.out
   have HNew := hid (show w.heap.size ≤ W1.heap.size by omega)
   clear hin5 her5 hp5 hs5 h35 h45 b6 b7 hX6 HG2 HAw4 HA4 HI4 H34 H44 HA5 HI5
   go_wp2_with (first | (refine wpList_store_row (o := ⟨none, _, _, _, _, _⟩) rfl _ _ _ rfl W1.heap.size #[.int .i64 8, .int .i64 0, .string X4, .bool false, .slice (some ⟨W5.heap.size + 1, 0, none⟩) 2 2] rfl rfl _ _ H37.out ex_sz rfl (ex_one _ _ _ _ _ _ _) ?_))
   go_roundg (gk - 1)
   case measure => omega
   case rel =>
    have ht := er_two 8 0 X4 false (.slice (some ⟨W5.heap.size + 1, 0, none⟩) 2 2) (.mk k n nm m (.slice p l c) kids) (.mk k' n' nm' m' (.slice p' l' c') kids') _ _ rfl HE5.out
    rw [HBS.out] at ht
    refine ⟨8, 0, X4, false, some ⟨W5.heap.size + 1, 0, none⟩, 2, 2, [.mk k n nm m (.slice p l c) kids, .mk k' n' nm' m' (.slice p' l' c') kids'], (f s1.pass).2, by omega, by omega, hid ?_, ?_, hid (Ex.In.keep (keepsL_row _ (by simp) _) _ (by have := HI7.out; simpa using this)), hid (HA7.out.row HNew.out _), hid (setRow_heap _ _ _ _ _ _ H37.out), hid ((setRow_other _ _ _ _ (by omega)).trans H47.out)⟩
    ·have h := HLt.out.resolve_left (by simp [nextwr])
     exact .inr (by omega)
    ·rw [hg2, Nat.add_sub_cancel, ht]
     exact HR2
end Go.Proofs.YtemflcojebanlaaGreatDoor.ParC

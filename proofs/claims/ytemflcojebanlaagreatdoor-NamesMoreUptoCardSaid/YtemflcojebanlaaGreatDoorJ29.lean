/- Texts joined: ParU, ParV, ParM. -/
import Derived.Test.YtemflcojebanlaaGreatDoorJ28
/- The document's own parser: types: references. -/
namespace Go.Proofs.YtemflcojebanlaaGreatDoor.ParC
open Go Go.RowKit Go.Lib Go.Sort LexP TreeP LexC TreeC PageC TextC ParP

theorem frozen_of {w : World} {b : Nat} {cs : Array Value} {t : TypeId} (h : w.heap[b]? = some (.cells cs t (0, 0))) (o : Nat) : w.frozen? ⟨b, o, none⟩ = false := by simp [World.frozen?, h]

theorem box_load {w : World} {b : Nat} {cs : List Value} {t : TypeId} (h : w.heap[b]? = some (.cells cs.toArray t (0, 0))) : ∀ (j : Nat) (u : Value), cs[j]? = some u → w.cell? ⟨b, 0 + j, none⟩ = some u := fun j u hj => by
 rw [Nat.zero_add, Lib.cell_of_heap h, List.getElem?_toArray]
 exact hj

set_option maxHeartbeats 8000000 in
set_option maxRecDepth 100000 in
theorem kind_ref (pb : Nat) (lv : Value) (ts : List Tok) (hT : ToksOk ts) (w : World) (s : S) (X : List Nat) (hA : Away w pb X) (h : PIn w pb lv ts s) (hw : s.wr = false) (h1 : nextB s kInt = false) (h2 : nextB s kBox = false) (h3 : nextB s mOpen = false) (r : PT × S)
  (hr : ∀ (W : World) (X1 : List Nat), Away W pb X1 → PIn W pb lv ts (skipS kMut (lifeS (mustS mAnd s)).2) → Calls Tryz.prog 84 #[.pointer (some ⟨pb, 0, none⟩)] W (RetT W pb lv ts X1 r)) :
  Calls Tryz.prog 84 #[.pointer (some ⟨pb, 0, none⟩)] w (RetT w pb lv ts X (.mk 4 (lifeS (mustS mAnd s)).1 (nextB (lifeS (mustS mAnd s)).2 kMut) [r.1], r.2)) := by
 have HBeg := hid (beginT_of hA h)
 have HX := hid hA
 have HS := hid (fun W hp => skip_any W pb lv ts s kInt (by decide) hp hT.few)
 rw [h1] at HS
 have KHS := hid (show skipS kInt s = s by unfold skipS; rw [h1]; rfl)
 have HB := hid (fun W hp => skip_any W pb lv ts s kBox (by decide) hp hT.few)
 rw [h2] at HB
 have KHB := hid (show skipS kBox s = s by unfold skipS; rw [h2]; rfl)
 have HO := hid (fun W hp => skip_any W pb lv ts s mOpen (by decide) hp hT.few)
 rw [h3] at HO
 have KHO := hid (show skipS mOpen s = s by unfold skipS; rw [h3]; rfl)
 have HM := hid (fun W hp => must_any W pb lv ts s mAnd (by decide) hp hT.few)
 generalize mustS mAnd s = sA at *
 have HLf := hid (fun W hp => life_any W pb lv ts sA hp hT)
 generalize lifeS sA = a at *
 obtain ⟨x, sB⟩ := a
 simp only at HLf hr ⊢
 have HU := hid (fun W hp => skip_any W pb lv ts sB kMut (by decide) hp hT.few)
 obtain ⟨bm, hbm⟩ : ∃ b, nextB sB kMut = b := ⟨_, rfl⟩
 rw [hbm] at HU ⊢
 have HP := hid hr
 generalize skipS kMut sB = sC at *
 obtain ⟨re, rs⟩ := r
 simp only
 have HBS := hid (bs_Sb x)
 generalize Sb x = xs at *
 clear h hA h1 h2 h3 hr hbm
 obtain ⟨hat, hkey, haw, c2, hpb⟩ := HBeg.out
 rw [hw] at c2
 have HA0 := hid hat
 have HK0 := hid hkey
 have HAw0 := hid haw
 clear hat hkey haw HBeg
 go_enter Tryz.func84, Tryz.ntmps84
 go_wp2_with fail
 refine (HS.out _ HA0.out.pin).mono ?_
 rintro e W1 ⟨rfl, hp, hs⟩
 rw [KHS.out] at hp
 have HA1 := hid (HA0.out.call hp hs)
 have HK1 := hid (heap_step hs HK0.out (by omega))
 have HAw1 := hid (HAw0.out.mono hs.size)
 clear hp hs HA0 HK0 HAw0 HS KHS
 go_wp2_with fail
 refine (HB.out _ HA1.out.pin).mono ?_
 rintro e W2 ⟨rfl, hp, hs⟩
 rw [KHB.out] at hp
 have HA2 := hid (HA1.out.call hp hs)
 have HK2 := hid (heap_step hs HK1.out (by omega))
 have HAw2 := hid (HAw1.out.mono hs.size)
 clear hp hs HA1 HK1 HAw1 HB KHB
 go_wp2_with fail
 refine (HO.out _ HA2.out.pin).mono ?_
 rintro e W3 ⟨rfl, hp, hs⟩
 rw [KHO.out] at hp
 have HA3 := hid (HA2.out.call hp hs)
 have HK3 := hid (heap_step hs HK2.out (by omega))
 have HAw3 := hid (HAw2.out.mono hs.size)
 clear hp hs HA2 HK2 HAw2 HO KHO
 go_wp2_with fail
 refine (HM.out _ HA3.out.pin).mono ?_
 rintro e W4 ⟨rfl, hp, hs⟩
 have b5 : Below W4.heap.size W4 (W4.alloc (.cells #[.int .i64 4, .string ⟨#[]⟩, .bool false, .slice none 0 0] 34)) := (Below.refl _ _).alloc (Nat.le_refl _) _
 have HA5 := hid ((HA3.out.call hp hs).below b5)
 have HK5 := hid (heap_below b5 (heap_step hs HK3.out (by omega)))
 have HAw5 := hid (((HAw3.out.mono hs.size).mono b5.size).add (b := W4.heap.size) (by simp))
 have HB5 := hid (heap_alloc_new W4 (.cells #[.int .i64 4, .string ⟨#[]⟩, .bool false, .slice none 0 0] 34))
 have HZ := hid (show pb < W4.heap.size ∧ w.heap.size < W4.heap.size from ⟨(HAw3.out.mono hs.size).lt pb (by simp [HX.out.mem]), (HAw3.out.mono hs.size).lt w.heap.size (by simp)⟩)
 have hz1 := HZ.out.1
 have hz2 := HZ.out.2
 clear hp hs b5 HA3 HK3 HAw3 HM
 go_wp2_with fail
 refine (HLf.out _ HA5.out.pin).mono ?_
 rintro e W6 ⟨rfl, hp, hs⟩
 have h6 := heap_step hs HB5.out (by omega)
 obtain ⟨_, k1, _, _⟩ := cells4 h6
 have f6 := frozen_of h6 1
 have HA6 := hid ((HA5.out.call hp hs).cell (b := W4.heap.size) (by omega) 1 (.string xs))
 have HK6 := hid ((Below.heap_setCell W6 ⟨W4.heap.size, 1, none⟩ (.string xs) w.heap.size (by show w.heap.size ≠ W4.heap.size; omega)).trans (heap_step hs HK5.out (by omega)))
 have HAw6 := hid ((HAw5.out.mono hs.size).mono (w' := W6.setCell ⟨W4.heap.size, 1, none⟩ (.string xs)) (by simp))
 have HB6 := hid (heap_setCell_same W6 W4.heap.size 1 _ _ (.string xs) h6)
 clear hp hs h6 HA5 HK5 HAw5 HB5 HLf
 go_wp2_with fail
 refine (HU.out _ HA6.out.pin).mono ?_
 rintro e W7 ⟨rfl, hp, hs⟩
 have h7 : W7.heap[W4.heap.size]? = some (.cells #[.int .i64 4, .string xs, .bool false, .slice none 0 0] 34 (0, 0)) := heap_step hs HB6.out (by omega)
 obtain ⟨_, _, k2, _⟩ := cells4 h7
 have f7 := frozen_of h7 2
 have HA7 := hid ((HA6.out.call hp hs).cell (b := W4.heap.size) (by omega) 2 (.bool bm))
 have HK7 := hid ((Below.heap_setCell W7 ⟨W4.heap.size, 2, none⟩ (.bool bm) w.heap.size (by show w.heap.size ≠ W4.heap.size; omega)).trans (heap_step hs HK6.out (by omega)))
 have HAw7 := hid ((HAw6.out.mono hs.size).mono (w' := W7.setCell ⟨W4.heap.size, 2, none⟩ (.bool bm)) (by simp))
 have HB7 := hid (heap_setCell_same W7 W4.heap.size 2 _ _ (.bool bm) h7)
 clear hp hs h7 HA6 HK6 HAw6 HB6 HU k1 f6
 go_wp2_with fail
 refine (HP.out _ _ HAw7.out HA7.out.pin).mono ?_
 rintro e V ⟨T, rfl, hin, her, hp, hs⟩
 obtain ⟨k, nm, m, p, l, c, kids, rfl⟩ := ty_open hin
 rw [Ty.val_mk]
 have HV := hid (HA7.out.call hp hs)
 have hv8 : V.heap[W4.heap.size]? = some (.cells #[.int .i64 4, .string xs, .bool bm, .slice none 0 0] 34 (0, 0)) := heap_step hs HB7.out (by omega)
 have hvk := heap_step hs HK7.out (by omega)
 obtain ⟨V', hV'⟩ : ∃ V', V.setCell ⟨W4.heap.size, 3, none⟩ (.slice (some ⟨V.heap.size + 1, 0, none⟩) 1 1) = V' := ⟨_, rfl⟩
 have hsz : V'.heap.size = V.heap.size := by rw [← hV']; simp
 have b3 : Below V'.heap.size V' (V'.alloc (.cells #[.int .i64 k, .string nm, .bool m, .slice p l c] 34)) := (Below.refl _ V').alloc (Nat.le_refl _) _
 have b4 : Below V'.heap.size V' ((V'.alloc (.cells #[.int .i64 k, .string nm, .bool m, .slice p l c] 34)).alloc (.cells #[.int .i64 k, .string nm, .bool m, .slice p l c] 34)) := b3.alloc (by simp) _
 have hX3 : (V'.alloc (.cells #[.int .i64 k, .string nm, .bool m, .slice p l c] 34)).heap.size ∉ W4.heap.size :: w.heap.size :: X := HAw7.out.not (by have := hs.size; simp at this ⊢; omega)
 have hin' : (Ty.mk k nm m (.slice p l c) kids).In (hushL (W4.heap.size :: w.heap.size :: X) V') := by
  rw [← hV']
  exact Ty.In.keep (keepsL_cell (X := W4.heap.size :: w.heap.size :: X) V (b := W4.heap.size) (by simp) 3 (.slice (some ⟨V.heap.size + 1, 0, none⟩) 1 1)) _ hin
 have hi0 := wrapT (K := 4) (nm2 := xs) (m2 := bm) hX3 (Ty.In.keep (keepsL_below b3) _ hin')
 have hsz2 : (V'.alloc (.cells #[.int .i64 k, .string nm, .bool m, .slice p l c] 34)).heap.size = V.heap.size + 1 := by simp [hsz]
 rw [hsz2] at hi0
 have hat' : At w pb lv ts s V' rs := by
  rw [← hV']
  exact HV.out.cell (b := W4.heap.size) (by omega) 3 (.slice (some ⟨V.heap.size + 1, 0, none⟩) 1 1)
 have HAF := hid (hat'.below b4)
 have hk' : V'.heap[w.heap.size]? = some (.cells tyZ 34 (0, 0)) := by
  rw [← hV']
  exact (Below.heap_setCell V ⟨W4.heap.size, 3, none⟩ (.slice (some ⟨V.heap.size + 1, 0, none⟩) 1 1) w.heap.size (by show w.heap.size ≠ W4.heap.size; omega)).trans hvk
 have HKF := hid (heap_below b4 hk')
 have h9 : V'.heap[W4.heap.size]? = some (.cells #[.int .i64 4, .string xs, .bool bm, (.slice (some ⟨V.heap.size + 1, 0, none⟩) 1 1)] 34 (0, 0)) := by
  rw [← hV']
  exact heap_setCell_same V W4.heap.size 3 _ _ (.slice (some ⟨V.heap.size + 1, 0, none⟩) 1 1) hv8
 obtain ⟨j0, j1, j2, j3⟩ := cells4 h9
 have hV4 : W4.heap.size < V.heap.size := heap_lt hv8
 have q3 : V.cell? ⟨W4.heap.size, 3, none⟩ = some (.slice none 0 0) := (cells4 hv8).2.2.2
 have f8 := frozen_of hv8 3
 have HI := hid hi0
 have HE := hid her
 clear hin her hp hs b3 b4 HP HV HA7 HK7 HAw7 HB7 hX3 hv8 hvk h9 k2 f7 hi0 hin' hat' hk' hsz2
 go_wp2_with (first | (refine wpList_store_row (o := ⟨none, _, _, _, _, _⟩) rfl _ _ _ rfl w.heap.size #[.int .i64 4, .string xs, .bool bm, .slice (some ⟨V.heap.size + 1, 0, none⟩) 1 1] rfl rfl _ _ HKF.out ty_sz rfl (ty_one _ _ _ _ _ _) ?_))
 refine bodyPost_ret (results_cell_row rfl _ _ w.heap.size _ #[.int .i64 4, .string xs, .bool bm, .slice (some ⟨V.heap.size + 1, 0, none⟩) 1 1] _ _ rfl (setRow_heap _ _ _ _ _ _ HKF.out) Tryz.underlying34 rfl ty_sz) ?_ (by have h := retT_row (X := X) HAF.out (.mk 4 xs bm (.slice (some ⟨V.heap.size + 1, 0, none⟩) 1 1) [.mk k nm m (.slice p l c) kids]) (Ty.In.keep (keepsL_sub _ fun b hb => List.mem_cons_of_mem _ hb) _ HI.out) (by rw [erT_one _ _ _ _ _ _ HE.out, HBS.out]) #[.int .i64 4, .string xs, .bool bm, .slice (some ⟨V.heap.size + 1, 0, none⟩) 1 1]; exact h)
 rfl
/- The document's own parser: types: tuples; and all of them. -/

theorem ty_all (k : Int) (nm : ByteArray) (m : Bool) (p : Option Addr) (l c : Nat) : ∀ u ∈ ([.int .i64 k, .string nm, .bool m, .slice p l c] : List Value), u.oneCell' = true := by
 intro u hu
 simp at hu
 rcases hu with rfl | rfl | rfl | rfl <;> rfl
theorem ListIn.slice {α : Type} {K : Kd α} {base : Nat} {w : World} {Y : List Nat} {v : Value} {l : List α} (h : ListIn K base w Y v l) : ∃ p n c, v = .slice p n c := by
 rcases h.own.2 with ⟨rfl, _⟩ | ⟨g, cap, cur, rfl, _⟩ <;> exact ⟨_, _, _, rfl⟩
theorem away_list {α : Type} {K : Kd α} {base : Nat} {w : World} {v : Value} {l : List α} {pb : Nat} {X : List Nat} {b5 b4 b2 : Nat} (h : ListIn K base w (b5 :: b4 :: b2 :: X) v l) (hY : ∀ b ∈ b5 :: b4 :: b2 :: X, b < base) (hp : pb ∈ X) (hb : base ≤ w.heap.size) : Away w pb (blk v ++ (b5 :: b4 :: b2 :: X)) := ⟨by simp [hp], fun b hm => by
 rcases List.mem_append.1 hm with h1 | h1
 ·exact (h.lt b (mem_blk h1)).2
 ·have := hY b h1; omega⟩
theorem more_wr {α : Type} (f : S → α × S) (m : Nat) (s : S) (h : s.wr = true) : moreS f m s = ([], s) := more_end f m s (by simp [nextB, h])

set_option maxHeartbeats 16000000 in
set_option maxRecDepth 100000 in
theorem kind_tuple (pb : Nat) (lv : Value) (ts : List Tok) (N L : Nat) (hN20 : N ≤ 1048576) (hT : ToksOk ts) (f : S → PT × S) (hf : ∀ s, (f s).2.rest.length ≤ s.rest.length) (_hwr : ∀ s, s.wr = true → (f s).2.wr = true) (hg : GoodT pb lv ts N L f)
  (w : World) (s : S) (X : List Nat) (hA : Away w pb X) (h : PIn w pb lv ts s) (hN : s.rest.length ≤ N) (hw : s.wr = false) (hL : s.rest.length ≤ L) (h1 : nextB s kInt = false) (h2 : nextB s kBox = false) (h3 : nextB s mOpen = true) :
  Calls Tryz.prog 84 #[.pointer (some ⟨pb, 0, none⟩)] w (RetT w pb lv ts X (.mk 3 [] false ((f s.pass).1 :: (f (mustS mComma (f s.pass).2)).1 :: (moreS f N (f (mustS mComma (f s.pass).2)).2).1), mustS mShut (moreS f N (f (mustS mComma (f s.pass).2)).2).2)) := by
 have hTf := hT.few
 have HBeg := hid (beginT_of hA h)
 have HX := hid hA
 have HS := hid (fun W hp => skip_any W pb lv ts s kInt (by decide) hp hT.few)
 rw [h1] at HS
 have KHS := hid (show skipS kInt s = s by unfold skipS; rw [h1]; rfl)
 have HB := hid (fun W hp => skip_any W pb lv ts s kBox (by decide) hp hT.few)
 rw [h2] at HB
 have KHB := hid (show skipS kBox s = s by unfold skipS; rw [h2]; rfl)
 have HO := hid (fun W hp => skip_any W pb lv ts s mOpen (by decide) hp hT.few)
 rw [h3] at HO
 have KHO := hid (show skipS mOpen s = s.pass by unfold skipS; rw [h3]; rfl)
 obtain ⟨hp1, _⟩ := next_pass h3 (by decide)
 have HP := hid (fun W X1 a b => hg W s.pass X1 a b (by omega) (.inr (by omega)))
 have hf1 := hf s.pass
 generalize hra : f s.pass = ra at *
 obtain ⟨xa, sa⟩ := ra
 simp only at hf1 ⊢
 have HMC := hid (fun W hp => must_any W pb lv ts sa mComma (by decide) hp hT.few)
 have hm1 := must_le mComma sa
 generalize hsb : mustS mComma sa = sb at *
 have HP2 := hid (fun W X1 a b => hg W sb X1 a b (by omega) (.inr (by omega)))
 have hf2 := hf sb
 generalize hrb : f sb = rb at *
 obtain ⟨xb, sc⟩ := rb
 simp only at hf2 ⊢
 have HG := hid hg
 have hlc : sc.rest.length < L := by omega
 have hlcN : sc.rest.length + 2 ≤ N + 1 := by omega
 generalize hR : (PT.mk 3 [] false (xa :: xb :: (moreS f N sc).1), mustS mShut (moreS f N sc).2) = R
 have HR := hid hR
 generalize s.pass = s1 at *
 clear h hA h1 h2 h3 hra hsb hrb hR hg
 obtain ⟨hat, hkey, haw, c2, hpb⟩ := HBeg.out
 rw [hw] at c2
 have HA0 := hid hat
 have HK0 := hid hkey
 have HAw0 := hid haw
 clear hat hkey haw HBeg
 go_enter Tryz.func84, Tryz.ntmps84
 go_wp2_with fail
 refine (HS.out _ HA0.out.pin).mono ?_
 rintro e W1 ⟨rfl, hp, hs⟩
 rw [KHS.out] at hp
 have HA1 := hid (HA0.out.call hp hs)
 have HK1 := hid (heap_step hs HK0.out (by omega))
 have HAw1 := hid (HAw0.out.mono hs.size)
 clear hp hs HA0 HK0 HAw0 HS KHS
 go_wp2_with fail
 refine (HB.out _ HA1.out.pin).mono ?_
 rintro e W2 ⟨rfl, hp, hs⟩
 rw [KHB.out] at hp
 have HA2 := hid (HA1.out.call hp hs)
 have HK2 := hid (heap_step hs HK1.out (by omega))
 have HAw2 := hid (HAw1.out.mono hs.size)
 clear hp hs HA1 HK1 HAw1 HB KHB
 go_wp2_with fail
 refine (HO.out _ HA2.out.pin).mono ?_
 rintro e W4 ⟨rfl, hp, hs⟩
 rw [KHO.out] at hp
 have b5 : Below W4.heap.size W4 (W4.alloc (.cells #[.int .i64 3, .string ⟨#[]⟩, .bool false, .slice none 0 0] 34)) := (Below.refl _ _).alloc (Nat.le_refl _) _
 have HA5 := hid ((HA2.out.call hp hs).below b5)
 have HK5 := hid (heap_below b5 (heap_step hs HK2.out (by omega)))
 have HAw5 := hid (((HAw2.out.mono hs.size).mono b5.size).add (b := W4.heap.size) (by simp))
 have HB5 := hid (heap_alloc_new W4 (.cells #[.int .i64 3, .string ⟨#[]⟩, .bool false, .slice none 0 0] 34))
 have HZ := hid (show pb < W4.heap.size ∧ w.heap.size < W4.heap.size from ⟨(HAw2.out.mono hs.size).lt pb (by simp [HX.out.mem]), (HAw2.out.mono hs.size).lt w.heap.size (by simp)⟩)
 have hz1 := HZ.out.1
 have hz2 := HZ.out.2
 clear hp hs b5 HA2 HK2 HAw2 HO KHO
 go_wp2_with fail
 refine (HP.out _ _ HAw5.out HA5.out.pin).mono ?_
 rintro e V ⟨T, rfl, hin, her, hp, hs⟩
 obtain ⟨k, nm, m, p, l, c, kids, rfl⟩ := ty_open hin
 rw [Ty.val_mk]
 have hz3 : W4.heap.size < V.heap.size := by have := hs.size; simp at this; omega
 have hb4 := heap_step hs HB5.out (by omega)
 obtain ⟨_, _, _, q3⟩ := cells4 hb4
 have b3 : Below V.heap.size V (V.alloc (.cells #[.int .i64 k, .string nm, .bool m, .slice p l c] 34)) := (Below.refl _ V).alloc (Nat.le_refl _) _
 have b4 : Below V.heap.size V ((V.alloc (.cells #[.int .i64 k, .string nm, .bool m, .slice p l c] 34)).alloc (.cells #[.int .i64 k, .string nm, .bool m, .slice p l c] 34)) := b3.alloc (by simp) _
 have HA6 := hid ((HA5.out.call hp hs).below b4)
 have HK6 := hid (heap_below b4 (heap_step hs HK5.out (by omega)))
 have HB6 := hid (heap_below b4 hb4)
 have HC6 := hid (alloc2 V (.cells #[.int .i64 k, .string nm, .bool m, .slice p l c] 34) (.cells #[.int .i64 k, .string nm, .bool m, .slice p l c] 34)).1
 have HD6 := hid (show ((V.alloc (.cells #[.int .i64 k, .string nm, .bool m, .slice p l c] 34)).alloc (.cells #[.int .i64 k, .string nm, .bool m, .slice p l c] 34)).heap[V.heap.size + 1]? = some (.cells (tyK.cells (.mk k nm m (.slice p l c) kids)).toArray tyK.type (0, 0)) from (alloc2 V (.cells #[.int .i64 k, .string nm, .bool m, .slice p l c] 34) (.cells #[.int .i64 k, .string nm, .bool m, .slice p l c] 34)).2)
 have HT6 := hid (show tyK.InP (hushL (blk (.slice none 0 0) ++ (V.heap.size :: W4.heap.size :: w.heap.size :: X)) ((V.alloc (.cells #[.int .i64 k, .string nm, .bool m, .slice p l c] 34)).alloc (.cells #[.int .i64 k, .string nm, .bool m, .slice p l c] 34))) (.mk k nm m (.slice p l c) kids) from Ty.In.keep ((keepsL_add V (Nat.le_refl _)).trans (keepsL_below b4)) _ hin)
 have HL6 := hid (ListIn.nil tyK (V.heap.size + 1) ((V.alloc (.cells #[.int .i64 k, .string nm, .bool m, .slice p l c] 34)).alloc (.cells #[.int .i64 k, .string nm, .bool m, .slice p l c] 34)) (V.heap.size :: W4.heap.size :: w.heap.size :: X))
 have HO6 := hid (show ∀ u ∈ tyK.cells (.mk k nm m (.slice p l c) kids), u.oneCell' = true from ty_all k nm m p l c)
 have HS6 := hid (show V.heap.size + 1 ≤ ((V.alloc (.cells #[.int .i64 k, .string nm, .bool m, .slice p l c] 34)).alloc (.cells #[.int .i64 k, .string nm, .bool m, .slice p l c] 34)).heap.size by simp)
 have HY := hid (show ∀ b ∈ V.heap.size :: W4.heap.size :: w.heap.size :: X, b < V.heap.size + 1 from fun b hb => by
  simp only [List.mem_cons] at hb
  rcases hb with h | h | h | h
  ·omega
  ·omega
  ·omega
  ·have := HX.out.lt b h; omega)
 have HE := hid her
 clear hin her hp hs b3 b4 HP HA5 HK5 HAw5 HB5 hb4
 go_wp2_with (first | (at_builtin; refine wpList_append_kd tyOk rfl _ _ rfl (V.heap.size + 1) _ [] rfl HL6.out (V.heap.size + 1) (.mk k nm m (.slice p l c) kids) rfl HD6.out HT6.out HO6.out (by simp) HS6.out ?_))
 intro vv W7 hl7 hg7
 obtain ⟨p7, n7, c7, rfl⟩ := hl7.slice
 have HA7a := HA6.out.grown (fun g e => by have := (HL6.out.lt g e).1; omega) hg7
 have hk7 := (hg7.block w.heap.size (heap_lt HK6.out) (fun e => by have := (HL6.out.lt _ e.symm).1; omega)).trans HK6.out
 have hb7 := (hg7.block W4.heap.size (heap_lt HB6.out) (fun e => by have := (HL6.out.lt _ e.symm).1; omega)).trans HB6.out
 have hc7 := (hg7.block V.heap.size (heap_lt HC6.out) (fun e => by have := (HL6.out.lt _ e.symm).1; omega)).trans HC6.out
 obtain ⟨_, _, _, q7⟩ := cells4 hb7
 have f7 := frozen_of hb7 3
 have HA7 := hid (HA7a.cell (b := W4.heap.size) (by omega) 3 (.slice p7 n7 c7))
 have HK7 := hid ((Below.heap_setCell W7 ⟨W4.heap.size, 3, none⟩ (.slice p7 n7 c7) w.heap.size (by show w.heap.size ≠ W4.heap.size; omega)).trans hk7)
 have HC7 := hid ((Below.heap_setCell W7 ⟨W4.heap.size, 3, none⟩ (.slice p7 n7 c7) V.heap.size (by show V.heap.size ≠ W4.heap.size; omega)).trans hc7)
 have HB7 := hid (show (W7.setCell ⟨W4.heap.size, 3, none⟩ (.slice p7 n7 c7)).heap[W4.heap.size]? = some (.cells #[.int .i64 3, .string ⟨#[]⟩, .bool false, (.slice p7 n7 c7)] 34 (0, 0)) from heap_setCell_same W7 W4.heap.size 3 _ _ (.slice p7 n7 c7) hb7)
 have HL7 := hid (hl7.cell (b := W4.heap.size) (by simp) HY.out 3 (.slice p7 n7 c7))
 clear HA7a hk7 hb7 hc7 hl7 hg7 HA6 HK6 HB6 HC6 HD6 HT6 HL6 HO6 HS6
 go_wp2_with fail
 refine (HMC.out _ HA7.out.pin).mono ?_
 rintro e W8 ⟨rfl, hp, hs⟩
 have HA8 := hid (HA7.out.call hp hs)
 have HK8 := hid (heap_step hs HK7.out (by omega))
 have HB8 := hid (heap_step hs HB7.out (by omega))
 have HC8 := hid (heap_step hs HC7.out (by omega))
 have HL8 := hid (HL7.out.step hs (by simp [HX.out.mem]) HY.out)
 clear hp hs HA7 HK7 HB7 HC7 HL7 HMC
 have HAw8 := hid (away_list HL8.out HY.out HX.out.mem (by have := heap_lt HC8.out; omega))
 go_wp2_with fail
 refine (HP2.out _ _ HAw8.out HA8.out.pin).mono ?_
 rintro e V2 ⟨T2, rfl, hin, her, hp, hs⟩
 obtain ⟨k', nm', m', p', l', c', kids', rfl⟩ := ty_open hin
 rw [Ty.val_mk]
 have HU := hid (heap_step hs HC8.out (by omega))
 obtain ⟨V3, hV3⟩ : ∃ V3, V2.setRow V.heap.size #[.int .i64 k', .string nm', .bool m', .slice p' l' c'] = V3 := ⟨_, rfl⟩
 have hh5 : V3.heap[V.heap.size]? = some (.cells #[.int .i64 k', .string nm', .bool m', .slice p' l' c'] 34 (0, 0)) := by rw [← hV3]; exact setRow_heap _ _ _ _ _ _ HU.out
 have hh4 : V3.heap[W4.heap.size]? = some (.cells #[.int .i64 3, .string ⟨#[]⟩, .bool false, (.slice p7 n7 c7)] 34 (0, 0)) := by rw [← hV3]; exact (setRow_other _ _ _ _ (by omega)).trans (heap_step hs HB8.out (by omega))
 have hh2 : V3.heap[w.heap.size]? = some (.cells tyZ 34 (0, 0)) := by rw [← hV3]; exact (setRow_other _ _ _ _ (by omega)).trans (heap_step hs HK8.out (by omega))
 have hhA : At w pb lv ts s V3 sc := by rw [← hV3]; exact (HA8.out.call hp hs).row (b := V.heap.size) (by omega) _
 have hhL : ListIn tyK (V.heap.size + 1) V3 (V.heap.size :: W4.heap.size :: w.heap.size :: X) (.slice p7 n7 c7) [.mk k nm m (.slice p l c) kids] := by rw [← hV3]; exact (HL8.out.step hs (by simp [HX.out.mem]) HY.out).row (b := V.heap.size) (by simp) HY.out _
 have hhT : (Ty.mk k' nm' m' (.slice p' l' c') kids').In (hushL (blk (.slice p7 n7 c7) ++ (V.heap.size :: W4.heap.size :: w.heap.size :: X)) V3) := by rw [← hV3]; exact Ty.In.keep (keepsL_row _ (by simp) _) _ hin
 obtain ⟨u0, u1, u2, u3⟩ := cells4 hh5
 obtain ⟨_, _, _, y3⟩ := cells4 hh4
 have bz : Below V3.heap.size V3 (V3.alloc (.cells #[.int .i64 k', .string nm', .bool m', .slice p' l' c'] 34)) := (Below.refl _ _).alloc (Nat.le_refl _) _
 have HA6 := hid (hhA.below bz)
 have HK6 := hid (heap_below bz hh2)
 have HB6 := hid (heap_below bz hh4)
 have HC6 := hid (heap_below bz hh5)
 have HD6 := hid (show (V3.alloc (.cells #[.int .i64 k', .string nm', .bool m', .slice p' l' c'] 34)).heap[V3.heap.size]? = some (.cells (tyK.cells (.mk k' nm' m' (.slice p' l' c') kids')).toArray tyK.type (0, 0)) from heap_alloc_new _ _)
 have HT6 := hid (show tyK.InP (hushL (blk (.slice p7 n7 c7) ++ (V.heap.size :: W4.heap.size :: w.heap.size :: X)) (V3.alloc (.cells #[.int .i64 k', .string nm', .bool m', .slice p' l' c'] 34))) (.mk k' nm' m' (.slice p' l' c') kids') from Ty.In.keep (keepsL_below bz) _ hhT)
 have HL6 := hid (hhL.below bz HY.out)
 have HO6 := hid (show ∀ u ∈ tyK.cells (.mk k' nm' m' (.slice p' l' c') kids'), u.oneCell' = true from ty_all k' nm' m' p' l' c')
 have HS6 := hid (show V.heap.size + 1 ≤ (V3.alloc (.cells #[.int .i64 k', .string nm', .bool m', .slice p' l' c'] 34)).heap.size by have := heap_lt hh5; simp; omega)
 have HE2 := hid her
 clear hin her hp hs HA8 HK8 HB8 HC8 HL8 HAw8 hh5 hh4 hh2 hhA hhL hhT bz q3
 go_wp2_with (first | (refine wpList_store_row (o := ⟨none, _, _, _, _, _⟩) rfl _ _ _ rfl V.heap.size #[.int .i64 k', .string nm', .bool m', .slice p' l' c'] rfl rfl _ _ HU.out ty_sz rfl (ty_one _ _ _ _ _ _) ?_; rw [hV3]) | (at_builtin; refine wpList_append_kd tyOk rfl _ _ rfl (V.heap.size + 1) _ [.mk k nm m (.slice p l c) kids] rfl HL6.out V3.heap.size (.mk k' nm' m' (.slice p' l' c') kids') rfl HD6.out HT6.out HO6.out (by simp) HS6.out ?_))
 intro vv W9 hl9 hg9
 obtain ⟨p9, n9, c9, rfl⟩ := hl9.slice
 have HA7a := HA6.out.grown (fun g e => by have := (HL6.out.lt g e).1; omega) hg9
 have hk7 := (hg9.block w.heap.size (heap_lt HK6.out) (fun e => by have := (HL6.out.lt _ e.symm).1; omega)).trans HK6.out
 have hb7 := (hg9.block W4.heap.size (heap_lt HB6.out) (fun e => by have := (HL6.out.lt _ e.symm).1; omega)).trans HB6.out
 have hc7 := (hg9.block V.heap.size (heap_lt HC6.out) (fun e => by have := (HL6.out.lt _ e.symm).1; omega)).trans HC6.out
 obtain ⟨_, _, _, q7⟩ := cells4 hb7
 have f7 := frozen_of hb7 3
 have HA7 := hid (HA7a.cell (b := W4.heap.size) (by omega) 3 (.slice p9 n9 c9))
 have HK7 := hid ((Below.heap_setCell W9 ⟨W4.heap.size, 3, none⟩ (.slice p9 n9 c9) w.heap.size (by show w.heap.size ≠ W4.heap.size; omega)).trans hk7)
 have HC7 := hid ((Below.heap_setCell W9 ⟨W4.heap.size, 3, none⟩ (.slice p9 n9 c9) V.heap.size (by show V.heap.size ≠ W4.heap.size; omega)).trans hc7)
 have HB7 := hid (show (W9.setCell ⟨W4.heap.size, 3, none⟩ (.slice p9 n9 c9)).heap[W4.heap.size]? = some (.cells #[.int .i64 3, .string ⟨#[]⟩, .bool false, (.slice p9 n9 c9)] 34 (0, 0)) from heap_setCell_same W9 W4.heap.size 3 _ _ (.slice p9 n9 c9) hb7)
 have HL7 := hid (hl9.cell (b := W4.heap.size) (by simp) HY.out 3 (.slice p9 n9 c9))
 clear HA7a hk7 hb7 hc7 hl9 hg9 HA6 HK6 HB6 HC6 HD6 HT6 HL6 HO6 HS6
 have HA9 := HA7
 have HK9 := HK7
 have HB9 := HB7
 have HC9 := HC7
 have HL9 := HL7
 go_wp2_with fail

 go_loopg [] N (fun gf wx => ∃ (li : List Ty) (sx : S) (v : Value) (c5 : Array Value), sx.rest.length ≤ gf ∧ li.length + sx.rest.length ≤ N + 1 ∧ Hid (sx.wr = true ∨ sx.rest.length < L) ∧ Hid (R = (.mk 3 [] false (li.map erT ++ (moreS f gf sx).1), mustS mShut (moreS f gf sx).2)) ∧ Hid (ListIn tyK (V.heap.size + 1) wx (V.heap.size :: W4.heap.size :: w.heap.size :: X) v li) ∧ Hid (At w pb lv ts s wx sx) ∧ Hid (wx.heap[w.heap.size]? = some (.cells tyZ 34 (0, 0))) ∧ Hid (wx.heap[W4.heap.size]? = some (.cells #[.int .i64 3, .string ⟨#[]⟩, .bool false, v] 34 (0, 0))) ∧ Hid (c5.size = 4) ∧ Hid (wx.heap[V.heap.size]? = some (.cells c5 34 (0, 0))))
 case atStart => exact ⟨_, sc, _, _, by omega, by simp; omega, hid (.inr hlc), hid (by rw [← HR.out]; simp [HE.out, HE2.out]), HL9, HA9, HK9, HB9, hid rfl, HC9⟩
 case round =>
  clear HL9 HA9 HK9 HB9 HC9 HE HE2 HR
  obtain ⟨li, sx, v, c5, hlen, hcount, HLt, HPP, HLI, HAx, HKx, HBx, H5, HCx⟩ := hrel
  obtain ⟨pv, nv, cv, rfl⟩ := HLI.out.slice
  have HSk := hid (skip_any _ pb lv ts sx mComma (by decide) HAx.out.pin hTf)
  cases hna : nextB sx mComma with
  | false =>
   rw [hna] at HSk
   have KSk := hid (show skipS mComma sx = sx by unfold skipS; rw [hna]; rfl)
   have hr := HPP.out
   rw [more_end _ _ _ hna, List.append_nil] at hr
   have HR2 := hid hr
   have HMS := hid (fun W hp => must_any W pb lv ts sx mShut (by decide) hp hTf)
   clear hna hr HPP HG
   go_wp2_with fail
   refine HSk.out.mono ?_
   rintro e W10 ⟨rfl, hp, hs⟩
   rw [KSk.out] at hp
   have HA10 := hid (HAx.out.call hp hs)
   have HK10 := hid (heap_step hs HKx.out (by omega))
   have HB10 := hid (heap_step hs HBx.out (by omega))
   have HL10 := hid (HLI.out.step hs (by simp [HX.out.mem]) HY.out)
   clear hp hs HSk HAx HKx HBx HCx HLI
   go_wp2_with fail
   refine (HMS.out _ HA10.out.pin).mono ?_
   rintro e W11 ⟨rfl, hp, hs⟩
   have HA11 := hid (HA10.out.call hp hs)
   have HK11 := hid (heap_step hs HK10.out (by omega))
   have hb11 := heap_step hs HB10.out (by omega)
   have HL11 := hid (HL10.out.step hs (by simp [HX.out.mem]) HY.out)
   obtain ⟨q0, q1, q2, q3'⟩ := cells4 hb11
   clear hp hs HA10 HK10 HB10 HL10 HMS hb11
   go_wp2_with (first | (refine wpList_store_row (o := ⟨none, _, _, _, _, _⟩) rfl _ _ _ rfl w.heap.size #[.int .i64 3, .string ⟨#[]⟩, .bool false, .slice pv nv cv] rfl rfl _ _ HK11.out ty_sz rfl (ty_one _ _ _ _ _ _) ?_))
   have hr := HR2.out
   subst hr
   obtain ⟨hl1, hl2⟩ := HL11.out.lies HY.out
   have ks : Keeps (hushL (V.heap.size :: W4.heap.size :: w.heap.size :: X) W11) (hushL (w.heap.size :: X) W11) := keepsL_sub _ fun b hb => List.mem_cons_of_mem _ (List.mem_cons_of_mem _ hb)
   refine bodyPost_ret (results_cell_row rfl _ _ w.heap.size _ #[.int .i64 3, .string ⟨#[]⟩, .bool false, .slice pv nv cv] _ _ rfl (setRow_heap _ _ _ _ _ _ HK11.out) Tryz.underlying34 rfl ty_sz) ?_ (by have h := retT_row (X := X) HA11.out (.mk 3 ⟨#[]⟩ false (.slice pv nv cv) li) (by rw [Ty.In]; exact ⟨hl1.keep ks, (Ty.ins_iff _ _).2 (fun a ha => Ty.In.keep ks _ (hl2 a ha))⟩) (by rw [erT, erTs_map] <;> rfl) #[.int .i64 3, .string ⟨#[]⟩, .bool false, .slice pv nv cv]; exact h)
   rfl
  | true =>
   rw [hna] at HSk
   have KSk := hid (show skipS mComma sx = sx.pass by unfold skipS; rw [hna]; rfl)
   have nextwr : sx.wr = false := (next_some hna (by decide)).1
   obtain ⟨g2, hg2, hpt, hl2, hl3⟩ := more_step f gk sx hna hlen
   have hr := HPP.out
   rw [hpt] at hr
   have HR2 := hid hr
   have hlt3 : sx.pass.rest.length < L := by have h := HLt.out.resolve_left (by simp [nextwr]); omega
   have HP2 := hid (fun W X1 a b => HG.out W sx.pass X1 a b (by omega) (.inr hlt3))
   have hf3 := hf sx.pass
   have HCnt := hid hcount
   clear hna hr hpt HPP
   go_wp2_with fail
   refine HSk.out.mono ?_
   rintro e W8 ⟨rfl, hp, hs⟩
   rw [KSk.out] at hp
   have HA8 := hid (HAx.out.call hp hs)
   have HK8 := hid (heap_step hs HKx.out (by omega))
   have HB8 := hid (heap_step hs HBx.out (by omega))
   have HC8 := hid (heap_step hs HCx.out (by omega))
   have HL8 := hid (HLI.out.step hs (by simp [HX.out.mem]) HY.out)
   clear hp hs HSk HAx HKx HBx HCx HLI
   have HAw8 := hid (away_list HL8.out HY.out HX.out.mem (by have := heap_lt HC8.out; omega))
   go_wp2_with fail
   refine (HP2.out _ _ HAw8.out HA8.out.pin).mono ?_
   rintro e V2 ⟨T2, rfl, hin, her, hp, hs⟩
   obtain ⟨k', nm', m', p', l', c', kids', rfl⟩ := ty_open hin
   rw [Ty.val_mk]
   have HU := hid (heap_step hs HC8.out (by omega))
   obtain ⟨V3, hV3⟩ : ∃ V3, V2.setRow V.heap.size #[.int .i64 k', .string nm', .bool m', .slice p' l' c'] = V3 := ⟨_, rfl⟩
   have hh5 : V3.heap[V.heap.size]? = some (.cells #[.int .i64 k', .string nm', .bool m', .slice p' l' c'] 34 (0, 0)) := by rw [← hV3]; exact setRow_heap _ _ _ _ _ _ HU.out
   have hh4 : V3.heap[W4.heap.size]? = some (.cells #[.int .i64 3, .string ⟨#[]⟩, .bool false, (.slice pv nv cv)] 34 (0, 0)) := by rw [← hV3]; exact (setRow_other _ _ _ _ (by omega)).trans (heap_step hs HB8.out (by omega))
   have hh2 : V3.heap[w.heap.size]? = some (.cells tyZ 34 (0, 0)) := by rw [← hV3]; exact (setRow_other _ _ _ _ (by omega)).trans (heap_step hs HK8.out (by omega))
   have hhA : At w pb lv ts s V3 (f sx.pass).2 := by rw [← hV3]; exact (HA8.out.call hp hs).row (b := V.heap.size) (by omega) _
   have hhL : ListIn tyK (V.heap.size + 1) V3 (V.heap.size :: W4.heap.size :: w.heap.size :: X) (.slice pv nv cv) li := by rw [← hV3]; exact (HL8.out.step hs (by simp [HX.out.mem]) HY.out).row (b := V.heap.size) (by simp) HY.out _
   have hhT : (Ty.mk k' nm' m' (.slice p' l' c') kids').In (hushL (blk (.slice pv nv cv) ++ (V.heap.size :: W4.heap.size :: w.heap.size :: X)) V3) := by rw [← hV3]; exact Ty.In.keep (keepsL_row _ (by simp) _) _ hin
   obtain ⟨u0, u1, u2, u3⟩ := cells4 hh5
   obtain ⟨_, _, _, y3⟩ := cells4 hh4
   have bz : Below V3.heap.size V3 (V3.alloc (.cells #[.int .i64 k', .string nm', .bool m', .slice p' l' c'] 34)) := (Below.refl _ _).alloc (Nat.le_refl _) _
   have HA6 := hid (hhA.below bz)
   have HK6 := hid (heap_below bz hh2)
   have HB6 := hid (heap_below bz hh4)
   have HC6 := hid (heap_below bz hh5)
   have HD6 := hid (show (V3.alloc (.cells #[.int .i64 k', .string nm', .bool m', .slice p' l' c'] 34)).heap[V3.heap.size]? = some (.cells (tyK.cells (.mk k' nm' m' (.slice p' l' c') kids')).toArray tyK.type (0, 0)) from heap_alloc_new _ _)
   have HT6 := hid (show tyK.InP (hushL (blk (.slice pv nv cv) ++ (V.heap.size :: W4.heap.size :: w.heap.size :: X)) (V3.alloc (.cells #[.int .i64 k', .string nm', .bool m', .slice p' l' c'] 34))) (.mk k' nm' m' (.slice p' l' c') kids') from Ty.In.keep (keepsL_below bz) _ hhT)
   have HL6 := hid (hhL.below bz HY.out)
   have HO6 := hid (show ∀ u ∈ tyK.cells (.mk k' nm' m' (.slice p' l' c') kids'), u.oneCell' = true from ty_all k' nm' m' p' l' c')
   have HS6 := hid (show V.heap.size + 1 ≤ (V3.alloc (.cells #[.int .i64 k', .string nm', .bool m', .slice p' l' c'] 34)).heap.size by have := heap_lt hh5; simp; omega)
   have HE2 := hid her
   clear hin her hp hs HA8 HK8 HB8 HC8 HL8 HAw8 hh5 hh4 hh2 hhA hhL hhT bz
   go_wp2_with (first | (refine wpList_store_row (o := ⟨none, _, _, _, _, _⟩) rfl _ _ _ rfl V.heap.size #[.int .i64 k', .string nm', .bool m', .slice p' l' c'] rfl rfl _ _ HU.out ty_sz (by rw [H5.out]; rfl) (ty_one _ _ _ _ _ _) ?_; rw [hV3]) | (at_builtin; refine wpList_append_kd tyOk rfl _ _ rfl (V.heap.size + 1) _ li rfl HL6.out V3.heap.size (.mk k' nm' m' (.slice p' l' c') kids') rfl HD6.out HT6.out HO6.out (by omega) HS6.out ?_))
   intro vv W9 hl9 hg9
   obtain ⟨p9, n9, c9, rfl⟩ := hl9.slice
   have HA7a := HA6.out.grown (fun g e => by have := (HL6.out.lt g e).1; omega) hg9
   have hk7 := (hg9.block w.heap.size (heap_lt HK6.out) (fun e => by have := (HL6.out.lt _ e.symm).1; omega)).trans HK6.out
   have hb7 := (hg9.block W4.heap.size (heap_lt HB6.out) (fun e => by have := (HL6.out.lt _ e.symm).1; omega)).trans HB6.out
   have hc7 := (hg9.block V.heap.size (heap_lt HC6.out) (fun e => by have := (HL6.out.lt _ e.symm).1; omega)).trans HC6.out
   obtain ⟨_, _, _, q7⟩ := cells4 hb7
   have f7 := frozen_of hb7 3
   have HA7 := hid (HA7a.cell (b := W4.heap.size) (by omega) 3 (.slice p9 n9 c9))
   have HK7 := hid ((Below.heap_setCell W9 ⟨W4.heap.size, 3, none⟩ (.slice p9 n9 c9) w.heap.size (by show w.heap.size ≠ W4.heap.size; omega)).trans hk7)
   have HC7 := hid ((Below.heap_setCell W9 ⟨W4.heap.size, 3, none⟩ (.slice p9 n9 c9) V.heap.size (by show V.heap.size ≠ W4.heap.size; omega)).trans hc7)
   have HB7 := hid (show (W9.setCell ⟨W4.heap.size, 3, none⟩ (.slice p9 n9 c9)).heap[W4.heap.size]? = some (.cells #[.int .i64 3, .string ⟨#[]⟩, .bool false, (.slice p9 n9 c9)] 34 (0, 0)) from heap_setCell_same W9 W4.heap.size 3 _ _ (.slice p9 n9 c9) hb7)
   have HL7 := hid (hl9.cell (b := W4.heap.size) (by simp) HY.out 3 (.slice p9 n9 c9))
   clear HA7a hk7 hb7 hc7 hl9 hg9 HA6 HK6 HB6 HC6 HD6 HT6 HL6 HO6 HS6
   have HA9 := HA7
   have HK9 := HK7
   have HB9 := HB7
   have HC9 := HC7
   have HL9 := HL7
   go_wp2_with fail
   go_roundg (gk - 1)
   case measure => omega
   case rel =>
    refine ⟨li ++ [.mk k' nm' m' (.slice p' l' c') kids'], (f sx.pass).2, _, _, by omega, by have := HCnt.out; simp; omega, hid (.inr (by omega)), hid ?_, HL9, HA9, HK9, HB9, hid rfl, HC9⟩
    have hr := HR2.out
    rw [hg2, Nat.add_sub_cancel, List.map_append, List.append_assoc, List.map_cons, List.map_nil, HE2.out]
    simpa using hr

theorem kind_wr (N n : Nat) (s : S) (h : s.wr = true) : kindS N n s = (tNone, s) := by
 cases n with
 | zero => rfl
 | succ n => rw [kindS, if_pos h]
theorem good_kind (pb : Nat) (lv : Value) (ts : List Tok) (N : Nat) (hN20 : N ≤ 1048576) (hT : ToksOk ts) : ∀ n : Nat, GoodT pb lv ts N n (kindS N n) := by
 intro n
 induction n with
 | zero =>
  intro w s X hA h hN hL
  rcases hL with hw | hL
  ·exact kind_bad pb lv ts w s X hA h hw
  ·omega
 | succ n ih =>
  intro w s X hA h hN hL
  cases hw : s.wr with
  | true => rw [kind_wr N (n + 1) s hw]; exact kind_bad pb lv ts w s X hA h hw
  | false =>
   have hlt : s.rest.length < n + 1 := hL.resolve_left (by simp [hw])
   cases h1 : nextB s kInt with
   | true =>
    rw [show kindS N (n + 1) s = (.mk 1 [] false [], s.pass) by rw [kindS, if_neg (by simp [hw]), if_pos h1]]
    exact kind_int pb lv ts hT w s X hA h hw h1
   | false =>
    cases h2 : nextB s kBox with
    | true =>
     obtain ⟨hp, _⟩ := next_pass h2 (by decide)
     rw [show kindS N (n + 1) s = (.mk 2 [] false [(kindS N n s.pass).1], (kindS N n s.pass).2) by rw [kindS, if_neg (by simp [hw]), if_neg (by simp [h1]), if_pos h2]]
     exact kind_box pb lv ts hT w s X hA h hw h1 h2 _ fun W X1 a b => ih W s.pass X1 a b (by omega) (.inr (by omega))
    | false =>
     cases h3 : nextB s mOpen with
     | true =>
      rw [show kindS N (n + 1) s = (.mk 3 [] false ((kindS N n s.pass).1 :: (kindS N n (mustS mComma (kindS N n s.pass).2)).1 :: (moreS (kindS N n) N (kindS N n (mustS mComma (kindS N n s.pass).2)).2).1), mustS mShut (moreS (kindS N n) N (kindS N n (mustS mComma (kindS N n s.pass).2)).2).2) by rw [kindS, if_neg (by simp [hw]), if_neg (by simp [h1]), if_neg (by simp [h2]), if_pos h3]]
      exact kind_tuple pb lv ts N n hN20 hT (kindS N n) (kind_le N n) (fun s hs => by rw [kind_wr N n s hs]; exact hs) ih w s X hA h hN hw (by omega) h1 h2 h3
     | false =>
      have ha := must_le mAnd s
      have hb := life_le (mustS mAnd s)
      have hc := skip_le kMut (lifeS (mustS mAnd s)).2
      rw [show kindS N (n + 1) s = (.mk 4 (lifeS (mustS mAnd s)).1 (nextB (lifeS (mustS mAnd s)).2 kMut) [(kindS N n (skipS kMut (lifeS (mustS mAnd s)).2)).1], (kindS N n (skipS kMut (lifeS (mustS mAnd s)).2)).2) by rw [kindS, if_neg (by simp [hw]), if_neg (by simp [h1]), if_neg (by simp [h2]), if_neg (by simp [h3])]]
      refine kind_ref pb lv ts hT w s X hA h hw h1 h2 h3 _ fun W X1 a b => ih W _ X1 a b (by omega) ?_
      cases hm : nextB s mAnd with
      | true =>
       obtain ⟨hp, _⟩ := next_pass hm (by decide)
       have e : mustS mAnd s = s.pass := by unfold mustS; rw [hm]; rfl
       rw [e] at hb hc ⊢
       exact .inr (by omega)
      | false =>
       have e : mustS mAnd s = s.bad := by unfold mustS; rw [hm]; rfl
       rw [e]
       left
       have e2 : lifeS s.bad = ([], s.bad.bad) := by unfold lifeS lifeOk; rw [if_neg (by simp [S.bad])]
       rw [e2]
       have e3 : skipS kMut s.bad.bad = s.bad.bad := by unfold skipS; rw [if_neg (by simp [nextB, S.bad])]
       rw [e3]
       rfl
/-- THE CONTRACT of a type -/
theorem good_ty (pb : Nat) (lv : Value) (ts : List Tok) (N : Nat) (hN20 : N ≤ 1048576) (hT : ToksOk ts) (w : World) (s : S) (X : List Nat) (hA : Away w pb X) (h : PIn w pb lv ts s) (hN : s.rest.length ≤ N) :
  Calls Tryz.prog 84 #[.pointer (some ⟨pb, 0, none⟩)] w (RetT w pb lv ts X (tyS N s)) :=
 good_kind pb lv ts N hN20 hT (N + 1) w s X hA h hN (.inr (by omega))
/- The document's own parser: an expression out of the smallest ones; what is wrong stays so. -/

theorem next_wr {s : S} (h : s.wr = true) (x : List UInt8) : nextB s x = false := by simp [nextB, h]
theorem one_wr (N n : Nat) (s : S) (h : s.wr = true) : oneS N n s = (eNone, s) := by
 cases n with
 | zero => rfl
 | succ n => rw [oneS, if_pos h]
theorem product_wr {f : S → PE × S} (hf : ∀ s, s.wr = true → (f s).2.wr = true) (N : Nat) (s : S) (h : s.wr = true) : (productS f N s).2.wr = true := by
 unfold productS
 rw [ops_wr _ _ _ _ _ _ (hf s h)]
 exact hf s h
theorem sum_wr {f : S → PE × S} (hf : ∀ s, s.wr = true → (f s).2.wr = true) (N : Nat) (s : S) (h : s.wr = true) : (sumS f N s).2.wr = true := by
 unfold sumS
 have := product_wr hf N s h
 rw [ops_wr _ _ _ _ _ _ this]
 exact this
theorem expr_wr {f : S → PE × S} (hf : ∀ s, s.wr = true → (f s).2.wr = true) (N : Nat) (s : S) (h : s.wr = true) : (exprS f N s).2.wr = true := by
 have := sum_wr hf N s h
 unfold exprS
 simp only
 rw [next_wr this, next_wr this, if_neg (by simp)]
 exact this
theorem one_wr2 (N n : Nat) (s : S) (h : s.wr = true) : (oneS N n s).2.wr = true := by rw [one_wr N n s h]; exact h
/-- an expression, of a reader of the smallest ones -/
theorem good_expr {pb : Nat} {lv : Value} {ts : List Tok} {N L : Nat} (hT : ToksOk ts) {f : S → PE × S} (hf : ∀ s, (f s).2.rest.length ≤ s.rest.length) (hwr : ∀ s, s.wr = true → (f s).2.wr = true) (hg : Good pb lv ts N L 146 f) :
  Good pb lv ts N L 86 (exprS f N) := by
 have h1 := product_any pb lv ts N L hT f hf hwr hg
 have h2 := sum_any pb lv ts N L hT (productS f N) (product_le hf N) (product_wr hwr N) h1
 exact expr_any pb lv ts N L hT (sumS f N) (sum_le hf N) (sum_wr hwr N) h2
theorem good_exprs {pb : Nat} {lv : Value} {ts : List Tok} {N L : Nat} (hN20 : N ≤ 1048576) (hT : ToksOk ts) {f : S → PE × S} (hf : ∀ s, (f s).2.rest.length ≤ s.rest.length) (hwr : ∀ s, s.wr = true → (f s).2.wr = true) (hg : Good pb lv ts N L 146 f)
  (w : World) (s : S) (X : List Nat) (hA : Away w pb X) (h : PIn w pb lv ts s) (hN : s.rest.length ≤ N) (hL : s.wr = true ∨ s.rest.length < L) :
  Calls Tryz.prog 155 #[.pointer (some ⟨pb, 0, none⟩)] w (RetL exK erE w pb lv ts X (rowS (exprS f N) N s)) :=
 exprs_any pb lv ts N L hN20 hT (exprS f N) (expr_le hf N) (expr_wr hwr N) (good_expr hT hf hwr hg) w s X hA h hN hL
end Go.Proofs.YtemflcojebanlaaGreatDoor.ParC

/- Texts joined: ParO, ParQ, ParR. -/
import Derived.Test.YtemflcojebanlaaGreatDoorJ29
import Derived.Test.YtemflcojebanlaaGreatDoorJ02
/- The document's own parser: the smallest expressions. -/
namespace Go.Proofs.YtemflcojebanlaaGreatDoor.ParC
open Go Go.RowKit Go.Lib Go.Sort LexP TreeP LexC TreeC PageC TextC ParP

theorem sb_empty (a : List UInt8) : ((Sb a).toList == []) = a.isEmpty := by
 have := sb_same a []
 rw [show (Sb []).toList = [] from by rw [Lib.toList_data]; rfl] at this
 rw [this]; cases a <;> rfl

set_option maxHeartbeats 8000000 in
set_option maxRecDepth 100000 in
theorem one_bad (pb : Nat) (lv : Value) (ts : List Tok) (w : World) (s : S) (X : List Nat) (hA : Away w pb X) (h : PIn w pb lv ts s) (hw : s.wr = true) :
  Calls Tryz.prog 146 #[.pointer (some ⟨pb, 0, none⟩)] w (RetE w pb lv ts X (eNone, s)) := by
 have b1 : Below w.heap.size w (w.alloc (.cells exZ 40)) := (Below.refl _ w).alloc (Nat.le_refl _) _
 have HA0 := hid ((At.start h).below b1)
 have hpb : pb < w.heap.size := hA.lt pb hA.mem
 obtain ⟨i', _, _, hi4⟩ := h.box
 obtain ⟨_, _, c2⟩ := pin_cells hi4
 rw [hw] at c2
 clear h hA b1 hi4
 go_enter Tryz.func146, Tryz.ntmps146
 go_wp2_with fail
 refine bodyPost_ret (results_cell_row rfl _ _ w.heap.size _ exZ _ _ rfl (heap_alloc_new _ _) Tryz.underlying40 rfl ex_sz) rfl ⟨.mk 0 0 ⟨#[]⟩ false (.slice none 0 0) [], rfl, ex_none _ _ _ _ _ (by decide), rfl, HA0.out.pin, HA0.out.step⟩

/-- where 'one' begins, when nothing is wrong: the facts of its first world -/
structure Begin (pb : Nat) (lv : Value) (ts : List Tok) (w : World) (s : S) (X : List Nat) : Prop where
 at0 : At w pb lv ts s (w.alloc (.cells exZ 40)) s
 key : (w.alloc (.cells exZ 40)).heap[w.heap.size]? = some (.cells exZ 40 (0, 0))
 away : Away (w.alloc (.cells exZ 40)) pb (w.heap.size :: X)
 wr : w.cell? ⟨pb, 2, none⟩ = some (.bool s.wr)
 lt : pb < w.heap.size
theorem begin_of {pb : Nat} {lv : Value} {ts : List Tok} {w : World} {s : S} {X : List Nat} (hA : Away w pb X) (h : PIn w pb lv ts s) : Begin pb lv ts w s X := by
 have b1 : Below w.heap.size w (w.alloc (.cells exZ 40)) := (Below.refl _ w).alloc (Nat.le_refl _) _
 obtain ⟨i', _, _, hi4⟩ := h.box
 obtain ⟨_, _, c2⟩ := pin_cells hi4
 exact ⟨(At.start h).below b1, heap_alloc_new _ _, (hA.mono (by simp)).add (by simp), c2, hA.lt pb hA.mem⟩

set_option maxHeartbeats 8000000 in
set_option maxRecDepth 100000 in
theorem one_num (pb : Nat) (lv : Value) (ts : List Tok) (_N : Nat) (hT : ToksOk ts) (w : World) (s : S) (X : List Nat) (hA : Away w pb X) (h : PIn w pb lv ts s) (hw : s.wr = false) (h2 : (txt 2 s).isEmpty = false) :
  Calls Tryz.prog 146 #[.pointer (some ⟨pb, 0, none⟩)] w (RetE w pb lv ts X (PE.mk 1 (numS 999999999999999999 s).1 [] false [], (numS 999999999999999999 s).2)) := by
 have HBeg := hid (begin_of hA h)
 have HX := hid hA
 have HTx := hid (fun W hp => text_any W pb lv ts s 2 hp hT.few)
 have he := sb_empty (txt 2 s)
 rw [h2] at he
 have HNum := hid (fun W hp => number_any W pb lv ts s 999999999999999999 (by decide) hp hT)
 have HRange := hid (num_range 999999999999999999 (by decide) s)
 generalize numS 999999999999999999 s = r at *
 obtain ⟨vn, s1⟩ := r
 simp only at HRange ⊢
 generalize Sb (txt 2 s) = TX at *
 clear h2
 clear h hA
 obtain ⟨hat, hkey, haw, c2, hpb⟩ := HBeg.out
 rw [hw] at c2
 have HA0 := hid hat
 have HK0 := hid hkey
 have HAw0 := hid haw
 clear hat hkey haw HBeg
 go_enter Tryz.func146, Tryz.ntmps146
 go_wp2_with fail
 refine (HTx.out _ HA0.out.pin).mono ?_
 rintro e W1 ⟨rfl, q, rfl⟩
 have bq := Below.drewN' (w.alloc (.cells exZ 40)) q
 have HA1 := hid (HA0.out.below bq)
 have HK1 := hid (heap_below bq HK0.out)
 have HAw1 := hid (HAw0.out.mono bq.size)
 clear bq HA0 HK0 HAw0 HTx
 go_wp2_with fail
 refine (HNum.out _ HA1.out.pin).mono ?_
 rintro e W2 ⟨rfl, hp, hs⟩
 have HA2 := hid (HA1.out.call hp hs)
 have HK2 := hid (heap_step hs HK1.out (by omega))
 have HAw2 := hid (HAw1.out.mono hs.size)
 clear hp hs HA1 HK1 HAw1 HNum
 go_wp2_with (first | (refine wpList_store_row (o := ⟨none, _, _, _, _, _⟩) rfl _ _ _ rfl w.heap.size #[.int .i64 1, .int .i64 vn, .string ⟨#[]⟩, .bool false, .slice none 0 0] rfl rfl _ _ HK2.out ex_sz rfl (ex_one _ _ _ _ _ _ _) ?_))
 refine bodyPost_ret (results_cell_row rfl _ _ w.heap.size _ #[.int .i64 1, .int .i64 vn, .string ⟨#[]⟩, .bool false, .slice none 0 0] _ _ rfl (setRow_heap _ _ _ _ _ _ HK2.out) Tryz.underlying40 rfl ex_sz) ?_ (by have h := retE_row (X := X) HA2.out (.mk 1 vn ⟨#[]⟩ false (.slice none 0 0) []) (ex_none _ _ _ _ _ HRange.out) (rfl) #[.int .i64 1, .int .i64 vn, .string ⟨#[]⟩, .bool false, .slice none 0 0]; exact h)
 rfl

set_option maxHeartbeats 8000000 in
set_option maxRecDepth 100000 in
theorem one_box (pb : Nat) (lv : Value) (ts : List Tok) (_N : Nat) (hT : ToksOk ts) (w : World) (s : S) (X : List Nat) (hA : Away w pb X) (h : PIn w pb lv ts s) (hw : s.wr = false) (h2 : (txt 2 s).isEmpty = true) (h3 : nextB s kBox = true) (r : PE × S) (hr : ∀ (W : World) (X1 : List Nat), Away W pb X1 → PIn W pb lv ts s.pass → Calls Tryz.prog 146 #[.pointer (some ⟨pb, 0, none⟩)] W (RetE W pb lv ts X1 r)) :
  Calls Tryz.prog 146 #[.pointer (some ⟨pb, 0, none⟩)] w (RetE w pb lv ts X (PE.mk 6 0 [] false [r.1], r.2)) := by
 have HBeg := hid (begin_of hA h)
 have HX := hid hA
 have HTx := hid (fun W hp => text_any W pb lv ts s 2 hp hT.few)
 have he := sb_empty (txt 2 s)
 rw [h2] at he
 have HB := hid (fun W hp => skip_any W pb lv ts s kBox (by decide) hp hT.few)
 rw [h3] at HB
 have KHB := hid (show skipS kBox s = s.pass by unfold skipS; rw [h3]; rfl)
 have HP := hid hr
 obtain ⟨re, rs⟩ := r
 simp only
 generalize s.pass = s1 at *
 generalize Sb (txt 2 s) = TX at *
 clear h2 h3 hr
 clear h hA
 obtain ⟨hat, hkey, haw, c2, hpb⟩ := HBeg.out
 rw [hw] at c2
 have HA0 := hid hat
 have HK0 := hid hkey
 have HAw0 := hid haw
 clear hat hkey haw HBeg
 go_enter Tryz.func146, Tryz.ntmps146
 go_wp2_with fail
 refine (HTx.out _ HA0.out.pin).mono ?_
 rintro e W1 ⟨rfl, q, rfl⟩
 have bq := Below.drewN' (w.alloc (.cells exZ 40)) q
 have HA1 := hid (HA0.out.below bq)
 have HK1 := hid (heap_below bq HK0.out)
 have HAw1 := hid (HAw0.out.mono bq.size)
 clear bq HA0 HK0 HAw0 HTx
 go_wp2_with fail
 refine (HB.out _ HA1.out.pin).mono ?_
 rintro e W2 ⟨rfl, hp, hs⟩
 rw [KHB.out] at hp
 have HA2 := hid (HA1.out.call hp hs)
 have HK2 := hid (heap_step hs HK1.out (by omega))
 have HAw2 := hid (HAw1.out.mono hs.size)
 clear hp hs HA1 HK1 HAw1 HB KHB
 go_wp2_with fail
 refine (HP.out _ _ HAw2.out HA2.out.pin).mono ?_
 rintro e V ⟨T, rfl, hin, her, hp, hs⟩
 obtain ⟨k, n2, nm, m, p, l, c, kids, rfl⟩ := ex_open hin
 rw [Ex.val_mk]
 have HV := hid (HA2.out.call hp hs)
 have HKV := hid (heap_step hs HK2.out (by omega))
 have b3 : Below V.heap.size V (V.alloc (.cells #[.int .i64 k, .int .i64 n2, .string nm, .bool m, .slice p l c] 40)) := (Below.refl _ V).alloc (Nat.le_refl _) _
 have b4 : Below V.heap.size V ((V.alloc (.cells #[.int .i64 k, .int .i64 n2, .string nm, .bool m, .slice p l c] 40)).alloc (.cells #[.int .i64 k, .int .i64 n2, .string nm, .bool m, .slice p l c] 40)) := b3.alloc (by simp) _
 have HKF := hid (heap_below b4 HKV.out)
 have hX3 : (V.alloc (.cells #[.int .i64 k, .int .i64 n2, .string nm, .bool m, .slice p l c] 40)).heap.size ∉ w.heap.size :: X := HAw2.out.not (by have := hs.size; simp; omega)
 have HI := hid (wrapE (K := 6) (nv := 0) (nm2 := ⟨#[]⟩) (m2 := false) hX3 (Ex.In.keep (keepsL_below b3) _ hin) (by decide))
 have HAF := hid (HV.out.below b4)
 have HE := hid her
 clear hin her hp hs b3 b4 HP HV HA2 HKV HK2 HAw2 hX3
 go_wp2_with (first | (refine wpList_store_row (o := ⟨none, _, _, _, _, _⟩) rfl _ _ _ rfl w.heap.size #[.int .i64 6, .int .i64 0, .string ⟨#[]⟩, .bool false, .slice (some ⟨V.heap.size + 1, 0, none⟩) 1 1] rfl rfl _ _ HKF.out ex_sz rfl (ex_one _ _ _ _ _ _ _) ?_))
 refine bodyPost_ret (results_cell_row rfl _ _ w.heap.size _ #[.int .i64 6, .int .i64 0, .string ⟨#[]⟩, .bool false, .slice (some ⟨V.heap.size + 1, 0, none⟩) 1 1] _ _ rfl (setRow_heap _ _ _ _ _ _ HKF.out) Tryz.underlying40 rfl ex_sz) ?_ (by have h := retE_row (X := X) HAF.out (.mk 6 0 ⟨#[]⟩ false (.slice (some ⟨V.heap.size + 1, 0, none⟩) 1 1) [.mk k n2 nm m (.slice p l c) kids]) (by have := HI.out; simpa using this) (er_one _ _ _ _ _ _ _ HE.out) #[.int .i64 6, .int .i64 0, .string ⟨#[]⟩, .bool false, .slice (some ⟨V.heap.size + 1, 0, none⟩) 1 1]; exact h)
 rfl

set_option maxHeartbeats 8000000 in
set_option maxRecDepth 100000 in
theorem one_lend (pb : Nat) (lv : Value) (ts : List Tok) (_N : Nat) (hT : ToksOk ts) (w : World) (s : S) (X : List Nat) (hA : Away w pb X) (h : PIn w pb lv ts s) (hw : s.wr = false) (h2 : (txt 2 s).isEmpty = true) (h3 : nextB s kBox = false) (h4 : nextB s mAnd = true) (r : PE × S) (hr : ∀ (W : World) (X1 : List Nat), Away W pb X1 → PIn W pb lv ts (skipS kMut s.pass) → Calls Tryz.prog 131 #[.pointer (some ⟨pb, 0, none⟩)] W (RetE W pb lv ts X1 r)) :
  Calls Tryz.prog 146 #[.pointer (some ⟨pb, 0, none⟩)] w (RetE w pb lv ts X (PE.mk 5 0 [] (nextB s.pass kMut) [r.1], r.2)) := by
 have HBeg := hid (begin_of hA h)
 have HX := hid hA
 have HTx := hid (fun W hp => text_any W pb lv ts s 2 hp hT.few)
 have he := sb_empty (txt 2 s)
 rw [h2] at he
 have HB := hid (fun W hp => skip_any W pb lv ts s kBox (by decide) hp hT.few)
 rw [h3] at HB
 have KHB := hid (show skipS kBox s = s by unfold skipS; rw [h3]; rfl)
 have HL := hid (fun W hp => skip_any W pb lv ts s mAnd (by decide) hp hT.few)
 rw [h4] at HL
 have KHL := hid (show skipS mAnd s = s.pass by unfold skipS; rw [h4]; rfl)
 have HM := hid (fun W hp => skip_any W pb lv ts s.pass kMut (by decide) hp hT.few)
 have HP := hid hr
 obtain ⟨re, rs⟩ := r
 simp only
 obtain ⟨bm, hbm⟩ : ∃ b, nextB s.pass kMut = b := ⟨_, rfl⟩
 rw [hbm] at HM ⊢
 generalize skipS kMut s.pass = s2 at *
 generalize Sb (txt 2 s) = TX at *
 clear h2 h3 h4 hr hbm
 clear h hA
 obtain ⟨hat, hkey, haw, c2, hpb⟩ := HBeg.out
 rw [hw] at c2
 have HA0 := hid hat
 have HK0 := hid hkey
 have HAw0 := hid haw
 clear hat hkey haw HBeg
 go_enter Tryz.func146, Tryz.ntmps146
 go_wp2_with fail
 refine (HTx.out _ HA0.out.pin).mono ?_
 rintro e W1 ⟨rfl, q, rfl⟩
 have bq := Below.drewN' (w.alloc (.cells exZ 40)) q
 have HA1 := hid (HA0.out.below bq)
 have HK1 := hid (heap_below bq HK0.out)
 have HAw1 := hid (HAw0.out.mono bq.size)
 clear bq HA0 HK0 HAw0 HTx
 go_wp2_with fail
 refine (HB.out _ HA1.out.pin).mono ?_
 rintro e W2 ⟨rfl, hp, hs⟩
 rw [KHB.out] at hp
 have HA2 := hid (HA1.out.call hp hs)
 have HK2 := hid (heap_step hs HK1.out (by omega))
 have HAw2 := hid (HAw1.out.mono hs.size)
 clear hp hs HA1 HK1 HAw1 HB KHB
 go_wp2_with fail
 refine (HL.out _ HA2.out.pin).mono ?_
 rintro e W3 ⟨rfl, hp, hs⟩
 rw [KHL.out] at hp
 have HA3 := hid (HA2.out.call hp hs)
 have HK3 := hid (heap_step hs HK2.out (by omega))
 have HAw3 := hid (HAw2.out.mono hs.size)
 clear hp hs HA2 HK2 HAw2 HL KHL
 go_wp2_with fail
 refine (HM.out _ HA3.out.pin).mono ?_
 rintro e W4 ⟨rfl, hp, hs⟩
 have HA4 := hid (HA3.out.call hp hs)
 have HK4 := hid (heap_step hs HK3.out (by omega))
 have HAw4 := hid (HAw3.out.mono hs.size)
 clear hp hs HA3 HK3 HAw3 HM 
 go_wp2_with fail
 refine (HP.out _ _ HAw4.out HA4.out.pin).mono ?_
 rintro e V ⟨T, rfl, hin, her, hp, hs⟩
 obtain ⟨k, n2, nm, m, p, l, c, kids, rfl⟩ := ex_open hin
 rw [Ex.val_mk]
 have HV := hid (HA4.out.call hp hs)
 have HKV := hid (heap_step hs HK4.out (by omega))
 have b3 : Below V.heap.size V (V.alloc (.cells #[.int .i64 k, .int .i64 n2, .string nm, .bool m, .slice p l c] 40)) := (Below.refl _ V).alloc (Nat.le_refl _) _
 have b4 : Below V.heap.size V ((V.alloc (.cells #[.int .i64 k, .int .i64 n2, .string nm, .bool m, .slice p l c] 40)).alloc (.cells #[.int .i64 k, .int .i64 n2, .string nm, .bool m, .slice p l c] 40)) := b3.alloc (by simp) _
 have HKF := hid (heap_below b4 HKV.out)
 have hX3 : (V.alloc (.cells #[.int .i64 k, .int .i64 n2, .string nm, .bool m, .slice p l c] 40)).heap.size ∉ w.heap.size :: X := HAw4.out.not (by have := hs.size; simp; omega)
 have HI := hid (wrapE (K := 5) (nv := 0) (nm2 := ⟨#[]⟩) (m2 := bm) hX3 (Ex.In.keep (keepsL_below b3) _ hin) (by decide))
 have HAF := hid (HV.out.below b4)
 have HE := hid her
 clear hin her hp hs b3 b4 HP HV HA4 HKV HK4 HAw4 hX3
 go_wp2_with (first | (refine wpList_store_row (o := ⟨none, _, _, _, _, _⟩) rfl _ _ _ rfl w.heap.size #[.int .i64 5, .int .i64 0, .string ⟨#[]⟩, .bool bm, .slice (some ⟨V.heap.size + 1, 0, none⟩) 1 1] rfl rfl _ _ HKF.out ex_sz rfl (ex_one _ _ _ _ _ _ _) ?_))
 refine bodyPost_ret (results_cell_row rfl _ _ w.heap.size _ #[.int .i64 5, .int .i64 0, .string ⟨#[]⟩, .bool bm, .slice (some ⟨V.heap.size + 1, 0, none⟩) 1 1] _ _ rfl (setRow_heap _ _ _ _ _ _ HKF.out) Tryz.underlying40 rfl ex_sz) ?_ (by have h := retE_row (X := X) HAF.out (.mk 5 0 ⟨#[]⟩ bm (.slice (some ⟨V.heap.size + 1, 0, none⟩) 1 1) [.mk k n2 nm m (.slice p l c) kids]) (by have := HI.out; simpa using this) (er_one _ _ _ _ _ _ _ HE.out) #[.int .i64 5, .int .i64 0, .string ⟨#[]⟩, .bool bm, .slice (some ⟨V.heap.size + 1, 0, none⟩) 1 1]; exact h)
 rfl

set_option maxHeartbeats 8000000 in
set_option maxRecDepth 100000 in
theorem one_star (pb : Nat) (lv : Value) (ts : List Tok) (_N : Nat) (hT : ToksOk ts) (w : World) (s : S) (X : List Nat) (hA : Away w pb X) (h : PIn w pb lv ts s) (hw : s.wr = false) (h2 : (txt 2 s).isEmpty = true) (h3 : nextB s kBox = false) (h4 : nextB s mAnd = false) (h5 : nextB s mStar = true) (r : PE × S) (hr : ∀ (W : World) (X1 : List Nat), Away W pb X1 → PIn W pb lv ts s → Calls Tryz.prog 131 #[.pointer (some ⟨pb, 0, none⟩)] W (RetE W pb lv ts X1 r)) :
  Calls Tryz.prog 146 #[.pointer (some ⟨pb, 0, none⟩)] w (RetE w pb lv ts X (r)) := by
 have HBeg := hid (begin_of hA h)
 have HX := hid hA
 have HTx := hid (fun W hp => text_any W pb lv ts s 2 hp hT.few)
 have he := sb_empty (txt 2 s)
 rw [h2] at he
 have HB := hid (fun W hp => skip_any W pb lv ts s kBox (by decide) hp hT.few)
 rw [h3] at HB
 have KHB := hid (show skipS kBox s = s by unfold skipS; rw [h3]; rfl)
 have HL := hid (fun W hp => skip_any W pb lv ts s mAnd (by decide) hp hT.few)
 rw [h4] at HL
 have KHL := hid (show skipS mAnd s = s by unfold skipS; rw [h4]; rfl)
 have HSt := hid (fun W hp => next_any W pb lv ts s mStar hp hT.few)
 rw [h5] at HSt
 have HP := hid hr
 obtain ⟨re, rs⟩ := r
 generalize Sb (txt 2 s) = TX at *
 clear h2 h3 h4 h5 hr
 clear h hA
 obtain ⟨hat, hkey, haw, c2, hpb⟩ := HBeg.out
 rw [hw] at c2
 have HA0 := hid hat
 have HK0 := hid hkey
 have HAw0 := hid haw
 clear hat hkey haw HBeg
 go_enter Tryz.func146, Tryz.ntmps146
 go_wp2_with fail
 refine (HTx.out _ HA0.out.pin).mono ?_
 rintro e W1 ⟨rfl, q, rfl⟩
 have bq := Below.drewN' (w.alloc (.cells exZ 40)) q
 have HA1 := hid (HA0.out.below bq)
 have HK1 := hid (heap_below bq HK0.out)
 have HAw1 := hid (HAw0.out.mono bq.size)
 clear bq HA0 HK0 HAw0 HTx
 go_wp2_with fail
 refine (HB.out _ HA1.out.pin).mono ?_
 rintro e W2 ⟨rfl, hp, hs⟩
 rw [KHB.out] at hp
 have HA2 := hid (HA1.out.call hp hs)
 have HK2 := hid (heap_step hs HK1.out (by omega))
 have HAw2 := hid (HAw1.out.mono hs.size)
 clear hp hs HA1 HK1 HAw1 HB KHB
 go_wp2_with fail
 refine (HL.out _ HA2.out.pin).mono ?_
 rintro e W3 ⟨rfl, hp, hs⟩
 rw [KHL.out] at hp
 have HA3 := hid (HA2.out.call hp hs)
 have HK3 := hid (heap_step hs HK2.out (by omega))
 have HAw3 := hid (HAw2.out.mono hs.size)
 clear hp hs HA2 HK2 HAw2 HL KHL
 go_wp2_with fail
 refine (HSt.out _ HA3.out.pin).mono ?_
 rintro e W4 ⟨rfl, qn, rfl⟩
 have bq := Below.drewN' W3 qn
 have HA4 := hid (HA3.out.below bq)
 have HK4 := hid (heap_below bq HK3.out)
 have HAw4 := hid (HAw3.out.mono bq.size)
 clear bq HA3 HK3 HAw3 HSt
 go_wp2_with fail
 refine (HP.out _ _ HAw4.out HA4.out.pin).mono ?_
 rintro e V ⟨T, rfl, hin, her, hp, hs⟩
 obtain ⟨k, n2, nm, m, p, l, c, kids, rfl⟩ := ex_open hin
 rw [Ex.val_mk]
 have HV := hid (HA4.out.call hp hs)
 have HKV := hid (heap_step hs HK4.out (by omega))
 have HI := hid hin
 have HE := hid her
 clear hin her hp hs HP HA4 HK4 HAw4
 go_wp2_with (first | (refine wpList_store_row (o := ⟨none, _, _, _, _, _⟩) rfl _ _ _ rfl w.heap.size #[.int .i64 k, .int .i64 n2, .string nm, .bool m, .slice p l c] rfl rfl _ _ HKV.out ex_sz rfl (ex_one _ _ _ _ _ _ _) ?_))
 refine bodyPost_ret (results_cell_row rfl _ _ w.heap.size _ #[.int .i64 k, .int .i64 n2, .string nm, .bool m, .slice p l c] _ _ rfl (setRow_heap _ _ _ _ _ _ HKV.out) Tryz.underlying40 rfl ex_sz) ?_ (by have h := retE_row (X := X) HV.out (.mk k n2 nm m (.slice p l c) kids) (HI.out) (HE.out) #[.int .i64 k, .int .i64 n2, .string nm, .bool m, .slice p l c]; exact h)
 rfl
/- The document's own parser: the smallest expressions: what stands in parentheses, calls, variables. -/

/-- what a list in parentheses is -/
def inParen (N : Nat) (l : List PE) (s3 : S) : PE × S := match l with
 | [e] => if placeK e.kind then partsS N e s3 else (e, s3)
 | l => (.mk 7 0 [] false l, s3)
theorem lies_head {X : List Nat} {w : World} {p : Option Addr} {n cap : Nat} {k n2 : Int} {nm : ByteArray} {m : Bool} {pp : Option Addr} {l c : Nat} {xs : List (List Value)} (h : Lies (hushL X w) 5 (.slice p n cap) ([.int .i64 k, .int .i64 n2, .string nm, .bool m, .slice pp l c] :: xs)) :
  ∃ b off, p = some ⟨b, off, none⟩ ∧ n = xs.length + 1 ∧ w.cell? ⟨b, off, none⟩ = some (.int .i64 k) ∧ w.cell? ⟨b, off + 1, none⟩ = some (.int .i64 n2) ∧ w.cell? ⟨b, off + 2, none⟩ = some (.string nm) ∧ w.cell? ⟨b, off + 3, none⟩ = some (.bool m) ∧ w.cell? ⟨b, off + 4, none⟩ = some (.slice pp l c) := by
 obtain ⟨b, off, cap', h1, _, h3⟩ := h.at (i := 0) (by simp)
 injection h1 with e1 e2 e3
 have h4 := h3 0 _ rfl
 simp only [Nat.zero_mul, Nat.add_zero] at h4
 exact ⟨b, off, e1, by rw [e2, List.length_cons], ((hushL_cell _ _ _ _ _).1 (h4 0 _ rfl)).1, ((hushL_cell _ _ _ _ _).1 (h4 1 _ rfl)).1, ((hushL_cell _ _ _ _ _).1 (h4 2 _ rfl)).1, ((hushL_cell _ _ _ _ _).1 (h4 3 _ rfl)).1, ((hushL_cell _ _ _ _ _).1 (h4 4 _ rfl)).1⟩

set_option maxHeartbeats 8000000 in
set_option maxRecDepth 100000 in
theorem one_paren (pb : Nat) (lv : Value) (ts : List Tok) (N : Nat) (hT : ToksOk ts) (w : World) (s : S) (X : List Nat) (hA : Away w pb X) (h : PIn w pb lv ts s) (hw : s.wr = false) (h2 : (txt 2 s).isEmpty = true) (h3 : nextB s kBox = false) (h4 : nextB s mAnd = false) (h5 : nextB s mStar = false) (h6 : nextB s mOpen = true) (rl : List PE × S) (hne : rl.1 ≠ []) (hr : ∀ (W : World) (X1 : List Nat), Away W pb X1 → PIn W pb lv ts s.pass → Calls Tryz.prog 155 #[.pointer (some ⟨pb, 0, none⟩)] W (RetL exK erE W pb lv ts X1 rl)) (hN : rl.2.rest.length ≤ N) :
  Calls Tryz.prog 146 #[.pointer (some ⟨pb, 0, none⟩)] w (RetE w pb lv ts X (inParen N rl.1 (mustS mShut rl.2))) := by
 have HBeg := hid (begin_of hA h)
 have HX := hid hA
 have HTx := hid (fun W hp => text_any W pb lv ts s 2 hp hT.few)
 have he := sb_empty (txt 2 s)
 rw [h2] at he
 have HB := hid (fun W hp => skip_any W pb lv ts s kBox (by decide) hp hT.few)
 rw [h3] at HB
 have KHB := hid (show skipS kBox s = s by unfold skipS; rw [h3]; rfl)
 have HL := hid (fun W hp => skip_any W pb lv ts s mAnd (by decide) hp hT.few)
 rw [h4] at HL
 have KHL := hid (show skipS mAnd s = s by unfold skipS; rw [h4]; rfl)
 have HSt := hid (fun W hp => next_any W pb lv ts s mStar hp hT.few)
 rw [h5] at HSt
 have HO := hid (fun W hp => skip_any W pb lv ts s mOpen (by decide) hp hT.few)
 rw [h6] at HO
 have KHO := hid (show skipS mOpen s = s.pass by unfold skipS; rw [h6]; rfl)
 have HRw := hid hr
 obtain ⟨rl, rs⟩ := rl
 simp only at hne HRw hN ⊢
 have HM := hid (fun W hp => must_any W pb lv ts rs mShut (by decide) hp hT.few)
 have hle := must_le mShut rs
 generalize mustS mShut rs = s3 at *
 have HQ := hid (fun W X1 e a b c => parts_any W pb lv ts s3 X1 N e a b c hT (by omega))
 generalize s.pass = s1 at *
 generalize hRR : inParen N rl s3 = R
 have HRR := hid hRR
 generalize Sb (txt 2 s) = TX at *
 clear h2 h3 h4 h5 h6 hr hle hRR
 clear h hA
 obtain ⟨hat, hkey, haw, c2, hpb⟩ := HBeg.out
 rw [hw] at c2
 have HA0 := hid hat
 have HK0 := hid hkey
 have HAw0 := hid haw
 clear hat hkey haw HBeg
 go_enter Tryz.func146, Tryz.ntmps146
 go_wp2_with fail
 refine (HTx.out _ HA0.out.pin).mono ?_
 rintro e W1 ⟨rfl, q, rfl⟩
 have bq := Below.drewN' (w.alloc (.cells exZ 40)) q
 have HA1 := hid (HA0.out.below bq)
 have HK1 := hid (heap_below bq HK0.out)
 have HAw1 := hid (HAw0.out.mono bq.size)
 clear bq HA0 HK0 HAw0 HTx
 go_wp2_with fail
 refine (HB.out _ HA1.out.pin).mono ?_
 rintro e W2 ⟨rfl, hp, hs⟩
 rw [KHB.out] at hp
 have HA2 := hid (HA1.out.call hp hs)
 have HK2 := hid (heap_step hs HK1.out (by omega))
 have HAw2 := hid (HAw1.out.mono hs.size)
 clear hp hs HA1 HK1 HAw1 HB KHB
 go_wp2_with fail
 refine (HL.out _ HA2.out.pin).mono ?_
 rintro e W3 ⟨rfl, hp, hs⟩
 rw [KHL.out] at hp
 have HA3 := hid (HA2.out.call hp hs)
 have HK3 := hid (heap_step hs HK2.out (by omega))
 have HAw3 := hid (HAw2.out.mono hs.size)
 clear hp hs HA2 HK2 HAw2 HL KHL
 go_wp2_with fail
 refine (HSt.out _ HA3.out.pin).mono ?_
 rintro e W4 ⟨rfl, qn, rfl⟩
 have bq := Below.drewN' W3 qn
 have HA4 := hid (HA3.out.below bq)
 have HK4 := hid (heap_below bq HK3.out)
 have HAw4 := hid (HAw3.out.mono bq.size)
 clear bq HA3 HK3 HAw3 HSt
 go_wp2_with fail
 refine (HO.out _ HA4.out.pin).mono ?_
 rintro e W5 ⟨rfl, hp, hs⟩
 rw [KHO.out] at hp
 have HA5 := hid (HA4.out.call hp hs)
 have HK5 := hid (heap_step hs HK4.out (by omega))
 have HAw5 := hid (HAw4.out.mono hs.size)
 clear hp hs HA4 HK4 HAw4 HO KHO
 go_wp2_with fail
 refine (HRw.out _ _ HAw5.out HA5.out.pin).mono ?_
 rintro e V ⟨v, li, rfl, hlies, hins, hmap, hp, hs⟩
 obtain ⟨p, cap, hv, _, _⟩ := id hlies
 rw [List.length_map] at hv
 subst hv
 have HA6 := hid (HA5.out.call hp hs)
 have HK6 := hid (heap_step hs HK5.out (by omega))
 have HAw6 := hid (HAw5.out.mono hs.size)
 have HLi := hid hlies
 have HIn := hid hins
 have HMp := hid hmap
 clear hlies hins hmap
 clear hp hs HA5 HK5 HAw5 HRw
 go_wp2_with fail
 refine (HM.out _ HA6.out.pin).mono ?_
 rintro e V2 ⟨rfl, hp, hs⟩
 have HA7 := hid (HA6.out.call hp hs)
 have HK7 := hid (heap_step hs HK6.out (by omega))
 have HAw7 := hid (HAw6.out.mono hs.size)
 have HLi2 := hid (HLi.out.keep (keepsL_step hs (by simp [HX.out.mem])))
 have HIn2 := hid (fun a ha => Ex.In.keep (keepsL_step hs (by simp [HX.out.mem])) _ (HIn.out a ha))
 clear hp hs HA6 HK6 HAw6 HM HLi HIn
 cases li with
 | nil => exact absurd HMp.out.symm (by simpa using hne)
 | cons T rest =>
  obtain ⟨k, n2, nm, m, pp, l, c, kids, rfl⟩ := ex_open (HIn2.out T (by simp))
  cases rest with
  | nil =>
   have hml := HMp.out
   simp only [List.map_cons, List.map_nil] at hml
   subst hml
   obtain ⟨bb, off, rfl, _, k0, k1, k2, k3, k4⟩ := lies_head (xs := []) HLi2.out
   have HPl := hid (rPlace_any (.mk k n2 nm m (.slice pp l c) kids) V2)
   rw [Ex.val_mk, show (Ex.mk k n2 nm m (.slice pp l c) kids).place = placeK k from rfl] at HPl
   have hrr := HRR.out
   simp only [inParen] at hrr
   rw [show (erE (.mk k n2 nm m (.slice pp l c) kids)).kind = k by rw [erE]; rfl] at hrr
   have HIT := hid (HIn2.out (.mk k n2 nm m (.slice pp l c) kids) (by simp))
   cases hpk : placeK k with
   | true =>
    rw [hpk] at HPl
    rw [hpk, if_pos rfl] at hrr
    subst hrr
    clear HRR
    go_wp2_with fail
    refine HPl.out.mono ?_
    rintro e V3 ⟨rfl, hb⟩
    have HA8 := hid (HA7.out.below hb)
    have HK8 := hid (heap_below hb HK7.out)
    have HAw8 := hid (HAw7.out.mono hb.size)
    have HIT3 := hid (Ex.In.keep (keepsL_below hb) _ HIT.out)
    obtain ⟨_, _, h1, _, j0, j1, j2, j3, j4⟩ := lies_head (xs := []) (HLi2.out.keep (keepsL_below hb))
    cases h1
    clear hb HPl HIT HA7 HK7 HAw7 k0 k1 k2 k3 k4 HIn2 HLi2
    go_wp2_with fail
    refine Calls.mono (show Calls _ _ #[.pointer (some ⟨pb, 0, none⟩), (Ex.mk k n2 nm m (.slice pp l c) kids).val] _ _ from HQ.out _ _ _ HAw8.out HIT3.out HA8.out.pin) ?_
    rintro e V4 ⟨T6, rfl, hin6, her6, hp, hs⟩
    obtain ⟨k', n', nm', m', p', l', c', kids', rfl⟩ := ex_open hin6
    rw [Ex.val_mk]
    have HA9 := hid (HA8.out.call hp hs)
    have HK9 := hid (heap_step hs HK8.out (by omega))
    have HAw9 := hid (HAw8.out.mono hs.size)
    have HI6 := hid hin6
    have HE6 := hid her6
    clear hin6 her6
    clear hp hs HA8 HK8 HAw8 HQ
    go_wp2_with (first | (refine wpList_store_row (o := ⟨none, _, _, _, _, _⟩) rfl _ _ _ rfl w.heap.size #[.int .i64 k', .int .i64 n', .string nm', .bool m', .slice p' l' c'] rfl rfl _ _ HK9.out ex_sz rfl (ex_one _ _ _ _ _ _ _) ?_))
    refine bodyPost_ret (results_cell_row rfl _ _ w.heap.size _ #[.int .i64 k', .int .i64 n', .string nm', .bool m', .slice p' l' c'] _ _ rfl (setRow_heap _ _ _ _ _ _ HK9.out) Tryz.underlying40 rfl ex_sz) ?_ (by have h := retE_row (X := X) HA9.out (.mk k' n' nm' m' (.slice p' l' c') kids') (HI6.out) (HE6.out) #[.int .i64 k', .int .i64 n', .string nm', .bool m', .slice p' l' c']; exact h)
    rfl
   | false =>
    rw [hpk] at HPl
    rw [hpk, if_neg (by simp)] at hrr
    subst hrr
    clear HQ HRR
    go_wp2_with fail
    refine HPl.out.mono ?_
    rintro e V3 ⟨rfl, hb⟩
    have HA8 := hid (HA7.out.below hb)
    have HK8 := hid (heap_below hb HK7.out)
    have HAw8 := hid (HAw7.out.mono hb.size)
    have HIT3 := hid (Ex.In.keep (keepsL_below hb) _ HIT.out)
    obtain ⟨_, _, h1, _, j0, j1, j2, j3, j4⟩ := lies_head (xs := []) (HLi2.out.keep (keepsL_below hb))
    cases h1
    clear hb HPl HIT HA7 HK7 HAw7 k0 k1 k2 k3 k4 HIn2 HLi2
    go_wp2_with (first | (refine wpList_store_row (o := ⟨none, _, _, _, _, _⟩) rfl _ _ _ rfl w.heap.size #[.int .i64 k, .int .i64 n2, .string nm, .bool m, .slice pp l c] rfl rfl _ _ HK8.out ex_sz rfl (ex_one _ _ _ _ _ _ _) ?_))
    refine bodyPost_ret (results_cell_row rfl _ _ w.heap.size _ #[.int .i64 k, .int .i64 n2, .string nm, .bool m, .slice pp l c] _ _ rfl (setRow_heap _ _ _ _ _ _ HK8.out) Tryz.underlying40 rfl ex_sz) ?_ (by have h := retE_row (X := X) HA8.out (.mk k n2 nm m (.slice pp l c) kids) (HIT3.out) (rfl) #[.int .i64 k, .int .i64 n2, .string nm, .bool m, .slice pp l c]; exact h)
    rfl
  | cons U rest =>
   have hml := HMp.out
   simp only [List.map_cons] at hml
   subst hml
   have hrr := HRR.out
   simp only [inParen] at hrr
   subst hrr
   obtain ⟨nn, hnn⟩ : ∃ nn, (Ex.mk k n2 nm m (.slice pp l c) kids :: U :: rest).length = nn := ⟨_, rfl⟩
   have hgt : (1 : Int) < (nn : Int) := by simp at hnn; omega
   rw [hnn] at HLi2 ⊢
   clear HQ HRR
   go_wp2_with (first | (refine wpList_store_row (o := ⟨none, _, _, _, _, _⟩) rfl _ _ _ rfl w.heap.size #[.int .i64 7, .int .i64 0, .string ⟨#[]⟩, .bool false, .slice p nn cap] rfl rfl _ _ HK7.out ex_sz rfl (ex_one _ _ _ _ _ _ _) ?_))
   refine bodyPost_ret (results_cell_row rfl _ _ w.heap.size _ #[.int .i64 7, .int .i64 0, .string ⟨#[]⟩, .bool false, .slice p nn cap] _ _ rfl (setRow_heap _ _ _ _ _ _ HK7.out) Tryz.underlying40 rfl ex_sz) ?_ (by have h := retE_row (X := X) HA7.out (.mk 7 0 ⟨#[]⟩ false (.slice p nn cap) (.mk k n2 nm m (.slice pp l c) kids :: U :: rest)) (by rw [Ex.In]; exact ⟨by decide, HLi2.out, (Ex.ins_iff _ _).2 HIn2.out⟩) (by rw [erE, erEs_map] <;> rfl) #[.int .i64 7, .int .i64 0, .string ⟨#[]⟩, .bool false, .slice p nn cap]; exact h)
   rfl
/- The document's own parser: the smallest expressions: calls, variables; and all of them. -/

set_option maxHeartbeats 8000000 in
set_option maxRecDepth 100000 in
theorem one_var (pb : Nat) (lv : Value) (ts : List Tok) (N : Nat) (hT : ToksOk ts) (w : World) (s : S) (X : List Nat) (hA : Away w pb X) (h : PIn w pb lv ts s) (hw : s.wr = false) (h2 : (txt 2 s).isEmpty = true) (h3 : nextB s kBox = false) (h4 : nextB s mAnd = false) (h5 : nextB s mStar = false) (h6 : nextB s mOpen = false) (h7 : nextB (nameS s).2 mOpen = false) (hN : s.rest.length ≤ N) :
  Calls Tryz.prog 146 #[.pointer (some ⟨pb, 0, none⟩)] w (RetE w pb lv ts X (partsS N (.mk 2 0 (nameS s).1 false []) (nameS s).2)) := by
 have HBeg := hid (begin_of hA h)
 have HX := hid hA
 have HTx := hid (fun W hp => text_any W pb lv ts s 2 hp hT.few)
 have he := sb_empty (txt 2 s)
 rw [h2] at he
 have HB := hid (fun W hp => skip_any W pb lv ts s kBox (by decide) hp hT.few)
 rw [h3] at HB
 have KHB := hid (show skipS kBox s = s by unfold skipS; rw [h3]; rfl)
 have HL := hid (fun W hp => skip_any W pb lv ts s mAnd (by decide) hp hT.few)
 rw [h4] at HL
 have KHL := hid (show skipS mAnd s = s by unfold skipS; rw [h4]; rfl)
 have HSt := hid (fun W hp => next_any W pb lv ts s mStar hp hT.few)
 rw [h5] at HSt
 have HO := hid (fun W hp => skip_any W pb lv ts s mOpen (by decide) hp hT.few)
 rw [h6] at HO
 have KHO := hid (show skipS mOpen s = s by unfold skipS; rw [h6]; rfl)
 have HNm := hid (fun W hp => name_any W pb lv ts s hp hT)
 have hle0 := name_le s
 generalize nameS s = a at *
 obtain ⟨x, s1⟩ := a
 simp only at hle0 HNm h7 ⊢
 have HO2 := hid (fun W hp => skip_any W pb lv ts s1 mOpen (by decide) hp hT.few)
 rw [h7] at HO2
 have KHO2 := hid (show skipS mOpen s1 = s1 by unfold skipS; rw [h7]; rfl)
 have HQ := hid (fun W X1 e a b c => parts_any W pb lv ts s1 X1 N e a b c hT (by omega))
 have HBS := hid (bs_Sb x)
 generalize Sb x = xs at *
 generalize Sb (txt 2 s) = TX at *
 clear h2 h3 h4 h5 h6 h7 hle0
 clear h hA
 obtain ⟨hat, hkey, haw, c2, hpb⟩ := HBeg.out
 rw [hw] at c2
 have HA0 := hid hat
 have HK0 := hid hkey
 have HAw0 := hid haw
 clear hat hkey haw HBeg
 go_enter Tryz.func146, Tryz.ntmps146
 go_wp2_with fail
 refine (HTx.out _ HA0.out.pin).mono ?_
 rintro e W1 ⟨rfl, q, rfl⟩
 have bq := Below.drewN' (w.alloc (.cells exZ 40)) q
 have HA1 := hid (HA0.out.below bq)
 have HK1 := hid (heap_below bq HK0.out)
 have HAw1 := hid (HAw0.out.mono bq.size)
 clear bq HA0 HK0 HAw0 HTx
 go_wp2_with fail
 refine (HB.out _ HA1.out.pin).mono ?_
 rintro e W2 ⟨rfl, hp, hs⟩
 rw [KHB.out] at hp
 have HA2 := hid (HA1.out.call hp hs)
 have HK2 := hid (heap_step hs HK1.out (by omega))
 have HAw2 := hid (HAw1.out.mono hs.size)
 clear hp hs HA1 HK1 HAw1 HB KHB
 go_wp2_with fail
 refine (HL.out _ HA2.out.pin).mono ?_
 rintro e W3 ⟨rfl, hp, hs⟩
 rw [KHL.out] at hp
 have HA3 := hid (HA2.out.call hp hs)
 have HK3 := hid (heap_step hs HK2.out (by omega))
 have HAw3 := hid (HAw2.out.mono hs.size)
 clear hp hs HA2 HK2 HAw2 HL KHL
 go_wp2_with fail
 refine (HSt.out _ HA3.out.pin).mono ?_
 rintro e W4 ⟨rfl, qn, rfl⟩
 have bq := Below.drewN' W3 qn
 have HA4 := hid (HA3.out.below bq)
 have HK4 := hid (heap_below bq HK3.out)
 have HAw4 := hid (HAw3.out.mono bq.size)
 clear bq HA3 HK3 HAw3 HSt
 go_wp2_with fail
 refine (HO.out _ HA4.out.pin).mono ?_
 rintro e W5 ⟨rfl, hp, hs⟩
 rw [KHO.out] at hp
 have HA5 := hid (HA4.out.call hp hs)
 have HK5 := hid (heap_step hs HK4.out (by omega))
 have HAw5 := hid (HAw4.out.mono hs.size)
 clear hp hs HA4 HK4 HAw4 HO KHO
 go_wp2_with fail
 refine (HNm.out _ HA5.out.pin).mono ?_
 rintro e V0 ⟨rfl, hp, hs⟩
 have HA6 := hid (HA5.out.call hp hs)
 have HK6 := hid (heap_step hs HK5.out (by omega))
 have HAw6 := hid (HAw5.out.mono hs.size)
 clear hp hs HA5 HK5 HAw5 HNm
 go_wp2_with fail
 refine (HO2.out _ HA6.out.pin).mono ?_
 rintro e W7 ⟨rfl, hp, hs⟩
 rw [KHO2.out] at hp
 have HA7 := hid (HA6.out.call hp hs)
 have HK7 := hid (heap_step hs HK6.out (by omega))
 have HAw7 := hid (HAw6.out.mono hs.size)
 clear hp hs HA6 HK6 HAw6 HO2 KHO2
 go_wp2_with fail
 refine Calls.mono (show Calls _ _ #[.pointer (some ⟨pb, 0, none⟩), (Ex.mk 2 0 xs false (.slice none 0 0) []).val] _ _ from HQ.out _ _ _ HAw7.out (ex_none _ _ _ _ _ (by decide)) HA7.out.pin) ?_
 rintro e V4 ⟨T6, rfl, hin6, her6, hp, hs⟩
 rw [erE, show erEs [] = [] from rfl, HBS.out] at her6 hp
 obtain ⟨k', n', nm', m', p', l', c', kids', rfl⟩ := ex_open hin6
 rw [Ex.val_mk]
 have HA8 := hid (HA7.out.call hp hs)
 have HK8 := hid (heap_step hs HK7.out (by omega))
 have HAw8 := hid (HAw7.out.mono hs.size)
 have HI6 := hid hin6
 have HE6 := hid her6
 clear hin6 her6
 clear hp hs HA7 HK7 HAw7 HQ
 go_wp2_with (first | (refine wpList_store_row (o := ⟨none, _, _, _, _, _⟩) rfl _ _ _ rfl w.heap.size #[.int .i64 k', .int .i64 n', .string nm', .bool m', .slice p' l' c'] rfl rfl _ _ HK8.out ex_sz rfl (ex_one _ _ _ _ _ _ _) ?_))
 refine bodyPost_ret (results_cell_row rfl _ _ w.heap.size _ #[.int .i64 k', .int .i64 n', .string nm', .bool m', .slice p' l' c'] _ _ rfl (setRow_heap _ _ _ _ _ _ HK8.out) Tryz.underlying40 rfl ex_sz) ?_ (by have h := retE_row (X := X) HA8.out (.mk k' n' nm' m' (.slice p' l' c') kids') (HI6.out) (HE6.out) #[.int .i64 k', .int .i64 n', .string nm', .bool m', .slice p' l' c']; exact h)
 rfl

set_option maxHeartbeats 8000000 in
set_option maxRecDepth 100000 in
theorem one_call0 (pb : Nat) (lv : Value) (ts : List Tok) (_N : Nat) (hT : ToksOk ts) (w : World) (s : S) (X : List Nat) (hA : Away w pb X) (h : PIn w pb lv ts s) (hw : s.wr = false) (h2 : (txt 2 s).isEmpty = true) (h3 : nextB s kBox = false) (h4 : nextB s mAnd = false) (h5 : nextB s mStar = false) (h6 : nextB s mOpen = false) (h7 : nextB (nameS s).2 mOpen = true) (h8 : nextB (nameS s).2.pass mShut = true) :
  Calls Tryz.prog 146 #[.pointer (some ⟨pb, 0, none⟩)] w (RetE w pb lv ts X (PE.mk 9 0 (nameS s).1 false [], (nameS s).2.pass.pass)) := by
 have HBeg := hid (begin_of hA h)
 have HX := hid hA
 have HTx := hid (fun W hp => text_any W pb lv ts s 2 hp hT.few)
 have he := sb_empty (txt 2 s)
 rw [h2] at he
 have HB := hid (fun W hp => skip_any W pb lv ts s kBox (by decide) hp hT.few)
 rw [h3] at HB
 have KHB := hid (show skipS kBox s = s by unfold skipS; rw [h3]; rfl)
 have HL := hid (fun W hp => skip_any W pb lv ts s mAnd (by decide) hp hT.few)
 rw [h4] at HL
 have KHL := hid (show skipS mAnd s = s by unfold skipS; rw [h4]; rfl)
 have HSt := hid (fun W hp => next_any W pb lv ts s mStar hp hT.few)
 rw [h5] at HSt
 have HO := hid (fun W hp => skip_any W pb lv ts s mOpen (by decide) hp hT.few)
 rw [h6] at HO
 have KHO := hid (show skipS mOpen s = s by unfold skipS; rw [h6]; rfl)
 have HNm := hid (fun W hp => name_any W pb lv ts s hp hT)
 have hle0 := name_le s
 generalize nameS s = a at *
 obtain ⟨x, s1⟩ := a
 simp only at hle0 HNm h7 h8 ⊢
 have HO2 := hid (fun W hp => skip_any W pb lv ts s1 mOpen (by decide) hp hT.few)
 rw [h7] at HO2
 have KHO2 := hid (show skipS mOpen s1 = s1.pass by unfold skipS; rw [h7]; rfl)
 have HSh := hid (fun W hp => skip_any W pb lv ts s1.pass mShut (by decide) hp hT.few)
 rw [h8] at HSh
 have KHSh := hid (show skipS mShut s1.pass = s1.pass.pass by unfold skipS; rw [h8]; rfl)
 generalize s1.pass.pass = s3 at *
 generalize s1.pass = s2 at *
 have HBS := hid (bs_Sb x)
 generalize Sb x = xs at *
 generalize Sb (txt 2 s) = TX at *
 clear h2 h3 h4 h5 h6 h7 h8 hle0
 clear h hA
 obtain ⟨hat, hkey, haw, c2, hpb⟩ := HBeg.out
 rw [hw] at c2
 have HA0 := hid hat
 have HK0 := hid hkey
 have HAw0 := hid haw
 clear hat hkey haw HBeg
 go_enter Tryz.func146, Tryz.ntmps146
 go_wp2_with fail
 refine (HTx.out _ HA0.out.pin).mono ?_
 rintro e W1 ⟨rfl, q, rfl⟩
 have bq := Below.drewN' (w.alloc (.cells exZ 40)) q
 have HA1 := hid (HA0.out.below bq)
 have HK1 := hid (heap_below bq HK0.out)
 have HAw1 := hid (HAw0.out.mono bq.size)
 clear bq HA0 HK0 HAw0 HTx
 go_wp2_with fail
 refine (HB.out _ HA1.out.pin).mono ?_
 rintro e W2 ⟨rfl, hp, hs⟩
 rw [KHB.out] at hp
 have HA2 := hid (HA1.out.call hp hs)
 have HK2 := hid (heap_step hs HK1.out (by omega))
 have HAw2 := hid (HAw1.out.mono hs.size)
 clear hp hs HA1 HK1 HAw1 HB KHB
 go_wp2_with fail
 refine (HL.out _ HA2.out.pin).mono ?_
 rintro e W3 ⟨rfl, hp, hs⟩
 rw [KHL.out] at hp
 have HA3 := hid (HA2.out.call hp hs)
 have HK3 := hid (heap_step hs HK2.out (by omega))
 have HAw3 := hid (HAw2.out.mono hs.size)
 clear hp hs HA2 HK2 HAw2 HL KHL
 go_wp2_with fail
 refine (HSt.out _ HA3.out.pin).mono ?_
 rintro e W4 ⟨rfl, qn, rfl⟩
 have bq := Below.drewN' W3 qn
 have HA4 := hid (HA3.out.below bq)
 have HK4 := hid (heap_below bq HK3.out)
 have HAw4 := hid (HAw3.out.mono bq.size)
 clear bq HA3 HK3 HAw3 HSt
 go_wp2_with fail
 refine (HO.out _ HA4.out.pin).mono ?_
 rintro e W5 ⟨rfl, hp, hs⟩
 rw [KHO.out] at hp
 have HA5 := hid (HA4.out.call hp hs)
 have HK5 := hid (heap_step hs HK4.out (by omega))
 have HAw5 := hid (HAw4.out.mono hs.size)
 clear hp hs HA4 HK4 HAw4 HO KHO
 go_wp2_with fail
 refine (HNm.out _ HA5.out.pin).mono ?_
 rintro e V0 ⟨rfl, hp, hs⟩
 have HA6 := hid (HA5.out.call hp hs)
 have HK6 := hid (heap_step hs HK5.out (by omega))
 have HAw6 := hid (HAw5.out.mono hs.size)
 clear hp hs HA5 HK5 HAw5 HNm
 go_wp2_with fail
 refine (HO2.out _ HA6.out.pin).mono ?_
 rintro e W7 ⟨rfl, hp, hs⟩
 rw [KHO2.out] at hp
 have HA7 := hid (HA6.out.call hp hs)
 have HK7 := hid (heap_step hs HK6.out (by omega))
 have HAw7 := hid (HAw6.out.mono hs.size)
 clear hp hs HA6 HK6 HAw6 HO2 KHO2
 have b9 : Below W7.heap.size W7 (W7.alloc (.cells #[.int .i64 9, .int .i64 0, .string xs, .bool false, .slice none 0 0] 40)) := (Below.refl _ _).alloc (Nat.le_refl _) _
 have HA8 := hid (HA7.out.below b9)
 have HK8 := hid (heap_below b9 HK7.out)
 have HAw8 := hid ((HAw7.out.mono b9.size).add (b := W7.heap.size) (by simp))
 have HB9 := hid (heap_alloc_new W7 (.cells #[.int .i64 9, .int .i64 0, .string xs, .bool false, .slice none 0 0] 40))
 have HZ9 := hid (show pb < W7.heap.size ∧ w.heap.size < W7.heap.size from ⟨HAw7.out.lt pb (by simp [HX.out.mem]), HAw7.out.lt w.heap.size (by simp)⟩)
 have hz9 := HZ9.out.2
 clear b9 HA7 HK7 HAw7
 go_wp2_with fail
 refine (HSh.out _ HA8.out.pin).mono ?_
 rintro e V2 ⟨rfl, hp, hs⟩
 rw [KHSh.out] at hp
 have HA9 := hid (HA8.out.call hp hs)
 have HK9 := hid (heap_step hs HK8.out (by omega))
 have HAw9 := hid (HAw8.out.mono hs.size)
 have HC9 := hid (heap_step hs HB9.out (by have := HZ9.out; omega))
 clear hp hs HA8 HK8 HAw8 HSh KHSh HB9
 obtain ⟨k0, k1, k2, k3, k4⟩ := cells5 HC9.out
 go_wp2_with (first | (refine wpList_store_row (o := ⟨none, _, _, _, _, _⟩) rfl _ _ _ rfl w.heap.size #[.int .i64 9, .int .i64 0, .string xs, .bool false, .slice none 0 0] rfl rfl _ _ HK9.out ex_sz rfl (ex_one _ _ _ _ _ _ _) ?_))
 refine bodyPost_ret (results_cell_row rfl _ _ w.heap.size _ #[.int .i64 9, .int .i64 0, .string xs, .bool false, .slice none 0 0] _ _ rfl (setRow_heap _ _ _ _ _ _ HK9.out) Tryz.underlying40 rfl ex_sz) ?_ (by have h := retE_row (X := X) HA9.out (.mk 9 0 xs false (.slice none 0 0) []) (ex_none _ _ _ _ _ (by decide)) (by rw [erE, show erEs [] = [] from rfl, HBS.out]) #[.int .i64 9, .int .i64 0, .string xs, .bool false, .slice none 0 0]; exact h)
 rfl

set_option maxHeartbeats 8000000 in
set_option maxRecDepth 100000 in
theorem one_call (pb : Nat) (lv : Value) (ts : List Tok) (_N : Nat) (hT : ToksOk ts) (w : World) (s : S) (X : List Nat) (hA : Away w pb X) (h : PIn w pb lv ts s) (hw : s.wr = false) (h2 : (txt 2 s).isEmpty = true) (h3 : nextB s kBox = false) (h4 : nextB s mAnd = false) (h5 : nextB s mStar = false) (h6 : nextB s mOpen = false) (h7 : nextB (nameS s).2 mOpen = true) (h8 : nextB (nameS s).2.pass mShut = false) (rl : List PE × S) (hr : ∀ (W : World) (X1 : List Nat), Away W pb X1 → PIn W pb lv ts (nameS s).2.pass → Calls Tryz.prog 155 #[.pointer (some ⟨pb, 0, none⟩)] W (RetL exK erE W pb lv ts X1 rl)) :
  Calls Tryz.prog 146 #[.pointer (some ⟨pb, 0, none⟩)] w (RetE w pb lv ts X (PE.mk 9 0 (nameS s).1 false rl.1, mustS mShut rl.2)) := by
 have HBeg := hid (begin_of hA h)
 have HX := hid hA
 have HTx := hid (fun W hp => text_any W pb lv ts s 2 hp hT.few)
 have he := sb_empty (txt 2 s)
 rw [h2] at he
 have HB := hid (fun W hp => skip_any W pb lv ts s kBox (by decide) hp hT.few)
 rw [h3] at HB
 have KHB := hid (show skipS kBox s = s by unfold skipS; rw [h3]; rfl)
 have HL := hid (fun W hp => skip_any W pb lv ts s mAnd (by decide) hp hT.few)
 rw [h4] at HL
 have KHL := hid (show skipS mAnd s = s by unfold skipS; rw [h4]; rfl)
 have HSt := hid (fun W hp => next_any W pb lv ts s mStar hp hT.few)
 rw [h5] at HSt
 have HO := hid (fun W hp => skip_any W pb lv ts s mOpen (by decide) hp hT.few)
 rw [h6] at HO
 have KHO := hid (show skipS mOpen s = s by unfold skipS; rw [h6]; rfl)
 have HNm := hid (fun W hp => name_any W pb lv ts s hp hT)
 have hle0 := name_le s
 generalize nameS s = a at *
 obtain ⟨x, s1⟩ := a
 simp only at hle0 HNm h7 h8 hr ⊢
 have HO2 := hid (fun W hp => skip_any W pb lv ts s1 mOpen (by decide) hp hT.few)
 rw [h7] at HO2
 have KHO2 := hid (show skipS mOpen s1 = s1.pass by unfold skipS; rw [h7]; rfl)
 have HSh := hid (fun W hp => skip_any W pb lv ts s1.pass mShut (by decide) hp hT.few)
 rw [h8] at HSh
 have KHSh := hid (show skipS mShut s1.pass = s1.pass by unfold skipS; rw [h8]; rfl)
 have HRw := hid hr
 obtain ⟨rl, rs⟩ := rl
 simp only at HRw ⊢
 have HM := hid (fun W hp => must_any W pb lv ts rs mShut (by decide) hp hT.few)
 generalize mustS mShut rs = s4 at *
 generalize s1.pass = s2 at *
 have HBS := hid (bs_Sb x)
 generalize Sb x = xs at *
 generalize Sb (txt 2 s) = TX at *
 clear h2 h3 h4 h5 h6 h7 h8 hr hle0
 clear h hA
 obtain ⟨hat, hkey, haw, c2, hpb⟩ := HBeg.out
 rw [hw] at c2
 have HA0 := hid hat
 have HK0 := hid hkey
 have HAw0 := hid haw
 clear hat hkey haw HBeg
 go_enter Tryz.func146, Tryz.ntmps146
 go_wp2_with fail
 refine (HTx.out _ HA0.out.pin).mono ?_
 rintro e W1 ⟨rfl, q, rfl⟩
 have bq := Below.drewN' (w.alloc (.cells exZ 40)) q
 have HA1 := hid (HA0.out.below bq)
 have HK1 := hid (heap_below bq HK0.out)
 have HAw1 := hid (HAw0.out.mono bq.size)
 clear bq HA0 HK0 HAw0 HTx
 go_wp2_with fail
 refine (HB.out _ HA1.out.pin).mono ?_
 rintro e W2 ⟨rfl, hp, hs⟩
 rw [KHB.out] at hp
 have HA2 := hid (HA1.out.call hp hs)
 have HK2 := hid (heap_step hs HK1.out (by omega))
 have HAw2 := hid (HAw1.out.mono hs.size)
 clear hp hs HA1 HK1 HAw1 HB KHB
 go_wp2_with fail
 refine (HL.out _ HA2.out.pin).mono ?_
 rintro e W3 ⟨rfl, hp, hs⟩
 rw [KHL.out] at hp
 have HA3 := hid (HA2.out.call hp hs)
 have HK3 := hid (heap_step hs HK2.out (by omega))
 have HAw3 := hid (HAw2.out.mono hs.size)
 clear hp hs HA2 HK2 HAw2 HL KHL
 go_wp2_with fail
 refine (HSt.out _ HA3.out.pin).mono ?_
 rintro e W4 ⟨rfl, qn, rfl⟩
 have bq := Below.drewN' W3 qn
 have HA4 := hid (HA3.out.below bq)
 have HK4 := hid (heap_below bq HK3.out)
 have HAw4 := hid (HAw3.out.mono bq.size)
 clear bq HA3 HK3 HAw3 HSt
 go_wp2_with fail
 refine (HO.out _ HA4.out.pin).mono ?_
 rintro e W5 ⟨rfl, hp, hs⟩
 rw [KHO.out] at hp
 have HA5 := hid (HA4.out.call hp hs)
 have HK5 := hid (heap_step hs HK4.out (by omega))
 have HAw5 := hid (HAw4.out.mono hs.size)
 clear hp hs HA4 HK4 HAw4 HO KHO
 go_wp2_with fail
 refine (HNm.out _ HA5.out.pin).mono ?_
 rintro e V0 ⟨rfl, hp, hs⟩
 have HA6 := hid (HA5.out.call hp hs)
 have HK6 := hid (heap_step hs HK5.out (by omega))
 have HAw6 := hid (HAw5.out.mono hs.size)
 clear hp hs HA5 HK5 HAw5 HNm
 go_wp2_with fail
 refine (HO2.out _ HA6.out.pin).mono ?_
 rintro e W7 ⟨rfl, hp, hs⟩
 rw [KHO2.out] at hp
 have HA7 := hid (HA6.out.call hp hs)
 have HK7 := hid (heap_step hs HK6.out (by omega))
 have HAw7 := hid (HAw6.out.mono hs.size)
 clear hp hs HA6 HK6 HAw6 HO2 KHO2
 have b9 : Below W7.heap.size W7 (W7.alloc (.cells #[.int .i64 9, .int .i64 0, .string xs, .bool false, .slice none 0 0] 40)) := (Below.refl _ _).alloc (Nat.le_refl _) _
 have HA8 := hid (HA7.out.below b9)
 have HK8 := hid (heap_below b9 HK7.out)
 have HAw8 := hid ((HAw7.out.mono b9.size).add (b := W7.heap.size) (by simp))
 have HB9 := hid (heap_alloc_new W7 (.cells #[.int .i64 9, .int .i64 0, .string xs, .bool false, .slice none 0 0] 40))
 have HZ9 := hid (show pb < W7.heap.size ∧ w.heap.size < W7.heap.size from ⟨HAw7.out.lt pb (by simp [HX.out.mem]), HAw7.out.lt w.heap.size (by simp)⟩)
 have hz9 := HZ9.out.2
 clear b9 HA7 HK7 HAw7
 go_wp2_with fail
 refine (HSh.out _ HA8.out.pin).mono ?_
 rintro e V2 ⟨rfl, hp, hs⟩
 rw [KHSh.out] at hp
 have HA9 := hid (HA8.out.call hp hs)
 have HK9 := hid (heap_step hs HK8.out (by omega))
 have HAw9 := hid (HAw8.out.mono hs.size)
 have HC9 := hid (heap_step hs HB9.out (by have := HZ9.out; omega))
 clear hp hs HA8 HK8 HAw8 HSh KHSh HB9
 go_wp2_with fail
 refine (HRw.out _ _ HAw9.out HA9.out.pin).mono ?_
 rintro e V3 ⟨v, li, rfl, hlies, hins, hmap, hp, hs⟩
 obtain ⟨p, cap, hv, _, _⟩ := id hlies
 rw [List.length_map] at hv
 obtain ⟨nn, hnn⟩ : ∃ nn, li.length = nn := ⟨_, rfl⟩
 rw [hnn] at hv
 subst hv
 clear hnn
 have HA10 := hid (HA9.out.call hp hs)
 have HK10 := hid (heap_step hs HK9.out (by omega))
 have HAw10 := hid (HAw9.out.mono hs.size)
 have h9 := heap_step hs HC9.out (by have := HZ9.out; omega)
 obtain ⟨_, _, _, _, k4⟩ := cells5 h9
 have cf : V3.frozen? ⟨W7.heap.size, 4, none⟩ = false := by simp [World.frozen?, h9]
 have HD9 := hid (heap_setCell_same V3 W7.heap.size 4 _ _ (.slice p nn cap) h9)
 have HAc := hid (HA10.out.cell (b := W7.heap.size) (by omega) 4 (.slice p nn cap))
 have HKc := hid ((Below.heap_setCell V3 ⟨W7.heap.size, 4, none⟩ (.slice p nn cap) w.heap.size (by show w.heap.size ≠ W7.heap.size; omega)).trans HK10.out)
 have kc := keepsL_cell (X := W7.heap.size :: w.heap.size :: X) V3 (b := W7.heap.size) (by simp) 4 (.slice p nn cap)
 have HLi := hid (hlies.keep kc)
 have HIn := hid (fun a ha => Ex.In.keep kc _ (hins a ha))
 have HMp := hid hmap
 have HSz := hid (show (V3.setCell ⟨W7.heap.size, 4, none⟩ (.slice p nn cap)).heap.size = V3.heap.size by simp)
 clear hlies hins hmap h9 hp hs kc HRw HC9 HA9 HA10 HK9 HK10 HAw9 HAw10
 go_wp2_with fail
 refine (HM.out _ HAc.out.pin).mono ?_
 rintro e V4 ⟨rfl, hp, hs⟩
 have HA20 := hid (HAc.out.call hp hs)
 have HK20 := hid (heap_step hs HKc.out (by omega))
 have HLi2 := hid (HLi.out.keep (keepsL_step hs (by simp [HX.out.mem])))
 have HIn2 := hid (fun a ha => Ex.In.keep (keepsL_step hs (by simp [HX.out.mem])) _ (HIn.out a ha))
 have h9 := heap_step hs HD9.out (by have := HZ9.out; omega)
 obtain ⟨j0, j1, j2, j3, j4⟩ := cells5 (show V4.heap[W7.heap.size]? = some (.cells #[.int .i64 9, .int .i64 0, .string xs, .bool false, .slice p nn cap] 40 (0, 0)) from h9)
 clear hp hs HAc HKc HLi HIn HD9 k4 cf HM h9
 have hml := HMp.out
 subst hml
 go_wp2_with (first | (refine wpList_store_row (o := ⟨none, _, _, _, _, _⟩) rfl _ _ _ rfl w.heap.size #[.int .i64 9, .int .i64 0, .string xs, .bool false, .slice p nn cap] rfl rfl _ _ HK20.out ex_sz rfl (ex_one _ _ _ _ _ _ _) ?_))
 refine bodyPost_ret (results_cell_row rfl _ _ w.heap.size _ #[.int .i64 9, .int .i64 0, .string xs, .bool false, .slice p nn cap] _ _ rfl (setRow_heap _ _ _ _ _ _ HK20.out) Tryz.underlying40 rfl ex_sz) ?_ (by have h := retE_row (X := X) HA20.out (.mk 9 0 xs false (.slice p nn cap) li) (by rw [Ex.In]; exact ⟨by decide, HLi2.out.keep (keepsL_sub _ fun b hb => by simp at hb ⊢; rcases hb with h | h <;> simp [h]), (Ex.ins_iff _ _).2 (fun a ha => Ex.In.keep (keepsL_sub _ fun b hb => by simp at hb ⊢; rcases hb with h | h <;> simp [h]) _ (HIn2.out a ha))⟩) (by rw [erE, erEs_map, HBS.out]) #[.int .i64 9, .int .i64 0, .string xs, .bool false, .slice p nn cap]; exact h)
 rfl
end Go.Proofs.YtemflcojebanlaaGreatDoor.ParC

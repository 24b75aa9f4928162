/- The document's own parser: a statement. -/
import Derived.Test.YtemflcojebanlaaGreatDoorJ31
import Derived.Deep.MidRow
import Derived.Deep.Upon
namespace Go.Proofs.YtemflcojebanlaaGreatDoor.ParC
open Go Go.RowKit Go.Lib Go.Sort LexP TreeP LexC TreeC PageC TextC ParP

theorem At.cells {w0 : World} {pb : Nat} {lv : Value} {ts : List Tok} {s0 s : S} {b : Nat} (hb : w0.heap.size ≤ b) : ∀ (vs : List Value) (o : Nat) (w : World), At w0 pb lv ts s0 w s → At w0 pb lv ts s0 (w.setCells b o vs) s
 | [], _, _, h => h
 | v :: vs, o, _w, h => At.cells hb vs (o + 1) _ (h.cell hb o v)
theorem keepsL_cells {X : List Nat} {b : Nat} (hb : b ∈ X) : ∀ (vs : List Value) (o : Nat) (w : World), Keeps (hushL X w) (hushL X (w.setCells b o vs))
 | [], _, _w => Keeps.refl _
 | v :: vs, o, w => (keepsL_cell w hb o v).trans (keepsL_cells hb vs (o + 1) _)
theorem cells_other {b k : Nat} (hk : k ≠ b) : ∀ (vs : List Value) (o : Nat) (w : World), (w.setCells b o vs).heap[k]? = w.heap[k]?
 | [], _, _ => rfl
 | v :: vs, o, w => (cells_other hk vs (o + 1) _).trans (Below.heap_setCell w ⟨b, o, none⟩ v k hk)
theorem cells_size (b : Nat) : ∀ (vs : List Value) (o : Nat) (w : World), (w.setCells b o vs).heap.size = w.heap.size
 | [], _, _ => rfl
 | v :: vs, o, w => (cells_size b vs (o + 1) _).trans (by simp)
theorem cells_at7 {w : World} {b : Nat} {t : TypeId} {x0 x1 x2 x3 x4 x5 x6 x7 x8 x9 xa xb xc xd a0 a1 a2 a3 a4 : Value} (h : w.heap[b]? = some (.cells #[x0, x1, x2, x3, x4, x5, x6, x7, x8, x9, xa, xb, xc, xd] t (0, 0))) :
  (w.setCells b 7 [a0, a1, a2, a3, a4]).heap[b]? = some (.cells #[x0, x1, x2, x3, x4, x5, x6, a0, a1, a2, a3, a4, xc, xd] t (0, 0)) := by
 have h1 := heap_setCell_same _ _ 7 _ _ a0 h
 have h2 := heap_setCell_same _ _ 8 _ _ a1 h1
 have h3 := heap_setCell_same _ _ 9 _ _ a2 h2
 have h4 := heap_setCell_same _ _ 10 _ _ a3 h3
 exact heap_setCell_same _ _ 11 _ _ a4 h4
theorem cells_at2 {w : World} {b : Nat} {t : TypeId} {x0 x1 x2 x3 x4 x5 x6 x7 x8 x9 xa xb xc xd a0 a1 a2 a3 a4 : Value} (h : w.heap[b]? = some (.cells #[x0, x1, x2, x3, x4, x5, x6, x7, x8, x9, xa, xb, xc, xd] t (0, 0))) :
  (w.setCells b 2 [a0, a1, a2, a3, a4]).heap[b]? = some (.cells #[x0, x1, a0, a1, a2, a3, a4, x7, x8, x9, xa, xb, xc, xd] t (0, 0)) := by
 have h1 := heap_setCell_same _ _ 2 _ _ a0 h
 have h2 := heap_setCell_same _ _ 3 _ _ a1 h1
 have h3 := heap_setCell_same _ _ 4 _ _ a2 h2
 have h4 := heap_setCell_same _ _ 5 _ _ a3 h3
 exact heap_setCell_same _ _ 6 _ _ a4 h4
theorem there_of {w : World} {b o : Nat} {cs : Array Value} {t : TypeId} (h : w.heap[b]? = some (.cells cs t (0, 0))) (ho : o + 5 ≤ cs.size) : w.there b o 5 := fun j hj => by
 refine ⟨?_, frozen_of h _⟩
 rw [Lib.cell_of_heap h]
 simp
 omega
theorem retS_row {w V : World} {pb : Nat} {lv : Value} {ts : List Tok} {X : List Nat} {s0 s' : S} {re : PS} (hA : At w pb lv ts s0 V s') (T : St) (hI : T.In (hushL ((w.heap.size + 1) :: w.heap.size :: X) V)) (her : erS T = re) (cs : Array Value) :
  RetS w pb lv ts X (re, s') (.returned T.val) (V.setRow w.heap.size cs) := by
 have h := hA.row (b := w.heap.size) (Nat.le_refl _) cs
 exact ⟨T, rfl, St.In.keep ((keepsL_row V (b := w.heap.size) (by simp) cs).trans (keepsL_sub (Y := X) _ (fun b hb => by simp [hb]))) _ hI, her, h.pin, h.step⟩
theorem st_one {cs : List Value} (h : ∀ u ∈ cs, u.oneCell' = true) : cs.toArray.all (·.oneCell') = true := all_oneCell_toArray h
/-- where 'stmt' begins -/
structure BeginS (pb : Nat) (lv : Value) (ts : List Tok) (w : World) (s : S) (X : List Nat) : Prop where
 at0 : At w pb lv ts s ((w.alloc (.cells stZ 68)).alloc (.cells #[.int .i64 2, .string ⟨#[]⟩, .int .i64 0, .int .i64 0, .string ⟨#[]⟩, .bool false, .slice none 0 0, .int .i64 0, .int .i64 0, .string ⟨#[]⟩, .bool false, .slice none 0 0, .slice none 0 0, .slice none 0 0] 68)) s
 key : ((w.alloc (.cells stZ 68)).alloc (.cells #[.int .i64 2, .string ⟨#[]⟩, .int .i64 0, .int .i64 0, .string ⟨#[]⟩, .bool false, .slice none 0 0, .int .i64 0, .int .i64 0, .string ⟨#[]⟩, .bool false, .slice none 0 0, .slice none 0 0, .slice none 0 0] 68)).heap[w.heap.size]? = some (.cells stZ 68 (0, 0))
 box : ((w.alloc (.cells stZ 68)).alloc (.cells #[.int .i64 2, .string ⟨#[]⟩, .int .i64 0, .int .i64 0, .string ⟨#[]⟩, .bool false, .slice none 0 0, .int .i64 0, .int .i64 0, .string ⟨#[]⟩, .bool false, .slice none 0 0, .slice none 0 0, .slice none 0 0] 68)).heap[w.heap.size + 1]? = some (.cells #[.int .i64 2, .string ⟨#[]⟩, .int .i64 0, .int .i64 0, .string ⟨#[]⟩, .bool false, .slice none 0 0, .int .i64 0, .int .i64 0, .string ⟨#[]⟩, .bool false, .slice none 0 0, .slice none 0 0, .slice none 0 0] 68 (0, 0))
 away : Away ((w.alloc (.cells stZ 68)).alloc (.cells #[.int .i64 2, .string ⟨#[]⟩, .int .i64 0, .int .i64 0, .string ⟨#[]⟩, .bool false, .slice none 0 0, .int .i64 0, .int .i64 0, .string ⟨#[]⟩, .bool false, .slice none 0 0, .slice none 0 0, .slice none 0 0] 68)) pb ((w.heap.size + 1) :: w.heap.size :: X)
 lt : pb < w.heap.size
theorem beginS_of {pb : Nat} {lv : Value} {ts : List Tok} {w : World} {s : S} {X : List Nat} (hA : Away w pb X) (h : PIn w pb lv ts s) : BeginS pb lv ts w s X := by
 have b1 : Below w.heap.size w ((w.alloc (.cells stZ 68)).alloc (.cells #[.int .i64 2, .string ⟨#[]⟩, .int .i64 0, .int .i64 0, .string ⟨#[]⟩, .bool false, .slice none 0 0, .int .i64 0, .int .i64 0, .string ⟨#[]⟩, .bool false, .slice none 0 0, .slice none 0 0, .slice none 0 0] 68)) := ((Below.refl _ w).alloc (Nat.le_refl _) _).alloc (by simp) _
 exact ⟨(At.start h).below b1, (alloc2 _ _ _).1, (alloc2 _ _ _).2, ((hA.mono (by simp; try omega)).add (by simp; try omega)).add (by simp), hA.lt pb hA.mem⟩
set_option maxHeartbeats 8000000 in
set_option maxRecDepth 100000 in
theorem stmt_if (pb : Nat) (lv : Value) (ts : List Tok) (_N : Nat) (hT : ToksOk ts) (w : World) (s : S) (X : List Nat) (hA : Away w pb X) (h : PIn w pb lv ts s) (h1 : nextB s kIf = true) (r1 : PE × S) (hr1 : (∀ (W : World) (X1 : List Nat), Away W pb X1 → PIn W pb lv ts s.pass → Calls Tryz.prog 86 #[.pointer (some ⟨pb, 0, none⟩)] W (RetE W pb lv ts X1 r1))) (r2 : List PS × S) (hr2 : (∀ (W : World) (X1 : List Nat), Away W pb X1 → PIn W pb lv ts r1.2 → Calls Tryz.prog 130 #[.pointer (some ⟨pb, 0, none⟩)] W (RetL stK erS W pb lv ts X1 r2))) (r3 : List PS × S) (hr3 : (∀ (W : World) (X1 : List Nat), Away W pb X1 → PIn W pb lv ts (mustS kElse r2.2) → Calls Tryz.prog 130 #[.pointer (some ⟨pb, 0, none⟩)] W (RetL stK erS W pb lv ts X1 r3))) :
  Calls Tryz.prog 114 #[.pointer (some ⟨pb, 0, none⟩)] w (RetS w pb lv ts X (PS.mk 3 [] eNone r1.1 r2.1 r3.1, r3.2)) := by
 have HBeg := hid (beginS_of hA h)
 have HX := hid hA
 have HIf := hid (fun W hp => skip_any W pb lv ts s kIf (by decide) hp hT.few)
 rw [h1] at HIf
 have KHIf := hid (show skipS kIf s = s.pass by unfold skipS; rw [h1]; rfl)
 have HEx := hid hr1
 have HBl := hid hr2
 have HEl := hid (fun W hp => must_any W pb lv ts r2.2 kElse (by decide) hp hT.few)
 have HBl2 := hid hr3
 obtain ⟨xe, se⟩ := r1
 obtain ⟨xf, sf⟩ := r2
 obtain ⟨xg, sg⟩ := r3
 simp only at HEx HBl HEl HBl2 ⊢
 generalize mustS kElse sf = s5 at *
 generalize s.pass = s1 at *
 clear h1 hr1 hr2 hr3
 clear h hA
 obtain ⟨hat, hkey, hbox, haw, hpb⟩ := HBeg.out
 have HA0 := hid hat
 have HK0 := hid hkey
 have HB0 := hid hbox
 have HAw0 := hid haw
 clear hat hkey hbox haw HBeg
 have hne : w.heap.size ≠ w.heap.size + 1 := by omega
 go_enter Tryz.func114, Tryz.ntmps114
 go_wp2_with fail
 refine (HIf.out _ HA0.out.pin).mono ?_
 rintro e W1 ⟨rfl, hp, hs⟩
 rw [KHIf.out] at hp
 have HA1 := hid (HA0.out.call hp hs)
 have HK1 := hid (heap_step hs HK0.out (by omega))
 have HB1 := hid (heap_step hs HB0.out (by omega))
 have HAw1 := hid (HAw0.out.mono hs.size)
 clear hp hs HA0 HK0 HB0 HAw0  HIf KHIf
 have hB := HB1.out
 have hc2_0 : W1.cell? ⟨w.heap.size + 1, 0, none⟩ = some (.int .i64 2) := by rw [Lib.cell_of_heap hB]; rfl
 have hf2_0 := frozen_of hB 0
 have HB2 := hid (show (W1.setCell ⟨w.heap.size + 1, 0, none⟩ (.int .i64 3)).heap[w.heap.size + 1]? = some (.cells #[.int .i64 3, .string ⟨#[]⟩, .int .i64 0, .int .i64 0, .string ⟨#[]⟩, .bool false, .slice none 0 0, .int .i64 0, .int .i64 0, .string ⟨#[]⟩, .bool false, .slice none 0 0, .slice none 0 0, .slice none 0 0] 68 (0, 0)) from heap_setCell_same _ _ 0 _ _ (.int .i64 3) hB)
 have HA2 := hid (HA1.out.cell (b := w.heap.size + 1) (by omega) 0 (.int .i64 3))
 have HK2 := hid ((Below.heap_setCell W1 ⟨w.heap.size + 1, 0, none⟩ (.int .i64 3) w.heap.size hne).trans HK1.out)
 have HAw2 := hid (HAw1.out.mono (w' := W1.setCell ⟨w.heap.size + 1, 0, none⟩ (.int .i64 3)) (by simp))
 have kc := keepsL_cell (X := ((w.heap.size + 1) :: w.heap.size :: X)) W1 (b := w.heap.size + 1) (by simp) 0 (.int .i64 3)
 clear hB kc HA1 HK1 HB1 HAw1 
 go_wp2_with fail
 refine (HEx.out _ _ HAw2.out HA2.out.pin).mono ?_
 rintro e W3 ⟨Te, rfl, hin, her, hp, hs⟩
 obtain ⟨ke, ne, te, me, pe, le, ce, qe, rfl⟩ := ex_open hin
 rw [Ex.val_mk]
 have HA3 := hid (HA2.out.call hp hs)
 have HK3 := hid (heap_step hs HK2.out (by omega))
 have HB3 := hid (heap_step hs HB2.out (by omega))
 have HAw3 := hid (HAw2.out.mono hs.size)
 have HEe := hid her
 have HIe_3 := hid hin
 clear hp hs HA2 HK2 HB2 HAw2  hin her HEx
 have hB := HB3.out
 have HTh := hid (there_of (o := 7) hB (by simp))
 have HB4 := hid (cells_at7 (a0 := .int .i64 ke) (a1 := .int .i64 ne) (a2 := .string te) (a3 := .bool me) (a4 := .slice pe le ce) hB)
 have HA4 := hid (At.cells (b := w.heap.size + 1) (by omega) [.int .i64 ke, .int .i64 ne, .string te, .bool me, .slice pe le ce] 7 _ HA3.out)
 have HK4 := hid ((cells_other hne [.int .i64 ke, .int .i64 ne, .string te, .bool me, .slice pe le ce] 7 W3).trans HK3.out)
 have HAw4 := hid (HAw3.out.mono (w' := W3.setCells (w.heap.size + 1) 7 [.int .i64 ke, .int .i64 ne, .string te, .bool me, .slice pe le ce]) (by rw [cells_size]; exact Nat.le_refl _))
 have kc := keepsL_cells (X := ((w.heap.size + 1) :: w.heap.size :: X)) (b := w.heap.size + 1) (by simp) [.int .i64 ke, .int .i64 ne, .string te, .bool me, .slice pe le ce] 7 W3
 have HIe_4 := hid (Ex.In.keep kc _ HIe_3.out)
 clear hB kc HA3 HK3 HB3 HAw3 HIe_3
 go_wp2_with (first | (refine wpList_store_mid (op := ⟨none, _, _, _, _, _⟩) rfl _ _ _ rfl (w.heap.size + 1) 7 #[.int .i64 ke, .int .i64 ne, .string te, .bool me, .slice pe le ce] rfl rfl HTh.out ex_sz (ex_one _ _ _ _ _ _ _) ?_))
 refine (HBl.out _ _ HAw4.out HA4.out.pin).mono ?_
 rintro e W5 ⟨vf, lif, rfl, hlies, hins, hmap, hp, hs⟩
 obtain ⟨pf, cf, hv, _, _⟩ := id hlies
 rw [List.length_map] at hv
 obtain ⟨zf, hz⟩ : ∃ z, lif.length = z := ⟨_, rfl⟩
 rw [hz] at hv
 subst hv
 clear hz
 have HA5 := hid (HA4.out.call hp hs)
 have HK5 := hid (heap_step hs HK4.out (by omega))
 have HB5 := hid (heap_step hs HB4.out (by omega))
 have HAw5 := hid (HAw4.out.mono hs.size)
 have HIe_5 := hid (Ex.In.keep (keepsL_step hs (by simp [HX.out.mem])) _ HIe_4.out)
 have HMf := hid hmap
 have HIf_5 := hid (And.intro hlies hins)
 clear hp hs HA4 HK4 HB4 HAw4 HIe_4  hlies hins hmap HBl
 have hB := HB5.out
 have hc6_12 : W5.cell? ⟨w.heap.size + 1, 12, none⟩ = some (.slice none 0 0) := by rw [Lib.cell_of_heap hB]; rfl
 have hf6_12 := frozen_of hB 12
 have HB6 := hid (show (W5.setCell ⟨w.heap.size + 1, 12, none⟩ (.slice pf zf cf)).heap[w.heap.size + 1]? = some (.cells #[.int .i64 3, .string ⟨#[]⟩, .int .i64 0, .int .i64 0, .string ⟨#[]⟩, .bool false, .slice none 0 0, .int .i64 ke, .int .i64 ne, .string te, .bool me, .slice pe le ce, .slice pf zf cf, .slice none 0 0] 68 (0, 0)) from heap_setCell_same _ _ 12 _ _ (.slice pf zf cf) hB)
 have HA6 := hid (HA5.out.cell (b := w.heap.size + 1) (by omega) 12 (.slice pf zf cf))
 have HK6 := hid ((Below.heap_setCell W5 ⟨w.heap.size + 1, 12, none⟩ (.slice pf zf cf) w.heap.size hne).trans HK5.out)
 have HAw6 := hid (HAw5.out.mono (w' := W5.setCell ⟨w.heap.size + 1, 12, none⟩ (.slice pf zf cf)) (by simp))
 have kc := keepsL_cell (X := ((w.heap.size + 1) :: w.heap.size :: X)) W5 (b := w.heap.size + 1) (by simp) 12 (.slice pf zf cf)
 have HIe_6 := hid (Ex.In.keep kc _ HIe_5.out)
 have HIf_6 := hid (And.intro (HIf_5.out.1.keep kc) (fun a ha => St.In.keep kc _ (HIf_5.out.2 a ha)))
 clear hB kc HA5 HK5 HB5 HAw5 HIe_5 HIf_5
 go_wp2_with fail
 refine (HEl.out _ HA6.out.pin).mono ?_
 rintro e W7 ⟨rfl, hp, hs⟩
 have HA7 := hid (HA6.out.call hp hs)
 have HK7 := hid (heap_step hs HK6.out (by omega))
 have HB7 := hid (heap_step hs HB6.out (by omega))
 have HAw7 := hid (HAw6.out.mono hs.size)
 have HIe_7 := hid (Ex.In.keep (keepsL_step hs (by simp [HX.out.mem])) _ HIe_6.out)
 have HIf_7 := hid (And.intro (HIf_6.out.1.keep (keepsL_step hs (by simp [HX.out.mem]))) (fun a ha => St.In.keep (keepsL_step hs (by simp [HX.out.mem])) _ (HIf_6.out.2 a ha)))
 clear hp hs HA6 HK6 HB6 HAw6 HIe_6 HIf_6  HEl 
 go_wp2_with fail
 refine (HBl2.out _ _ HAw7.out HA7.out.pin).mono ?_
 rintro e W8 ⟨vg, lig, rfl, hlies, hins, hmap, hp, hs⟩
 obtain ⟨pg, cg, hv, _, _⟩ := id hlies
 rw [List.length_map] at hv
 obtain ⟨zg, hz⟩ : ∃ z, lig.length = z := ⟨_, rfl⟩
 rw [hz] at hv
 subst hv
 clear hz
 have HA8 := hid (HA7.out.call hp hs)
 have HK8 := hid (heap_step hs HK7.out (by omega))
 have HB8 := hid (heap_step hs HB7.out (by omega))
 have HAw8 := hid (HAw7.out.mono hs.size)
 have HIe_8 := hid (Ex.In.keep (keepsL_step hs (by simp [HX.out.mem])) _ HIe_7.out)
 have HIf_8 := hid (And.intro (HIf_7.out.1.keep (keepsL_step hs (by simp [HX.out.mem]))) (fun a ha => St.In.keep (keepsL_step hs (by simp [HX.out.mem])) _ (HIf_7.out.2 a ha)))
 have HMg := hid hmap
 have HIg_8 := hid (And.intro hlies hins)
 clear hp hs HA7 HK7 HB7 HAw7 HIe_7 HIf_7  hlies hins hmap HBl2
 have hB := HB8.out
 have hc9_13 : W8.cell? ⟨w.heap.size + 1, 13, none⟩ = some (.slice none 0 0) := by rw [Lib.cell_of_heap hB]; rfl
 have hf9_13 := frozen_of hB 13
 have HB9 := hid (show (W8.setCell ⟨w.heap.size + 1, 13, none⟩ (.slice pg zg cg)).heap[w.heap.size + 1]? = some (.cells #[.int .i64 3, .string ⟨#[]⟩, .int .i64 0, .int .i64 0, .string ⟨#[]⟩, .bool false, .slice none 0 0, .int .i64 ke, .int .i64 ne, .string te, .bool me, .slice pe le ce, .slice pf zf cf, .slice pg zg cg] 68 (0, 0)) from heap_setCell_same _ _ 13 _ _ (.slice pg zg cg) hB)
 have HA9 := hid (HA8.out.cell (b := w.heap.size + 1) (by omega) 13 (.slice pg zg cg))
 have HK9 := hid ((Below.heap_setCell W8 ⟨w.heap.size + 1, 13, none⟩ (.slice pg zg cg) w.heap.size hne).trans HK8.out)
 have HAw9 := hid (HAw8.out.mono (w' := W8.setCell ⟨w.heap.size + 1, 13, none⟩ (.slice pg zg cg)) (by simp))
 have kc := keepsL_cell (X := ((w.heap.size + 1) :: w.heap.size :: X)) W8 (b := w.heap.size + 1) (by simp) 13 (.slice pg zg cg)
 have HIe_9 := hid (Ex.In.keep kc _ HIe_8.out)
 have HIf_9 := hid (And.intro (HIf_8.out.1.keep kc) (fun a ha => St.In.keep kc _ (HIf_8.out.2 a ha)))
 have HIg_9 := hid (And.intro (HIg_8.out.1.keep kc) (fun a ha => St.In.keep kc _ (HIg_8.out.2 a ha)))
 clear hB kc HA8 HK8 HB8 HAw8 HIe_8 HIf_8 HIg_8
 have HJ := hid (box_load (cs := [.int .i64 3, .string ⟨#[]⟩, .int .i64 0, .int .i64 0, .string ⟨#[]⟩, .bool false, .slice none 0 0, .int .i64 ke, .int .i64 ne, .string te, .bool me, .slice pe le ce, .slice pf zf cf, .slice pg zg cg]) (HB9.out))
 have HO := hid (st_one (cs := [.int .i64 3, .string ⟨#[]⟩, .int .i64 0, .int .i64 0, .string ⟨#[]⟩, .bool false, .slice none 0 0, .int .i64 ke, .int .i64 ne, .string te, .bool me, .slice pe le ce, .slice pf zf cf, .slice pg zg cg]) (st_all _ _ _ _ _ _ _ _ _ _ _ _ _ _ _ _ _ _ _ _ _ _))
 go_wp2_with (first | (refine wpList_load_at (o := ⟨some 19, _, _, _, _, _⟩) rfl _ _ rfl (w.heap.size + 1) 0 rfl [.int .i64 3, .string ⟨#[]⟩, .int .i64 0, .int .i64 0, .string ⟨#[]⟩, .bool false, .slice none 0 0, .int .i64 ke, .int .i64 ne, .string te, .bool me, .slice pe le ce, .slice pf zf cf, .slice pg zg cg] _ HJ.out Tryz.underlying68 rfl st_sz ?_) | (refine wpList_store_row (o := ⟨none, _, _, _, _, _⟩) rfl _ _ _ rfl w.heap.size #[.int .i64 3, .string ⟨#[]⟩, .int .i64 0, .int .i64 0, .string ⟨#[]⟩, .bool false, .slice none 0 0, .int .i64 ke, .int .i64 ne, .string te, .bool me, .slice pe le ce, .slice pf zf cf, .slice pg zg cg] rfl rfl _ _ HK9.out st_sz rfl HO.out ?_))
 refine bodyPost_ret (results_cell_row rfl _ _ w.heap.size _ #[.int .i64 3, .string ⟨#[]⟩, .int .i64 0, .int .i64 0, .string ⟨#[]⟩, .bool false, .slice none 0 0, .int .i64 ke, .int .i64 ne, .string te, .bool me, .slice pe le ce, .slice pf zf cf, .slice pg zg cg] _ _ rfl (setRow_heap _ _ _ _ _ _ HK9.out) Tryz.underlying68 rfl st_sz) ?_ (by have h := retS_row (X := X) HA9.out (.mk 3 ⟨#[]⟩ (.mk 0 0 ⟨#[]⟩ false (.slice none 0 0) []) (.mk ke ne te me (.slice pe le ce) qe) (.slice pf zf cf) lif (.slice pg zg cg) lig) (by rw [St.In]; exact ⟨ex_none _ _ _ _ _ (by decide), HIe_9.out, HIf_9.out.1, (St.ins_iff _ _).2 HIf_9.out.2, HIg_9.out.1, (St.ins_iff _ _).2 HIg_9.out.2⟩) (by rw [erS, HEe.out, erSs_map, erSs_map, HMf.out, HMg.out] <;> rfl) #[.int .i64 3, .string ⟨#[]⟩, .int .i64 0, .int .i64 0, .string ⟨#[]⟩, .bool false, .slice none 0 0, .int .i64 ke, .int .i64 ne, .string te, .bool me, .slice pe le ce, .slice pf zf cf, .slice pg zg cg]; exact h)
 rfl

set_option maxHeartbeats 8000000 in
set_option maxRecDepth 100000 in
theorem stmt_repeat (pb : Nat) (lv : Value) (ts : List Tok) (_N : Nat) (hT : ToksOk ts) (w : World) (s : S) (X : List Nat) (hA : Away w pb X) (h : PIn w pb lv ts s) (h0 : nextB s kIf = false) (h1 : nextB s kRepeat = true) (r1 : PE × S) (hr1 : (∀ (W : World) (X1 : List Nat), Away W pb X1 → PIn W pb lv ts s.pass → Calls Tryz.prog 86 #[.pointer (some ⟨pb, 0, none⟩)] W (RetE W pb lv ts X1 r1))) (r2 : List PS × S) (hr2 : (∀ (W : World) (X1 : List Nat), Away W pb X1 → PIn W pb lv ts r1.2 → Calls Tryz.prog 130 #[.pointer (some ⟨pb, 0, none⟩)] W (RetL stK erS W pb lv ts X1 r2))) :
  Calls Tryz.prog 114 #[.pointer (some ⟨pb, 0, none⟩)] w (RetS w pb lv ts X (PS.mk 4 [] eNone r1.1 r2.1 [], r2.2)) := by
 have HBeg := hid (beginS_of hA h)
 have HX := hid hA
 have HIf := hid (fun W hp => skip_any W pb lv ts s kIf (by decide) hp hT.few)
 rw [h0] at HIf
 have KHIf := hid (show skipS kIf s = s by unfold skipS; rw [h0]; rfl)
 have HRp := hid (fun W hp => skip_any W pb lv ts s kRepeat (by decide) hp hT.few)
 rw [h1] at HRp
 have KHRp := hid (show skipS kRepeat s = s.pass by unfold skipS; rw [h1]; rfl)
 have HEx := hid hr1
 have HBl := hid hr2
 obtain ⟨xe, se⟩ := r1
 obtain ⟨xf, sf⟩ := r2
 simp only at HEx HBl ⊢
 generalize s.pass = s1 at *
 clear h0 h1 hr1 hr2
 clear h hA
 obtain ⟨hat, hkey, hbox, haw, hpb⟩ := HBeg.out
 have HA0 := hid hat
 have HK0 := hid hkey
 have HB0 := hid hbox
 have HAw0 := hid haw
 clear hat hkey hbox haw HBeg
 have hne : w.heap.size ≠ w.heap.size + 1 := by omega
 go_enter Tryz.func114, Tryz.ntmps114
 go_wp2_with fail
 refine (HIf.out _ HA0.out.pin).mono ?_
 rintro e W1 ⟨rfl, hp, hs⟩
 rw [KHIf.out] at hp
 have HA1 := hid (HA0.out.call hp hs)
 have HK1 := hid (heap_step hs HK0.out (by omega))
 have HB1 := hid (heap_step hs HB0.out (by omega))
 have HAw1 := hid (HAw0.out.mono hs.size)
 clear hp hs HA0 HK0 HB0 HAw0  HIf KHIf
 go_wp2_with fail
 refine (HRp.out _ HA1.out.pin).mono ?_
 rintro e W2 ⟨rfl, hp, hs⟩
 rw [KHRp.out] at hp
 have HA2 := hid (HA1.out.call hp hs)
 have HK2 := hid (heap_step hs HK1.out (by omega))
 have HB2 := hid (heap_step hs HB1.out (by omega))
 have HAw2 := hid (HAw1.out.mono hs.size)
 clear hp hs HA1 HK1 HB1 HAw1  HRp KHRp
 have hB := HB2.out
 have hc3_0 : W2.cell? ⟨w.heap.size + 1, 0, none⟩ = some (.int .i64 2) := by rw [Lib.cell_of_heap hB]; rfl
 have hf3_0 := frozen_of hB 0
 have HB3 := hid (show (W2.setCell ⟨w.heap.size + 1, 0, none⟩ (.int .i64 4)).heap[w.heap.size + 1]? = some (.cells #[.int .i64 4, .string ⟨#[]⟩, .int .i64 0, .int .i64 0, .string ⟨#[]⟩, .bool false, .slice none 0 0, .int .i64 0, .int .i64 0, .string ⟨#[]⟩, .bool false, .slice none 0 0, .slice none 0 0, .slice none 0 0] 68 (0, 0)) from heap_setCell_same _ _ 0 _ _ (.int .i64 4) hB)
 have HA3 := hid (HA2.out.cell (b := w.heap.size + 1) (by omega) 0 (.int .i64 4))
 have HK3 := hid ((Below.heap_setCell W2 ⟨w.heap.size + 1, 0, none⟩ (.int .i64 4) w.heap.size hne).trans HK2.out)
 have HAw3 := hid (HAw2.out.mono (w' := W2.setCell ⟨w.heap.size + 1, 0, none⟩ (.int .i64 4)) (by simp))
 have kc := keepsL_cell (X := ((w.heap.size + 1) :: w.heap.size :: X)) W2 (b := w.heap.size + 1) (by simp) 0 (.int .i64 4)
 clear hB kc HA2 HK2 HB2 HAw2 
 go_wp2_with fail
 refine (HEx.out _ _ HAw3.out HA3.out.pin).mono ?_
 rintro e W4 ⟨Te, rfl, hin, her, hp, hs⟩
 obtain ⟨ke, ne, te, me, pe, le, ce, qe, rfl⟩ := ex_open hin
 rw [Ex.val_mk]
 have HA4 := hid (HA3.out.call hp hs)
 have HK4 := hid (heap_step hs HK3.out (by omega))
 have HB4 := hid (heap_step hs HB3.out (by omega))
 have HAw4 := hid (HAw3.out.mono hs.size)
 have HEe := hid her
 have HIe_4 := hid hin
 clear hp hs HA3 HK3 HB3 HAw3  hin her HEx
 have hB := HB4.out
 have HTh := hid (there_of (o := 7) hB (by simp))
 have HB5 := hid (cells_at7 (a0 := .int .i64 ke) (a1 := .int .i64 ne) (a2 := .string te) (a3 := .bool me) (a4 := .slice pe le ce) hB)
 have HA5 := hid (At.cells (b := w.heap.size + 1) (by omega) [.int .i64 ke, .int .i64 ne, .string te, .bool me, .slice pe le ce] 7 _ HA4.out)
 have HK5 := hid ((cells_other hne [.int .i64 ke, .int .i64 ne, .string te, .bool me, .slice pe le ce] 7 W4).trans HK4.out)
 have HAw5 := hid (HAw4.out.mono (w' := W4.setCells (w.heap.size + 1) 7 [.int .i64 ke, .int .i64 ne, .string te, .bool me, .slice pe le ce]) (by rw [cells_size]; exact Nat.le_refl _))
 have kc := keepsL_cells (X := ((w.heap.size + 1) :: w.heap.size :: X)) (b := w.heap.size + 1) (by simp) [.int .i64 ke, .int .i64 ne, .string te, .bool me, .slice pe le ce] 7 W4
 have HIe_5 := hid (Ex.In.keep kc _ HIe_4.out)
 clear hB kc HA4 HK4 HB4 HAw4 HIe_4
 go_wp2_with (first | (refine wpList_store_mid (op := ⟨none, _, _, _, _, _⟩) rfl _ _ _ rfl (w.heap.size + 1) 7 #[.int .i64 ke, .int .i64 ne, .string te, .bool me, .slice pe le ce] rfl rfl HTh.out ex_sz (ex_one _ _ _ _ _ _ _) ?_))
 refine (HBl.out _ _ HAw5.out HA5.out.pin).mono ?_
 rintro e W6 ⟨vf, lif, rfl, hlies, hins, hmap, hp, hs⟩
 obtain ⟨pf, cf, hv, _, _⟩ := id hlies
 rw [List.length_map] at hv
 obtain ⟨zf, hz⟩ : ∃ z, lif.length = z := ⟨_, rfl⟩
 rw [hz] at hv
 subst hv
 clear hz
 have HA6 := hid (HA5.out.call hp hs)
 have HK6 := hid (heap_step hs HK5.out (by omega))
 have HB6 := hid (heap_step hs HB5.out (by omega))
 have HAw6 := hid (HAw5.out.mono hs.size)
 have HIe_6 := hid (Ex.In.keep (keepsL_step hs (by simp [HX.out.mem])) _ HIe_5.out)
 have HMf := hid hmap
 have HIf_6 := hid (And.intro hlies hins)
 clear hp hs HA5 HK5 HB5 HAw5 HIe_5  hlies hins hmap HBl
 have hB := HB6.out
 have hc7_12 : W6.cell? ⟨w.heap.size + 1, 12, none⟩ = some (.slice none 0 0) := by rw [Lib.cell_of_heap hB]; rfl
 have hf7_12 := frozen_of hB 12
 have HB7 := hid (show (W6.setCell ⟨w.heap.size + 1, 12, none⟩ (.slice pf zf cf)).heap[w.heap.size + 1]? = some (.cells #[.int .i64 4, .string ⟨#[]⟩, .int .i64 0, .int .i64 0, .string ⟨#[]⟩, .bool false, .slice none 0 0, .int .i64 ke, .int .i64 ne, .string te, .bool me, .slice pe le ce, .slice pf zf cf, .slice none 0 0] 68 (0, 0)) from heap_setCell_same _ _ 12 _ _ (.slice pf zf cf) hB)
 have HA7 := hid (HA6.out.cell (b := w.heap.size + 1) (by omega) 12 (.slice pf zf cf))
 have HK7 := hid ((Below.heap_setCell W6 ⟨w.heap.size + 1, 12, none⟩ (.slice pf zf cf) w.heap.size hne).trans HK6.out)
 have HAw7 := hid (HAw6.out.mono (w' := W6.setCell ⟨w.heap.size + 1, 12, none⟩ (.slice pf zf cf)) (by simp))
 have kc := keepsL_cell (X := ((w.heap.size + 1) :: w.heap.size :: X)) W6 (b := w.heap.size + 1) (by simp) 12 (.slice pf zf cf)
 have HIe_7 := hid (Ex.In.keep kc _ HIe_6.out)
 have HIf_7 := hid (And.intro (HIf_6.out.1.keep kc) (fun a ha => St.In.keep kc _ (HIf_6.out.2 a ha)))
 clear hB kc HA6 HK6 HB6 HAw6 HIe_6 HIf_6
 have HJ := hid (box_load (cs := [.int .i64 4, .string ⟨#[]⟩, .int .i64 0, .int .i64 0, .string ⟨#[]⟩, .bool false, .slice none 0 0, .int .i64 ke, .int .i64 ne, .string te, .bool me, .slice pe le ce, .slice pf zf cf, .slice none 0 0]) (HB7.out))
 have HO := hid (st_one (cs := [.int .i64 4, .string ⟨#[]⟩, .int .i64 0, .int .i64 0, .string ⟨#[]⟩, .bool false, .slice none 0 0, .int .i64 ke, .int .i64 ne, .string te, .bool me, .slice pe le ce, .slice pf zf cf, .slice none 0 0]) (st_all _ _ _ _ _ _ _ _ _ _ _ _ _ _ _ _ _ _ _ _ _ _))
 go_wp2_with (first | (refine wpList_load_at (o := ⟨some 29, _, _, _, _, _⟩) rfl _ _ rfl (w.heap.size + 1) 0 rfl [.int .i64 4, .string ⟨#[]⟩, .int .i64 0, .int .i64 0, .string ⟨#[]⟩, .bool false, .slice none 0 0, .int .i64 ke, .int .i64 ne, .string te, .bool me, .slice pe le ce, .slice pf zf cf, .slice none 0 0] _ HJ.out Tryz.underlying68 rfl st_sz ?_) | (refine wpList_store_row (o := ⟨none, _, _, _, _, _⟩) rfl _ _ _ rfl w.heap.size #[.int .i64 4, .string ⟨#[]⟩, .int .i64 0, .int .i64 0, .string ⟨#[]⟩, .bool false, .slice none 0 0, .int .i64 ke, .int .i64 ne, .string te, .bool me, .slice pe le ce, .slice pf zf cf, .slice none 0 0] rfl rfl _ _ HK7.out st_sz rfl HO.out ?_))
 refine bodyPost_ret (results_cell_row rfl _ _ w.heap.size _ #[.int .i64 4, .string ⟨#[]⟩, .int .i64 0, .int .i64 0, .string ⟨#[]⟩, .bool false, .slice none 0 0, .int .i64 ke, .int .i64 ne, .string te, .bool me, .slice pe le ce, .slice pf zf cf, .slice none 0 0] _ _ rfl (setRow_heap _ _ _ _ _ _ HK7.out) Tryz.underlying68 rfl st_sz) ?_ (by have h := retS_row (X := X) HA7.out (.mk 4 ⟨#[]⟩ (.mk 0 0 ⟨#[]⟩ false (.slice none 0 0) []) (.mk ke ne te me (.slice pe le ce) qe) (.slice pf zf cf) lif (.slice none 0 0) []) (by rw [St.In]; exact ⟨ex_none _ _ _ _ _ (by decide), HIe_7.out, HIf_7.out.1, (St.ins_iff _ _).2 HIf_7.out.2, lies_none, (St.ins_iff _ _).2 (fun a ha => by simp at ha)⟩) (by rw [erS, HEe.out, erSs_map, HMf.out] <;> rfl) #[.int .i64 4, .string ⟨#[]⟩, .int .i64 0, .int .i64 0, .string ⟨#[]⟩, .bool false, .slice none 0 0, .int .i64 ke, .int .i64 ne, .string te, .bool me, .slice pe le ce, .slice pf zf cf, .slice none 0 0]; exact h)
 rfl

set_option maxHeartbeats 8000000 in
set_option maxRecDepth 100000 in
theorem stmt_let (pb : Nat) (lv : Value) (ts : List Tok) (_N : Nat) (hT : ToksOk ts) (w : World) (s : S) (X : List Nat) (hA : Away w pb X) (h : PIn w pb lv ts s) (h0 : nextB s kIf = false) (h1 : nextB s kRepeat = false) (h2 : nextB s kLet = true) (r1 : PE × S) (hr1 : (∀ (W : World) (X1 : List Nat), Away W pb X1 → PIn W pb lv ts (mustS mIs (nameS s.pass).2) → Calls Tryz.prog 86 #[.pointer (some ⟨pb, 0, none⟩)] W (RetE W pb lv ts X1 r1))) :
  Calls Tryz.prog 114 #[.pointer (some ⟨pb, 0, none⟩)] w (RetS w pb lv ts X (PS.mk 1 (nameS s.pass).1 eNone r1.1 [] [], mustS mSemi r1.2)) := by
 have HBeg := hid (beginS_of hA h)
 have HX := hid hA
 have HIf := hid (fun W hp => skip_any W pb lv ts s kIf (by decide) hp hT.few)
 rw [h0] at HIf
 have KHIf := hid (show skipS kIf s = s by unfold skipS; rw [h0]; rfl)
 have HRp := hid (fun W hp => skip_any W pb lv ts s kRepeat (by decide) hp hT.few)
 rw [h1] at HRp
 have KHRp := hid (show skipS kRepeat s = s by unfold skipS; rw [h1]; rfl)
 have HLt := hid (fun W hp => skip_any W pb lv ts s kLet (by decide) hp hT.few)
 rw [h2] at HLt
 have KHLt := hid (show skipS kLet s = s.pass by unfold skipS; rw [h2]; rfl)
 generalize s.pass = s1 at *
 have HNm := hid (fun W hp => name_any W pb lv ts s1 hp hT)
 obtain ⟨⟨x, s2⟩, hnm⟩ : ∃ a, nameS s1 = a := ⟨_, rfl⟩
 rw [hnm] at HNm hr1 ⊢
 simp only at HNm hr1 ⊢
 have HMs := hid (fun W hp => must_any W pb lv ts s2 mIs (by decide) hp hT.few)
 generalize mustS mIs s2 = s3 at *
 have HEx := hid hr1
 obtain ⟨xe, se⟩ := r1
 simp only at HEx ⊢
 have HMe := hid (fun W hp => must_any W pb lv ts se mSemi (by decide) hp hT.few)
 generalize mustS mSemi se = s4 at *
 have HBS := hid (bs_Sb x)
 generalize Sb x = xs at *
 clear h0 h1 h2 hr1 hnm
 clear h hA
 obtain ⟨hat, hkey, hbox, haw, hpb⟩ := HBeg.out
 have HA0 := hid hat
 have HK0 := hid hkey
 have HB0 := hid hbox
 have HAw0 := hid haw
 clear hat hkey hbox haw HBeg
 have hne : w.heap.size ≠ w.heap.size + 1 := by omega
 go_enter Tryz.func114, Tryz.ntmps114
 go_wp2_with fail
 refine (HIf.out _ HA0.out.pin).mono ?_
 rintro e W1 ⟨rfl, hp, hs⟩
 rw [KHIf.out] at hp
 have HA1 := hid (HA0.out.call hp hs)
 have HK1 := hid (heap_step hs HK0.out (by omega))
 have HB1 := hid (heap_step hs HB0.out (by omega))
 have HAw1 := hid (HAw0.out.mono hs.size)
 clear hp hs HA0 HK0 HB0 HAw0  HIf KHIf
 go_wp2_with fail
 refine (HRp.out _ HA1.out.pin).mono ?_
 rintro e W2 ⟨rfl, hp, hs⟩
 rw [KHRp.out] at hp
 have HA2 := hid (HA1.out.call hp hs)
 have HK2 := hid (heap_step hs HK1.out (by omega))
 have HB2 := hid (heap_step hs HB1.out (by omega))
 have HAw2 := hid (HAw1.out.mono hs.size)
 clear hp hs HA1 HK1 HB1 HAw1  HRp KHRp
 go_wp2_with fail
 refine (HLt.out _ HA2.out.pin).mono ?_
 rintro e W3 ⟨rfl, hp, hs⟩
 rw [KHLt.out] at hp
 have HA3 := hid (HA2.out.call hp hs)
 have HK3 := hid (heap_step hs HK2.out (by omega))
 have HB3 := hid (heap_step hs HB2.out (by omega))
 have HAw3 := hid (HAw2.out.mono hs.size)
 clear hp hs HA2 HK2 HB2 HAw2  HLt KHLt
 have hB := HB3.out
 have hc4_0 : W3.cell? ⟨w.heap.size + 1, 0, none⟩ = some (.int .i64 2) := by rw [Lib.cell_of_heap hB]; rfl
 have hf4_0 := frozen_of hB 0
 have HB4 := hid (show (W3.setCell ⟨w.heap.size + 1, 0, none⟩ (.int .i64 1)).heap[w.heap.size + 1]? = some (.cells #[.int .i64 1, .string ⟨#[]⟩, .int .i64 0, .int .i64 0, .string ⟨#[]⟩, .bool false, .slice none 0 0, .int .i64 0, .int .i64 0, .string ⟨#[]⟩, .bool false, .slice none 0 0, .slice none 0 0, .slice none 0 0] 68 (0, 0)) from heap_setCell_same _ _ 0 _ _ (.int .i64 1) hB)
 have HA4 := hid (HA3.out.cell (b := w.heap.size + 1) (by omega) 0 (.int .i64 1))
 have HK4 := hid ((Below.heap_setCell W3 ⟨w.heap.size + 1, 0, none⟩ (.int .i64 1) w.heap.size hne).trans HK3.out)
 have HAw4 := hid (HAw3.out.mono (w' := W3.setCell ⟨w.heap.size + 1, 0, none⟩ (.int .i64 1)) (by simp))
 have kc := keepsL_cell (X := ((w.heap.size + 1) :: w.heap.size :: X)) W3 (b := w.heap.size + 1) (by simp) 0 (.int .i64 1)
 clear hB kc HA3 HK3 HB3 HAw3 
 go_wp2_with fail
 refine (HNm.out _ HA4.out.pin).mono ?_
 rintro e W5 ⟨rfl, hp, hs⟩
 have HA5 := hid (HA4.out.call hp hs)
 have HK5 := hid (heap_step hs HK4.out (by omega))
 have HB5 := hid (heap_step hs HB4.out (by omega))
 have HAw5 := hid (HAw4.out.mono hs.size)
 clear hp hs HA4 HK4 HB4 HAw4  HNm 
 have hB := HB5.out
 have hc6_1 : W5.cell? ⟨w.heap.size + 1, 1, none⟩ = some (.string ⟨#[]⟩) := by rw [Lib.cell_of_heap hB]; rfl
 have hf6_1 := frozen_of hB 1
 have HB6 := hid (show (W5.setCell ⟨w.heap.size + 1, 1, none⟩ (.string xs)).heap[w.heap.size + 1]? = some (.cells #[.int .i64 1, .string xs, .int .i64 0, .int .i64 0, .string ⟨#[]⟩, .bool false, .slice none 0 0, .int .i64 0, .int .i64 0, .string ⟨#[]⟩, .bool false, .slice none 0 0, .slice none 0 0, .slice none 0 0] 68 (0, 0)) from heap_setCell_same _ _ 1 _ _ (.string xs) hB)
 have HA6 := hid (HA5.out.cell (b := w.heap.size + 1) (by omega) 1 (.string xs))
 have HK6 := hid ((Below.heap_setCell W5 ⟨w.heap.size + 1, 1, none⟩ (.string xs) w.heap.size hne).trans HK5.out)
 have HAw6 := hid (HAw5.out.mono (w' := W5.setCell ⟨w.heap.size + 1, 1, none⟩ (.string xs)) (by simp))
 have kc := keepsL_cell (X := ((w.heap.size + 1) :: w.heap.size :: X)) W5 (b := w.heap.size + 1) (by simp) 1 (.string xs)
 clear hB kc HA5 HK5 HB5 HAw5 
 go_wp2_with fail
 refine (HMs.out _ HA6.out.pin).mono ?_
 rintro e W7 ⟨rfl, hp, hs⟩
 have HA7 := hid (HA6.out.call hp hs)
 have HK7 := hid (heap_step hs HK6.out (by omega))
 have HB7 := hid (heap_step hs HB6.out (by omega))
 have HAw7 := hid (HAw6.out.mono hs.size)
 clear hp hs HA6 HK6 HB6 HAw6  HMs 
 go_wp2_with fail
 refine (HEx.out _ _ HAw7.out HA7.out.pin).mono ?_
 rintro e W8 ⟨Te, rfl, hin, her, hp, hs⟩
 obtain ⟨ke, ne, te, me, pe, le, ce, qe, rfl⟩ := ex_open hin
 rw [Ex.val_mk]
 have HA8 := hid (HA7.out.call hp hs)
 have HK8 := hid (heap_step hs HK7.out (by omega))
 have HB8 := hid (heap_step hs HB7.out (by omega))
 have HAw8 := hid (HAw7.out.mono hs.size)
 have HEe := hid her
 have HIe_8 := hid hin
 clear hp hs HA7 HK7 HB7 HAw7  hin her HEx
 have hB := HB8.out
 have HTh := hid (there_of (o := 7) hB (by simp))
 have HB9 := hid (cells_at7 (a0 := .int .i64 ke) (a1 := .int .i64 ne) (a2 := .string te) (a3 := .bool me) (a4 := .slice pe le ce) hB)
 have HA9 := hid (At.cells (b := w.heap.size + 1) (by omega) [.int .i64 ke, .int .i64 ne, .string te, .bool me, .slice pe le ce] 7 _ HA8.out)
 have HK9 := hid ((cells_other hne [.int .i64 ke, .int .i64 ne, .string te, .bool me, .slice pe le ce] 7 W8).trans HK8.out)
 have HAw9 := hid (HAw8.out.mono (w' := W8.setCells (w.heap.size + 1) 7 [.int .i64 ke, .int .i64 ne, .string te, .bool me, .slice pe le ce]) (by rw [cells_size]; exact Nat.le_refl _))
 have kc := keepsL_cells (X := ((w.heap.size + 1) :: w.heap.size :: X)) (b := w.heap.size + 1) (by simp) [.int .i64 ke, .int .i64 ne, .string te, .bool me, .slice pe le ce] 7 W8
 have HIe_9 := hid (Ex.In.keep kc _ HIe_8.out)
 clear hB kc HA8 HK8 HB8 HAw8 HIe_8
 go_wp2_with (first | (refine wpList_store_mid (op := ⟨none, _, _, _, _, _⟩) rfl _ _ _ rfl (w.heap.size + 1) 7 #[.int .i64 ke, .int .i64 ne, .string te, .bool me, .slice pe le ce] rfl rfl HTh.out ex_sz (ex_one _ _ _ _ _ _ _) ?_))
 refine (HMe.out _ HA9.out.pin).mono ?_
 rintro e W10 ⟨rfl, hp, hs⟩
 have HA10 := hid (HA9.out.call hp hs)
 have HK10 := hid (heap_step hs HK9.out (by omega))
 have HB10 := hid (heap_step hs HB9.out (by omega))
 have HAw10 := hid (HAw9.out.mono hs.size)
 have HIe_10 := hid (Ex.In.keep (keepsL_step hs (by simp [HX.out.mem])) _ HIe_9.out)
 clear hp hs HA9 HK9 HB9 HAw9 HIe_9  HMe 
 have HJ := hid (box_load (cs := [.int .i64 1, .string xs, .int .i64 0, .int .i64 0, .string ⟨#[]⟩, .bool false, .slice none 0 0, .int .i64 ke, .int .i64 ne, .string te, .bool me, .slice pe le ce, .slice none 0 0, .slice none 0 0]) (HB10.out))
 have HO := hid (st_one (cs := [.int .i64 1, .string xs, .int .i64 0, .int .i64 0, .string ⟨#[]⟩, .bool false, .slice none 0 0, .int .i64 ke, .int .i64 ne, .string te, .bool me, .slice pe le ce, .slice none 0 0, .slice none 0 0]) (st_all _ _ _ _ _ _ _ _ _ _ _ _ _ _ _ _ _ _ _ _ _ _))
 go_wp2_with (first | (refine wpList_load_at (o := ⟨some 46, _, _, _, _, _⟩) rfl _ _ rfl (w.heap.size + 1) 0 rfl [.int .i64 1, .string xs, .int .i64 0, .int .i64 0, .string ⟨#[]⟩, .bool false, .slice none 0 0, .int .i64 ke, .int .i64 ne, .string te, .bool me, .slice pe le ce, .slice none 0 0, .slice none 0 0] _ HJ.out Tryz.underlying68 rfl st_sz ?_) | (refine wpList_store_row (o := ⟨none, _, _, _, _, _⟩) rfl _ _ _ rfl w.heap.size #[.int .i64 1, .string xs, .int .i64 0, .int .i64 0, .string ⟨#[]⟩, .bool false, .slice none 0 0, .int .i64 ke, .int .i64 ne, .string te, .bool me, .slice pe le ce, .slice none 0 0, .slice none 0 0] rfl rfl _ _ HK10.out st_sz rfl HO.out ?_))
 refine bodyPost_ret (results_cell_row rfl _ _ w.heap.size _ #[.int .i64 1, .string xs, .int .i64 0, .int .i64 0, .string ⟨#[]⟩, .bool false, .slice none 0 0, .int .i64 ke, .int .i64 ne, .string te, .bool me, .slice pe le ce, .slice none 0 0, .slice none 0 0] _ _ rfl (setRow_heap _ _ _ _ _ _ HK10.out) Tryz.underlying68 rfl st_sz) ?_ (by have h := retS_row (X := X) HA10.out (.mk 1 xs (.mk 0 0 ⟨#[]⟩ false (.slice none 0 0) []) (.mk ke ne te me (.slice pe le ce) qe) (.slice none 0 0) [] (.slice none 0 0) []) (by rw [St.In]; exact ⟨ex_none _ _ _ _ _ (by decide), HIe_10.out, lies_none, (St.ins_iff _ _).2 (fun a ha => by simp at ha), lies_none, (St.ins_iff _ _).2 (fun a ha => by simp at ha)⟩) (by rw [erS, HEe.out, HBS.out] <;> rfl) #[.int .i64 1, .string xs, .int .i64 0, .int .i64 0, .string ⟨#[]⟩, .bool false, .slice none 0 0, .int .i64 ke, .int .i64 ne, .string te, .bool me, .slice pe le ce, .slice none 0 0, .slice none 0 0]; exact h)
 rfl

set_option maxHeartbeats 8000000 in
set_option maxRecDepth 100000 in
theorem stmt_set (pb : Nat) (lv : Value) (ts : List Tok) (_N : Nat) (hT : ToksOk ts) (w : World) (s : S) (X : List Nat) (hA : Away w pb X) (h : PIn w pb lv ts s) (h0 : nextB s kIf = false) (h1 : nextB s kRepeat = false) (h2 : nextB s kLet = false) (r0 : PE × S) (hr0 : (∀ (W : World) (X1 : List Nat), Away W pb X1 → PIn W pb lv ts s → Calls Tryz.prog 131 #[.pointer (some ⟨pb, 0, none⟩)] W (RetE W pb lv ts X1 r0))) (r1 : PE × S) (hr1 : (∀ (W : World) (X1 : List Nat), Away W pb X1 → PIn W pb lv ts (mustS mIs r0.2) → Calls Tryz.prog 86 #[.pointer (some ⟨pb, 0, none⟩)] W (RetE W pb lv ts X1 r1))) :
  Calls Tryz.prog 114 #[.pointer (some ⟨pb, 0, none⟩)] w (RetS w pb lv ts X (PS.mk 2 [] r0.1 r1.1 [] [], mustS mSemi r1.2)) := by
 have HBeg := hid (beginS_of hA h)
 have HX := hid hA
 have HIf := hid (fun W hp => skip_any W pb lv ts s kIf (by decide) hp hT.few)
 rw [h0] at HIf
 have KHIf := hid (show skipS kIf s = s by unfold skipS; rw [h0]; rfl)
 have HRp := hid (fun W hp => skip_any W pb lv ts s kRepeat (by decide) hp hT.few)
 rw [h1] at HRp
 have KHRp := hid (show skipS kRepeat s = s by unfold skipS; rw [h1]; rfl)
 have HLt := hid (fun W hp => skip_any W pb lv ts s kLet (by decide) hp hT.few)
 rw [h2] at HLt
 have KHLt := hid (show skipS kLet s = s by unfold skipS; rw [h2]; rfl)
 have HPl := hid hr0
 obtain ⟨xu, su⟩ := r0
 simp only at HPl hr1 ⊢
 have HMs := hid (fun W hp => must_any W pb lv ts su mIs (by decide) hp hT.few)
 generalize mustS mIs su = s3 at *
 have HEx := hid hr1
 obtain ⟨xe, se⟩ := r1
 simp only at HEx ⊢
 have HMe := hid (fun W hp => must_any W pb lv ts se mSemi (by decide) hp hT.few)
 generalize mustS mSemi se = s4 at *
 clear h0 h1 h2 hr0 hr1
 clear h hA
 obtain ⟨hat, hkey, hbox, haw, hpb⟩ := HBeg.out
 have HA0 := hid hat
 have HK0 := hid hkey
 have HB0 := hid hbox
 have HAw0 := hid haw
 clear hat hkey hbox haw HBeg
 have hne : w.heap.size ≠ w.heap.size + 1 := by omega
 go_enter Tryz.func114, Tryz.ntmps114
 go_wp2_with fail
 refine (HIf.out _ HA0.out.pin).mono ?_
 rintro e W1 ⟨rfl, hp, hs⟩
 rw [KHIf.out] at hp
 have HA1 := hid (HA0.out.call hp hs)
 have HK1 := hid (heap_step hs HK0.out (by omega))
 have HB1 := hid (heap_step hs HB0.out (by omega))
 have HAw1 := hid (HAw0.out.mono hs.size)
 clear hp hs HA0 HK0 HB0 HAw0  HIf KHIf
 go_wp2_with fail
 refine (HRp.out _ HA1.out.pin).mono ?_
 rintro e W2 ⟨rfl, hp, hs⟩
 rw [KHRp.out] at hp
 have HA2 := hid (HA1.out.call hp hs)
 have HK2 := hid (heap_step hs HK1.out (by omega))
 have HB2 := hid (heap_step hs HB1.out (by omega))
 have HAw2 := hid (HAw1.out.mono hs.size)
 clear hp hs HA1 HK1 HB1 HAw1  HRp KHRp
 go_wp2_with fail
 refine (HLt.out _ HA2.out.pin).mono ?_
 rintro e W3 ⟨rfl, hp, hs⟩
 rw [KHLt.out] at hp
 have HA3 := hid (HA2.out.call hp hs)
 have HK3 := hid (heap_step hs HK2.out (by omega))
 have HB3 := hid (heap_step hs HB2.out (by omega))
 have HAw3 := hid (HAw2.out.mono hs.size)
 clear hp hs HA2 HK2 HB2 HAw2  HLt KHLt
 go_wp2_with fail
 refine (HPl.out _ _ HAw3.out HA3.out.pin).mono ?_
 rintro e W4 ⟨Tu, rfl, hin, her, hp, hs⟩
 obtain ⟨ku, nu, tu, mu, pu, lu, cu, qu, rfl⟩ := ex_open hin
 rw [Ex.val_mk]
 have HA4 := hid (HA3.out.call hp hs)
 have HK4 := hid (heap_step hs HK3.out (by omega))
 have HB4 := hid (heap_step hs HB3.out (by omega))
 have HAw4 := hid (HAw3.out.mono hs.size)
 have HEu := hid her
 have HIu_4 := hid hin
 clear hp hs HA3 HK3 HB3 HAw3  hin her HPl
 have hB := HB4.out
 have HTh := hid (there_of (o := 2) hB (by simp))
 have HB5 := hid (cells_at2 (a0 := .int .i64 ku) (a1 := .int .i64 nu) (a2 := .string tu) (a3 := .bool mu) (a4 := .slice pu lu cu) hB)
 have HA5 := hid (At.cells (b := w.heap.size + 1) (by omega) [.int .i64 ku, .int .i64 nu, .string tu, .bool mu, .slice pu lu cu] 2 _ HA4.out)
 have HK5 := hid ((cells_other hne [.int .i64 ku, .int .i64 nu, .string tu, .bool mu, .slice pu lu cu] 2 W4).trans HK4.out)
 have HAw5 := hid (HAw4.out.mono (w' := W4.setCells (w.heap.size + 1) 2 [.int .i64 ku, .int .i64 nu, .string tu, .bool mu, .slice pu lu cu]) (by rw [cells_size]; exact Nat.le_refl _))
 have kc := keepsL_cells (X := ((w.heap.size + 1) :: w.heap.size :: X)) (b := w.heap.size + 1) (by simp) [.int .i64 ku, .int .i64 nu, .string tu, .bool mu, .slice pu lu cu] 2 W4
 have HIu_5 := hid (Ex.In.keep kc _ HIu_4.out)
 clear hB kc HA4 HK4 HB4 HAw4 HIu_4
 have HTu := HTh
 clear HTh
 go_wp2_with (first | (refine wpList_store_mid (op := ⟨none, _, _, _, _, _⟩) rfl _ _ _ rfl (w.heap.size + 1) 2 #[.int .i64 ku, .int .i64 nu, .string tu, .bool mu, .slice pu lu cu] rfl rfl HTu.out ex_sz (ex_one _ _ _ _ _ _ _) ?_))
 refine (HMs.out _ HA5.out.pin).mono ?_
 rintro e W6 ⟨rfl, hp, hs⟩
 have HA6 := hid (HA5.out.call hp hs)
 have HK6 := hid (heap_step hs HK5.out (by omega))
 have HB6 := hid (heap_step hs HB5.out (by omega))
 have HAw6 := hid (HAw5.out.mono hs.size)
 have HIu_6 := hid (Ex.In.keep (keepsL_step hs (by simp [HX.out.mem])) _ HIu_5.out)
 clear hp hs HA5 HK5 HB5 HAw5 HIu_5  HMs 
 go_wp2_with fail
 refine (HEx.out _ _ HAw6.out HA6.out.pin).mono ?_
 rintro e W7 ⟨Te, rfl, hin, her, hp, hs⟩
 obtain ⟨ke, ne, te, me, pe, le, ce, qe, rfl⟩ := ex_open hin
 rw [Ex.val_mk]
 have HA7 := hid (HA6.out.call hp hs)
 have HK7 := hid (heap_step hs HK6.out (by omega))
 have HB7 := hid (heap_step hs HB6.out (by omega))
 have HAw7 := hid (HAw6.out.mono hs.size)
 have HIu_7 := hid (Ex.In.keep (keepsL_step hs (by simp [HX.out.mem])) _ HIu_6.out)
 have HEe := hid her
 have HIe_7 := hid hin
 clear hp hs HA6 HK6 HB6 HAw6 HIu_6  hin her HEx
 have hB := HB7.out
 have HTh := hid (there_of (o := 7) hB (by simp))
 have HB8 := hid (cells_at7 (a0 := .int .i64 ke) (a1 := .int .i64 ne) (a2 := .string te) (a3 := .bool me) (a4 := .slice pe le ce) hB)
 have HA8 := hid (At.cells (b := w.heap.size + 1) (by omega) [.int .i64 ke, .int .i64 ne, .string te, .bool me, .slice pe le ce] 7 _ HA7.out)
 have HK8 := hid ((cells_other hne [.int .i64 ke, .int .i64 ne, .string te, .bool me, .slice pe le ce] 7 W7).trans HK7.out)
 have HAw8 := hid (HAw7.out.mono (w' := W7.setCells (w.heap.size + 1) 7 [.int .i64 ke, .int .i64 ne, .string te, .bool me, .slice pe le ce]) (by rw [cells_size]; exact Nat.le_refl _))
 have kc := keepsL_cells (X := ((w.heap.size + 1) :: w.heap.size :: X)) (b := w.heap.size + 1) (by simp) [.int .i64 ke, .int .i64 ne, .string te, .bool me, .slice pe le ce] 7 W7
 have HIu_8 := hid (Ex.In.keep kc _ HIu_7.out)
 have HIe_8 := hid (Ex.In.keep kc _ HIe_7.out)
 clear hB kc HA7 HK7 HB7 HAw7 HIu_7 HIe_7
 go_wp2_with (first | (refine wpList_store_mid (op := ⟨none, _, _, _, _, _⟩) rfl _ _ _ rfl (w.heap.size + 1) 7 #[.int .i64 ke, .int .i64 ne, .string te, .bool me, .slice pe le ce] rfl rfl HTh.out ex_sz (ex_one _ _ _ _ _ _ _) ?_))
 refine (HMe.out _ HA8.out.pin).mono ?_
 rintro e W9 ⟨rfl, hp, hs⟩
 have HA9 := hid (HA8.out.call hp hs)
 have HK9 := hid (heap_step hs HK8.out (by omega))
 have HB9 := hid (heap_step hs HB8.out (by omega))
 have HAw9 := hid (HAw8.out.mono hs.size)
 have HIu_9 := hid (Ex.In.keep (keepsL_step hs (by simp [HX.out.mem])) _ HIu_8.out)
 have HIe_9 := hid (Ex.In.keep (keepsL_step hs (by simp [HX.out.mem])) _ HIe_8.out)
 clear hp hs HA8 HK8 HB8 HAw8 HIu_8 HIe_8  HMe 
 have HJ := hid (box_load (cs := [.int .i64 2, .string ⟨#[]⟩, .int .i64 ku, .int .i64 nu, .string tu, .bool mu, .slice pu lu cu, .int .i64 ke, .int .i64 ne, .string te, .bool me, .slice pe le ce, .slice none 0 0, .slice none 0 0]) (HB9.out))
 have HO := hid (st_one (cs := [.int .i64 2, .string ⟨#[]⟩, .int .i64 ku, .int .i64 nu, .string tu, .bool mu, .slice pu lu cu, .int .i64 ke, .int .i64 ne, .string te, .bool me, .slice pe le ce, .slice none 0 0, .slice none 0 0]) (st_all _ _ _ _ _ _ _ _ _ _ _ _ _ _ _ _ _ _ _ _ _ _))
 go_wp2_with (first | (refine wpList_load_at (o := ⟨some 46, _, _, _, _, _⟩) rfl _ _ rfl (w.heap.size + 1) 0 rfl [.int .i64 2, .string ⟨#[]⟩, .int .i64 ku, .int .i64 nu, .string tu, .bool mu, .slice pu lu cu, .int .i64 ke, .int .i64 ne, .string te, .bool me, .slice pe le ce, .slice none 0 0, .slice none 0 0] _ HJ.out Tryz.underlying68 rfl st_sz ?_) | (refine wpList_store_row (o := ⟨none, _, _, _, _, _⟩) rfl _ _ _ rfl w.heap.size #[.int .i64 2, .string ⟨#[]⟩, .int .i64 ku, .int .i64 nu, .string tu, .bool mu, .slice pu lu cu, .int .i64 ke, .int .i64 ne, .string te, .bool me, .slice pe le ce, .slice none 0 0, .slice none 0 0] rfl rfl _ _ HK9.out st_sz rfl HO.out ?_))
 refine bodyPost_ret (results_cell_row rfl _ _ w.heap.size _ #[.int .i64 2, .string ⟨#[]⟩, .int .i64 ku, .int .i64 nu, .string tu, .bool mu, .slice pu lu cu, .int .i64 ke, .int .i64 ne, .string te, .bool me, .slice pe le ce, .slice none 0 0, .slice none 0 0] _ _ rfl (setRow_heap _ _ _ _ _ _ HK9.out) Tryz.underlying68 rfl st_sz) ?_ (by have h := retS_row (X := X) HA9.out (.mk 2 ⟨#[]⟩ (.mk ku nu tu mu (.slice pu lu cu) qu) (.mk ke ne te me (.slice pe le ce) qe) (.slice none 0 0) [] (.slice none 0 0) []) (by rw [St.In]; exact ⟨HIu_9.out, HIe_9.out, lies_none, (St.ins_iff _ _).2 (fun a ha => by simp at ha), lies_none, (St.ins_iff _ _).2 (fun a ha => by simp at ha)⟩) (by rw [erS, HEe.out, HEu.out] <;> rfl) #[.int .i64 2, .string ⟨#[]⟩, .int .i64 ku, .int .i64 nu, .string tu, .bool mu, .slice pu lu cu, .int .i64 ke, .int .i64 ne, .string te, .bool me, .slice pe le ce, .slice none 0 0, .slice none 0 0]; exact h)
 rfl
end Go.Proofs.YtemflcojebanlaaGreatDoor.ParC

/- Contracts of (*strings.Builder).String at the builder in a page, and of tree.Print. -/
import Derived.Test.YtjkdcladjjpmoaaGreatDoorJ24
import Derived.Lib.UnsafeStr
import Derived.Shelf.Strings.Builder1
namespace Go.Proofs.YtjkdcladjjpmoaaGreatDoor.PageC
open Go Go.RowKit Go.Lib Go.Sort Go.Proofs.YtjkdcladjjpmoaaGreatDoor.LexP Go.Proofs.YtjkdcladjjpmoaaGreatDoor.TreeP Go.Proofs.YtjkdcladjjpmoaaGreatDoor.LexC Go.Proofs.YtjkdcladjjpmoaaGreatDoor.TreeC

theorem u8_under : Tryz.prog.underlying 151 = some (.pointer 5) := by kernel_rfl
theorem u8_cells : Tryz.prog.cellsOf 5 = 1 := by kernel_rfl
theorem str_under : Tryz.prog.underlying 9 = some .string := by kernel_rfl
theorem us_none (w : World) : (Builtin.unsafeString_ #[151, 3] 9 #[.pointer none, .int .i64 0]).run Tryz.prog w = .ok (.string ⟨#[]⟩) w := Lib.run_unsafeString_none w _ _ _ none
set_option maxHeartbeats 2000000 in
set_option maxRecDepth 100000 in
theorem string_nil (pb : Nat) (p : Value) (w : World) (hbk : w.heap[pb]? = some (.cells #[p, .slice none 0 0] 73 (0, 0))) :
    Calls Tryz.prog 45 #[.pointer (some ⟨pb, 0, none⟩)] w fun e w' => e = .returned (.string ⟨#[]⟩) ∧ Below w.heap.size w w' := by
  have c1 : w.cell? ⟨pb, 1, none⟩ = some (.slice none 0 0) := by rw [Lib.cell_of_heap hbk]; rfl
  have hSD : ∀ w : World, (Builtin.unsafeSliceData_ #[69] 151 #[.slice none 0 0]).run Tryz.prog w = .ok (.pointer none) w := fun _ => rfl
  have hUS := us_none
  clear hbk
  go_enter Tryz.func45, Tryz.ntmps45
  go_wp2
  go_region
  all_goals (go_wp2; go_ret; exact ⟨rfl, Below.drew (Below.refl _ _)⟩)
set_option maxHeartbeats 4000000 in
set_option maxRecDepth 100000 in
theorem string_some (pb B : Nat) (r : Option Nat) (l : List UInt8) (w : World) (h : PageAt w pb r l) (h0 : l ≠ []) (hB : ∀ g, r = some g → B ≤ g) :
    Calls Tryz.prog 45 #[.pointer (some ⟨pb, 0, none⟩)] w fun e w' => e = .returned (.string ⟨l.toArray⟩) ∧ Below B w w' := by
  obtain ⟨p, v, hbk, _, hown, hr, _, _⟩ := h
  have hl0 : l.length ≠ 0 := by simpa using h0
  obtain ⟨g, cap, cur, rfl, hbg, hg, hnc, hcm, hcs, htake⟩ : ∃ g cap cur, v = .slice (some ⟨g, 0, none⟩) l.length cap ∧ 0 ≤ g ∧ w.heap[g]? = some (.cells cur 5 (0, 0)) ∧ l.length ≤ cap ∧ cap ≤ maxLen ∧ cur.size = cap * 1 ∧ cur.toList.take (l.length * 1) = bytesV l := by
    rcases hown.2 with ⟨_, hz⟩ | ⟨g, cap, cur, hv, r⟩
    · exact absurd hz hl0
    · exact ⟨g, cap, cur, hv, r⟩
  have hgB : B ≤ g := hB g (hr.symm.trans rfl)
  have c1 : w.drew.cell? ⟨pb, 1, none⟩ = some (.slice (some ⟨g, 0, none⟩) l.length cap) := by
    have : w.drew.heap[pb]? = some (.cells #[p, .slice (some ⟨g, 0, none⟩) l.length cap] 73 (0, 0)) := hbk
    rw [Lib.cell_of_heap this]; rfl
  have hSD : (Builtin.unsafeSliceData_ #[69] 151 #[.slice (some ⟨g, 0, none⟩) l.length cap]).run Tryz.prog w.drew = .ok (.pointer (some ⟨g, 0, none⟩)) w.drew :=
    Lib.run_unsafeSliceData_row _ _ _ _ _ _ (by omega)
  have hUS : (Builtin.unsafeString_ #[151, 3] 9 #[.pointer (some ⟨g, 0, none⟩), .int .i64 l.length]).run Tryz.prog w.drew = .ok (.string ⟨l.toArray⟩) (w.drew.freeze ⟨g, 0, none⟩ l.length) := by
    refine Lib.run_unsafeString_row w.drew 151 3 9 5 u8_under u8_cells g cur.size (by have hg' : w.drew.heap[g]? = some (.cells cur 5 (0, 0)) := hg; simp [World.shape?, hg']) l h0 (by omega) (by unfold maxLen at hcm; omega) ?_
    intro j x hx
    exact hown.cells (g := g) rfl j (.int .u8 x.toNat) (by simp [bytesV, hx])
  clear hbk hown hr hl0 hbg hg hnc hcm hcs htake h0 hB
  go_enter Tryz.func45, Tryz.ntmps45
  go_wp2
  go_region
  all_goals (go_wp2; go_ret; exact ⟨rfl, Lib.below_freeze (Below.drew (Below.refl B w)) (p := ⟨g, 0, none⟩) hgB _⟩)

theorem textFs_snoc : ∀ (l : List TreeP.Fn) (i : Nat) (x : TreeP.Fn), l[i]? = some x → textFs (l.take (i + 1)) = textFs (l.take i) ++ textF x
  | [], i, x, h => by simp at h
  | y :: l, 0, x, h => by simp at h; subst h; simp [textFs]
  | y :: l, i + 1, x, h => by rw [List.take_succ_cons, List.take_succ_cons, textFs, textFs, textFs_snoc l i x (by simpa using h), List.append_assoc]
theorem textF_ne (f : TreeP.Fn) : textF f ≠ [] := by unfold textF; simp
/-- the answer of tree.Print -/
def printA (l : List TreeP.Fn) : Value := if rightP l then (if 20000 < (textFs l).length then .tuple #[.string ⟨#[]⟩, .iface 67 (.int .i64 3)] else .tuple #[.string ⟨(textFs l).toArray⟩, .nilIface]) else .tuple #[.string ⟨#[]⟩, .iface 67 (.int .i64 2)]

set_option maxHeartbeats 4000000 in
set_option maxRecDepth 100000 in
theorem print_wrong (l : List TreeP.Fn) (w : World) (v : Value) (hw : wFs l ≤ 1048576) (hin : ProgIn w v l) (T : Tabs w) (hr : rightP l = false) :
    Calls Tryz.prog 17 #[v] w fun r w' => r = .returned (.tuple #[.string ⟨#[]⟩, .iface 67 (.int .i64 2)]) ∧ Below w.heap.size w w' := by
  have h := tRight_any l w v hw hin T
  rw [hr] at h
  have HR := hid h
  clear h hr T hin hw
  go_enter Tryz.func17, Tryz.ntmps17
  go_wp2_with fail
  with_reducible refine HR.out.mono ?_
  rintro e W ⟨rfl, hb⟩
  have HB := hid hb
  clear hb HR
  go_wp2_with fail
  go_ret2
  exact ⟨rfl, HB.out⟩

set_option maxHeartbeats 8000000 in
set_option maxRecDepth 100000 in
theorem print_right (l : List TreeP.Fn) (w : World) (v : Value) (hw : wFs l ≤ 1048576) (hin : ProgIn w v l) (T : Tabs w) (hf : Fmt w) (hcl : Collects w) (hr : rightP l = true) :
    Calls Tryz.prog 17 #[v] w fun r w' => r = .returned (if 20000 < (textFs l).length then .tuple #[.string ⟨#[]⟩, .iface 67 (.int .i64 3)] else .tuple #[.string ⟨(textFs l).toArray⟩, .nilIface]) ∧ Below w.heap.size w w' := by
  have h := tRight_any l w v hw hin T
  rw [hr] at h
  have hall : ∀ f ∈ l, rightF f = true := by
    unfold rightP at hr
    simp only [Bool.and_eq_true] at hr
    exact fun f hf => List.all_eq_true.1 hr.1.1 f hf
  obtain ⟨hl, hI⟩ := hin
  have hlen := wFs_len l
  obtain ⟨p, cap, rfl, hcap, hx⟩ := id hl
  rw [List.length_map] at *
  obtain ⟨R, hR⟩ : ∃ R, (if 20000 < (textFs l).length then Value.tuple #[.string ⟨#[]⟩, .iface 67 (.int .i64 3)] else .tuple #[.string ⟨(textFs l).toArray⟩, .nilIface]) = R := ⟨_, rfl⟩
  rw [hR]
  have hL4 : l.length ≤ 1048576 := by omega
  have HNIL : Hid (l.length = 0 → l = []) := hid List.eq_nil_of_length_eq_zero
  generalize hL : l.length = L at *
  have HRR := hid hR
  have HR := hid h
  have HL := hid hL
  have HX := hid hl
  have HI := hid hI
  have HW := hid hw
  have HA := hid hall
  have HF := hid hf
  have HCL := hid hcl
  clear h hr T hx hl hI hL hw hall hf hcl hcap hlen hR
  go_enter Tryz.func17, Tryz.ntmps17
  go_wp2_with fail
  with_reducible refine HR.out.mono ?_
  rintro e W ⟨rfl, hb⟩
  have HB := hid hb
  have C0 : Hid (Ctx w W.heap.size none (W.alloc (.cells #[.pointer none, .slice none 0 0] 73 (0, 0)))) := hid ⟨hb.trans (((Below.refl _ _).alloc (Nat.le_refl _) _).mono hb.size), hb.size, fun g e => by cases e⟩
  have P0 : Hid (Page (W.alloc (.cells #[.pointer none, .slice none 0 0] 73 (0, 0))) W.heap.size none (textFs (l.take 0))) := hid ⟨[], ⟨.pointer none, .slice none 0 0, heap_alloc_new W _, .inl rfl, World.ownsRow_nil _ _ _ _, rfl, by simp, by simp⟩, .inl (by rw [List.take_zero]; rfl)⟩
  have S0 := hid (Step.refl W.heap.size none (W.alloc (.cells #[.pointer none, .slice none 0 0] 73 (0, 0))))
  have N0 := hid (heap_alloc_new W (.cells #[.pointer none, .slice none 0 0] 73 (0, 0)))
  clear hb HR
  go_wp2_with fail
  generalize World.alloc W _ = W1 at *
  generalize W.heap.size = pb at *
  go_loopg [13] L (fun gf v wx => ∃ (i : Nat) (r' : Option Nat), v = .int .i64 (i : Int) ∧ i ≤ L ∧ L ≤ i + gf ∧ Hid (Page wx pb r' (textFs (l.take i))) ∧ Hid (Ctx w pb r' wx) ∧ Hid (i = 0 → wx = W1))
  case atStart => exact ⟨0, none, rfl, by omega, by omega, P0, C0, hid fun _ => rfl⟩
  case round =>
    obtain ⟨i, r', rfl, hi, hg, HP, HC, H0⟩ := hrel
    clear P0 S0 C0
    by_cases hlt : i < L
    · obtain ⟨f, ht⟩ : ∃ f, l[i]? = some f := ⟨l[i]'(by rw [HL.out]; exact hlt), List.getElem?_eq_getElem _⟩
      obtain ⟨b, off, cap', e, hcc, hx⟩ := Lies.at (HX.out.keep HC.out.keeps) (i := i) (by rw [List.length_map, HL.out]; exact hlt)
      injection e with e1 e2 e3
      subst e1
      clear e2 e3 hcc
      have hx' : ∀ (j : Nat) (u : Value), (TreeP.Fn.cells f)[j]? = some u → wr.cell? ⟨b, off + i * 14 + j, none⟩ = some u := hx i _ (by rw [List.getElem?_map, ht]; rfl)
      have hws := wFs_get l i f ht
      have hinF : f.In w := HI.out f (List.mem_of_getElem? ht)
      have hj := textFs_snoc l i f ht
      have hz := fnSize f
      have ho := fn_ones hinF
      unfold Ones at ho
      have hb2 : Below wr.heap.size wr ((wr.alloc (.cells #[.string ⟨#[]⟩, .slice none 0 0, .slice none 0 0, .int .i64 0, .string ⟨#[]⟩, .bool false, .slice none 0 0, .slice none 0 0, .slice none 0 0, .int .i64 0, .int .i64 0, .string ⟨#[]⟩, .bool false, .slice none 0 0] 53 (0, 0))).setRow wr.heap.size (TreeP.Fn.cells f).toArray) := rowed_below' _ _ _
      have hX2 : BoxAt ((wr.alloc (.cells #[.string ⟨#[]⟩, .slice none 0 0, .slice none 0 0, .int .i64 0, .string ⟨#[]⟩, .bool false, .slice none 0 0, .slice none 0 0, .slice none 0 0, .int .i64 0, .int .i64 0, .string ⟨#[]⟩, .bool false, .slice none 0 0] 53 (0, 0))).setRow wr.heap.size (TreeP.Fn.cells f).toArray) wr.heap.size (TreeP.Fn.cells f) := rowed_box' _ _ _ _
      have hcf := fn_any pb w HF.out HCL.out f r' _ _ (by have := HW.out; omega) (HA.out f (List.mem_of_getElem? ht)) hinF (HP.out.below hb2) (HC.out.then hb2)
      have C2 := hid (HC.out.then hb2)
      generalize TreeP.Fn.cells f = fcs at *
      generalize textF f = tf at *
      have ZF := hid hz
      have ZA : Hid ((Tryz.prog.info? 53).map (·.size) = some fcs.toArray.size) := hid (by rw [List.size_toArray]; exact hz)
      have ZO : Hid ((#[.string ⟨#[]⟩, .slice none 0 0, .slice none 0 0, .int .i64 0, .string ⟨#[]⟩, .bool false, .slice none 0 0, .slice none 0 0, .slice none 0 0, .int .i64 0, .int .i64 0, .string ⟨#[]⟩, .bool false, .slice none 0 0] : Array Value).size = fcs.toArray.size) := hid (by
        rw [show (Tryz.prog.info? 53).map (·.size) = some 14 by kernel_rfl] at hz
        exact Option.some.inj hz)
      have H1C := hid ho
      have HXX := hid hx'
      have HJ := hid hj
      have CF := hid hcf
      have XE : Hid (∀ (j : Nat) (u : Value), fcs[j]? = some u → ((wr.alloc (.cells #[.string ⟨#[]⟩, .slice none 0 0, .slice none 0 0, .int .i64 0, .string ⟨#[]⟩, .bool false, .slice none 0 0, .slice none 0 0, .slice none 0 0, .int .i64 0, .int .i64 0, .string ⟨#[]⟩, .bool false, .slice none 0 0] 53 (0, 0))).setRow wr.heap.size fcs.toArray).cell? ⟨wr.heap.size, 0 + j, none⟩ = some u) := hid fun j u h => by rw [Nat.zero_add]; exact hX2 j u h
      clear hx hx' ht hws hinF hj hz ho hb2 hX2 hcf HP H0
      go_wp2_with (first | (with_reducible refine wpList_load_at (o := ⟨some 16, _, _, _, _, _⟩) rfl _ _ rfl b (off + i * 14) rfl fcs _ HXX.out Tryz.underlying53 rfl ZF.out ?_) | (with_reducible refine wpList_store_row (o := ⟨none, _, _, _, _, _⟩) rfl _ _ _ rfl wr.heap.size fcs.toArray rfl rfl _ _ (heap_alloc_new _ _) ZA.out ZO.out H1C.out ?_) | (with_reducible refine wpList_load_at (o := ⟨some 17, _, _, _, _, _⟩) rfl _ _ rfl wr.heap.size 0 rfl fcs _ XE.out Tryz.underlying53 rfl ZF.out ?_))
      with_reducible refine CF.out.mono ?_
      rintro e W5 ⟨rfl, r2, hp5, hs5⟩
      have P5 : Hid (Page W5 pb r2 (textFs (l.take (i + 1)))) := hid (by rw [HJ.out]; exact hp5)
      have C5 := hid (C2.out.step hs5)
      have H5 : Hid (i + 1 = 0 → W5 = W1) := hid fun e => absurd e (by omega)
      clear hp5 hs5 CF XE C2
      go_wp2_with fail
      go_roundg (gk - 1)
      case measure => omega
      case rel => exact ⟨i + 1, r2, by go_num, by omega, by omega, P5, C5, H5⟩
    · obtain rfl : i = L := by omega
      have hp := HP.out
      rw [← HL.out, List.take_length] at hp
      obtain ⟨lc, hpa, hcut⟩ := hp
      have HFU := hid (full_any pb r' lc wr hpa)
      have HB2 := hid HC.out.below
      by_cases hfull : 20000 < lc.length
      · have K : Hid (R = .tuple #[.string ⟨#[]⟩, .iface 67 (.int .i64 3)]) := hid (by
          rw [← HRR.out, if_pos]
          rcases hcut with rfl | ⟨_, h⟩
          · exact hfull
          · exact h)
        rw [show decide (20000 < lc.length) = true from decide_eq_true hfull] at HFU
        clear hpa hcut hfull HP HC H0
        go_wp2_with fail
        with_reducible refine HFU.out.mono ?_
        rintro e W5 ⟨rfl, rfl⟩
        go_wp2_with fail
        go_ret2
        exact ⟨congrArg Ending.returned K.out.symm, HB2.out⟩
      · have hlc : lc = textFs l := by
          rcases hcut with h | ⟨h, _⟩
          · exact h
          · omega
        have K : Hid (R = .tuple #[.string ⟨lc.toArray⟩, .nilIface]) := hid (by
          rw [← HRR.out, if_neg (by rw [← hlc]; exact hfull), hlc])
        have hst : Calls Tryz.prog 45 #[.pointer (some ⟨pb, 0, none⟩)] wr fun e w' => e = .returned (.string ⟨lc.toArray⟩) ∧ Below w.heap.size wr w' := by
          by_cases h0 : i = 0
          · have hw1 := H0.out h0
            have hl0 := HNIL.out h0
            rw [hl0] at hlc
            rw [hlc, hw1]
            exact (string_nil pb _ W1 N0.out).mono fun e w' h => ⟨h.1, h.2.mono (by have := HC.out.below.size; rw [hw1] at this; exact this)⟩
          · refine string_some pb w.heap.size r' lc wr hpa ?_ HC.out.row
            rw [hlc]
            match l, HL.out with
            | [], h => exact absurd h.symm h0
            | x :: xs, _ => rw [textFs]; intro e; exact textF_ne x (List.append_eq_nil_iff.1 e).1
        have HST := hid hst
        rw [show decide (20000 < lc.length) = false from decide_eq_false hfull] at HFU
        clear hpa hcut hfull HP HC H0 hst hlc
        go_wp2_with fail
        with_reducible refine HFU.out.mono ?_
        rintro e W5 ⟨rfl, rfl⟩
        clear HFU
        go_wp2_with fail
        with_reducible refine HST.out.mono ?_
        rintro e W6 ⟨rfl, hb6⟩
        have HB6 := hid (HB2.out.trans hb6)
        clear hb6 HST
        go_wp2_with fail
        go_ret2
        exact ⟨congrArg Ending.returned K.out.symm, HB6.out⟩
/-- the contract of tree.Print -/
theorem print_any (l : List TreeP.Fn) (w : World) (v : Value) (hw : wFs l ≤ 1048576) (hin : ProgIn w v l) (T : Tabs w) (hf : Fmt w) (hcl : Collects w) :
    Calls Tryz.prog 17 #[v] w fun r w' => r = .returned (printA l) ∧ Below w.heap.size w w' := by
  unfold printA
  by_cases hr : rightP l = true
  · rw [if_pos hr]; exact print_right l w v hw hin T hf hcl hr
  · rw [if_neg hr]; exact print_wrong l w v hw hin T (by simpa using hr)
end Go.Proofs.YtjkdcladjjpmoaaGreatDoor.PageC

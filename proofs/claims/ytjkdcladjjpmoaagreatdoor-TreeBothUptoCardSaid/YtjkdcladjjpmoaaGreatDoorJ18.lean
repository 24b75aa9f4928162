/- Contracts of (*tree.page).put at texts laid anew, and of tree.row at each type. -/
import Derived.Test.YtjkdcladjjpmoaaGreatDoorJ10
import Derived.Test.YtjkdcladjjpmoaaGreatDoorJ11
import Derived.Test.YtjkdcladjjpmoaaGreatDoorJ17
import Derived.Test.YtjkdcladjjpmoaaGreatDoorJ15
namespace Go.Proofs.YtjkdcladjjpmoaaGreatDoor.PageC
open Go Go.RowKit Go.Lib Go.Sort Go.Proofs.YtjkdcladjjpmoaaGreatDoor.LexP Go.Proofs.YtjkdcladjjpmoaaGreatDoor.TreeP Go.Proofs.YtjkdcladjjpmoaaGreatDoor.LexC Go.Proofs.YtjkdcladjjpmoaaGreatDoor.TreeC

/-- the world that was there before the page is as it was -/
structure Ctx (w0 : World) (pb : Nat) (r : Option Nat) (w : World) : Prop where
  below : Below w0.heap.size w0 w
  page : w0.heap.size ≤ pb
  row : ∀ g, r = some g → w0.heap.size ≤ g
theorem Ctx.step {w0 : World} {pb : Nat} {r r' : Option Nat} {w w' : World} (h : Ctx w0 pb r w) (k : Step pb r w r' w') : Ctx w0 pb r' w' := by
  have hs := h.below.size
  refine ⟨h.below.trans ⟨k.os, k.tape, k.output, k.size, fun i hi => k.block i (by omega) (by have := h.page; omega) (fun e => by have := h.row i e.symm; omega)⟩, h.page, fun g e => ?_⟩
  rcases k.row with e2 | ⟨g', e2, hg⟩
  · exact h.row g (e2 ▸ e)
  · rw [e2] at e; injection e with e; omega
theorem Ctx.keeps {w0 : World} {pb : Nat} {r : Option Nat} {w : World} (h : Ctx w0 pb r w) : Keeps w0 w := Keeps.of_below h.below
theorem Ctx.then {w0 : World} {pb : Nat} {r : Option Nat} {w w' : World} (h : Ctx w0 pb r w) (k : Below w.heap.size w w') : Ctx w0 pb r w' := h.step (.below k)
/-- what every printing call hands back -/
def Prints (pb : Nat) (r : Option Nat) (w : World) (t : List UInt8) (e : Ending) (w' : World) : Prop := e = .returned (.tuple #[]) ∧ ∃ r', Page w' pb r' t ∧ Step pb r w r' w'

theorem new_box {pb : Nat} {r : Option Nat} {w : World} (h1 : pb < w.heap.size) (h2 : ∀ g, r = some g → g < w.heap.size) (cs : List Value) (T : TypeId) : BoxAt (hush2 pb r (w.alloc (.cells cs.toArray T (0, 0)))) w.heap.size cs :=
  box_hush2 (BoxAt.new w cs T) (by omega) (fun e => by have := h2 _ e.symm; omega)
theorem flat_nm : ∀ ss : List ByteArray, (ss.map nmCells).flatMap id = ss.map Value.string
  | [] => rfl
  | s :: ss => by rw [List.map_cons, List.flatMap_cons, flat_nm ss]; rfl
theorem put_new (pb : Nat) (r : Option Nat) (T : List UInt8) (ss : List ByteArray) (w : World) (h : Page w pb r T) (hs : ∀ s ∈ ss, s.size ≤ 1048576) (hn : ss.length ≤ 1048576) :
    Calls Tryz.prog 90 #[.pointer (some ⟨pb, 0, none⟩), .slice (some ⟨w.heap.size, 0, none⟩) ss.length ss.length] (w.alloc (.cells (ss.map Value.string).toArray 9 (0, 0))) (Prints pb r w (T ++ joined ss)) := by
  have hb : Below w.heap.size w (w.alloc (.cells (ss.map Value.string).toArray 9 (0, 0))) := (Below.refl _ _).alloc (Nat.le_refl _) _
  have hx := new_box (pb := pb) (r := r) h.lt h.rowlt (ss.map Value.string) 9
  refine (put_any pb r T ss _ (.slice (some ⟨w.heap.size, 0, none⟩) ss.length ss.length) (h.below hb) ?_ hs hn).mono ?_
  · have := lies_cells (w := hush2 pb r (w.alloc (.cells (ss.map Value.string).toArray 9 (0, 0)))) (b := w.heap.size) (xs := ss.map nmCells) (size := 1) (by intro c hc; obtain ⟨s, _, rfl⟩ := List.mem_map.1 hc; rfl) (by
      rw [flat_nm]
      exact hx)
    rw [List.length_map] at this
    exact this
  · rintro e w' ⟨h1, r', h2, h3⟩
    exact ⟨h1, r', h2, (Step.below hb).trans h3⟩
theorem joined1 (a : ByteArray) : joined [a] = bs a := by simp [joined]
theorem joined2 (a b : ByteArray) : joined [a, b] = bs a ++ bs b := by simp [joined]
theorem joined3 (a b c : ByteArray) : joined [a, b, c] = bs a ++ (bs b ++ bs c) := by simp [joined]
theorem joined4 (a b c d : ByteArray) : joined [a, b, c, d] = bs a ++ (bs b ++ (bs c ++ bs d)) := by simp [joined]
theorem put1 (pb : Nat) (r : Option Nat) (T : List UInt8) (a : ByteArray) (w : World) (h : Page w pb r T) (ha : a.size ≤ 1048576) :
    Calls Tryz.prog 90 #[.pointer (some ⟨pb, 0, none⟩), .slice (some ⟨w.heap.size, 0, none⟩) 1 1] (w.alloc (.cells #[.string a] 9 (0, 0))) (Prints pb r w (T ++ bs a)) := by
  have := put_new pb r T [a] w h (by simp; omega) (by simp)
  rw [joined1] at this
  exact this
theorem put2 (pb : Nat) (r : Option Nat) (T : List UInt8) (a b : ByteArray) (w : World) (h : Page w pb r T) (ha : a.size ≤ 1048576) (hb : b.size ≤ 1048576) :
    Calls Tryz.prog 90 #[.pointer (some ⟨pb, 0, none⟩), .slice (some ⟨w.heap.size, 0, none⟩) 2 2] (w.alloc (.cells #[.string a, .string b] 9 (0, 0))) (Prints pb r w (T ++ (bs a ++ bs b))) := by
  have := put_new pb r T [a, b] w h (by simp; omega) (by simp)
  rw [joined2] at this
  exact this
theorem put3 (pb : Nat) (r : Option Nat) (T : List UInt8) (a b c : ByteArray) (w : World) (h : Page w pb r T) (ha : a.size ≤ 1048576) (hb : b.size ≤ 1048576) (hc : c.size ≤ 1048576) :
    Calls Tryz.prog 90 #[.pointer (some ⟨pb, 0, none⟩), .slice (some ⟨w.heap.size, 0, none⟩) 3 3] (w.alloc (.cells #[.string a, .string b, .string c] 9 (0, 0))) (Prints pb r w (T ++ (bs a ++ (bs b ++ bs c)))) := by
  have := put_new pb r T [a, b, c] w h (by simp; omega) (by simp)
  rw [joined3] at this
  exact this
theorem put4 (pb : Nat) (r : Option Nat) (T : List UInt8) (a b c d : ByteArray) (w : World) (h : Page w pb r T) (ha : a.size ≤ 1048576) (hb : b.size ≤ 1048576) (hc : c.size ≤ 1048576) (hd : d.size ≤ 1048576) :
    Calls Tryz.prog 90 #[.pointer (some ⟨pb, 0, none⟩), .slice (some ⟨w.heap.size, 0, none⟩) 4 4] (w.alloc (.cells #[.string a, .string b, .string c, .string d] 9 (0, 0))) (Prints pb r w (T ++ (bs a ++ (bs b ++ (bs c ++ bs d))))) := by
  have := put_new pb r T [a, b, c, d] w h (by simp; omega) (by simp)
  rw [joined4] at this
  exact this

theorem row_snoc : ∀ (a : List (List UInt8)) (x : List UInt8), TreeP.row (a ++ [x]) = if a = [] then x else TreeP.row a ++ ([44, 32] ++ x)
  | [], x => by simp [TreeP.row]
  | [y], x => by simp [TreeP.row]
  | y :: z :: l, x => by
    have h := row_snoc (z :: l) x
    rw [if_neg (by simp)] at h ⊢
    rw [List.cons_append, List.cons_append, TreeP.row, ← List.cons_append, h, TreeP.row]
    simp only [List.append_assoc]

set_option maxHeartbeats 8000000 in
set_option maxRecDepth 100000 in
theorem row_tySize (pb : Nat) (w0 : World) (text : Ty → List UInt8) (l : List Ty) (v : Value) (r : Option Nat) (T : List UInt8) (w : World) (h : Page w pb r T) (hc : Ctx w0 pb r w) (hl : Lies w0 4 v (l.map Ty.cells)) (hn : l.length ≤ 1048576)
    (h1 : ∀ x ∈ l, Ones (Ty.cells x)) (H : ∀ x ∈ l, ∀ W r T, Page W pb r T → Ctx w0 pb r W → Calls Tryz.prog 95 #[.pointer (some ⟨pb, 0, none⟩), .agg (Ty.cells x).toArray] W (Prints pb r W (T ++ text x))) :
    Calls Tryz.prog 147 #[.pointer (some ⟨pb, 0, none⟩), v, .func (.func 95) #[.pointer (some ⟨pb, 0, none⟩)] #[]] w (Prints pb r w (T ++ TreeP.row (l.map text))) := by
  obtain ⟨p, cap, rfl, hcap, _⟩ := id hl
  rw [List.length_map] at *
  generalize hL : l.length = L at *
  have HL := hid hL
  have HX := hid hl
  have HH := hid H
  have H1 := hid h1
  have P0 : Hid (Page w pb r (T ++ TreeP.row ((l.take 0).map text))) := hid (by rw [List.take_zero]; simpa [TreeP.row] using h)
  have S0 := hid (Step.refl pb r w)
  have HC := hid hc
  clear hL hl H h1 h hc hcap
  go_enter Tryz.func147, Tryz.ntmps147
  go_wp2_with fail
  go_loopg [10] L (fun gf v wx => ∃ (i : Nat) (r' : Option Nat), v = .int .i64 (i : Int) ∧ i ≤ L ∧ L ≤ i + gf ∧ Hid (Page wx pb r' (T ++ TreeP.row ((l.take i).map text))) ∧ Hid (Step pb r w r' wx))
  case atStart => exact ⟨0, r, rfl, by omega, by omega, P0, S0⟩
  case round =>
    obtain ⟨i, r', rfl, hi, hg, HP, HST⟩ := hrel
    clear P0 S0
    by_cases hlt : i < L
    · obtain ⟨x, ht⟩ : ∃ x, l[i]? = some x := ⟨l[i]'(by rw [HL.out]; exact hlt), List.getElem?_eq_getElem _⟩
      have hcx := HC.out.step HST.out
      obtain ⟨b, off, cap', e, _, hx⟩ := Lies.at (HX.out.keep hcx.keeps) (i := i) (by rw [List.length_map, HL.out]; exact hlt)
      injection e with e1 e2 e3
      subst e1
      clear e2 e3
      have hx' : ∀ (j : Nat) (u : Value), (Ty.cells x)[j]? = some u → wr.cell? ⟨b, off + i * 4 + j, none⟩ = some u := hx i _ (by rw [List.getElem?_map, ht]; rfl)
      have hj : TreeP.row ((l.take (i + 1)).map text) = if i = 0 then text x else TreeP.row ((l.take i).map text) ++ ([44, 32] ++ text x) := by
        rw [List.take_add_one, ht]
        rw [show (some x).toList = [x] from rfl, List.map_append, List.map_cons, List.map_nil, row_snoc]
        by_cases h0 : i = 0
        · subst h0; simp
        · rw [if_neg h0, if_neg]
          intro e
          have := congrArg List.length e
          rw [List.length_map, List.length_take, HL.out, List.length_nil] at this
          omega
      have hz := tySize x
      have ho := H1.out x (List.mem_of_getElem? ht)
      unfold Ones at ho
      have hcl := HH.out x (List.mem_of_getElem? ht)
      generalize Ty.cells x = fcs at *
      generalize text x = tx at *
      have hb2 : Below wr.heap.size wr ((wr.alloc (.cells #[.int .i64 0, .string ⟨#[]⟩, .bool false, .slice none 0 0] 45 (0, 0))).setRow wr.heap.size fcs.toArray) := rowed_below' _ _ _
      have hX2 : BoxAt ((wr.alloc (.cells #[.int .i64 0, .string ⟨#[]⟩, .bool false, .slice none 0 0] 45 (0, 0))).setRow wr.heap.size fcs.toArray) wr.heap.size fcs := rowed_box' _ _ _ _
      have HX2 := hid (box_hush2 (pb := pb) (r := r') hX2 (by have := HP.out.lt; omega) (fun e => by have := HP.out.rowlt _ e.symm; omega))
      have P2 := hid (HP.out.below hb2)
      have C2 := hid (hcx.then hb2)
      have S2 := hid (HST.out.then hb2)
      have ZF := hid hz
      have ZA : Hid ((Tryz.prog.info? 45).map (·.size) = some fcs.toArray.size) := hid (by rw [List.size_toArray]; exact hz)
      have ZO : Hid ((#[.int .i64 0, .string ⟨#[]⟩, .bool false, .slice none 0 0] : Array Value).size = fcs.toArray.size) := hid (by
        rw [show (Tryz.prog.info? 45).map (·.size) = some 4 by kernel_rfl] at hz
        exact Option.some.inj hz)
      have H1C := hid ho
      have HXX := hid hx'
      have HCL := hid hcl
      have HJ := hid hj
      have XE : Hid (∀ (j : Nat) (u : Value), fcs[j]? = some u → ((wr.alloc (.cells #[.int .i64 0, .string ⟨#[]⟩, .bool false, .slice none 0 0] 45 (0, 0))).setRow wr.heap.size fcs.toArray).cell? ⟨wr.heap.size, 0 + j, none⟩ = some u) := hid fun j u h => by rw [Nat.zero_add]; exact hX2 j u h
      clear hx hx' ht hj hz ho hcl hb2 hX2 hcx HP HST
      by_cases h0 : i = 0
      · subst h0
        have CC := hid (HCL.out _ r' _ P2.out C2.out)
        have K := hid HJ.out
        go_wp2_with (first | (with_reducible refine wpList_load_at (o := ⟨some 14, _, _, _, _, _⟩) rfl _ _ rfl b (off + 0 * 4) rfl fcs _ HXX.out Tryz.underlying45 rfl ZF.out ?_) | (with_reducible refine wpList_load_at (o := ⟨some 14, _, _, _, _, _⟩) rfl _ _ rfl b off rfl fcs _ (by have := HXX.out; rw [Nat.zero_mul, Nat.add_zero] at this; exact this) Tryz.underlying45 rfl ZF.out ?_) | (with_reducible refine wpList_store_row (o := ⟨none, _, _, _, _, _⟩) rfl _ _ _ rfl wr.heap.size fcs.toArray rfl rfl _ _ (heap_alloc_new _ _) ZA.out ZO.out H1C.out ?_) | (with_reducible refine wpList_load_at (o := ⟨some 21, _, _, _, _, _⟩) rfl _ _ rfl wr.heap.size 0 rfl fcs _ XE.out Tryz.underlying45 rfl ZF.out ?_))
        with_reducible refine CC.out.mono ?_
        rintro e W5 ⟨rfl, r2, hp5, hs5⟩
        have P5 : Hid (Page W5 pb r2 (T ++ TreeP.row ((l.take (0 + 1)).map text))) := hid (by rw [K.out]; simpa [TreeP.row] using hp5)
        have S5 := hid (S2.out.trans hs5)
        clear hp5 hs5 CC
        go_wp2_with fail
        go_roundg (gk - 1)
        case measure => omega
        case rel => exact ⟨0 + 1, r2, by go_num, by omega, by omega, P5, S5⟩
      · have hpos : decide ((i : Int) > 0) = true := decide_eq_true (by omega)
        have K := hid HJ.out
        rw [if_neg h0] at K
        have hsz : ((wr.alloc (.cells #[.int .i64 0, .string ⟨#[]⟩, .bool false, .slice none 0 0] 45 (0, 0))).setRow wr.heap.size fcs.toArray).heap.size = wr.heap.size + 1 := by simp
        have hcp := put1 pb r' _ ⟨#[44, 32]⟩ _ P2.out (by decide)
        rw [hsz] at hcp
        have CP := hid hcp
        clear hcp hsz
        go_wp2_with (first | (with_reducible refine wpList_load_at (o := ⟨some 14, _, _, _, _, _⟩) rfl _ _ rfl b (off + i * 4) rfl fcs _ HXX.out Tryz.underlying45 rfl ZF.out ?_) | (with_reducible refine wpList_store_row (o := ⟨none, _, _, _, _, _⟩) rfl _ _ _ rfl wr.heap.size fcs.toArray rfl rfl _ _ (heap_alloc_new _ _) ZA.out ZO.out H1C.out ?_))
        with_reducible refine CP.out.mono ?_
        rintro e W5 ⟨rfl, r2, hp5, hs5⟩
        have C5 := hid (C2.out.step hs5)
        have X5 := hid (box_unhush (HX2.out.keep hs5.keeps))
        have S5 := hid (S2.out.trans hs5)
        have CC := hid (HCL.out W5 r2 _ hp5 C5.out)
        have XE5 : Hid (∀ (j : Nat) (u : Value), fcs[j]? = some u → W5.cell? ⟨wr.heap.size, 0 + j, none⟩ = some u) := hid fun j u h => by rw [Nat.zero_add]; exact X5.out j u h
        clear hp5 hs5 CP S2 C2 P2 HX2 XE
        go_wp2_with (with_reducible refine wpList_load_at (o := ⟨some 21, _, _, _, _, _⟩) rfl _ _ rfl wr.heap.size 0 rfl fcs _ XE5.out Tryz.underlying45 rfl ZF.out ?_)
        with_reducible refine CC.out.mono ?_
        rintro e W6 ⟨rfl, r3, hp6, hs6⟩
        have P6 : Hid (Page W6 pb r3 (T ++ TreeP.row ((l.take (i + 1)).map text))) := hid (by
          have hp7 : Page W6 pb r3 (T ++ TreeP.row ((l.take i).map text) ++ [44, 32] ++ tx) := hp6
          rw [K.out, ← List.append_assoc, ← List.append_assoc]; exact hp7)
        have S6 := hid (S5.out.trans hs6)
        clear hp6 hs6 CC
        go_wp2_with fail
        go_roundg (gk - 1)
        case measure => omega
        case rel => exact ⟨i + 1, r3, by go_num, by omega, by omega, P6, S6⟩
    · obtain rfl : i = L := by omega
      have K : Hid (Page wr pb r' (T ++ TreeP.row (l.map text))) := hid (by have := HP.out; rw [← HL.out, List.take_length] at this; exact this)
      go_wp2_with fail
      go_end0
      exact ⟨rfl, r', K.out, HST.out⟩
set_option maxHeartbeats 8000000 in
set_option maxRecDepth 100000 in
theorem row_exSize (pb : Nat) (w0 : World) (text : Ex → List UInt8) (l : List Ex) (v : Value) (r : Option Nat) (T : List UInt8) (w : World) (h : Page w pb r T) (hc : Ctx w0 pb r w) (hl : Lies w0 5 v (l.map Ex.cells)) (hn : l.length ≤ 1048576)
    (h1 : ∀ x ∈ l, Ones (Ex.cells x)) (H : ∀ x ∈ l, ∀ W r T, Page W pb r T → Ctx w0 pb r W → Calls Tryz.prog 101 #[.pointer (some ⟨pb, 0, none⟩), .agg (Ex.cells x).toArray] W (Prints pb r W (T ++ text x))) :
    Calls Tryz.prog 154 #[.pointer (some ⟨pb, 0, none⟩), v, .func (.func 101) #[.pointer (some ⟨pb, 0, none⟩)] #[]] w (Prints pb r w (T ++ TreeP.row (l.map text))) := by
  obtain ⟨p, cap, rfl, hcap, _⟩ := id hl
  rw [List.length_map] at *
  generalize hL : l.length = L at *
  have HL := hid hL
  have HX := hid hl
  have HH := hid H
  have H1 := hid h1
  have P0 : Hid (Page w pb r (T ++ TreeP.row ((l.take 0).map text))) := hid (by rw [List.take_zero]; simpa [TreeP.row] using h)
  have S0 := hid (Step.refl pb r w)
  have HC := hid hc
  clear hL hl H h1 h hc hcap
  go_enter Tryz.func154, Tryz.ntmps154
  go_wp2_with fail
  go_loopg [10] L (fun gf v wx => ∃ (i : Nat) (r' : Option Nat), v = .int .i64 (i : Int) ∧ i ≤ L ∧ L ≤ i + gf ∧ Hid (Page wx pb r' (T ++ TreeP.row ((l.take i).map text))) ∧ Hid (Step pb r w r' wx))
  case atStart => exact ⟨0, r, rfl, by omega, by omega, P0, S0⟩
  case round =>
    obtain ⟨i, r', rfl, hi, hg, HP, HST⟩ := hrel
    clear P0 S0
    by_cases hlt : i < L
    · obtain ⟨x, ht⟩ : ∃ x, l[i]? = some x := ⟨l[i]'(by rw [HL.out]; exact hlt), List.getElem?_eq_getElem _⟩
      have hcx := HC.out.step HST.out
      obtain ⟨b, off, cap', e, _, hx⟩ := Lies.at (HX.out.keep hcx.keeps) (i := i) (by rw [List.length_map, HL.out]; exact hlt)
      injection e with e1 e2 e3
      subst e1
      clear e2 e3
      have hx' : ∀ (j : Nat) (u : Value), (Ex.cells x)[j]? = some u → wr.cell? ⟨b, off + i * 5 + j, none⟩ = some u := hx i _ (by rw [List.getElem?_map, ht]; rfl)
      have hj : TreeP.row ((l.take (i + 1)).map text) = if i = 0 then text x else TreeP.row ((l.take i).map text) ++ ([44, 32] ++ text x) := by
        rw [List.take_add_one, ht]
        rw [show (some x).toList = [x] from rfl, List.map_append, List.map_cons, List.map_nil, row_snoc]
        by_cases h0 : i = 0
        · subst h0; simp
        · rw [if_neg h0, if_neg]
          intro e
          have := congrArg List.length e
          rw [List.length_map, List.length_take, HL.out, List.length_nil] at this
          omega
      have hz := exSize x
      have ho := H1.out x (List.mem_of_getElem? ht)
      unfold Ones at ho
      have hcl := HH.out x (List.mem_of_getElem? ht)
      generalize Ex.cells x = fcs at *
      generalize text x = tx at *
      have hb2 : Below wr.heap.size wr ((wr.alloc (.cells #[.int .i64 0, .int .i64 0, .string ⟨#[]⟩, .bool false, .slice none 0 0] 51 (0, 0))).setRow wr.heap.size fcs.toArray) := rowed_below' _ _ _
      have hX2 : BoxAt ((wr.alloc (.cells #[.int .i64 0, .int .i64 0, .string ⟨#[]⟩, .bool false, .slice none 0 0] 51 (0, 0))).setRow wr.heap.size fcs.toArray) wr.heap.size fcs := rowed_box' _ _ _ _
      have HX2 := hid (box_hush2 (pb := pb) (r := r') hX2 (by have := HP.out.lt; omega) (fun e => by have := HP.out.rowlt _ e.symm; omega))
      have P2 := hid (HP.out.below hb2)
      have C2 := hid (hcx.then hb2)
      have S2 := hid (HST.out.then hb2)
      have ZF := hid hz
      have ZA : Hid ((Tryz.prog.info? 51).map (·.size) = some fcs.toArray.size) := hid (by rw [List.size_toArray]; exact hz)
      have ZO : Hid ((#[.int .i64 0, .int .i64 0, .string ⟨#[]⟩, .bool false, .slice none 0 0] : Array Value).size = fcs.toArray.size) := hid (by
        rw [show (Tryz.prog.info? 51).map (·.size) = some 5 by kernel_rfl] at hz
        exact Option.some.inj hz)
      have H1C := hid ho
      have HXX := hid hx'
      have HCL := hid hcl
      have HJ := hid hj
      have XE : Hid (∀ (j : Nat) (u : Value), fcs[j]? = some u → ((wr.alloc (.cells #[.int .i64 0, .int .i64 0, .string ⟨#[]⟩, .bool false, .slice none 0 0] 51 (0, 0))).setRow wr.heap.size fcs.toArray).cell? ⟨wr.heap.size, 0 + j, none⟩ = some u) := hid fun j u h => by rw [Nat.zero_add]; exact hX2 j u h
      clear hx hx' ht hj hz ho hcl hb2 hX2 hcx HP HST
      by_cases h0 : i = 0
      · subst h0
        have CC := hid (HCL.out _ r' _ P2.out C2.out)
        have K := hid HJ.out
        go_wp2_with (first | (with_reducible refine wpList_load_at (o := ⟨some 14, _, _, _, _, _⟩) rfl _ _ rfl b (off + 0 * 5) rfl fcs _ HXX.out Tryz.underlying51 rfl ZF.out ?_) | (with_reducible refine wpList_load_at (o := ⟨some 14, _, _, _, _, _⟩) rfl _ _ rfl b off rfl fcs _ (by have := HXX.out; rw [Nat.zero_mul, Nat.add_zero] at this; exact this) Tryz.underlying51 rfl ZF.out ?_) | (with_reducible refine wpList_store_row (o := ⟨none, _, _, _, _, _⟩) rfl _ _ _ rfl wr.heap.size fcs.toArray rfl rfl _ _ (heap_alloc_new _ _) ZA.out ZO.out H1C.out ?_) | (with_reducible refine wpList_load_at (o := ⟨some 21, _, _, _, _, _⟩) rfl _ _ rfl wr.heap.size 0 rfl fcs _ XE.out Tryz.underlying51 rfl ZF.out ?_))
        with_reducible refine CC.out.mono ?_
        rintro e W5 ⟨rfl, r2, hp5, hs5⟩
        have P5 : Hid (Page W5 pb r2 (T ++ TreeP.row ((l.take (0 + 1)).map text))) := hid (by rw [K.out]; simpa [TreeP.row] using hp5)
        have S5 := hid (S2.out.trans hs5)
        clear hp5 hs5 CC
        go_wp2_with fail
        go_roundg (gk - 1)
        case measure => omega
        case rel => exact ⟨0 + 1, r2, by go_num, by omega, by omega, P5, S5⟩
      · have hpos : decide ((i : Int) > 0) = true := decide_eq_true (by omega)
        have K := hid HJ.out
        rw [if_neg h0] at K
        have hsz : ((wr.alloc (.cells #[.int .i64 0, .int .i64 0, .string ⟨#[]⟩, .bool false, .slice none 0 0] 51 (0, 0))).setRow wr.heap.size fcs.toArray).heap.size = wr.heap.size + 1 := by simp
        have hcp := put1 pb r' _ ⟨#[44, 32]⟩ _ P2.out (by decide)
        rw [hsz] at hcp
        have CP := hid hcp
        clear hcp hsz
        go_wp2_with (first | (with_reducible refine wpList_load_at (o := ⟨some 14, _, _, _, _, _⟩) rfl _ _ rfl b (off + i * 5) rfl fcs _ HXX.out Tryz.underlying51 rfl ZF.out ?_) | (with_reducible refine wpList_store_row (o := ⟨none, _, _, _, _, _⟩) rfl _ _ _ rfl wr.heap.size fcs.toArray rfl rfl _ _ (heap_alloc_new _ _) ZA.out ZO.out H1C.out ?_))
        with_reducible refine CP.out.mono ?_
        rintro e W5 ⟨rfl, r2, hp5, hs5⟩
        have C5 := hid (C2.out.step hs5)
        have X5 := hid (box_unhush (HX2.out.keep hs5.keeps))
        have S5 := hid (S2.out.trans hs5)
        have CC := hid (HCL.out W5 r2 _ hp5 C5.out)
        have XE5 : Hid (∀ (j : Nat) (u : Value), fcs[j]? = some u → W5.cell? ⟨wr.heap.size, 0 + j, none⟩ = some u) := hid fun j u h => by rw [Nat.zero_add]; exact X5.out j u h
        clear hp5 hs5 CP S2 C2 P2 HX2 XE
        go_wp2_with (with_reducible refine wpList_load_at (o := ⟨some 21, _, _, _, _, _⟩) rfl _ _ rfl wr.heap.size 0 rfl fcs _ XE5.out Tryz.underlying51 rfl ZF.out ?_)
        with_reducible refine CC.out.mono ?_
        rintro e W6 ⟨rfl, r3, hp6, hs6⟩
        have P6 : Hid (Page W6 pb r3 (T ++ TreeP.row ((l.take (i + 1)).map text))) := hid (by
          have hp7 : Page W6 pb r3 (T ++ TreeP.row ((l.take i).map text) ++ [44, 32] ++ tx) := hp6
          rw [K.out, ← List.append_assoc, ← List.append_assoc]; exact hp7)
        have S6 := hid (S5.out.trans hs6)
        clear hp6 hs6 CC
        go_wp2_with fail
        go_roundg (gk - 1)
        case measure => omega
        case rel => exact ⟨i + 1, r3, by go_num, by omega, by omega, P6, S6⟩
    · obtain rfl : i = L := by omega
      have K : Hid (Page wr pb r' (T ++ TreeP.row (l.map text))) := hid (by have := HP.out; rw [← HL.out, List.take_length] at this; exact this)
      go_wp2_with fail
      go_end0
      exact ⟨rfl, r', K.out, HST.out⟩
set_option maxHeartbeats 8000000 in
set_option maxRecDepth 100000 in
theorem row_paSize (pb : Nat) (w0 : World) (text : Pa → List UInt8) (l : List Pa) (v : Value) (r : Option Nat) (T : List UInt8) (w : World) (h : Page w pb r T) (hc : Ctx w0 pb r w) (hl : Lies w0 5 v (l.map Pa.cells)) (hn : l.length ≤ 1048576)
    (h1 : ∀ x ∈ l, Ones (Pa.cells x)) (H : ∀ x ∈ l, ∀ W r T, Page W pb r T → Ctx w0 pb r W → Calls Tryz.prog 94 #[.pointer (some ⟨pb, 0, none⟩), .agg (Pa.cells x).toArray] W (Prints pb r W (T ++ text x))) :
    Calls Tryz.prog 93 #[.pointer (some ⟨pb, 0, none⟩), v, .func (.func 94) #[.pointer (some ⟨pb, 0, none⟩)] #[]] w (Prints pb r w (T ++ TreeP.row (l.map text))) := by
  obtain ⟨p, cap, rfl, hcap, _⟩ := id hl
  rw [List.length_map] at *
  generalize hL : l.length = L at *
  have HL := hid hL
  have HX := hid hl
  have HH := hid H
  have H1 := hid h1
  have P0 : Hid (Page w pb r (T ++ TreeP.row ((l.take 0).map text))) := hid (by rw [List.take_zero]; simpa [TreeP.row] using h)
  have S0 := hid (Step.refl pb r w)
  have HC := hid hc
  clear hL hl H h1 h hc hcap
  go_enter Tryz.func93, Tryz.ntmps93
  go_wp2_with fail
  go_loopg [10] L (fun gf v wx => ∃ (i : Nat) (r' : Option Nat), v = .int .i64 (i : Int) ∧ i ≤ L ∧ L ≤ i + gf ∧ Hid (Page wx pb r' (T ++ TreeP.row ((l.take i).map text))) ∧ Hid (Step pb r w r' wx))
  case atStart => exact ⟨0, r, rfl, by omega, by omega, P0, S0⟩
  case round =>
    obtain ⟨i, r', rfl, hi, hg, HP, HST⟩ := hrel
    clear P0 S0
    by_cases hlt : i < L
    · obtain ⟨x, ht⟩ : ∃ x, l[i]? = some x := ⟨l[i]'(by rw [HL.out]; exact hlt), List.getElem?_eq_getElem _⟩
      have hcx := HC.out.step HST.out
      obtain ⟨b, off, cap', e, _, hx⟩ := Lies.at (HX.out.keep hcx.keeps) (i := i) (by rw [List.length_map, HL.out]; exact hlt)
      injection e with e1 e2 e3
      subst e1
      clear e2 e3
      have hx' : ∀ (j : Nat) (u : Value), (Pa.cells x)[j]? = some u → wr.cell? ⟨b, off + i * 5 + j, none⟩ = some u := hx i _ (by rw [List.getElem?_map, ht]; rfl)
      have hj : TreeP.row ((l.take (i + 1)).map text) = if i = 0 then text x else TreeP.row ((l.take i).map text) ++ ([44, 32] ++ text x) := by
        rw [List.take_add_one, ht]
        rw [show (some x).toList = [x] from rfl, List.map_append, List.map_cons, List.map_nil, row_snoc]
        by_cases h0 : i = 0
        · subst h0; simp
        · rw [if_neg h0, if_neg]
          intro e
          have := congrArg List.length e
          rw [List.length_map, List.length_take, HL.out, List.length_nil] at this
          omega
      have hz := paSize x
      have ho := H1.out x (List.mem_of_getElem? ht)
      unfold Ones at ho
      have hcl := HH.out x (List.mem_of_getElem? ht)
      generalize Pa.cells x = fcs at *
      generalize text x = tx at *
      have hb2 : Below wr.heap.size wr ((wr.alloc (.cells #[.string ⟨#[]⟩, .int .i64 0, .string ⟨#[]⟩, .bool false, .slice none 0 0] 59 (0, 0))).setRow wr.heap.size fcs.toArray) := rowed_below' _ _ _
      have hX2 : BoxAt ((wr.alloc (.cells #[.string ⟨#[]⟩, .int .i64 0, .string ⟨#[]⟩, .bool false, .slice none 0 0] 59 (0, 0))).setRow wr.heap.size fcs.toArray) wr.heap.size fcs := rowed_box' _ _ _ _
      have HX2 := hid (box_hush2 (pb := pb) (r := r') hX2 (by have := HP.out.lt; omega) (fun e => by have := HP.out.rowlt _ e.symm; omega))
      have P2 := hid (HP.out.below hb2)
      have C2 := hid (hcx.then hb2)
      have S2 := hid (HST.out.then hb2)
      have ZF := hid hz
      have ZA : Hid ((Tryz.prog.info? 59).map (·.size) = some fcs.toArray.size) := hid (by rw [List.size_toArray]; exact hz)
      have ZO : Hid ((#[.string ⟨#[]⟩, .int .i64 0, .string ⟨#[]⟩, .bool false, .slice none 0 0] : Array Value).size = fcs.toArray.size) := hid (by
        rw [show (Tryz.prog.info? 59).map (·.size) = some 5 by kernel_rfl] at hz
        exact Option.some.inj hz)
      have H1C := hid ho
      have HXX := hid hx'
      have HCL := hid hcl
      have HJ := hid hj
      have XE : Hid (∀ (j : Nat) (u : Value), fcs[j]? = some u → ((wr.alloc (.cells #[.string ⟨#[]⟩, .int .i64 0, .string ⟨#[]⟩, .bool false, .slice none 0 0] 59 (0, 0))).setRow wr.heap.size fcs.toArray).cell? ⟨wr.heap.size, 0 + j, none⟩ = some u) := hid fun j u h => by rw [Nat.zero_add]; exact hX2 j u h
      clear hx hx' ht hj hz ho hcl hb2 hX2 hcx HP HST
      by_cases h0 : i = 0
      · subst h0
        have CC := hid (HCL.out _ r' _ P2.out C2.out)
        have K := hid HJ.out
        go_wp2_with (first | (with_reducible refine wpList_load_at (o := ⟨some 14, _, _, _, _, _⟩) rfl _ _ rfl b (off + 0 * 5) rfl fcs _ HXX.out Tryz.underlying59 rfl ZF.out ?_) | (with_reducible refine wpList_load_at (o := ⟨some 14, _, _, _, _, _⟩) rfl _ _ rfl b off rfl fcs _ (by have := HXX.out; rw [Nat.zero_mul, Nat.add_zero] at this; exact this) Tryz.underlying59 rfl ZF.out ?_) | (with_reducible refine wpList_store_row (o := ⟨none, _, _, _, _, _⟩) rfl _ _ _ rfl wr.heap.size fcs.toArray rfl rfl _ _ (heap_alloc_new _ _) ZA.out ZO.out H1C.out ?_) | (with_reducible refine wpList_load_at (o := ⟨some 21, _, _, _, _, _⟩) rfl _ _ rfl wr.heap.size 0 rfl fcs _ XE.out Tryz.underlying59 rfl ZF.out ?_))
        with_reducible refine CC.out.mono ?_
        rintro e W5 ⟨rfl, r2, hp5, hs5⟩
        have P5 : Hid (Page W5 pb r2 (T ++ TreeP.row ((l.take (0 + 1)).map text))) := hid (by rw [K.out]; simpa [TreeP.row] using hp5)
        have S5 := hid (S2.out.trans hs5)
        clear hp5 hs5 CC
        go_wp2_with fail
        go_roundg (gk - 1)
        case measure => omega
        case rel => exact ⟨0 + 1, r2, by go_num, by omega, by omega, P5, S5⟩
      · have hpos : decide ((i : Int) > 0) = true := decide_eq_true (by omega)
        have K := hid HJ.out
        rw [if_neg h0] at K
        have hsz : ((wr.alloc (.cells #[.string ⟨#[]⟩, .int .i64 0, .string ⟨#[]⟩, .bool false, .slice none 0 0] 59 (0, 0))).setRow wr.heap.size fcs.toArray).heap.size = wr.heap.size + 1 := by simp
        have hcp := put1 pb r' _ ⟨#[44, 32]⟩ _ P2.out (by decide)
        rw [hsz] at hcp
        have CP := hid hcp
        clear hcp hsz
        go_wp2_with (first | (with_reducible refine wpList_load_at (o := ⟨some 14, _, _, _, _, _⟩) rfl _ _ rfl b (off + i * 5) rfl fcs _ HXX.out Tryz.underlying59 rfl ZF.out ?_) | (with_reducible refine wpList_store_row (o := ⟨none, _, _, _, _, _⟩) rfl _ _ _ rfl wr.heap.size fcs.toArray rfl rfl _ _ (heap_alloc_new _ _) ZA.out ZO.out H1C.out ?_))
        with_reducible refine CP.out.mono ?_
        rintro e W5 ⟨rfl, r2, hp5, hs5⟩
        have C5 := hid (C2.out.step hs5)
        have X5 := hid (box_unhush (HX2.out.keep hs5.keeps))
        have S5 := hid (S2.out.trans hs5)
        have CC := hid (HCL.out W5 r2 _ hp5 C5.out)
        have XE5 : Hid (∀ (j : Nat) (u : Value), fcs[j]? = some u → W5.cell? ⟨wr.heap.size, 0 + j, none⟩ = some u) := hid fun j u h => by rw [Nat.zero_add]; exact X5.out j u h
        clear hp5 hs5 CP S2 C2 P2 HX2 XE
        go_wp2_with (with_reducible refine wpList_load_at (o := ⟨some 21, _, _, _, _, _⟩) rfl _ _ rfl wr.heap.size 0 rfl fcs _ XE5.out Tryz.underlying59 rfl ZF.out ?_)
        with_reducible refine CC.out.mono ?_
        rintro e W6 ⟨rfl, r3, hp6, hs6⟩
        have P6 : Hid (Page W6 pb r3 (T ++ TreeP.row ((l.take (i + 1)).map text))) := hid (by
          have hp7 : Page W6 pb r3 (T ++ TreeP.row ((l.take i).map text) ++ [44, 32] ++ tx) := hp6
          rw [K.out, ← List.append_assoc, ← List.append_assoc]; exact hp7)
        have S6 := hid (S5.out.trans hs6)
        clear hp6 hs6 CC
        go_wp2_with fail
        go_roundg (gk - 1)
        case measure => omega
        case rel => exact ⟨i + 1, r3, by go_num, by omega, by omega, P6, S6⟩
    · obtain rfl : i = L := by omega
      have K : Hid (Page wr pb r' (T ++ TreeP.row (l.map text))) := hid (by have := HP.out; rw [← HL.out, List.take_length] at this; exact this)
      go_wp2_with fail
      go_end0
      exact ⟨rfl, r', K.out, HST.out⟩

set_option maxHeartbeats 8000000 in
set_option maxRecDepth 100000 in
theorem row_names (pb : Nat) (w0 : World) (text : ByteArray → List UInt8) (l : List ByteArray) (v : Value) (r : Option Nat) (T : List UInt8) (w : World) (h : Page w pb r T) (hc : Ctx w0 pb r w) (hl : Lies (hush2 pb r w) 1 v (l.map (fun s => [Value.string s]))) (hn : l.length ≤ 1048576)
    (H : ∀ x ∈ l, ∀ W r2 T, Step pb r w r2 W → Page W pb r2 T → Ctx w0 pb r2 W → Calls Tryz.prog 92 #[.pointer (some ⟨pb, 0, none⟩), (Value.string x)] W (Prints pb r2 W (T ++ text x))) :
    Calls Tryz.prog 91 #[.pointer (some ⟨pb, 0, none⟩), v, .func (.func 92) #[.pointer (some ⟨pb, 0, none⟩)] #[]] w (Prints pb r w (T ++ TreeP.row (l.map text))) := by
  obtain ⟨p, cap, rfl, hcap, _⟩ := id hl
  rw [List.length_map] at *
  generalize hL : l.length = L at *
  have HL := hid hL
  have HX := hid hl
  have HH := hid H
  have P0 : Hid (Page w pb r (T ++ TreeP.row ((l.take 0).map text))) := hid (by rw [List.take_zero]; simpa [TreeP.row] using h)
  have S0 := hid (Step.refl pb r w)
  have HC := hid hc
  clear hL hl H h hc hcap
  go_enter Tryz.func91, Tryz.ntmps91
  go_wp2_with fail
  go_loopg [10] L (fun gf v wx => ∃ (i : Nat) (r' : Option Nat), v = .int .i64 (i : Int) ∧ i ≤ L ∧ L ≤ i + gf ∧ Hid (Page wx pb r' (T ++ TreeP.row ((l.take i).map text))) ∧ Hid (Step pb r w r' wx))
  case atStart => exact ⟨0, r, rfl, by omega, by omega, P0, S0⟩
  case round =>
    obtain ⟨i, r', rfl, hi, hg, HP, HST⟩ := hrel
    clear P0 S0
    by_cases hlt : i < L
    · obtain ⟨x, ht⟩ : ∃ x, l[i]? = some x := ⟨l[i]'(by rw [HL.out]; exact hlt), List.getElem?_eq_getElem _⟩
      have hcx := HC.out.step HST.out
      obtain ⟨b, off, cap', e, _, hx⟩ := Lies.at ((HX.out.keep HST.out.keeps).keep (hush2_keeps pb r' wr)) (i := i) (by rw [List.length_map, HL.out]; exact hlt)
      injection e with e1 e2 e3
      subst e1
      clear e2 e3
      have hc : wr.cell? ⟨b, off + i, none⟩ = some (Value.string x) := by
        have := hx i [(Value.string x)] (by rw [List.getElem?_map, ht]; rfl) 0 (Value.string x) rfl
        rw [Nat.mul_one, Nat.add_zero] at this
        exact this
      have hj : TreeP.row ((l.take (i + 1)).map text) = if i = 0 then text x else TreeP.row ((l.take i).map text) ++ ([44, 32] ++ text x) := by
        rw [List.take_add_one, ht]
        rw [show (some x).toList = [x] from rfl, List.map_append, List.map_cons, List.map_nil, row_snoc]
        by_cases h0 : i = 0
        · subst h0; simp
        · rw [if_neg h0, if_neg]
          intro e
          have := congrArg List.length e
          rw [List.length_map, List.length_take, HL.out, List.length_nil] at this
          omega
      have hcl := HH.out x (List.mem_of_getElem? ht)
      generalize text x = tx at *
      have P2 := hid HP.out
      have C2 := hid hcx
      have S2 := hid HST.out
      have HCL := hid hcl
      have HJ := hid hj
      clear hx ht hj hcl hcx HP HST
      by_cases h0 : i = 0
      · subst h0
        rw [Nat.add_zero] at hc
        have CC := hid (HCL.out _ r' _ S2.out P2.out C2.out)
        have K := hid HJ.out
        go_wp2_with fail
        with_reducible refine CC.out.mono ?_
        rintro e W5 ⟨rfl, r2, hp5, hs5⟩
        have P5 : Hid (Page W5 pb r2 (T ++ TreeP.row ((l.take (0 + 1)).map text))) := hid (by rw [K.out]; simpa [TreeP.row] using hp5)
        have S5 := hid (S2.out.trans hs5)
        clear hp5 hs5 CC hc
        go_wp2_with fail
        go_roundg (gk - 1)
        case measure => omega
        case rel => exact ⟨0 + 1, r2, by go_num, by omega, by omega, P5, S5⟩
      · have hpos : decide ((i : Int) > 0) = true := decide_eq_true (by omega)
        have K := hid HJ.out
        rw [if_neg h0] at K
        have CP := hid (put1 pb r' _ ⟨#[44, 32]⟩ _ P2.out (by decide))
        go_wp2_with fail
        with_reducible refine CP.out.mono ?_
        rintro e W5 ⟨rfl, r2, hp5, hs5⟩
        have C5 := hid (C2.out.step hs5)
        have S5 := hid (S2.out.trans hs5)
        have CC := hid (HCL.out W5 r2 _ S5.out hp5 C5.out)
        clear hp5 hs5 CP S2 C2 P2 hc
        go_wp2_with fail
        with_reducible refine CC.out.mono ?_
        rintro e W6 ⟨rfl, r3, hp6, hs6⟩
        have P6 : Hid (Page W6 pb r3 (T ++ TreeP.row ((l.take (i + 1)).map text))) := hid (by
          have hp7 : Page W6 pb r3 (T ++ TreeP.row ((l.take i).map text) ++ [44, 32] ++ tx) := hp6
          rw [K.out, ← List.append_assoc, ← List.append_assoc]; exact hp7)
        have S6 := hid (S5.out.trans hs6)
        clear hp6 hs6 CC
        go_wp2_with fail
        go_roundg (gk - 1)
        case measure => omega
        case rel => exact ⟨i + 1, r3, by go_num, by omega, by omega, P6, S6⟩
    · obtain rfl : i = L := by omega
      have K : Hid (Page wr pb r' (T ++ TreeP.row (l.map text))) := hid (by have := HP.out; rw [← HL.out, List.take_length] at this; exact this)
      go_wp2_with fail
      go_end0
      exact ⟨rfl, r', K.out, HST.out⟩
set_option maxHeartbeats 8000000 in
set_option maxRecDepth 100000 in
theorem row_pairs (pb : Nat) (w0 : World) (text : Value → List UInt8) (l : List Value) (v : Value) (r : Option Nat) (T : List UInt8) (w : World) (h : Page w pb r T) (hc : Ctx w0 pb r w) (hl : Lies (hush2 pb r w) 1 v (l.map (fun v => [v]))) (hn : l.length ≤ 1048576)
    (H : ∀ x ∈ l, ∀ W r2 T, Step pb r w r2 W → Page W pb r2 T → Ctx w0 pb r2 W → Calls Tryz.prog 99 #[.pointer (some ⟨pb, 0, none⟩), x] W (Prints pb r2 W (T ++ text x))) :
    Calls Tryz.prog 96 #[.pointer (some ⟨pb, 0, none⟩), v, .func (.func 99) #[.pointer (some ⟨pb, 0, none⟩)] #[]] w (Prints pb r w (T ++ TreeP.row (l.map text))) := by
  obtain ⟨p, cap, rfl, hcap, _⟩ := id hl
  rw [List.length_map] at *
  generalize hL : l.length = L at *
  have HL := hid hL
  have HX := hid hl
  have HH := hid H
  have P0 : Hid (Page w pb r (T ++ TreeP.row ((l.take 0).map text))) := hid (by rw [List.take_zero]; simpa [TreeP.row] using h)
  have S0 := hid (Step.refl pb r w)
  have HC := hid hc
  clear hL hl H h hc hcap
  go_enter Tryz.func96, Tryz.ntmps96
  go_wp2_with fail
  go_loopg [10] L (fun gf v wx => ∃ (i : Nat) (r' : Option Nat), v = .int .i64 (i : Int) ∧ i ≤ L ∧ L ≤ i + gf ∧ Hid (Page wx pb r' (T ++ TreeP.row ((l.take i).map text))) ∧ Hid (Step pb r w r' wx))
  case atStart => exact ⟨0, r, rfl, by omega, by omega, P0, S0⟩
  case round =>
    obtain ⟨i, r', rfl, hi, hg, HP, HST⟩ := hrel
    clear P0 S0
    by_cases hlt : i < L
    · obtain ⟨x, ht⟩ : ∃ x, l[i]? = some x := ⟨l[i]'(by rw [HL.out]; exact hlt), List.getElem?_eq_getElem _⟩
      have hcx := HC.out.step HST.out
      obtain ⟨b, off, cap', e, _, hx⟩ := Lies.at ((HX.out.keep HST.out.keeps).keep (hush2_keeps pb r' wr)) (i := i) (by rw [List.length_map, HL.out]; exact hlt)
      injection e with e1 e2 e3
      subst e1
      clear e2 e3
      have hc : wr.cell? ⟨b, off + i, none⟩ = some x := by
        have := hx i [x] (by rw [List.getElem?_map, ht]; rfl) 0 x rfl
        rw [Nat.mul_one, Nat.add_zero] at this
        exact this
      have hj : TreeP.row ((l.take (i + 1)).map text) = if i = 0 then text x else TreeP.row ((l.take i).map text) ++ ([44, 32] ++ text x) := by
        rw [List.take_add_one, ht]
        rw [show (some x).toList = [x] from rfl, List.map_append, List.map_cons, List.map_nil, row_snoc]
        by_cases h0 : i = 0
        · subst h0; simp
        · rw [if_neg h0, if_neg]
          intro e
          have := congrArg List.length e
          rw [List.length_map, List.length_take, HL.out, List.length_nil] at this
          omega
      have hcl := HH.out x (List.mem_of_getElem? ht)
      generalize text x = tx at *
      have P2 := hid HP.out
      have C2 := hid hcx
      have S2 := hid HST.out
      have HCL := hid hcl
      have HJ := hid hj
      clear hx ht hj hcl hcx HP HST
      by_cases h0 : i = 0
      · subst h0
        rw [Nat.add_zero] at hc
        have CC := hid (HCL.out _ r' _ S2.out P2.out C2.out)
        have K := hid HJ.out
        go_wp2_with fail
        with_reducible refine CC.out.mono ?_
        rintro e W5 ⟨rfl, r2, hp5, hs5⟩
        have P5 : Hid (Page W5 pb r2 (T ++ TreeP.row ((l.take (0 + 1)).map text))) := hid (by rw [K.out]; simpa [TreeP.row] using hp5)
        have S5 := hid (S2.out.trans hs5)
        clear hp5 hs5 CC hc
        go_wp2_with fail
        go_roundg (gk - 1)
        case measure => omega
        case rel => exact ⟨0 + 1, r2, by go_num, by omega, by omega, P5, S5⟩
      · have hpos : decide ((i : Int) > 0) = true := decide_eq_true (by omega)
        have K := hid HJ.out
        rw [if_neg h0] at K
        have CP := hid (put1 pb r' _ ⟨#[44, 32]⟩ _ P2.out (by decide))
        go_wp2_with fail
        with_reducible refine CP.out.mono ?_
        rintro e W5 ⟨rfl, r2, hp5, hs5⟩
        have C5 := hid (C2.out.step hs5)
        have S5 := hid (S2.out.trans hs5)
        have CC := hid (HCL.out W5 r2 _ S5.out hp5 C5.out)
        clear hp5 hs5 CP S2 C2 P2 hc
        go_wp2_with fail
        with_reducible refine CC.out.mono ?_
        rintro e W6 ⟨rfl, r3, hp6, hs6⟩
        have P6 : Hid (Page W6 pb r3 (T ++ TreeP.row ((l.take (i + 1)).map text))) := hid (by
          have hp7 : Page W6 pb r3 (T ++ TreeP.row ((l.take i).map text) ++ [44, 32] ++ tx) := hp6
          rw [K.out, ← List.append_assoc, ← List.append_assoc]; exact hp7)
        have S6 := hid (S5.out.trans hs6)
        clear hp6 hs6 CC
        go_wp2_with fail
        go_roundg (gk - 1)
        case measure => omega
        case rel => exact ⟨i + 1, r3, by go_num, by omega, by omega, P6, S6⟩
    · obtain rfl : i = L := by omega
      have K : Hid (Page wr pb r' (T ++ TreeP.row (l.map text))) := hid (by have := HP.out; rw [← HL.out, List.take_length] at this; exact this)
      go_wp2_with fail
      go_end0
      exact ⟨rfl, r', K.out, HST.out⟩
end Go.Proofs.YtjkdcladjjpmoaaGreatDoor.PageC

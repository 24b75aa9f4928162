/- Texts joined: ErrCode, TextH, TextI, TreeRL, LawTP, LawRow, LawTBFact. -/
import Derived.Test.YtjkdcladjjpmoaaGreatDoorJ27
import Derived.Test.YtjkdcladjjpmoaaGreatDoorJ26
import Derived.Test.YtjkdcladjjpmoaaGreatDoorJ24
import Derived.Test.YtjkdcladjjpmoaaGreatDoorJ15
import Derived.Test.YtjkdcladjjpmoaaGreatDoorJ12
import Derived.Test.YtjkdcladjjpmoaaGreatDoorJ13
import Derived.Test.YtjkdcladjjpmoaaGreatDoorCards
import Derived.Test.YtjkdcladjjpmoaaGreatDoorTie
import Derived.ProofKit
import Derived.OpenShut
import Derived.Deep.DeepHandedRow
import Derived.Lib.LaidTab
import Derived.Lib.LaidU8
import Derived.LaidHandle
import Derived.LaidLaws
/- The contracts of the statements' Code and Fault: which code an error has, and at which place it is. -/
namespace Go.Proofs.YtjkdcladjjpmoaaGreatDoor.ErrAs
open Go Go.RowKit

theorem hid {p : Prop} (h : p) : Hid p := h
/-- the variable errors.errorType holds the handle of the type error -/
def ErrVar (w : World) : Prop := w.cell? ⟨0, 0, none⟩ = some (.iface 227 (.agg #[hd 27]))
theorem ErrVar.lt {w : World} (h : ErrVar w) : 0 < w.heap.size := World.block_lt_of_cell? w _ h
theorem ErrVar.below {w w' : World} (h : ErrVar w) (hb : Below w.heap.size w w') : ErrVar w' := (hb.cell (p := ⟨0, 0, none⟩) h.lt).trans h
/-- a fault lies in memory: its place, and the code that it wraps -/
def FaultAt (w : World) (b : Nat) (p n : Int) : Prop := w.heap[b]? = some (.cells #[.int .i64 p, .iface 67 (.int .i64 n)] 103 (0, 0))
theorem FaultAt.lt {w : World} {b : Nat} {p n : Int} (h : FaultAt w b p n) : b < w.heap.size := (Array.getElem?_eq_some_iff.1 h).1
theorem FaultAt.below {w w' : World} {b : Nat} {p n : Int} (h : FaultAt w b p n) (hb : Below w.heap.size w w') : FaultAt w' b p n := (hb.block b h.lt).trans h
theorem FaultAt.cell0 {w : World} {b : Nat} {p n : Int} (h : FaultAt w b p n) : w.cell? ⟨b, 0, none⟩ = some (.int .i64 p) := cell_of_row w b 0 _ _ _ h
theorem FaultAt.cell1 {w : World} {b : Nat} {p n : Int} (h : FaultAt w b p n) : w.cell? ⟨b, 1, none⟩ = some (.iface 67 (.int .i64 n)) := cell_of_row w b 1 _ _ _ h

/-- what errors.As leaves: the target's variable is set, all that lies below it is as it was -/
theorem after_below (w : World) (T E : Nat) (t : Addr) (v : Value) (ht : t.block ≤ w.heap.size) : Below t.block w ((behind w T E t v).setCell t v) :=
  (((((Below.refl _ w).alloc ht _).alloc (by simp; omega) _).alloc (by simp; omega) _).alloc (by simp; omega) _).setCell (Nat.le_refl _) _
theorem after_cell (w : World) (T E : Nat) (t : Addr) (v old : Value) (h : w.cell? t = some old) : ((behind w T E t v).setCell t v).cell? t = some v := by
  have ht := World.block_lt_of_cell? w _ h
  have h2 : (behind w T E t v).cell? t = some old := by
    rw [World.cell?_alloc_lt _ _ t (by simp <;> omega), World.cell?_alloc_lt _ _ t (by simp <;> omega), World.cell?_alloc_lt _ _ t (by simp <;> omega), World.cell?_alloc_lt _ _ t ht]
    exact h
  exact World.cell?_setCell_same (behind w T E t v) t v h2

set_option maxHeartbeats 1000000 in
theorem code_nil (w : World) : Calls Tryz.prog 18 #[.nilIface] w fun e w' => e = .returned (.int .i64 0) ∧ w = w' := by
  go_enter Tryz.func18, Tryz.ntmps18
  go_wp2
  go_ret
  exact ⟨rfl, rfl⟩
set_option maxHeartbeats 1000000 in
theorem code_code (n : Int) (w : World) (hn : 0 < n) (hv : ErrVar w) : Calls Tryz.prog 18 #[.iface 67 (.int .i64 n)] w fun e w' => e = .returned (.int .i64 n) ∧ Below w.heap.size w w' := by
  have hB : Below w.heap.size w (w.alloc (.cells #[.int .i64 0] 67)) := (Below.refl _ w).alloc (Nat.le_refl _) _
  have hc : (w.alloc (.cells #[.int .i64 0] 67)).cell? ⟨w.heap.size, 0, none⟩ = some (.int .i64 0) := by rw [World.cell?_alloc_at _ _ _ _ (by simp)]; rfl
  have c1 := as_code n ⟨w.heap.size, 0, none⟩ (.int .i64 0) (w.alloc (.cells #[.int .i64 0] 67)) (hv.below hB) hc (by simp)
  have B2 := hB.trans (after_below (w.alloc (.cells #[.int .i64 0] 67)) 77 67 ⟨w.heap.size, 0, none⟩ (.int .i64 n) (by simp))
  have k2 := after_cell (w.alloc (.cells #[.int .i64 0] 67)) 77 67 ⟨w.heap.size, 0, none⟩ (.int .i64 n) _ hc
  have C1 := hid c1
  have H2 := hid B2
  have K2 := hid k2
  clear c1 B2 k2 hB hc hv
  go_enter Tryz.func18, Tryz.ntmps18
  go_wp2_with fail
  refine C1.out.mono ?_
  rintro e W2 ⟨rfl, hW2⟩
  have k3 := K2.out
  have B3 := hid H2.out
  rw [← hW2] at k3 B3
  clear C1 H2 K2 hW2
  go_wp2_with fail
  go_ret
  exact ⟨rfl, B3.out⟩
set_option maxHeartbeats 1000000 in
theorem code_fault (b : Nat) (p n : Int) (w : World) (hn : 0 < n) (hv : ErrVar w) (hf : FaultAt w b p n) : Calls Tryz.prog 18 #[.iface 101 (.pointer (some ⟨b, 0, none⟩))] w fun e w' => e = .returned (.int .i64 n) ∧ Below w.heap.size w w' := by
  have hB : Below w.heap.size w (w.alloc (.cells #[.int .i64 0] 67)) := (Below.refl _ w).alloc (Nat.le_refl _) _
  have hc : (w.alloc (.cells #[.int .i64 0] 67)).cell? ⟨w.heap.size, 0, none⟩ = some (.int .i64 0) := by rw [World.cell?_alloc_at _ _ _ _ (by simp)]; rfl
  have c1 := as_code_fault n b ⟨w.heap.size, 0, none⟩ (.int .i64 0) (w.alloc (.cells #[.int .i64 0] 67)) (hv.below hB) hc (by simp) (hf.below hB).cell1
  have B2 := hB.trans (after_below (w.alloc (.cells #[.int .i64 0] 67)) 77 67 ⟨w.heap.size, 0, none⟩ (.int .i64 n) (by simp))
  have k2 := after_cell (w.alloc (.cells #[.int .i64 0] 67)) 77 67 ⟨w.heap.size, 0, none⟩ (.int .i64 n) _ hc
  have C1 := hid c1
  have H2 := hid B2
  have K2 := hid k2
  clear c1 B2 k2 hB hc hv hf
  go_enter Tryz.func18, Tryz.ntmps18
  go_wp2_with fail
  refine C1.out.mono ?_
  rintro e W2 ⟨rfl, hW2⟩
  have k3 := K2.out
  have B3 := hid H2.out
  rw [← hW2] at k3 B3
  clear C1 H2 K2 hW2
  go_wp2_with fail
  go_ret
  exact ⟨rfl, B3.out⟩

set_option maxHeartbeats 1000000 in
theorem fault_none (p : Int) (w : World) : Calls Tryz.prog 52 #[.nilIface, .int .i64 0, .int .i64 p] w fun e w' => e = .returned (.bool true) ∧ Below w.heap.size w w' := by
  go_enter Tryz.func52, Tryz.ntmps52
  go_wp2
  go_ret
  exact ⟨rfl, (Below.refl _ w).alloc (Nat.le_refl _) _⟩
set_option maxHeartbeats 1000000 in
theorem fault_fault (b : Nat) (p q n : Int) (w : World) (hn : 0 < n) (hv : ErrVar w) (hf : FaultAt w b p n) : Calls Tryz.prog 52 #[.iface 101 (.pointer (some ⟨b, 0, none⟩)), .int .i64 n, .int .i64 q] w fun e w' => e = .returned (.bool (p == q)) ∧ Below w.heap.size w w' := by
  have hB : Below w.heap.size w (w.alloc (.cells #[.pointer none] 101)) := (Below.refl _ w).alloc (Nat.le_refl _) _
  have hc : (w.alloc (.cells #[.pointer none] 101)).cell? ⟨w.heap.size, 0, none⟩ = some (.pointer none) := by rw [World.cell?_alloc_at _ _ _ _ (by simp)]; rfl
  have hfz : (w.alloc (.cells #[.pointer none] 101)).frozen? ⟨w.heap.size, 0, none⟩ = false := by simp
  have c1 := code_fault b p n (w.alloc (.cells #[.pointer none] 101)) hn (hv.below hB) (hf.below hB)
  have hn0 : ((n : Int) == 0) = false := by simp; omega
  have C1 := hid c1
  have HV := hid (hv.below hB)
  have HF := hid (hf.below hB)
  have HF0 := hid hf.lt
  have HB := hid hB
  have HC := hid hc
  have HZ := hid hfz
  clear c1 hv hf hB hc hfz
  go_enter Tryz.func52, Tryz.ntmps52
  go_wp2_with fail
  refine C1.out.mono ?_
  rintro e W2 ⟨rfl, hb2⟩
  have hc2 : W2.cell? ⟨w.heap.size, 0, none⟩ = some (.pointer none) := (hb2.cell (p := ⟨w.heap.size, 0, none⟩) (by simp)).trans HC.out
  have hz2 : W2.frozen? ⟨w.heap.size, 0, none⟩ = false := (hb2.frozen (p := ⟨w.heap.size, 0, none⟩) (by simp)).trans HZ.out
  have hs2 : w.heap.size < W2.heap.size := by have := hb2.size; simp at this; omega
  have c2 := as_fault ⟨b, 0, none⟩ ⟨w.heap.size, 0, none⟩ (.pointer none) W2 (HV.out.below hb2) hc2 hz2
  have B3 := (HB.out.trans (hb2.mono (by simp))).trans (after_below W2 167 101 ⟨w.heap.size, 0, none⟩ (.pointer (some ⟨b, 0, none⟩)) (by show w.heap.size ≤ _; omega))
  have k3 := after_cell W2 167 101 ⟨w.heap.size, 0, none⟩ (.pointer (some ⟨b, 0, none⟩)) _ hc2
  have f2 := HF.out.below hb2
  have f3 : FaultAt ((behind W2 167 101 ⟨w.heap.size, 0, none⟩ (.pointer (some ⟨b, 0, none⟩))).setCell ⟨w.heap.size, 0, none⟩ (.pointer (some ⟨b, 0, none⟩))) b p n := by
    have h0 : b < w.heap.size := HF0.out
    unfold FaultAt
    rw [(after_below W2 167 101 ⟨w.heap.size, 0, none⟩ (.pointer (some ⟨b, 0, none⟩)) (by show w.heap.size ≤ _; omega)).block b h0]
    exact f2
  have C2 := hid c2
  have H3 := hid B3
  have K3 := hid k3
  have F3 := hid f3
  clear c2 B3 k3 f2 f3 hc2 hz2 hb2 hs2
  go_wp2_with fail
  refine C2.out.mono ?_
  rintro e W3 ⟨rfl, hW3⟩
  have k4 := K3.out
  have f4 := F3.out
  have B4 := hid H3.out
  rw [← hW3] at k4 f4 B4
  have d0 := f4.cell0
  clear C1 C2 H3 K3 F3 hW3 f4 HV HF HB HC HZ
  go_wp2_with fail
  go_ret
  exact ⟨rfl, B4.out⟩
end Go.Proofs.YtjkdcladjjpmoaaGreatDoor.ErrAs
/- The two programs of the statements' awake of layer 2: what they are, and how they lie. -/
namespace Go.Proofs.YtjkdcladjjpmoaaGreatDoor.TextC
open Go Go.RowKit Go.Lib Go.Sort Go.Proofs.YtjkdcladjjpmoaaGreatDoor.LexP Go.Proofs.YtjkdcladjjpmoaaGreatDoor.TreeP Go.Proofs.YtjkdcladjjpmoaaGreatDoor.LexC Go.Proofs.YtjkdcladjjpmoaaGreatDoor.TreeC Go.Proofs.YtjkdcladjjpmoaaGreatDoor.PageC Go.Proofs.YtjkdcladjjpmoaaGreatDoor.ErrAs

def kT : Ty := .mk 1 ⟨#[]⟩ false (.slice none 0 0) []
def kX : Ex := .mk 2 0 ⟨#[120]⟩ false (.slice none 0 0) []
def kD (B : Nat) : Ex := .mk 4 0 ⟨#[]⟩ false (.slice (some ⟨B + 2, 0, none⟩) 1 1) [kX]
def kL : Ex := .mk 1 1 ⟨#[]⟩ false (.slice none 0 0) []
def kE (B : Nat) : Ex := .mk 8 0 ⟨#[43]⟩ false (.slice (some ⟨B + 3, 0, none⟩) 2 2) [kD B, kL]
def kP (B : Nat) : Pa := ⟨⟨#[120]⟩, .mk 4 ⟨#[97]⟩ false (.slice (some ⟨B + 6, 0, none⟩) 1 1) [kT]⟩
def kF (B : Nat) : TreeP.Fn := ⟨⟨#[102]⟩, .slice (some ⟨B + 5, 0, none⟩) 1 1, [⟨#[97]⟩], .slice (some ⟨B + 7, 0, none⟩) 1 1, [kP B], kT, .slice none 0 0, [], .slice none 0 0, [], kE B⟩
def kZ : TreeP.Fn := ⟨⟨#[]⟩, .slice none 0 0, [], .slice none 0 0, [], .mk 0 ⟨#[]⟩ false (.slice none 0 0) [], .slice none 0 0, [], .slice none 0 0, [], .mk 0 0 ⟨#[]⟩ false (.slice none 0 0) []⟩
theorem kF_right (B : Nat) : rightP [kF B] = true := by rfl
theorem kZ_right : rightP [kZ] = false := by rfl
theorem kF_w (B : Nat) : wFs [kF B] ≤ 1048576 := by
  show wFs [kF 0] ≤ _
  decide
theorem kZ_w : wFs [kZ] ≤ 1048576 := by decide
theorem one_lies {w : World} {b size : Nat} {c : List Value} (h : BoxAt w b c) : Lies w size (.slice (some ⟨b, 0, none⟩) 1 1) [c] :=
  ⟨_, 1, rfl, Nat.le_refl _, fun _ => ⟨b, 0, rfl, fun i c' hi j u hj => by
    match i, hi with
    | 0, hi =>
      simp at hi; subst hi
      simpa using h j u hj⟩⟩
theorem lies_two {w : World} {b : Nat} {c d : List Value} (h : BoxAt w b (c ++ d)) : Lies w c.length (.slice (some ⟨b, 0, none⟩) 2 2) [c, d] :=
  ⟨_, 2, rfl, Nat.le_refl _, fun _ => ⟨b, 0, rfl, fun i c' hi j u hj => by
    match i, hi with
    | 0, hi =>
      simp at hi; subst hi
      have := h j u (by rw [List.getElem?_append_left (List.getElem?_eq_some_iff.1 hj).1]; exact hj)
      simpa using this
    | 1, hi =>
      simp at hi; subst hi
      rw [Nat.one_mul, Nat.zero_add]
      exact h _ u (by rw [List.getElem?_append_right (by omega), Nat.add_sub_cancel_left]; exact hj)⟩⟩
theorem kF_in {W : World} {B : Nat} (h2 : BoxAt W (B + 2) kX.cells) (h3 : BoxAt W (B + 3) ((kD B).cells ++ kL.cells)) (h5 : BoxAt W (B + 5) [.string ⟨#[97]⟩]) (h6 : BoxAt W (B + 6) kT.cells) (h7 : BoxAt W (B + 7) (Pa.cells (kP B))) : (kF B).In W := by
  refine ⟨one_lies h5, ⟨one_lies h7, fun p hp => ?_⟩, ?_, lies_none, ⟨lies_none, trivial⟩, ?_⟩
  · rw [show p = kP B by simpa [kF] using hp]
    exact ⟨one_lies h6, ⟨lies_none, trivial⟩, trivial⟩
  · exact ⟨lies_none, trivial⟩
  · exact ⟨by decide, lies_two h3, ⟨by decide, one_lies h2, ⟨by decide, lies_none, trivial⟩, trivial⟩, ⟨by decide, lies_none, trivial⟩, trivial⟩
theorem kF_prog {W : World} {B b : Nat} (h : (kF B).In W) (h9 : BoxAt W b (kF B).cells) : ProgIn W (.slice (some ⟨b, 0, none⟩) 1 1) [kF B] :=
  ⟨one_lies h9, fun f hf => by rw [show f = kF B by simpa using hf]; exact h⟩
theorem kZ_prog {W : World} {b : Nat} (h : BoxAt W b kZ.cells) : ProgIn W (.slice (some ⟨b, 0, none⟩) 1 1) [kZ] :=
  ⟨one_lies h, fun f hf => by
    rw [show f = kZ by simpa using hf]
    exact ⟨lies_none, ⟨lies_none, fun p hp => by simp [kZ] at hp⟩, ⟨lies_none, trivial⟩, lies_none, ⟨lies_none, trivial⟩, ⟨by decide, lies_none, trivial⟩⟩⟩
theorem box_new (W : World) (cs : List Value) (t : TypeId) : BoxAt (W.alloc (.cells cs.toArray t)) W.heap.size cs := fun j u hj => by
  rw [Lib.cell_of_heap (heap_alloc_new _ _)]
  simpa using hj
theorem BoxAt.alloc {W : World} {b : Nat} {cs : List Value} (h : BoxAt W b cs) (o : Obj) : BoxAt (W.alloc o) b cs := fun j u hj => (cell_alloc_old W o (World.block_lt_of_cell? _ _ (h j u hj))).trans (h j u hj)
theorem box_new' {W : World} {b : Nat} {cs : List Value} {t : TypeId} (h : b = W.heap.size) : BoxAt (W.alloc (.cells cs.toArray t)) b cs := by subst h; exact box_new W cs t
theorem chain_box (w : World) (c0 c1 c2 c3 c4 c5 c6 c7 c8 c9 : List Value) (t0 t1 t2 t3 t4 t5 t6 t7 t8 t9 : TypeId) : let W := ((((((((((w.alloc (.cells c0.toArray t0)).alloc (.cells c1.toArray t1)).alloc (.cells c2.toArray t2)).alloc (.cells c3.toArray t3)).alloc (.cells c4.toArray t4)).alloc (.cells c5.toArray t5)).alloc (.cells c6.toArray t6)).alloc (.cells c7.toArray t7)).alloc (.cells c8.toArray t8)).alloc (.cells c9.toArray t9))
    BoxAt W (w.heap.size + 2) c2 ∧ BoxAt W (w.heap.size + 3) c3 ∧ BoxAt W (w.heap.size + 5) c5 ∧ BoxAt W (w.heap.size + 6) c6 ∧ BoxAt W (w.heap.size + 7) c7 ∧ BoxAt W (w.heap.size + 8) c8 ∧ BoxAt W (w.heap.size + 9) c9 := by
  exact ⟨(BoxAt.alloc (BoxAt.alloc (BoxAt.alloc (BoxAt.alloc (BoxAt.alloc (BoxAt.alloc (BoxAt.alloc (box_new' (by simp)) _) _) _) _) _) _) _), (BoxAt.alloc (BoxAt.alloc (BoxAt.alloc (BoxAt.alloc (BoxAt.alloc (BoxAt.alloc (box_new' (by simp)) _) _) _) _) _) _), (BoxAt.alloc (BoxAt.alloc (BoxAt.alloc (BoxAt.alloc (box_new' (by simp)) _) _) _) _), (BoxAt.alloc (BoxAt.alloc (BoxAt.alloc (box_new' (by simp)) _) _) _), (BoxAt.alloc (BoxAt.alloc (box_new' (by simp)) _) _), (BoxAt.alloc (box_new' (by simp)) _), (box_new' (by simp))⟩
/-- the world in which awake prints first -/
def awW (w : World) : World :=
  let B := w.heap.size
  (((((((((w.alloc (.cells kT.cells.toArray 45)).alloc (.cells kX.cells.toArray 51)).alloc (.cells kX.cells.toArray 51)).alloc (.cells ((kD B).cells ++ kL.cells).toArray 51)).alloc (.cells (kE B).cells.toArray 51)).alloc (.cells #[.string ⟨#[97]⟩] 9)).alloc (.cells kT.cells.toArray 45)).alloc (.cells (Pa.cells (kP B)).toArray 59)).alloc (.cells (kF B).cells.toArray 53)).alloc (.cells (kF B).cells.toArray 53)
theorem awW_below (w : World) : Below w.heap.size w (awW w) := by
  unfold awW
  repeat (first | exact Below.refl _ _ | refine Below.alloc ?_ (by simp; try omega) _)
theorem awW_size (w : World) : (awW w).heap.size = w.heap.size + 10 := by unfold awW; simp
theorem awW_in (w : World) : (kF w.heap.size).In (awW w) ∧ BoxAt (awW w) (w.heap.size + 8) (kF w.heap.size).cells ∧ BoxAt (awW w) (w.heap.size + 9) (kF w.heap.size).cells := by
  obtain ⟨h2, h3, h5, h6, h7, h8, h9⟩ := chain_box w kT.cells kX.cells kX.cells ((kD w.heap.size).cells ++ kL.cells) (kE w.heap.size).cells [.string ⟨#[97]⟩] kT.cells (Pa.cells (kP w.heap.size)) (kF w.heap.size).cells (kF w.heap.size).cells 45 51 51 51 51 9 45 59 53 53
  exact ⟨kF_in h2 h3 h5 h6 h7, h8, h9⟩
theorem kF_deep (B : Nat) : deepFs [kF B] = 2 := by rfl
def awT : ByteArray := ⟨#[102, 110, 32, 102, 91, 39, 97, 93, 40, 120, 58, 32, 38, 39, 97, 32, 105, 110, 116, 41, 32, 45, 62, 32, 105, 110, 116, 32, 123, 10, 9, 114, 101, 116, 32, 42, 120, 32, 43, 32, 49, 59, 10, 125, 10]⟩
theorem kF_text (B : Nat) : textFs [kF B] = awT.data.toList := by rfl
theorem kF_print (B : Nat) : printA [kF B] = .tuple #[.string awT, .nilIface] := by
  unfold printA
  rw [if_pos (kF_right B), kF_text B, if_neg (by decide)]
theorem kZ_print : printA [kZ] = .tuple #[.string ⟨#[]⟩, .iface 67 (.int .i64 2)] := by
  unfold printA
  rw [if_neg (by rw [kZ_right]; decide)]

end Go.Proofs.YtjkdcladjjpmoaaGreatDoor.TextC
/- The contract of the statements' awake of layer 2. -/
namespace Go.Proofs.YtjkdcladjjpmoaaGreatDoor.TextC
open Go Go.RowKit Go.Lib Go.Sort Go.Proofs.YtjkdcladjjpmoaaGreatDoor.LexP Go.Proofs.YtjkdcladjjpmoaaGreatDoor.TreeP Go.Proofs.YtjkdcladjjpmoaaGreatDoor.LexC Go.Proofs.YtjkdcladjjpmoaaGreatDoor.TreeC Go.Proofs.YtjkdcladjjpmoaaGreatDoor.PageC Go.Proofs.YtjkdcladjjpmoaaGreatDoor.ErrAs

set_option maxHeartbeats 4000000 in
set_option maxRecDepth 100000 in
theorem awake_any (w : World) (T : Tabs w) (E : ErrVar w) (P : Lib.TabIs Tryz.prog w "internal/strconv.uint64pow10" .u64 Lib.pow10Tab) : Calls Tryz.prog 11 #[] w fun e w' => e = .returned (.bool true) ∧ Below w.heap.size w w' := by
  have hb0 := awW_below w
  obtain ⟨hin, hx8, hx9⟩ := awW_in w
  have c1 := print_any [kF w.heap.size] (awW w) (.slice (some ⟨w.heap.size + 9, 0, none⟩) 1 1) (kF_w _) (kF_prog hin hx9) (T.below hb0) (fun W hb => fmt_of w P W (hb0.trans (hb.mono hb0.size))) (collects _)
  rw [kF_print] at c1
  unfold awT at c1
  have C1 := hid c1
  have H0 := hid (And.intro hb0 (And.intro hin hx8))
  have HT := hid T
  have HE := hid E
  have HP := hid P
  clear c1 hb0 hin hx8 hx9 T E P
  go_enter Tryz.func11, Tryz.ntmps11
  go_wp2_with fail
  refine Calls.mono (show Calls _ _ _ (awW w) _ from C1.out) ?_
  rintro e W1 ⟨rfl, hb1⟩
  have B1 := hid (H0.out.1.trans (hb1.mono H0.out.1.size))
  have B01 := hid hb1
  clear C1 hb1
  go_wp2_with fail
  have B2 : Below w.heap.size w (W1.alloc (.cells kZ.cells.toArray 53)) := B1.out.alloc B1.out.size _
  have c2 := print_any [kZ] (W1.alloc (.cells kZ.cells.toArray 53)) (.slice (some ⟨W1.heap.size, 0, none⟩) 1 1) kZ_w (kZ_prog (box_new W1 _ _)) (HT.out.below B2) (fun W hb => fmt_of w HP.out W (B2.trans (hb.mono B2.size))) (collects _)
  rw [kZ_print] at c2
  refine Calls.mono (show Calls _ _ _ (W1.alloc (.cells kZ.cells.toArray 53)) _ from c2) ?_
  rintro e W2 ⟨rfl, hb2⟩
  have B3 := hid (B2.trans (hb2.mono B2.size))
  have B13 := hid (B01.out.trans (((Below.refl W1.heap.size W1).alloc (Nat.le_refl _) _ |>.trans (hb2.mono (by simp))).mono B01.out.size))
  clear c2 hb2 B2
  have XF := hid (H0.out.2.2.later B13.out)
  have IN := hid (H0.out.2.1.keep (Keeps.of_below B13.out))
  have P0 := hid (show ∀ (j : Nat) (u : Value), (kF w.heap.size).cells[j]? = some u → W2.cell? ⟨w.heap.size + 1 + 1 + 1 + 1 + 1 + 1 + 1 + 1, j, none⟩ = some u from fun j u h => XF.out j u h)
  clear H0 B1 B01 B13
  generalize w.heap.size + 1 + 1 + 1 + 1 + 1 + 1 + 1 + 1 = fb at *
  have k0 := P0.out 0 _ rfl
  have k1 := P0.out 1 _ rfl
  have k2 := P0.out 2 _ rfl
  have k3 := P0.out 3 _ rfl
  have k4 := P0.out 4 _ rfl
  have k5 := P0.out 5 _ rfl
  have k6 := P0.out 6 _ rfl
  have k7 := P0.out 7 _ rfl
  have k8 := P0.out 8 _ rfl
  have k9 := P0.out 9 _ rfl
  have k10 := P0.out 10 _ rfl
  have k11 := P0.out 11 _ rfl
  have k12 := P0.out 12 _ rfl
  have k13 := P0.out 13 _ rfl
  go_wp2_with fail
  have b3 : Below W2.heap.size W2 (W2.alloc (.cells (kF w.heap.size).cells.toArray 53)) := (Below.refl _ W2).alloc (Nat.le_refl _) _
  have c3 := tRight_any [kF w.heap.size] (W2.alloc (.cells (kF w.heap.size).cells.toArray 53)) (.slice (some ⟨W2.heap.size, 0, none⟩) 1 1) (kF_w _) (kF_prog (IN.out.keep (Keeps.of_below b3)) (box_new W2 _ _)) (HT.out.below (B3.out.trans (b3.mono B3.out.size)))
  rw [kF_right] at c3
  refine Calls.mono (show Calls _ _ _ (W2.alloc (.cells (kF w.heap.size).cells.toArray 53)) _ from c3) ?_
  rintro e W3 ⟨rfl, hb3⟩
  have b23 := b3.trans (hb3.mono b3.size)
  have B4 := hid (B3.out.trans (b23.mono B3.out.size))
  have XF3 := hid (XF.out.later b23)
  have IN3 := hid (IN.out.keep (Keeps.of_below b23))
  clear XF IN P0 B3 b3 b23 c3 hb3 k0 k1 k2 k3 k4 k5 k6 k7 k8 k9 k10 k11 k12 k13
  have P1 := hid (show ∀ (j : Nat) (u : Value), (kF w.heap.size).cells[j]? = some u → W3.cell? ⟨fb, j, none⟩ = some u from fun j u h => XF3.out j u h)
  have k0 := P1.out 0 _ rfl
  have k1 := P1.out 1 _ rfl
  have k2 := P1.out 2 _ rfl
  have k3 := P1.out 3 _ rfl
  have k4 := P1.out 4 _ rfl
  have k5 := P1.out 5 _ rfl
  have k6 := P1.out 6 _ rfl
  have k7 := P1.out 7 _ rfl
  have k8 := P1.out 8 _ rfl
  have k9 := P1.out 9 _ rfl
  have k10 := P1.out 10 _ rfl
  have k11 := P1.out 11 _ rfl
  have k12 := P1.out 12 _ rfl
  have k13 := P1.out 13 _ rfl
  go_wp2_with fail
  have b4 : Below W3.heap.size W3 (W3.alloc (.cells (kF w.heap.size).cells.toArray 53)) := (Below.refl _ W3).alloc (Nat.le_refl _) _
  have c4 := tDeep_any [kF w.heap.size] (W3.alloc (.cells (kF w.heap.size).cells.toArray 53)) (.slice (some ⟨W3.heap.size, 0, none⟩) 1 1) (kF_w _) (kF_prog (IN3.out.keep (Keeps.of_below b4)) (box_new W3 _ _))
  rw [kF_deep] at c4
  refine Calls.mono (show Calls _ _ _ (W3.alloc (.cells (kF w.heap.size).cells.toArray 53)) _ from c4) ?_
  rintro e W4 ⟨rfl, hb4⟩
  have B5 := hid (B4.out.trans ((b4.trans (hb4.mono b4.size)).mono B4.out.size))
  clear XF3 IN3 P1 B4 b4 c4 hb4 k0 k1 k2 k3 k4 k5 k6 k7 k8 k9 k10 k11 k12 k13
  have C5 := hid (code_code 2 W4 (by decide) (HE.out.below B5.out))
  go_wp2_with fail
  refine C5.out.mono ?_
  rintro e W5 ⟨rfl, hb5⟩
  have B6 := hid (B5.out.trans (hb5.mono B5.out.size))
  clear hb5 C5
  go_wp2_with fail
  go_ret
  exact ⟨rfl, B6.out⟩
end Go.Proofs.YtjkdcladjjpmoaaGreatDoor.TextC
/- Contract of lienbookref02.Right: is a program right? -/
namespace Go.Proofs.YtjkdcladjjpmoaaGreatDoor.TreeC
open Go Go.RowKit Go.Lib Go.Sort Go.Proofs.YtjkdcladjjpmoaaGreatDoor.LexP Go.Proofs.YtjkdcladjjpmoaaGreatDoor.TreeP Go.Proofs.YtjkdcladjjpmoaaGreatDoor.LexC

set_option maxHeartbeats 4000000 in
set_option maxRecDepth 100000 in
theorem rRight_any (l : List TreeP.Fn) (w : World) (v : Value) (hw : wFs l ≤ 1048576) (hin : ProgIn w v l) :
    Calls Tryz.prog 14 #[v] w fun r w' => r = .returned (.bool (rightP l)) ∧ Below w.heap.size w w' := by
  have c1 : Hid (∀ W, Keeps w W → Calls Tryz.prog 16 #[v] W fun r w' => r = .returned (.int .i64 (deepFs l : Int)) ∧ Below W.heap.size W w') := hid fun W k => rDeep_any l W v hw (hin.keep k)
  have c2 : Hid (∀ (i : Nat) (f : TreeP.Fn), l[i]? = some f → ∀ W, Keeps w W → Calls Tryz.prog 38 #[.agg (TreeP.Fn.cells f).toArray] W fun r w' => r = .returned (.bool (rightF f)) ∧ Below W.heap.size W w') := hid fun i f hf W k => by
    have := wFs_get l i f hf
    exact rRightF_any f W (by omega) (Fn.In.keep k (hin.2 f (List.mem_of_getElem? hf)))
  obtain ⟨hl, hI⟩ := hin
  have hlen := wFs_len l
  obtain ⟨p, cap, rfl, hcap, hx⟩ := id hl
  rw [List.length_map] at *
  obtain ⟨R, hR⟩ : ∃ R, rightP l = R := ⟨_, rfl⟩
  rw [hR]
  unfold rightP at hR
  have hd := deepFs_le l
  generalize hL : l.length = L at *
  generalize deepFs l = D at *
  have HR := hid hR
  have HL := hid hL
  have HX := hid hl
  clear hx hL hl hI hR
  go_enter Tryz.func14, Tryz.ntmps14
  go_wp2_with fail
  go_loopg [3] L (fun gf v wx => ∃ i : Nat, v = .int .i64 (i : Int) ∧ i ≤ L ∧ L ≤ i + gf ∧ Hid (l.all rightF = (l.drop i).all rightF) ∧ Hid (Below w.heap.size w wx))
  case atStart => exact ⟨0, rfl, by omega, by omega, hid (by simp), hid (Below.refl _ _)⟩
  case round =>
    obtain ⟨i, rfl, hi, hg, HA, HB⟩ := hrel
    by_cases hlt : i < L
    · obtain ⟨f, ht⟩ : ∃ f, l[i]? = some f := ⟨l[i]'(by rw [HL.out]; exact hlt), List.getElem?_eq_getElem _⟩
      obtain ⟨b, off, cap', e, _, hx⟩ := Lies.at (HX.out.keep (Keeps.of_below HB.out)) (i := i) (by rw [List.length_map, HL.out]; exact hlt)
      injection e with e1 e2 e3
      subst e1
      clear e2 e3
      have hx' : ∀ (j : Nat) (u : Value), (TreeP.Fn.cells f)[j]? = some u → wr.cell? ⟨b, off + i * 14 + j, none⟩ = some u := hx i (TreeP.Fn.cells f) (by rw [List.getElem?_map, ht]; rfl)
      have cF := c2.out i f ht wr (Keeps.of_below HB.out)
      have hr := all_drop rightF ht
      have ZF := hid (fnSize f)
      generalize TreeP.Fn.cells f = fcs at *
      generalize rightF f = rf at *
      have CF := hid cF
      have HC := hid hx'
      have HRR := hid hr
      clear hx hx' ht cF hr
      cases rf
      · have K : Hid (l.all rightF = false) := hid (by rw [HA.out, HRR.out]; rfl)
        go_wp2_with (with_reducible refine wpList_load_at (o := ⟨some 13, _, _, _, _, _⟩) rfl _ _ rfl b (off + i * 14) rfl fcs _ HC.out Tryz.underlying53 rfl ZF.out ?_)
        with_reducible refine CF.out.mono ?_
        rintro e W2 ⟨rfl, hb2⟩
        go_wp2_with fail
        go_ret
        exact ⟨ret_bool (by rw [← HR.out, K.out]; rfl), HB.out.trans (hb2.mono HB.out.size)⟩
      · have K : Hid (l.all rightF = (l.drop (i + 1)).all rightF) := hid (by rw [HA.out, HRR.out]; rfl)
        go_wp2_with (with_reducible refine wpList_load_at (o := ⟨some 13, _, _, _, _, _⟩) rfl _ _ rfl b (off + i * 14) rfl fcs _ HC.out Tryz.underlying53 rfl ZF.out ?_)
        with_reducible refine CF.out.mono ?_
        rintro e W2 ⟨rfl, hb2⟩
        go_wp2_with fail
        go_roundg (gk - 1)
        case measure => omega
        case rel => exact ⟨i + 1, by go_num, by omega, by omega, K, hid (HB.out.trans (hb2.mono HB.out.size))⟩
    · obtain rfl : i = L := by omega
      have K : Hid ((decide (i ≤ 30) && decide (D ≤ 40)) = R) := hid (by
        have h := HA.out
        rw [← HL.out, List.drop_length] at h
        rw [← HR.out, h]; rfl)
      by_cases h30 : i ≤ 30
      · go_wp2_with fail
        with_reducible refine (c1.out _ (Keeps.of_below HB.out)).mono ?_
        rintro e W2 ⟨rfl, hb2⟩
        go_wp2_with fail
        go_ret
        exact ⟨ret_bool (by rw [← K.out, Bool.eq_iff_iff]; simp [h30]; omega), HB.out.trans (hb2.mono HB.out.size)⟩
      · go_wp2_with fail
        go_ret
        exact ⟨ret_bool (by rw [← K.out]; simp [h30]), HB.out⟩
end Go.Proofs.YtjkdcladjjpmoaaGreatDoor.TreeC
/- The contract of the statement TreePrints: it returns true, whatever the program (of weight at most 1048576). -/
namespace Go.Proofs.YtjkdcladjjpmoaaGreatDoor.TextC
open Go Go.RowKit Go.Lib Go.Sort Go.Proofs.YtjkdcladjjpmoaaGreatDoor.LexP Go.Proofs.YtjkdcladjjpmoaaGreatDoor.TreeP Go.Proofs.YtjkdcladjjpmoaaGreatDoor.LexC Go.Proofs.YtjkdcladjjpmoaaGreatDoor.TreeC Go.Proofs.YtjkdcladjjpmoaaGreatDoor.PageC Go.Proofs.YtjkdcladjjpmoaaGreatDoor.ErrAs

/-- what is asked of the library's variables -/
structure TLists (w : World) : Prop where
  tabs : Tabs w
  err : ErrVar w
  pow : Lib.TabIs Tryz.prog w "internal/strconv.uint64pow10" .u64 Lib.pow10Tab
theorem print_at {w : World} (L : TLists w) {l : List TreeP.Fn} {v : Value} {W0 : World} (hb0 : Below w.heap.size w W0) (hw : wFs l ≤ 1048576) (hin : ProgIn W0 v l) :
    ∀ W, Below W0.heap.size W0 W → Calls Tryz.prog 17 #[v] W fun r w' => r = .returned (printA l) ∧ Below W.heap.size W w' := fun W hb =>
  have hb1 := hb0.trans (hb.mono hb0.size)
  print_any l W v hw (hin.keep (Keeps.of_below hb)) (L.tabs.below hb1) (fun W' hb' => fmt_of w L.pow W' (hb1.trans (hb'.mono hb1.size))) (collects _)
theorem code_at {w : World} (L : TLists w) (n : Int) (hn : 0 < n) : ∀ W, Below w.heap.size w W → Calls Tryz.prog 18 #[.iface 67 (.int .i64 n)] W fun e w' => e = .returned (.int .i64 n) ∧ Below W.heap.size W w' := fun W hb =>
  code_code n W hn (L.err.below hb)
theorem rightP_len {l : List TreeP.Fn} (h : rightP l = true) : l.length ≤ 30 ∧ ∀ f ∈ l, rightF f = true := by
  unfold rightP at h
  simp only [Bool.and_eq_true, List.all_eq_true, decide_eq_true_eq] at h
  exact ⟨by omega, fun f hf => by first | exact h.1.1 f hf | exact h.1 f hf⟩

set_option maxHeartbeats 4000000 in
set_option maxRecDepth 100000 in
theorem prints_any (l : List TreeP.Fn) (w : World) (v : Value) (hw : wFs l ≤ 1048576) (hin : ProgIn w v l) (L : TLists w) :
    Calls Tryz.prog 3 #[v] w fun e w' => e = .returned (.bool true) ∧ Below w.heap.size w w' := by
  have b0 := Below.refl w.heap.size w
  have C0 := hid (awake_any w L.tabs L.err L.pow)
  have CS := hid (fun W (hb : Below w.heap.size w W) => rSize_any l W v hw (hin.keep (Keeps.of_below hb)))
  have CR := hid (fun W (hb : Below w.heap.size w W) => tRight_any l W v hw (hin.keep (Keeps.of_below hb)) (L.tabs.below hb))
  have CRr := hid (fun W (hb : Below w.heap.size w W) => rRight_any l W v hw (hin.keep (Keeps.of_below hb)))
  have CD := hid (fun W (hb : Below w.heap.size w W) => tDeep_any l W v hw (hin.keep (Keeps.of_below hb)))
  have CDr := hid (fun W (hb : Below w.heap.size w W) => rDeep_any l W v hw (hin.keep (Keeps.of_below hb)))
  have cp := print_at L b0 hw hin
  unfold printA at cp
  have C2 := hid (code_at L 2 (by decide))
  have C3 := hid (code_at L 3 (by decide))
  obtain ⟨n, hn⟩ : ∃ n, sizeFs 0 l = n := ⟨_, rfl⟩
  obtain ⟨d, hd⟩ : ∃ d, deepFs l = d := ⟨_, rfl⟩
  rw [hn] at CS
  rw [hd] at CD CDr
  clear hn hd
  by_cases h400 : 400 < n
  · clear cp CR CRr CD CDr C2 C3 L hin
    go_enter Tryz.func3, Tryz.ntmps3
    go_wp2_with fail
    refine C0.out.mono ?_
    rintro e W1 ⟨rfl, hb1⟩
    go_wp2_with fail
    refine (CS.out _ hb1).mono ?_
    rintro e W2 ⟨rfl, hb2⟩
    have B2 := hb1.trans (hb2.mono hb1.size)
    clear hb1 hb2
    go_wp2_with fail
    go_ret
    exact ⟨rfl, B2⟩
  · by_cases hr : rightP l = true
    · rw [hr] at CR CRr
      simp only [if_pos hr] at cp
      obtain ⟨h30, hall⟩ := rightP_len hr
      have CT := hid (fun W (hb : Below w.heap.size w W) => print_r l W v hw h30 (hin.keep (Keeps.of_below hb)) hall)
      obtain ⟨t, ht⟩ : ∃ t, textFs l = t := ⟨_, rfl⟩
      rw [ht] at cp CT
      rw [show (Sb t) = (⟨t.toArray⟩ : ByteArray) from rfl] at CT
      have hsz : (⟨t.toArray⟩ : ByteArray).size = t.length := Sb_size t
      generalize (⟨t.toArray⟩ : ByteArray) = T at *
      rw [← hsz] at cp
      clear ht hall h30 hr hin L hsz
      by_cases h20 : 20000 < T.size
      · rw [if_pos h20] at cp
        have CP := hid cp
        clear cp
        go_enter Tryz.func3, Tryz.ntmps3
        go_wp2_with fail
        refine C0.out.mono ?_
        rintro e W1 ⟨rfl, hb1⟩
        go_wp2_with fail
        refine (CS.out _ hb1).mono ?_
        rintro e W2 ⟨rfl, hb2⟩
        have B2 := hb1.trans (hb2.mono hb1.size)
        clear hb1 hb2
        go_wp2_with fail
        refine (CR.out _ B2).mono ?_
        rintro e W3 ⟨rfl, hb3⟩
        have B3 := B2.trans (hb3.mono B2.size)
        clear B2 hb3
        go_wp2_with fail
        refine (CRr.out _ B3).mono ?_
        rintro e W4 ⟨rfl, hb4⟩
        have B4 := B3.trans (hb4.mono B3.size)
        clear B3 hb4
        go_wp2_with fail
        refine (CD.out _ B4).mono ?_
        rintro e W5 ⟨rfl, hb5⟩
        have B5 := B4.trans (hb5.mono B4.size)
        clear B4 hb5
        go_wp2_with fail
        refine (CDr.out _ B5).mono ?_
        rintro e W6 ⟨rfl, hb6⟩
        have B6 := B5.trans (hb6.mono B5.size)
        clear B5 hb6
        go_wp2_with fail
        refine (CP.out _ B6).mono ?_
        rintro e W7 ⟨rfl, hb7⟩
        have B7 := B6.trans (hb7.mono B6.size)
        clear B6 hb7
        go_wp2_with fail
        refine (CRr.out _ B7).mono ?_
        rintro e W8 ⟨rfl, hb8⟩
        have B8 := B7.trans (hb8.mono B7.size)
        clear B7 hb8
        go_wp2_with fail
        refine (CT.out _ B8).mono ?_
        rintro e W9 ⟨rfl, hb9⟩
        have B9 := B8.trans (hb9.mono B8.size)
        clear B8 hb9
        go_wp2_with fail
        refine (C3.out _ B9).mono ?_
        rintro e W10 ⟨rfl, hb10⟩
        have B10 := B9.trans (hb10.mono B9.size)
        go_wp2_with fail
        go_ret
        exact ⟨rfl, B10⟩
      · rw [if_neg h20] at cp
        have CP := hid cp
        clear cp
        go_enter Tryz.func3, Tryz.ntmps3
        go_wp2_with fail
        refine C0.out.mono ?_
        rintro e W1 ⟨rfl, hb1⟩
        go_wp2_with fail
        refine (CS.out _ hb1).mono ?_
        rintro e W2 ⟨rfl, hb2⟩
        have B2 := hb1.trans (hb2.mono hb1.size)
        clear hb1 hb2
        go_wp2_with fail
        refine (CR.out _ B2).mono ?_
        rintro e W3 ⟨rfl, hb3⟩
        have B3 := B2.trans (hb3.mono B2.size)
        clear B2 hb3
        go_wp2_with fail
        refine (CRr.out _ B3).mono ?_
        rintro e W4 ⟨rfl, hb4⟩
        have B4 := B3.trans (hb4.mono B3.size)
        clear B3 hb4
        go_wp2_with fail
        refine (CD.out _ B4).mono ?_
        rintro e W5 ⟨rfl, hb5⟩
        have B5 := B4.trans (hb5.mono B4.size)
        clear B4 hb5
        go_wp2_with fail
        refine (CDr.out _ B5).mono ?_
        rintro e W6 ⟨rfl, hb6⟩
        have B6 := B5.trans (hb6.mono B5.size)
        clear B5 hb6
        go_wp2_with fail
        refine (CP.out _ B6).mono ?_
        rintro e W7 ⟨rfl, hb7⟩
        have B7 := B6.trans (hb7.mono B6.size)
        clear B6 hb7
        go_wp2_with fail
        refine (CRr.out _ B7).mono ?_
        rintro e W8 ⟨rfl, hb8⟩
        have B8 := B7.trans (hb8.mono B7.size)
        clear B7 hb8
        go_wp2_with fail
        refine (CT.out _ B8).mono ?_
        rintro e W9 ⟨rfl, hb9⟩
        have B9 := B8.trans (hb9.mono B8.size)
        clear B8 hb9
        go_wp2_with fail
        go_ret
        exact ⟨rfl, B9⟩
    · have hr' : rightP l = false := by simpa using hr
      rw [hr'] at CR CRr
      simp only [if_neg hr] at cp
      have CP := hid cp
      clear hr hr' cp L hin
      go_enter Tryz.func3, Tryz.ntmps3
      go_wp2_with fail
      refine C0.out.mono ?_
      rintro e W1 ⟨rfl, hb1⟩
      go_wp2_with fail
      refine (CS.out _ hb1).mono ?_
      rintro e W2 ⟨rfl, hb2⟩
      have B2 := hb1.trans (hb2.mono hb1.size)
      clear hb1 hb2
      go_wp2_with fail
      refine (CR.out _ B2).mono ?_
      rintro e W3 ⟨rfl, hb3⟩
      have B3 := B2.trans (hb3.mono B2.size)
      clear B2 hb3
      go_wp2_with fail
      refine (CRr.out _ B3).mono ?_
      rintro e W4 ⟨rfl, hb4⟩
      have B4 := B3.trans (hb4.mono B3.size)
      clear B3 hb4
      go_wp2_with fail
      refine (CD.out _ B4).mono ?_
      rintro e W5 ⟨rfl, hb5⟩
      have B5 := B4.trans (hb5.mono B4.size)
      clear B4 hb5
      go_wp2_with fail
      refine (CDr.out _ B5).mono ?_
      rintro e W6 ⟨rfl, hb6⟩
      have B6 := B5.trans (hb6.mono B5.size)
      clear B5 hb6
      go_wp2_with fail
      refine (CP.out _ B6).mono ?_
      rintro e W7 ⟨rfl, hb7⟩
      have B7 := B6.trans (hb7.mono B6.size)
      clear B6 hb7
      go_wp2_with fail
      refine (CRr.out _ B7).mono ?_
      rintro e W8 ⟨rfl, hb8⟩
      have B8 := B7.trans (hb8.mono B7.size)
      clear B7 hb8
      go_wp2_with fail
      refine (C2.out _ B8).mono ?_
      rintro e W9 ⟨rfl, hb9⟩
      have B9 := B8.trans (hb9.mono B8.size)
      go_wp2_with fail
      go_ret
      exact ⟨rfl, B9⟩
end Go.Proofs.YtjkdcladjjpmoaaGreatDoor.TextC
/- What the rows' list of library variables gives (layer 2), and a world that meets it (the witness). -/
namespace Go.Proofs.YtjkdcladjjpmoaaGreatDoor.LawR
open Go Go.RowKit Go.Lib Go.Proofs.YtjkdcladjjpmoaaGreatDoor.LexP Go.Proofs.YtjkdcladjjpmoaaGreatDoor.ErrAs Go.Proofs.YtjkdcladjjpmoaaGreatDoor.LexC Go.Proofs.YtjkdcladjjpmoaaGreatDoor.TreeC Go.Proofs.YtjkdcladjjpmoaaGreatDoor.TextC

theorem laidOut : laidOutB Tryz.prog = true := by kernel_rfl
theorem own : ownKnob Tryz.prog.godebug = none := by kernel_rfl
theorem gEt : Tryz.prog.globalNamed "errors.errorType" = some 0 := by kernel_rfl
theorem gPow : Tryz.prog.globalNamed "internal/strconv.uint64pow10" = some 1 := by kernel_rfl
theorem rtNum : (Tryz.prog.cutTypes.find? (·.1 == "internal/reflectlite.rtype")).map (·.2) = some 227 := by kernel_rfl
theorem oneRow : ((List.range 351).filter fun t => Tryz.prog.rowNamed t [101, 114, 114, 111, 114]) = [27] := by kernel_rfl
theorem typesSize : Tryz.prog.types.size = 351 := by kernel_rfl
theorem firstIs : Go.Pinned.utf8First = Lib.firstData := by kernel_rfl
theorem acceptIs : (Rows.laid_unicode_utf8_acceptRanges : DataW Unit) = Lib.acceptData := by kernel_rfl
theorem powIs : (Rows.laid_internal_strconv_uint64pow10 : DataW Unit) = Lib.tabData .u64 Lib.pow10Tab := by kernel_rfl
theorem u8 : Go.Proofs.U8Extra Tryz.prog Tryz.lays260_ren := { n3 := by kernel_rfl, n4 := by kernel_rfl, y3 := by kernel_rfl, y4 := by kernel_rfl, c5 := by kernel_rfl, c119 := by kernel_rfl, c138 := by kernel_rfl }
theorem powType : ∃ t e, (Tryz.prog.globals[1]?).map (·.type) = some t ∧ Tryz.prog.underlying t = some (.array 20 e) ∧ Tryz.prog.underlying e = some (.int .u64) ∧ Tryz.prog.cellsOf e = 1 ∧ Tryz.prog.cellsOf t = 20 :=
  ⟨283, 267, by kernel_rfl, by kernel_rfl, by kernel_rfl, by kernel_rfl, by kernel_rfl⟩

/-- the list, as the rows of layer 2 have it -/
def theLaid : List (String × DataW Unit) := [("math/bits.deBruijn32tab", Rows.laid_math_bits_deBruijn32tab), ("math/bits.deBruijn64tab", Rows.laid_math_bits_deBruijn64tab), ("internal/strconv.uint64pow10", Rows.laid_internal_strconv_uint64pow10), ("unicode/utf8.acceptRanges", Rows.laid_unicode_utf8_acceptRanges), ("errors.errorType", Rows.laid_errors_errorType), ("unicode/utf8.first", Rows.laid_unicode_utf8_first)]
theorem pow_of {W : World} (h : VarReads Tryz.prog W "internal/strconv.uint64pow10" (Lib.tabData .u64 Lib.pow10Tab)) : Lib.TabIs Tryz.prog W "internal/strconv.uint64pow10" .u64 Lib.pow10Tab := by
  obtain ⟨t, e, h1, h2, h3, h4, h5⟩ := powType
  obtain ⟨g', t', cs, fuel, p, hg', ht', hvar, hd⟩ := h
  obtain rfl := Option.some.inj (gPow.symm.trans hg')
  obtain rfl := Option.some.inj (h1.symm.trans ht')
  unfold Lib.TabIs
  rw [hvar, ← Lib.cells_of_tab h2 h3 h4 h5 hd]
theorem lists_of {W : World} (h : laidMetH Tryz.prog theLaid W) : TLists W := by
  have h' : laidMet Tryz.prog [("math/bits.deBruijn32tab", Rows.laid_math_bits_deBruijn32tab), ("math/bits.deBruijn64tab", Rows.laid_math_bits_deBruijn64tab), ("internal/strconv.uint64pow10", Rows.laid_internal_strconv_uint64pow10), ("unicode/utf8.acceptRanges", Rows.laid_unicode_utf8_acceptRanges), ("unicode/utf8.first", Rows.laid_unicode_utf8_first)] W ∧ handlesMet Tryz.prog [("errors.errorType", Rows.laid_errors_errorType)] W := h
  constructor
  · have r1 := laidMet.reads h'.1 (n := "unicode/utf8.first") (d := Rows.laid_unicode_utf8_first) (by simp)
    have r2 := laidMet.reads h'.1 (n := "unicode/utf8.acceptRanges") (d := Rows.laid_unicode_utf8_acceptRanges) (by simp)
    rw [show Rows.laid_unicode_utf8_first = Lib.firstData from firstIs] at r1
    rw [acceptIs] at r2
    exact Go.Proofs.utf8Tabs_of_reads Tryz.lays260 u8 r1 r2
  · obtain ⟨name, u, ty, e1, e2, e3, e4, e5⟩ := h'.2 _ (List.mem_singleton.2 rfl)
    have en : name = [101, 114, 114, 111, 114] := (Option.some.inj e1).symm
    subst en
    obtain rfl := Option.some.inj (rtNum.symm.trans e2)
    have hm : ty ∈ (List.range 351).filter fun t => Tryz.prog.rowNamed t [101, 114, 114, 111, 114] := List.mem_filter.2 ⟨List.mem_range.2 (by rw [← typesSize]; exact e3), e4⟩
    rw [oneRow] at hm
    obtain rfl := List.mem_singleton.1 hm
    have hh : typeHandle Tryz.prog 27 = .pointer (some ⟨9, 27, none⟩) := by kernel_rfl
    rw [hh] at e5
    have := World.var?_cell gEt e5 0
    simpa [ErrVar] using this
  · have r3 := laidMet.reads h'.1 (n := "internal/strconv.uint64pow10") (d := Rows.laid_internal_strconv_uint64pow10) (by simp)
    rw [powIs] at r3
    exact pow_of r3

/-- the numbers of a table, as cells -/
def cellsIn : DataW Unit → Array Value
  | .agg l => (l.map fun d => match d with | .lit (.int k n) => Value.int k n | _ => .nilIface).toArray
  | _ => #[]
/-- A world for the witness: the settled one, with the variables laid. -/
noncomputable def laidWorld (os : Os) : World :=
  let w0 := World.holding Tryz.prog os ⟨#[], #[], []⟩
  { w0 with heap := (((((w0.heap.modify 0 fun
      | .cells _ t frozen => .cells #[.iface 227 (.agg #[.pointer (some ⟨9, 27, none⟩)])] t frozen
      | o => o).modify 2 fun
      | .cells _ t frozen => .cells ((Array.range 256).map fun c => Value.int .u8 (Lib.firstT c)) t frozen
      | o => o).modify 3 fun
      | .cells _ t frozen => .cells ((Array.range 32).map fun c => Value.int .u8 (if c % 2 = 0 then Lib.accLo (c / 2) else Lib.accHi (c / 2))) t frozen
      | o => o).modify 1 fun
      | .cells _ t frozen => .cells (cellsIn Rows.laid_internal_strconv_uint64pow10) t frozen
      | o => o).modify 5 fun
      | .cells _ t frozen => .cells (cellsIn Rows.laid_math_bits_deBruijn32tab) t frozen
      | o => o).modify 6 fun
      | .cells _ t frozen => .cells (cellsIn Rows.laid_math_bits_deBruijn64tab) t frozen
      | o => o }
set_option maxRecDepth 100000 in
theorem laid_met (os : Os) (args : Array Value) : laidMetH Tryz.prog theLaid ((laidWorld os).forCall (fun _ _ => 0) ⟨#[], args, []⟩).memory :=
  laidMetH_of_parts (laidMet_of_run' 8 (by kernel_rfl) (by kernel_rfl)) (by kernel_rfl)
end Go.Proofs.YtjkdcladjjpmoaaGreatDoor.LawR
/- The closed facts of the row of treeBoth, one by one, and all of them. -/
namespace Go.Proofs.YtjkdcladjjpmoaaGreatDoor.treeBoth
open Go.ChangeShapes Go.WideShapes Go.ChangeAt Go.RowKit
set_option maxRecDepth 100000 in
theorem fact0 : (Rows.treeBothUptoRow.wf (OpenSpec.ofChange (Rows.OpenSpec.upto Rows.treeBothSpec).bare)) = true := by kernel_rfl
set_option maxRecDepth 100000 in
theorem fact1 : (laidOutB Tryz.pinned.checked.prog) = true := by kernel_rfl
set_option maxRecDepth 100000 in
theorem fact2 : (mapsRowed Tryz.pinned.checked.prog) = true := by kernel_rfl
set_option maxRecDepth 100000 in
theorem fact3 : (Tryz.f4.params.all (Tryz.pinned.checked.prog.readableRec ·)) = true := by kernel_rfl
set_option maxRecDepth 100000 in
theorem fact4 : (namedTie Tryz.pinned.checked.prog Rows.treeBothUptoRow.named (Rows.OpenSpec.upto Rows.treeBothSpec).bare.vars) = true := by kernel_rfl
set_option maxRecDepth 100000 in
theorem fact5 : ((Rows.treeBothUptoRow.stops == [])) = true := by kernel_rfl
set_option maxRecDepth 100000 in
theorem fact6 : ((Tryz.pinned.checked.prog.stops == [])) = true := by kernel_rfl
set_option maxRecDepth 100000 in
theorem fact7 : ((Rows.treeBothUptoRow.knobs == [])) = true := by kernel_rfl
set_option maxRecDepth 100000 in
theorem fact8 : ((Tryz.pinned.checked.prog.stopKnobs == [])) = true := by kernel_rfl
set_option maxRecDepth 100000 in
theorem fact9 : ((Rows.treeBothUptoRow.inPlace == Tryz.pinned.checked.prog.inPlace 4)) = true := by kernel_rfl
set_option maxRecDepth 100000 in
theorem fact10 : ((Rows.treeBothUptoRow.unfollowed == Tryz.pinned.checked.prog.unfollowed 4)) = true := by kernel_rfl
set_option maxRecDepth 100000 in
theorem fact11 : ((Rows.treeBothUptoRow.recurses == Tryz.pinned.checked.prog.recurses 4)) = true := by kernel_rfl
set_option maxRecDepth 100000 in
theorem fact12 : ((Rows.treeBothUptoRow.named == Tryz.pinned.checked.prog.varsNamed 4)) = true := by kernel_rfl
set_option maxRecDepth 100000 in
theorem fact13 : ((Rows.treeBothUptoRow.maps == (Tryz.f4.params.toList ++ (Rows.OpenSpec.upto Rows.treeBothSpec).bare.plain.varTypes Tryz.pinned.checked.prog).any (Tryz.pinned.checked.prog.mapsRec ·))) = true := by kernel_rfl
set_option maxRecDepth 100000 in
theorem fact14 : ((Rows.treeBothUptoRow.ifaces == (Tryz.f4.params.toList ++ (Rows.OpenSpec.upto Rows.treeBothSpec).bare.plain.varTypes Tryz.pinned.checked.prog).any (Tryz.pinned.checked.prog.ifacesRec ·))) = true := by kernel_rfl
set_option maxRecDepth 100000 in
theorem fact15 : ((Rows.treeBothUptoRow.mapsOut == Tryz.pinned.checked.prog.mapsAmong Tryz.f4.resultTypes.toList)) = true := by kernel_rfl
set_option maxRecDepth 100000 in
theorem fact16 : ((Rows.treeBothUptoRow.loops == (Tryz.f4.params.toList ++ (Rows.OpenSpec.upto Rows.treeBothSpec).bare.plain.varTypes Tryz.pinned.checked.prog).any (Tryz.pinned.checked.prog.loopsFrom ·))) = true := by kernel_rfl
set_option maxRecDepth 100000 in
theorem fact17 : ((Rows.treeBothUptoRow.wideKeys == (Tryz.f4.params.toList ++ (Rows.OpenSpec.upto Rows.treeBothSpec).bare.plain.varTypes Tryz.pinned.checked.prog ++ Tryz.f4.resultTypes.toList).any (Tryz.pinned.checked.prog.wideKeysFrom ·))) = true := by kernel_rfl
set_option maxRecDepth 100000 in
theorem fact18 : ((Rows.OpenSpec.upto Rows.treeBothSpec).bare.vars.all (Tryz.pinned.checked.prog.varReadable ·)) = true := by kernel_rfl
set_option maxRecDepth 100000 in
theorem fact19 : (Tryz.f4.resultTypes.all (fun t => Tryz.pinned.checked.prog.readableRec t && decide (t < Tryz.pinned.checked.prog.types.size))) = true := by kernel_rfl
set_option maxRecDepth 100000 in
theorem fact20 : ((Rows.treeBothUptoRow.ifacesOut == Tryz.f4.resultTypes.toList.any (Tryz.pinned.checked.prog.ifacesRec ·))) = true := by kernel_rfl
set_option maxRecDepth 100000 in
theorem fact21 : ((Rows.treeBothUptoRow.loopsOut == Tryz.f4.resultTypes.toList.any (Tryz.pinned.checked.prog.loopsFrom ·))) = true := by kernel_rfl
set_option maxRecDepth 100000 in
theorem fact22 : ((Rows.treeBothUptoRow.plainKeys == Tryz.pinned.checked.prog.plainKeys)) = true := by kernel_rfl
set_option maxRecDepth 100000 in
theorem fact23 : (Rows.treeBothUptoRow.shortTexts.isNone) = true := by kernel_rfl
set_option maxRecDepth 100000 in
theorem fact24 : (Tryz.pinned.checked.prog.stopsHeard) = true := by kernel_rfl
set_option maxRecDepth 100000 in
theorem fact25 : (Tryz.pinned.checked.prog.mayEnter) = true := by kernel_rfl
set_option maxRecDepth 100000 in
theorem fact26 : ((Rows.treeBothUptoRow.lifted == Tryz.pinned.checked.prog.liftsFinal)) = true := by kernel_rfl
set_option maxRecDepth 100000 in
theorem fact27 : ((Tryz.pinned.checked.prog.make == some Rows.treeBothUptoRow.make)) = true := by kernel_rfl
set_option maxRecDepth 100000 in
theorem fact28 : ((Rows.treeBothUptoRow.kinds == (if Rows.treeBothUptoRow.domain.isEmpty then [] else Tryz.f4.params.toList.map fun t => match Tryz.pinned.checked.prog.underlying t with | some (.int k) => some k | _ => none))) = true := by kernel_rfl
set_option maxRecDepth 100000 in
theorem fact29 : ((Rows.treeBothUptoRow.pinned == Rows.treeBothUptoRow.pinnedBy)) = true := by kernel_rfl
set_option maxRecDepth 100000 in
theorem fact30 : ((Rows.treeBothUptoRow.veiled == (Tryz.f4.params.toList ++ (Rows.OpenSpec.upto Rows.treeBothSpec).bare.plain.varTypes Tryz.pinned.checked.prog ++ Tryz.f4.resultTypes.toList).any (Tryz.pinned.checked.prog.veiledRec ·))) = true := by kernel_rfl
set_option maxRecDepth 100000 in
theorem fact31 : (Rows.treeBothUptoRow.veiledFits Tryz.pinned.checked.prog Tryz.f4.params.toList (Tryz.f4.params.toList ++ (Rows.OpenSpec.upto Rows.treeBothSpec).bare.plain.varTypes Tryz.pinned.checked.prog ++ Tryz.f4.resultTypes.toList)) = true := by kernel_rfl
set_option maxRecDepth 100000 in
theorem closed : joinedFacts Tryz.pinned.checked.prog 4 Tryz.f4 (Rows.OpenSpec.upto Rows.treeBothSpec).bare Rows.treeBothUptoRow = true := by
  unfold joinedFacts
  simp only [Bool.and_eq_true]
  refine ⟨?_, fact31⟩
  refine ⟨?_, fact30⟩
  refine ⟨?_, fact29⟩
  refine ⟨?_, fact28⟩
  refine ⟨?_, fact27⟩
  refine ⟨?_, fact26⟩
  refine ⟨?_, fact25⟩
  refine ⟨?_, fact24⟩
  refine ⟨?_, fact23⟩
  refine ⟨?_, fact22⟩
  refine ⟨?_, fact21⟩
  refine ⟨?_, fact20⟩
  refine ⟨?_, fact19⟩
  refine ⟨?_, fact18⟩
  refine ⟨?_, fact17⟩
  refine ⟨?_, fact16⟩
  refine ⟨?_, fact15⟩
  refine ⟨?_, fact14⟩
  refine ⟨?_, fact13⟩
  refine ⟨?_, fact12⟩
  refine ⟨?_, fact11⟩
  refine ⟨?_, fact10⟩
  refine ⟨?_, fact9⟩
  refine ⟨?_, fact8⟩
  refine ⟨?_, fact7⟩
  refine ⟨?_, fact6⟩
  refine ⟨?_, fact5⟩
  refine ⟨?_, fact4⟩
  refine ⟨?_, fact3⟩
  refine ⟨?_, fact2⟩
  refine ⟨?_, fact1⟩
  exact fact0
end Go.Proofs.YtjkdcladjjpmoaaGreatDoor.treeBoth

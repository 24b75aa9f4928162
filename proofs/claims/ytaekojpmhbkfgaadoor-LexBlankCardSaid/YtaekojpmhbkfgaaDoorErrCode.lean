/- The contracts of the statements' Code and Fault: which code an error has, and at which place it is. -/
import Derived.Test.YtaekojpmhbkfgaaDoorErrAw
namespace Go.Proofs.YtaekojpmhbkfgaaDoor.ErrAs
open Go Go.RowKit

theorem hid {p : Prop} (h : p) : Hid p := h
/-- the variable errors.errorType holds the handle of the type error -/
def ErrVar (w : World) : Prop := w.cell? ⟨0, 0, none⟩ = some (.iface 71 (.agg #[hd 25]))
theorem ErrVar.lt {w : World} (h : ErrVar w) : 0 < w.heap.size := World.block_lt_of_cell? w _ h
theorem ErrVar.below {w w' : World} (h : ErrVar w) (hb : Below w.heap.size w w') : ErrVar w' := (hb.cell (p := ⟨0, 0, none⟩) h.lt).trans h
/-- a fault lies in memory: its place, and the code that it wraps -/
def FaultAt (w : World) (b : Nat) (p n : Int) : Prop := w.heap[b]? = some (.cells #[.int .i64 p, .iface 38 (.int .i64 n)] 44 (0, 0))
theorem FaultAt.lt {w : World} {b : Nat} {p n : Int} (h : FaultAt w b p n) : b < w.heap.size := (Array.getElem?_eq_some_iff.1 h).1
theorem FaultAt.below {w w' : World} {b : Nat} {p n : Int} (h : FaultAt w b p n) (hb : Below w.heap.size w w') : FaultAt w' b p n := (hb.block b h.lt).trans h
theorem FaultAt.cell0 {w : World} {b : Nat} {p n : Int} (h : FaultAt w b p n) : w.cell? ⟨b, 0, none⟩ = some (.int .i64 p) := cell_of_row w b 0 _ _ _ h
theorem FaultAt.cell1 {w : World} {b : Nat} {p n : Int} (h : FaultAt w b p n) : w.cell? ⟨b, 1, none⟩ = some (.iface 38 (.int .i64 n)) := cell_of_row w b 1 _ _ _ h

/-- what errors.As leaves: the target's variable is set, all that lies below it is as it was -/
theorem after_below (w : World) (T E : Nat) (t : Addr) (v : Value) (ht : t.block ≤ w.heap.size) : Below t.block w ((behind w T E t v).setCell t v) :=
  (((((Below.refl _ w).alloc ht _).alloc (by simp; omega) _).alloc (by simp; omega) _).alloc (by simp; omega) _).setCell (Nat.le_refl _) _
theorem after_cell (w : World) (T E : Nat) (t : Addr) (v old : Value) (h : w.cell? t = some old) : ((behind w T E t v).setCell t v).cell? t = some v := by
  have ht := World.block_lt_of_cell? w _ h
  have h2 : (behind w T E t v).cell? t = some old := by
    rw [World.cell?_alloc_lt _ _ t (by simp <;> omega), World.cell?_alloc_lt _ _ t (by simp <;> omega), World.cell?_alloc_lt _ _ t (by simp <;> omega), World.cell?_alloc_lt _ _ t ht]
    exact h
  exact World.cell?_setCell_same (behind w T E t v) t v h2

set_option maxHeartbeats 1000000 in
theorem code_nil (w : World) : Calls Tryd.prog 9 #[.nilIface] w fun e w' => e = .returned (.int .i64 0) ∧ w = w' := by
  go_enter Tryd.func9, Tryd.ntmps9
  go_wp2
  go_ret
  exact ⟨rfl, rfl⟩
set_option maxHeartbeats 1000000 in
theorem code_code (n : Int) (w : World) (hn : 0 < n) (hv : ErrVar w) : Calls Tryd.prog 9 #[.iface 38 (.int .i64 n)] w fun e w' => e = .returned (.int .i64 n) ∧ Below w.heap.size w w' := by
  have hB : Below w.heap.size w (w.alloc (.cells #[.int .i64 0] 38)) := (Below.refl _ w).alloc (Nat.le_refl _) _
  have hc : (w.alloc (.cells #[.int .i64 0] 38)).cell? ⟨w.heap.size, 0, none⟩ = some (.int .i64 0) := by rw [World.cell?_alloc_at _ _ _ _ (by simp)]; rfl
  have c1 := as_code n ⟨w.heap.size, 0, none⟩ (.int .i64 0) (w.alloc (.cells #[.int .i64 0] 38)) (hv.below hB) hc (by simp)
  have B2 := hB.trans (after_below (w.alloc (.cells #[.int .i64 0] 38)) 47 38 ⟨w.heap.size, 0, none⟩ (.int .i64 n) (by simp))
  have k2 := after_cell (w.alloc (.cells #[.int .i64 0] 38)) 47 38 ⟨w.heap.size, 0, none⟩ (.int .i64 n) _ hc
  have C1 := hid c1
  have H2 := hid B2
  have K2 := hid k2
  clear c1 B2 k2 hB hc hv
  go_enter Tryd.func9, Tryd.ntmps9
  go_wp2_with fail
  refine C1.out.mono ?_
  rintro e W2 ⟨rfl, hW2⟩
  have k3 := K2.out
  have B3 := hid H2.out
  rw [← hW2] at k3 B3
  clear C1 H2 K2 hW2
  go_wp2_with fail
  go_ret
  exact ⟨rfl, B3.out⟩
set_option maxHeartbeats 1000000 in
theorem code_fault (b : Nat) (p n : Int) (w : World) (hn : 0 < n) (hv : ErrVar w) (hf : FaultAt w b p n) : Calls Tryd.prog 9 #[.iface 42 (.pointer (some ⟨b, 0, none⟩))] w fun e w' => e = .returned (.int .i64 n) ∧ Below w.heap.size w w' := by
  have hB : Below w.heap.size w (w.alloc (.cells #[.int .i64 0] 38)) := (Below.refl _ w).alloc (Nat.le_refl _) _
  have hc : (w.alloc (.cells #[.int .i64 0] 38)).cell? ⟨w.heap.size, 0, none⟩ = some (.int .i64 0) := by rw [World.cell?_alloc_at _ _ _ _ (by simp)]; rfl
  have c1 := as_code_fault n b ⟨w.heap.size, 0, none⟩ (.int .i64 0) (w.alloc (.cells #[.int .i64 0] 38)) (hv.below hB) hc (by simp) (hf.below hB).cell1
  have B2 := hB.trans (after_below (w.alloc (.cells #[.int .i64 0] 38)) 47 38 ⟨w.heap.size, 0, none⟩ (.int .i64 n) (by simp))
  have k2 := after_cell (w.alloc (.cells #[.int .i64 0] 38)) 47 38 ⟨w.heap.size, 0, none⟩ (.int .i64 n) _ hc
  have C1 := hid c1
  have H2 := hid B2
  have K2 := hid k2
  clear c1 B2 k2 hB hc hv hf
  go_enter Tryd.func9, Tryd.ntmps9
  go_wp2_with fail
  refine C1.out.mono ?_
  rintro e W2 ⟨rfl, hW2⟩
  have k3 := K2.out
  have B3 := hid H2.out
  rw [← hW2] at k3 B3
  clear C1 H2 K2 hW2
  go_wp2_with fail
  go_ret
  exact ⟨rfl, B3.out⟩

set_option maxHeartbeats 1000000 in
theorem fault_none (p : Int) (w : World) : Calls Tryd.prog 10 #[.nilIface, .int .i64 0, .int .i64 p] w fun e w' => e = .returned (.bool true) ∧ Below w.heap.size w w' := by
  go_enter Tryd.func10, Tryd.ntmps10
  go_wp2
  go_ret
  exact ⟨rfl, (Below.refl _ w).alloc (Nat.le_refl _) _⟩
set_option maxHeartbeats 1000000 in
theorem fault_fault (b : Nat) (p q n : Int) (w : World) (hn : 0 < n) (hv : ErrVar w) (hf : FaultAt w b p n) : Calls Tryd.prog 10 #[.iface 42 (.pointer (some ⟨b, 0, none⟩)), .int .i64 n, .int .i64 q] w fun e w' => e = .returned (.bool (p == q)) ∧ Below w.heap.size w w' := by
  have hB : Below w.heap.size w (w.alloc (.cells #[.pointer none] 42)) := (Below.refl _ w).alloc (Nat.le_refl _) _
  have hc : (w.alloc (.cells #[.pointer none] 42)).cell? ⟨w.heap.size, 0, none⟩ = some (.pointer none) := by rw [World.cell?_alloc_at _ _ _ _ (by simp)]; rfl
  have hfz : (w.alloc (.cells #[.pointer none] 42)).frozen? ⟨w.heap.size, 0, none⟩ = false := by simp
  have c1 := code_fault b p n (w.alloc (.cells #[.pointer none] 42)) hn (hv.below hB) (hf.below hB)
  have hn0 : ((n : Int) == 0) = false := by simp; omega
  have C1 := hid c1
  have HV := hid (hv.below hB)
  have HF := hid (hf.below hB)
  have HF0 := hid hf.lt
  have HB := hid hB
  have HC := hid hc
  have HZ := hid hfz
  clear c1 hv hf hB hc hfz
  go_enter Tryd.func10, Tryd.ntmps10
  go_wp2_with fail
  refine C1.out.mono ?_
  rintro e W2 ⟨rfl, hb2⟩
  have hc2 : W2.cell? ⟨w.heap.size, 0, none⟩ = some (.pointer none) := (hb2.cell (p := ⟨w.heap.size, 0, none⟩) (by simp)).trans HC.out
  have hz2 : W2.frozen? ⟨w.heap.size, 0, none⟩ = false := (hb2.frozen (p := ⟨w.heap.size, 0, none⟩) (by simp)).trans HZ.out
  have hs2 : w.heap.size < W2.heap.size := by have := hb2.size; simp at this; omega
  have c2 := as_fault ⟨b, 0, none⟩ ⟨w.heap.size, 0, none⟩ (.pointer none) W2 (HV.out.below hb2) hc2 hz2
  have B3 := (HB.out.trans (hb2.mono (by simp))).trans (after_below W2 48 42 ⟨w.heap.size, 0, none⟩ (.pointer (some ⟨b, 0, none⟩)) (by show w.heap.size ≤ _; omega))
  have k3 := after_cell W2 48 42 ⟨w.heap.size, 0, none⟩ (.pointer (some ⟨b, 0, none⟩)) _ hc2
  have f2 := HF.out.below hb2
  have f3 : FaultAt ((behind W2 48 42 ⟨w.heap.size, 0, none⟩ (.pointer (some ⟨b, 0, none⟩))).setCell ⟨w.heap.size, 0, none⟩ (.pointer (some ⟨b, 0, none⟩))) b p n := by
    have h0 : b < w.heap.size := HF0.out
    unfold FaultAt
    rw [(after_below W2 48 42 ⟨w.heap.size, 0, none⟩ (.pointer (some ⟨b, 0, none⟩)) (by show w.heap.size ≤ _; omega)).block b h0]
    exact f2
  have C2 := hid c2
  have H3 := hid B3
  have K3 := hid k3
  have F3 := hid f3
  clear c2 B3 k3 f2 f3 hc2 hz2 hb2 hs2
  go_wp2_with fail
  refine C2.out.mono ?_
  rintro e W3 ⟨rfl, hW3⟩
  have k4 := K3.out
  have f4 := F3.out
  have B4 := hid H3.out
  rw [← hW3] at k4 f4 B4
  have d0 := f4.cell0
  clear C1 C2 H3 K3 F3 hW3 f4 HV HF HB HC HZ
  go_wp2_with fail
  go_ret
  exact ⟨rfl, B4.out⟩
end Go.Proofs.YtaekojpmhbkfgaaDoor.ErrAs

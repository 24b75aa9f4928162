/- Closed facts on reflectlite at the program's types, for errors.As at its two targets: a code (*api.Code) and a fault (**api.Fault); the error a code, or a fault that wraps a code. -/
import Derived.Test.YtaekojpmhbkfgaaDoorProg
import Derived.WalkKit
import Derived.LaidEql
import Derived.Stop.Asserts
import Derived.RowKitTokens
namespace Go.Proofs.YtaekojpmhbkfgaaDoor.ErrAs
open Go Go.RowKit Go.Extern.Stop Go.Stop Go.Extern

/-- reflectlite's handle of a type -/
abbrev hd (t : Nat) : Value := .pointer (some ⟨4, t, none⟩)
/-- a Value of a type, at an address -/
abbrev rv (t : Nat) (p : Addr) (fl : Int) : Value := .agg #[hd t, .pointer (some p), .int .u64 fl]

theorem unpackPC (t : Addr) (w : World) : (ReflectliteValue.unpack (.iface 47 (.pointer (some t)))).run Tryd.prog w = .ok (rv 47 ⟨w.heap.size, 0, none⟩ 150) (w.alloc (.cells #[.pointer (some t)] 47)) := by kernel_rfl
theorem typePC (a : Addr) (w : World) : (ReflectliteValue.methodAny (ReflectliteValue.valueError "reflectlite.Value.Type" 0) (fun t _ _ _ => ReflectliteType.toType t) #[rv 47 a 150]).run Tryd.prog w = .ok (.iface 71 (.agg #[hd 47])) w := by kernel_rfl
theorem mKind (h : Value) (w : World) : (Go.method 223 71 (.agg #[h]) "Kind").run Tryd.prog w = .ok (65, h) w := by kernel_rfl
theorem mElem (h : Value) (w : World) : (Go.method 223 71 (.agg #[h]) "Elem").run Tryd.prog w = .ok (77, .agg #[h]) w := by kernel_rfl
theorem mImpl (h : Value) (w : World) : (Go.method 223 71 (.agg #[h]) "Implements").run Tryd.prog w = .ok (78, .agg #[h]) w := by kernel_rfl
theorem mAssign (h : Value) (w : World) : (Go.method 223 71 (.agg #[h]) "AssignableTo").run Tryd.prog w = .ok (75, .agg #[h]) w := by kernel_rfl
theorem kindPC (w : World) : ((ReflectliteType.abiMethod fun t => (fun a : Nat => Value.int IntKind.u8 (a : Int)) <$> Rtype.kind t) #[hd 47]).run Tryd.prog w = .ok (.int .u8 22) w := by kernel_rfl
theorem kindC (w : World) : ((ReflectliteType.abiMethod fun t => (fun a : Nat => Value.int IntKind.u8 (a : Int)) <$> Rtype.kind t) #[hd 38]).run Tryd.prog w = .ok (.int .u8 2) w := by kernel_rfl
theorem elemPC (w : World) : (ReflectliteType.method ReflectliteType.elem #[.agg #[hd 47]]).run Tryd.prog w = .ok (.iface 71 (.agg #[hd 38])) w := by kernel_rfl
theorem implC (w : World) : (ReflectliteType.relation "Implements" ReflectliteType.implements_ #[.agg #[hd 38], .iface 71 (.agg #[hd 25])]).run Tryd.prog w = .ok (.bool true) w := by kernel_rfl
theorem typeOfC (v : Value) (w : World) : (ReflectliteType.typeOf #[.iface 38 v]).run Tryd.prog w = .ok (.iface 71 (.agg #[hd 38])) w := by kernel_rfl
theorem assignCC (w : World) : (ReflectliteType.relation "AssignableTo" ReflectliteType.assignableTo #[.agg #[hd 38], .iface 71 (.agg #[hd 38])]).run Tryd.prog w = .ok (.bool true) w := by kernel_rfl
theorem unpackC (n : Int) (w : World) : (ReflectliteValue.unpack (.iface 38 (.int .i64 n))).run Tryd.prog w = .ok (rv 38 ⟨w.heap.size, 0, none⟩ 130) (w.alloc (.cells #[.int .i64 n] 38)) := by kernel_rfl
theorem elemQPC (w : World) : (Rtype.elem? 47).run Tryd.prog w = .ok (some 38) w := by kernel_rfl
theorem mkC (p : Addr) (w : World) : (ReflectliteValue.mk 38 p ReflectliteValue.flagAddr).run Tryd.prog w = .ok (rv 38 p 386) w := by kernel_rfl
theorem partsPC (a : Addr) (w : World) : (ReflectliteValue.parts (rv 47 a 150)).run Tryd.prog w = .ok (some (47, a, 150)) w := by kernel_rfl
theorem partsC (a : Addr) (w : World) : (ReflectliteValue.parts (rv 38 a 386)).run Tryd.prog w = .ok (some (38, a, 386)) w := by kernel_rfl
theorem partsC' (a : Addr) (w : World) : (ReflectliteValue.parts (rv 38 a 130)).run Tryd.prog w = .ok (some (38, a, 130)) w := by kernel_rfl
theorem directC (w : World) : (Rtype.directlyAssignable 38 38).run Tryd.prog w = .ok true w := by kernel_rfl

theorem method_eq (z : Sem Value) (f : TypeId → Addr → Nat → Nat → Sem Value) (v : Value) :
    ReflectliteValue.method z f #[v] = (do match ← ReflectliteValue.parts v with | none => z | some (t, a, fl) => f t a fl (fl % 32)) := rfl
theorem isNilPC (a p : Addr) (W : World) (ha : W.cell? a = some (.pointer (some p))) :
    (ReflectliteValue.method (ReflectliteValue.valueError "reflectlite.Value.IsNil" 0) ReflectliteValue.isNil #[rv 47 a 150]).run Tryd.prog W = .ok (.bool false) W := by
  rw [method_eq]
  simp only [Sem.run_bind, partsPC, Result.andThen]
  simp [ReflectliteValue.isNil, loadVar, isAgg, underlying, Tryd.underlying47, ha, Result.andThen]
theorem elemVPC (a p : Addr) (W : World) (ha : W.cell? a = some (.pointer (some p))) :
    (ReflectliteValue.method (ReflectliteValue.valueError "reflectlite.Value.Elem" 0) ReflectliteValue.elem #[rv 47 a 150]).run Tryd.prog W = .ok (rv 38 p 386) W := by
  rw [method_eq]
  simp only [Sem.run_bind, partsPC, Result.andThen]
  simp [ReflectliteValue.elem, loadVar, isAgg, underlying, Tryd.underlying47, ha, Result.andThen, elemQPC, mkC]
theorem setC (ta b : Addr) (n : Int) (old : Value) (W : World) (hb : W.cell? b = some (.int .i64 n)) (ht : W.cell? ta = some old) (hf : W.frozen? ta = false) :
    (ReflectliteValue.set #[rv 38 ta 386, rv 38 b 130]).run Tryd.prog W = .ok (.tuple #[]) (W.setCell ta (.int .i64 n)) := by
  rw [show ReflectliteValue.set #[rv 38 ta 386, rv 38 b 130] = (ReflectliteValue.parts (rv 38 ta 386) >>= fun p => ReflectliteValue.parts (rv 38 b 130) >>= _) from rfl]
  simp only [Sem.run_bind, partsC, partsC', Result.andThen]
  simp [ReflectliteValue.flagAddr, loadVar, isAgg, underlying, Tryd.underlying38, hb, Result.andThen, directC, storeVar, Value.cells, storeCells, Addr.add]
  rw [run_store Tryd.prog W ta _ _ (by rfl)]
  simp [ht, hf]


/-! The target **api.Fault; the error *api.Fault -/
theorem unpackPPF (t : Addr) (w : World) : (ReflectliteValue.unpack (.iface 48 (.pointer (some t)))).run Tryd.prog w = .ok (rv 48 ⟨w.heap.size, 0, none⟩ 150) (w.alloc (.cells #[.pointer (some t)] 48)) := by kernel_rfl
theorem typePPF (a : Addr) (w : World) : (ReflectliteValue.methodAny (ReflectliteValue.valueError "reflectlite.Value.Type" 0) (fun t _ _ _ => ReflectliteType.toType t) #[rv 48 a 150]).run Tryd.prog w = .ok (.iface 71 (.agg #[hd 48])) w := by kernel_rfl
theorem kindPPF (w : World) : ((ReflectliteType.abiMethod fun t => (fun a : Nat => Value.int IntKind.u8 (a : Int)) <$> Rtype.kind t) #[hd 48]).run Tryd.prog w = .ok (.int .u8 22) w := by kernel_rfl
theorem kindPF (w : World) : ((ReflectliteType.abiMethod fun t => (fun a : Nat => Value.int IntKind.u8 (a : Int)) <$> Rtype.kind t) #[hd 42]).run Tryd.prog w = .ok (.int .u8 22) w := by kernel_rfl
theorem elemPPF (w : World) : (ReflectliteType.method ReflectliteType.elem #[.agg #[hd 48]]).run Tryd.prog w = .ok (.iface 71 (.agg #[hd 42])) w := by kernel_rfl
theorem implPF (w : World) : (ReflectliteType.relation "Implements" ReflectliteType.implements_ #[.agg #[hd 42], .iface 71 (.agg #[hd 25])]).run Tryd.prog w = .ok (.bool true) w := by kernel_rfl
theorem typeOfPF (v : Value) (w : World) : (ReflectliteType.typeOf #[.iface 42 v]).run Tryd.prog w = .ok (.iface 71 (.agg #[hd 42])) w := by kernel_rfl
theorem assignFF (w : World) : (ReflectliteType.relation "AssignableTo" ReflectliteType.assignableTo #[.agg #[hd 42], .iface 71 (.agg #[hd 42])]).run Tryd.prog w = .ok (.bool true) w := by kernel_rfl
theorem assignFC (w : World) : (ReflectliteType.relation "AssignableTo" ReflectliteType.assignableTo #[.agg #[hd 42], .iface 71 (.agg #[hd 38])]).run Tryd.prog w = .ok (.bool false) w := by kernel_rfl
theorem unpackPF (p : Addr) (w : World) : (ReflectliteValue.unpack (.iface 42 (.pointer (some p)))).run Tryd.prog w = .ok (rv 42 ⟨w.heap.size, 0, none⟩ 150) (w.alloc (.cells #[.pointer (some p)] 42)) := by kernel_rfl
theorem elemQPPF (w : World) : (Rtype.elem? 48).run Tryd.prog w = .ok (some 42) w := by kernel_rfl
theorem mkPF (p : Addr) (w : World) : (ReflectliteValue.mk 42 p ReflectliteValue.flagAddr).run Tryd.prog w = .ok (rv 42 p 406) w := by kernel_rfl
theorem partsPPF (a : Addr) (w : World) : (ReflectliteValue.parts (rv 48 a 150)).run Tryd.prog w = .ok (some (48, a, 150)) w := by kernel_rfl
theorem partsPF (a : Addr) (w : World) : (ReflectliteValue.parts (rv 42 a 406)).run Tryd.prog w = .ok (some (42, a, 406)) w := by kernel_rfl
theorem partsPF' (a : Addr) (w : World) : (ReflectliteValue.parts (rv 42 a 150)).run Tryd.prog w = .ok (some (42, a, 150)) w := by kernel_rfl
theorem directPF (w : World) : (Rtype.directlyAssignable 42 42).run Tryd.prog w = .ok true w := by kernel_rfl
theorem isNilPPF (a p : Addr) (W : World) (ha : W.cell? a = some (.pointer (some p))) :
    (ReflectliteValue.method (ReflectliteValue.valueError "reflectlite.Value.IsNil" 0) ReflectliteValue.isNil #[rv 48 a 150]).run Tryd.prog W = .ok (.bool false) W := by
  rw [method_eq]
  simp only [Sem.run_bind, partsPPF, Result.andThen]
  simp [ReflectliteValue.isNil, loadVar, isAgg, underlying, Tryd.underlying48, ha, Result.andThen]
theorem elemVPPF (a p : Addr) (W : World) (ha : W.cell? a = some (.pointer (some p))) :
    (ReflectliteValue.method (ReflectliteValue.valueError "reflectlite.Value.Elem" 0) ReflectliteValue.elem #[rv 48 a 150]).run Tryd.prog W = .ok (rv 42 p 406) W := by
  rw [method_eq]
  simp only [Sem.run_bind, partsPPF, Result.andThen]
  simp [ReflectliteValue.elem, loadVar, isAgg, underlying, Tryd.underlying48, ha, Result.andThen, elemQPPF, mkPF]
theorem setPF (ta b e : Addr) (old : Value) (W : World) (hb : W.cell? b = some (.pointer (some e))) (ht : W.cell? ta = some old) (hf : W.frozen? ta = false) :
    (ReflectliteValue.set #[rv 42 ta 406, rv 42 b 150]).run Tryd.prog W = .ok (.tuple #[]) (W.setCell ta (.pointer (some e))) := by
  rw [show ReflectliteValue.set #[rv 42 ta 406, rv 42 b 150] = (ReflectliteValue.parts (rv 42 ta 406) >>= fun p => ReflectliteValue.parts (rv 42 b 150) >>= _) from rfl]
  simp only [Sem.run_bind, partsPF, partsPF', Result.andThen]
  simp [ReflectliteValue.flagAddr, loadVar, isAgg, underlying, Tryd.underlying42, hb, Result.andThen, directPF, storeVar, Value.cells, storeCells, Addr.add]
  rw [run_store Tryd.prog W ta _ _ (by rfl)]
  simp [ht, hf]
theorem unwrapAhead (a : Addr) (w : World) : (nilAhead 223 42 (.pointer (some a)) "Unwrap").run Tryd.prog w = .ok (some false) w := by kernel_rfl
theorem unwrapIs (a : Addr) (w : World) : (Go.method 223 42 (.pointer (some a)) "Unwrap").run Tryd.prog w = .ok (70, .pointer (some a)) w := by kernel_rfl
end Go.Proofs.YtaekojpmhbkfgaaDoor.ErrAs

/- Texts joined: EnvZA, EnvZB, EnvZC, EnvK, EnvH, EnvI. -/
import Derived.Test.YtannfhbocfghkaaDoorJ03
import Derived.Lib.AppendZeros
import Derived.LoopN
import Derived.Test.YtannfhbocfghkaaDoorJ02
/- Contracts of slices.Clone at ints, types and binds: the copy lies in memory of the call's own. -/
namespace Go.Proofs.YtannfhbocfghkaaDoor.EnvC
open Go Go.RowKit Go.Shelf Go.Lib Go.Sort Go.Proofs.YtannfhbocfghkaaDoor.EnvP

/-! ### Rows of elements of so many cells -/
theorem flatten_len {k : Nat} : ∀ {xs : List (List Value)}, (∀ c ∈ xs, c.length = k) → xs.flatten.length = xs.length * k
  | [], _ => by simp
  | c :: xs, h => by rw [List.flatten_cons, List.length_append, h c (by simp), flatten_len (fun d hd => h d (by simp [hd])), List.length_cons, Nat.add_mul, Nat.one_mul, Nat.add_comm]
theorem flatten_split {k : Nat} : ∀ {xs : List (List Value)}, (∀ c ∈ xs, c.length = k) → ∀ (j : Nat) (u : Value), xs.flatten[j]? = some u → ∃ i o c, j = i * k + o ∧ xs[i]? = some c ∧ c[o]? = some u
  | [], _, j, u, hj => by simp at hj
  | c :: xs, h, j, u, hj => by
    rw [List.flatten_cons] at hj
    have hc := h c (by simp)
    by_cases hlt : j < k
    · rw [List.getElem?_append_left (by omega)] at hj
      exact ⟨0, j, c, by omega, by simp, hj⟩
    · rw [List.getElem?_append_right (by omega), hc] at hj
      obtain ⟨i, o, d, h1, h2, h3⟩ := flatten_split (fun d hd => h d (by simp [hd])) (j - k) u hj
      exact ⟨i + 1, o, d, by rw [Nat.add_mul]; omega, by simpa using h2, h3⟩
theorem flatten_at {k : Nat} : ∀ {xs : List (List Value)}, (∀ c ∈ xs, c.length = k) → ∀ (i : Nat) (c : List Value), xs[i]? = some c → ∀ (o : Nat) (u : Value), c[o]? = some u → xs.flatten[i * k + o]? = some u
  | [], _, i, c, hi, _, _, _ => by simp at hi
  | d :: xs, h, i, c, hi, o, u, ho => by
    rw [List.flatten_cons]
    have hd := h d (by simp)
    cases i with
    | zero =>
      obtain rfl : d = c := by simpa using hi
      rw [Nat.zero_mul, Nat.zero_add, List.getElem?_append_left ((List.getElem?_eq_some_iff.1 ho).1)]
      exact ho
    | succ i =>
      rw [List.getElem?_append_right (by rw [hd, Nat.add_mul]; omega), hd, show (i + 1) * k + o - k = i * k + o by rw [Nat.add_mul]; omega]
      exact flatten_at (fun d hd => h d (by simp [hd])) i c (by simpa using hi) o u ho
/-- what lies, read cell by cell from its first on -/
theorem lies_flat {k : Nat} {w : World} {ad : Addr} {m c : Nat} {xs : List (List Value)} (hx : ∀ c ∈ xs, c.length = k) (h : Lies w k (.slice (some ad) m c) xs) : ∀ (j : Nat) (u : Value), xs.flatten[j]? = some u → w.cell? (ad.add j) = some u := by
  intro j u hj
  obtain ⟨i, o, d, rfl, h2, h3⟩ := flatten_split hx j u hj
  obtain ⟨p, cap, e, _, hp⟩ := h
  obtain ⟨b, off, rfl, hc⟩ := hp (by intro e; simp [e] at h2)
  injection e with e1 _ _
  injection e1 with e1
  subst e1
  have := hc i d h2 o u h3
  rw [show (⟨b, off, none⟩ : Addr).add (i * k + o) = ⟨b, off + i * k + o, none⟩ by simp [Addr.add, Nat.add_assoc]]
  exact this
/-- a row of the call's own lies -/
theorem own_lies {k : Nat} {w : World} {base : Nat} {e : TypeId} {v : Value} {xs : List (List Value)} (hx : ∀ c ∈ xs, c.length = k) (h : w.ownsRow base e k v xs.length xs.flatten) : Lies w k v xs := by
  obtain ⟨_, ⟨rfl, h2⟩ | ⟨g, cap, cur, rfl, h3, h4, h5, h6, h7, h8⟩⟩ := h
  · exact ⟨none, 0, by rw [h2], by omega, fun hne => absurd (List.length_eq_zero_iff.1 h2) hne⟩
  · refine ⟨_, cap, rfl, h5, fun _ => ⟨g, 0, rfl, fun i c hi j u hj => ?_⟩⟩
    have h9 := flatten_at hx i c hi j u hj
    rw [← h8] at h9
    have h10 : cur.toList[i * k + j]? = some u := by
      have hlt := (List.getElem?_eq_some_iff.1 h9).1
      rw [List.length_take] at hlt
      rw [List.getElem?_take, if_pos (by omega)] at h9
      exact h9
    rw [Lib.cell_of_heap h4, Nat.zero_add]
    simpa using h10

theorem int_info : (Tryd.prog.info? 3).map (fun i => (i.zero, i.size, i.bytes)) = some (some (.int .i64 0), 1, 8) := by kernel_rfl
theorem ty_info : (Tryd.prog.info? 31).map (fun i => (i.zero, i.size, i.bytes)) = some (some (.agg #[.int .i64 0, .bool false, .bool false, .slice none 0 0, .slice none 0 0]), 5, 64) := by kernel_rfl
theorem bind_info : (Tryd.prog.info? 33).map (fun i => (i.zero, i.size, i.bytes)) = some (some (.agg #[.string .empty, .int .i64 0, .bool false, .bool false, .slice none 0 0, .slice none 0 0]), 6, 80) := by kernel_rfl

set_option maxHeartbeats 2000000 in
set_option maxRecDepth 100000 in
theorem clone_int (v : Value) (xs : List (List Value)) (w : World) (hx : ∀ c ∈ xs, c.length = 1) (ho : ∀ c ∈ xs, ∀ u ∈ c, u.oneCell' = true) (h : Lies w 1 v xs) (hbig : xs.length * 8 ≤ 140737488355328) :
    Calls Tryd.prog 48 #[v] w fun e w' => ∃ v', e = .returned v' ∧ w'.ownsRow w.heap.size 3 1 v' xs.length xs.flatten ∧ Below w.heap.size w w' := by
  obtain ⟨i0, hi, hz0, hz1, hz2⟩ := info_parts int_info
  obtain ⟨p, cap, rfl, hcap, hp⟩ := id h
  have qn : ∀ (w : World) (a : Option Addr) (n c n' c' : Nat), (binOp .eql 40 (.slice a n c) (.slice none n' c')).run Tryd.prog w = .ok (.bool a.isNone) w := fun w a n c n' c' => Lib.run_eql_slice_nil w _ _ a n c n' c' Tryd.underlying40
  cases p with
  | none =>
    have hnil : xs = [] := by
      cases xs with
      | nil => rfl
      | cons a l => obtain ⟨_, _, e, _⟩ := hp (by simp); cases e
    subst hnil
    go_enter Tryd.func48, Tryd.ntmps48
    go_wp2
    go_ret
    exact ⟨_, rfl, World.ownsRow_nil _ _ _ _, Below.refl _ _⟩
  | some ad =>
    have A : Hid (∀ (j : Nat) (u : Value), xs.flatten[j]? = some u → w.cell? (ad.add j) = some u) := hid (lies_flat hx h)
    have L : Hid (xs.flatten.length = xs.length * 1) := hid (flatten_len hx)
    have O : Hid (∀ u ∈ xs.flatten, u.oneCell' = true) := hid (fun u hu => by obtain ⟨c, hc, hu⟩ := List.mem_flatten.1 hu; exact ho c hc u hu)
    clear hp h
    go_enter Tryd.func48, Tryd.ntmps48
    go_wp2_with (at_builtin; refine wpList_append_own _ rfl _ _ 40 rfl w.heap.size 3 i0 (.int .i64 0) 1 8 Tryd.underlying40 hi hz0 hz1 hz2 rfl (by decide) _ _ _ rfl (World.ownsRow_made w #[] 0 (Nat.le_refl _) (Nat.zero_le _) rfl) ad xs.length cap xs.flatten rfl L.out ?qc2 O.out ?qc4 ?qc5 ?qc6 ?_)
    case qc2 => exact fun j u hj => Lib.cell?_alloc_some _ (A.out j u hj)
    case qc4 => unfold maxLen; omega
    case qc5 => omega
    case qc6 => simp
    intro v' w1 hown hgrow hnil
    go_wp2
    go_ret
    exact ⟨v', rfl, by simpa using hown, ((Below.refl _ w).alloc (Nat.le_refl _) _).grown hgrow (by simp) (by intro k hk; simp [Value.ownBlock] at hk; omega)⟩
set_option maxHeartbeats 2000000 in
set_option maxRecDepth 100000 in
theorem clone_ty (v : Value) (xs : List (List Value)) (w : World) (hx : ∀ c ∈ xs, c.length = 5) (ho : ∀ c ∈ xs, ∀ u ∈ c, u.oneCell' = true) (h : Lies w 5 v xs) (hbig : xs.length * 64 ≤ 140737488355328) :
    Calls Tryd.prog 49 #[v] w fun e w' => ∃ v', e = .returned v' ∧ w'.ownsRow w.heap.size 31 5 v' xs.length xs.flatten ∧ Below w.heap.size w w' := by
  obtain ⟨i0, hi, hz0, hz1, hz2⟩ := info_parts ty_info
  obtain ⟨p, cap, rfl, hcap, hp⟩ := id h
  have qn : ∀ (w : World) (a : Option Addr) (n c n' c' : Nat), (binOp .eql 29 (.slice a n c) (.slice none n' c')).run Tryd.prog w = .ok (.bool a.isNone) w := fun w a n c n' c' => Lib.run_eql_slice_nil w _ _ a n c n' c' Tryd.underlying29
  cases p with
  | none =>
    have hnil : xs = [] := by
      cases xs with
      | nil => rfl
      | cons a l => obtain ⟨_, _, e, _⟩ := hp (by simp); cases e
    subst hnil
    go_enter Tryd.func49, Tryd.ntmps49
    go_wp2
    go_ret
    exact ⟨_, rfl, World.ownsRow_nil _ _ _ _, Below.refl _ _⟩
  | some ad =>
    have A : Hid (∀ (j : Nat) (u : Value), xs.flatten[j]? = some u → w.cell? (ad.add j) = some u) := hid (lies_flat hx h)
    have L : Hid (xs.flatten.length = xs.length * 5) := hid (flatten_len hx)
    have O : Hid (∀ u ∈ xs.flatten, u.oneCell' = true) := hid (fun u hu => by obtain ⟨c, hc, hu⟩ := List.mem_flatten.1 hu; exact ho c hc u hu)
    clear hp h
    go_enter Tryd.func49, Tryd.ntmps49
    go_wp2_with (at_builtin; refine wpList_append_own _ rfl _ _ 29 rfl w.heap.size 31 i0 (.agg #[.int .i64 0, .bool false, .bool false, .slice none 0 0, .slice none 0 0]) 5 64 Tryd.underlying29 hi hz0 hz1 hz2 rfl (by decide) _ _ _ rfl (World.ownsRow_made w #[] 0 (Nat.le_refl _) (Nat.zero_le _) rfl) ad xs.length cap xs.flatten rfl L.out ?qc2 O.out ?qc4 ?qc5 ?qc6 ?_)
    case qc2 => exact fun j u hj => Lib.cell?_alloc_some _ (A.out j u hj)
    case qc4 => unfold maxLen; omega
    case qc5 => omega
    case qc6 => simp
    intro v' w1 hown hgrow hnil
    go_wp2
    go_ret
    exact ⟨v', rfl, by simpa using hown, ((Below.refl _ w).alloc (Nat.le_refl _) _).grown hgrow (by simp) (by intro k hk; simp [Value.ownBlock] at hk; omega)⟩
set_option maxHeartbeats 2000000 in
set_option maxRecDepth 100000 in
theorem clone_bind (v : Value) (xs : List (List Value)) (w : World) (hx : ∀ c ∈ xs, c.length = 6) (ho : ∀ c ∈ xs, ∀ u ∈ c, u.oneCell' = true) (h : Lies w 6 v xs) (hbig : xs.length * 80 ≤ 140737488355328) :
    Calls Tryd.prog 28 #[v] w fun e w' => ∃ v', e = .returned v' ∧ w'.ownsRow w.heap.size 33 6 v' xs.length xs.flatten ∧ Below w.heap.size w w' := by
  obtain ⟨i0, hi, hz0, hz1, hz2⟩ := info_parts bind_info
  obtain ⟨p, cap, rfl, hcap, hp⟩ := id h
  have qn : ∀ (w : World) (a : Option Addr) (n c n' c' : Nat), (binOp .eql 22 (.slice a n c) (.slice none n' c')).run Tryd.prog w = .ok (.bool a.isNone) w := fun w a n c n' c' => Lib.run_eql_slice_nil w _ _ a n c n' c' Tryd.underlying22
  cases p with
  | none =>
    have hnil : xs = [] := by
      cases xs with
      | nil => rfl
      | cons a l => obtain ⟨_, _, e, _⟩ := hp (by simp); cases e
    subst hnil
    go_enter Tryd.func28, Tryd.ntmps28
    go_wp2
    go_ret
    exact ⟨_, rfl, World.ownsRow_nil _ _ _ _, Below.refl _ _⟩
  | some ad =>
    have A : Hid (∀ (j : Nat) (u : Value), xs.flatten[j]? = some u → w.cell? (ad.add j) = some u) := hid (lies_flat hx h)
    have L : Hid (xs.flatten.length = xs.length * 6) := hid (flatten_len hx)
    have O : Hid (∀ u ∈ xs.flatten, u.oneCell' = true) := hid (fun u hu => by obtain ⟨c, hc, hu⟩ := List.mem_flatten.1 hu; exact ho c hc u hu)
    clear hp h
    go_enter Tryd.func28, Tryd.ntmps28
    go_wp2_with (at_builtin; refine wpList_append_own _ rfl _ _ 22 rfl w.heap.size 33 i0 (.agg #[.string .empty, .int .i64 0, .bool false, .bool false, .slice none 0 0, .slice none 0 0]) 6 80 Tryd.underlying22 hi hz0 hz1 hz2 rfl (by decide) _ _ _ rfl (World.ownsRow_made w #[] 0 (Nat.le_refl _) (Nat.zero_le _) rfl) ad xs.length cap xs.flatten rfl L.out ?qc2 O.out ?qc4 ?qc5 ?qc6 ?_)
    case qc2 => exact fun j u hj => Lib.cell?_alloc_some _ (A.out j u hj)
    case qc4 => unfold maxLen; omega
    case qc5 => omega
    case qc6 => simp
    intro v' w1 hown hgrow hnil
    go_wp2
    go_ret
    exact ⟨v', rfl, by simpa using hown, ((Below.refl _ w).alloc (Nat.le_refl _) _).grown hgrow (by simp) (by intro k hk; simp [Value.ownBlock] at hk; omega)⟩
end Go.Proofs.YtannfhbocfghkaaDoor.EnvC
/- Contracts of slices.Grow and slices.Concat at loans. -/
namespace Go.Proofs.YtannfhbocfghkaaDoor.EnvC
open Go Go.RowKit Go.Shelf Go.Lib Go.Sort Go.Proofs.YtannfhbocfghkaaDoor.EnvP
theorem ln_info : (Tryd.prog.info? 44).map (fun i => (i.zero, i.size, i.bytes)) = some (some (.agg #[.string .empty, .string .empty, .slice none 0 0, .bool false]), 4, 64) := by kernel_rfl
set_option maxHeartbeats 2000000 in
set_option maxRecDepth 100000 in
theorem grow_none (n : Nat) (w : World) (hbig : n * 64 ≤ 140737488355328) :
    Calls Tryd.prog 72 #[.slice none 0 0, .int .i64 n] w fun e w' => ∃ v', e = .returned v' ∧ w'.ownsRow w.heap.size 44 4 v' 0 [] ∧ Below w.heap.size w w' := by
  obtain ⟨i0, hi, hz0, hz1, hz2⟩ := info_parts ln_info
  by_cases h0 : 0 < n
  · have happ := Lib.run_append_nil_zeros (P := Tryd.prog) w 28 3 28 44 i0 _ .i64 .i64 Tryd.underlying28 Tryd.underlying3 hi hz0 n h0 (by omega) (by omega) (by rw [hz2]; omega)
    generalize hcap : grownCap w n 0 44 = cap2 at happ
    have hcapge : n ≤ cap2 := by rw [← hcap]; exact grownCap_ge w _ 0 _
    have hcaple : cap2 ≤ maxLen := by rw [← hcap]; exact grownCap_le_maxLen w _ 0 _ (by unfold maxLen; omega)
    generalize hZ : (Builtin.zeroCells (Value.cells (.agg #[.string .empty, .string .empty, .slice none 0 0, .bool false])) n ++ Builtin.zeroCells (Value.cells (.agg #[.string .empty, .string .empty, .slice none 0 0, .bool false])) (cap2 - n)) = Z at happ
    have hZs : Z.size = cap2 * 4 := by rw [← hZ]; simp [size_zeroCells, Value.cells]; omega
    clear hcap hZ
    go_enter Tryd.func72, Tryd.ntmps72
    go_wp2_with (at_builtin; refine Lib.wpList_append_run _ rfl _ _ _ _ rfl _ _ rfl rfl _ _ happ ?_)
    go_ret
    refine ⟨_, rfl, ⟨by simp, .inr ⟨_, cap2, Z, rfl, Nat.le_refl _, ?_, by omega, hcaple, hZs, by simp⟩⟩, ?_⟩
    · exact heap_alloc_new w _
    · exact ((Below.refl _ w).alloc (Nat.le_refl _) _).drew
  · obtain rfl : n = 0 := by omega
    go_enter Tryd.func72, Tryd.ntmps72
    go_wp2
    go_ret
    exact ⟨_, rfl, World.ownsRow_nil _ _ _ _, Below.refl _ _⟩
end Go.Proofs.YtannfhbocfghkaaDoor.EnvC
/- slices.Concat of three lists of loans: a row of the call's own, with the cells of the three. -/
namespace Go.Proofs.YtannfhbocfghkaaDoor.EnvC
open Go Go.RowKit Go.Shelf Go.Lib Go.Sort Go.Proofs.YtannfhbocfghkaaDoor.EnvP
section
variable {P : Program} {w : World}
theorem run_append_none_any {base : Nat} {t ty e : TypeId} {i : TypeInfo} {size : Nat} (ht : P.underlying t = some (.slice e)) (hi : P.info? e = some i)
    {v : Value} {n : Nat} {xs : List Value} (hown : w.ownsRow base e size v n xs) (c : Nat) : (Builtin.append_ #[t, t] ty #[v, .slice none 0 c]).run P w = .ok v w := by
  rcases hown.2 with ⟨rfl, rfl⟩ | ⟨g, cap, cur, rfl, _, _, hnc, _⟩
  · simp [Builtin.append_, run_underlying ht, sizeOf, typeInfo, hi, Builtin.lenOf, Builtin.firstCells]
  · simp [Builtin.append_, run_underlying ht, sizeOf, typeInfo, hi, Builtin.lenOf, Builtin.firstCells, hnc, storeCells]
/-- one row of the call's own, with what lies somewhere behind it -/
theorem wpList_append_lying {ops : Array Oper} {rest : List Oper} {o : Oper} {a : Act} {Q : Exit → Act → World → Prop} (hgd : o.guard = none) (s x : Operand) (t : TypeId)
    (ho : o.op = .call { callee := .builtin .append, args := #[s, x], argTypes := #[t, t] })
    (base : Nat) (e : TypeId) (i : TypeInfo) (z : Value) (size bytes : Nat) (ht : P.underlying t = some (.slice e)) (hi : P.info? e = some i) (hz : i.zero = some z)
    (hsize : i.size = size) (hby : i.bytes = bytes) (hzs : z.cells.size = size) (hsz : 0 < size)
    (v : Value) (n : Nat) (ys : List Value) (hs : a.eval s = v) (hown : w.ownsRow base e size v n ys)
    (vx : Value) (xs : List (List Value)) (hx : a.eval x = vx) (hl : Lies w size vx xs) (hlen : ∀ c ∈ xs, c.length = size) (h1 : ∀ c ∈ xs, ∀ u ∈ c, u.oneCell' = true)
    (h63 : n + xs.length ≤ maxLen) (hbytes : (n + xs.length) * bytes ≤ 140737488355328) (hbase : base ≤ w.heap.size)
    (h : ∀ v' w', w'.ownsRow base e size v' (n + xs.length) (ys ++ xs.flatten) → w.grownBy w' v.ownBlock → wpList P ops Q rest (a.put o.dst v') w') : wpList P ops Q (o :: rest) a w := by
  obtain ⟨p, cap, rfl, hcap, hp⟩ := id hl
  cases p with
  | none =>
    have hnil : xs = [] := by
      cases xs with
      | nil => rfl
      | cons a l => obtain ⟨_, _, e, _⟩ := hp (by simp); cases e
    subst hnil
    refine wpList_append_run w hgd s x t t ho v _ hs hx v w (run_append_none_any (ty := o.type) ht hi hown _) (h _ _ (by simpa using hown) ?_)
    exact ⟨rfl, rfl, rfl, Nat.le_refl _, fun _ _ _ => rfl⟩
  | some ad =>
    refine wpList_append_own w hgd s x t ho base e i z size bytes ht hi hz hsize hby hzs hsz v n ys hs hown ad xs.length cap xs.flatten hx (flatten_len hlen) (lies_flat hlen hl) ?_ h63 hbytes hbase fun v' w' h2 h3 _ => h v' w' h2 h3
    intro u hu
    obtain ⟨c, hc, hu⟩ := List.mem_flatten.1 hu
    exact h1 c hc u hu
end
/-- what was below the call's own rows stays, when one of them grows -/
theorem own_kept {w W W' : World} {e : TypeId} {size n : Nat} {v : Value} {xs : List Value} (h : W.ownsRow w.heap.size e size v n xs) (g : W.grownBy W' v.ownBlock) (k : Below w.heap.size w W) : Below w.heap.size w W' :=
  k.grown g k.size (fun r hr => (own_block h r hr).1)
set_option maxHeartbeats 2000000 in
set_option maxRecDepth 100000 in
theorem concat_3 (b : Nat) (v0 v1 v2 : Value) (x0 x1 x2 : List (List Value)) (w : World) (h0 : Lies w 4 v0 x0) (h1 : Lies w 4 v1 x1) (h2 : Lies w 4 v2 x2)
    (l0 : ∀ c ∈ x0, c.length = 4) (l1 : ∀ c ∈ x1, c.length = 4) (l2 : ∀ c ∈ x2, c.length = 4) (o0 : ∀ c ∈ x0, ∀ u ∈ c, u.oneCell' = true) (o1 : ∀ c ∈ x1, ∀ u ∈ c, u.oneCell' = true) (o2 : ∀ c ∈ x2, ∀ u ∈ c, u.oneCell' = true)
    (hbig : x0.length + x1.length + x2.length ≤ 4194304) (c0 : w.cell? ⟨b, 0, none⟩ = some v0) (c1 : w.cell? ⟨b, 1, none⟩ = some v1) (c2 : w.cell? ⟨b, 2, none⟩ = some v2) :
    Calls Tryd.prog 62 #[.slice (some ⟨b, 0, none⟩) 3 3] w fun e w' => ∃ v', e = .returned v' ∧
      w'.ownsRow w.heap.size 44 4 v' (x0.length + x1.length + x2.length) (x0.flatten ++ x1.flatten ++ x2.flatten) ∧ Below w.heap.size w w' := by
  obtain ⟨i0, hi, hz0, hz1, hz2⟩ := info_parts ln_info
  obtain ⟨p0, k0, e0, _⟩ := id h0
  obtain ⟨p1, k1, e1, _⟩ := id h1
  obtain ⟨p2, k2, e2, _⟩ := id h2
  subst e0 e1 e2
  have H0 := hid h0
  have H1 := hid h1
  have H2 := hid h2
  replace l0 := hid l0
  replace l1 := hid l1
  replace l2 := hid l2
  replace o0 := hid o0
  replace o1 := hid o1
  replace o2 := hid o2
  clear h0 h1 h2
  have g0 : (x0.length : Int) ≤ 4194304 := by omega
  have g1 : (x0.length : Int) + x1.length ≤ 4194304 := by omega
  have g2 : (x0.length : Int) + x1.length + x2.length ≤ 4194304 := by omega
  have q0 : ¬ (x0.length : Int) < 0 := by omega
  have q1 : ¬ (x0.length : Int) + x1.length < 0 := by omega
  have q2 : ¬ (x0.length : Int) + x1.length + x2.length < 0 := by omega
  have G := hid (grow_none (x0.length + x1.length + x2.length) w (by omega))
  rw [show ((x0.length + x1.length + x2.length : Nat) : Int) = (x0.length : Int) + x1.length + x2.length by omega] at G
  have HB : Hid (w.heap.size ≤ w.heap.size) := hid (Nat.le_refl _)
  replace hbig := hid hbig
  go_enter Tryd.func62, Tryd.ntmps62
  go_wp2_with fail
  refine wp_loop_rounds 4 ?_
  rw [rounds_succ]
  go_wp2_with fail
  rw [rounds_succ]
  go_wp2_with fail
  rw [rounds_succ]
  go_wp2_with fail
  rw [rounds_succ]
  go_wp2_with fail
  refine G.out.mono ?_
  rintro e W ⟨v, rfl, O, k⟩
  have C0 := hid c0
  have C1 := hid c1
  have C2 := hid c2
  have hO0 := hid O
  have hK0 := hid k
  clear c0 c1 c2 O k G q0 q1 q2
  have c := later hK0.out C0.out
  go_wp2_with fail
  refine wp_loop_rounds 4 ?_
  rw [rounds_succ]
  go_wp2_with (at_builtin; go_loud (refine wpList_append_lying rfl _ _ 28 rfl w.heap.size 44 i0 _ 4 64 Tryd.underlying28 hi hz0 hz1 hz2 rfl (by decide) _ _ _ rfl hO0.out _ x0 rfl (H0.out.keep (Keeps.of_below hK0.out)) l0.out o0.out (by have := hbig.out; unfold maxLen; omega) (by have := hbig.out; omega) hK0.out.size ?_); intro v1 W1 own gr)
  have hO1 := hid own
  have hK1 := hid (own_kept hO0.out gr hK0.out)
  have c := later hK1.out C1.out
  clear own gr
  rw [rounds_succ]
  go_wp2_with (at_builtin; go_loud (refine wpList_append_lying rfl _ _ 28 rfl w.heap.size 44 i0 _ 4 64 Tryd.underlying28 hi hz0 hz1 hz2 rfl (by decide) _ _ _ rfl hO1.out _ x1 rfl (H1.out.keep (Keeps.of_below hK1.out)) l1.out o1.out (by have := hbig.out; unfold maxLen; omega) (by have := hbig.out; omega) hK1.out.size ?_); intro v2 W2 own gr)
  have hO2 := hid own
  have hK2 := hid (own_kept hO1.out gr hK1.out)
  have c := later hK2.out C2.out
  clear own gr
  rw [rounds_succ]
  go_wp2_with (at_builtin; go_loud (refine wpList_append_lying rfl _ _ 28 rfl w.heap.size 44 i0 _ 4 64 Tryd.underlying28 hi hz0 hz1 hz2 rfl (by decide) _ _ _ rfl hO2.out _ x2 rfl (H2.out.keep (Keeps.of_below hK2.out)) l2.out o2.out (by have := hbig.out; unfold maxLen; omega) (by have := hbig.out; omega) hK2.out.size ?_); intro v3 W3 own gr)
  have hO3 := hid own
  have hK3 := hid (own_kept hO2.out gr hK2.out)
  clear own gr
  rw [rounds_succ]
  go_wp2_with fail
  go_ret
  exact ⟨_, rfl, by simpa using hO3.out, hK3.out⟩
end Go.Proofs.YtannfhbocfghkaaDoor.EnvC
/- Contract of slices.BinarySearchFunc at rising loans, by env.Cmp. -/
namespace Go.Proofs.YtannfhbocfghkaaDoor.EnvC
open Go Go.RowKit Go.Lib Go.Sort Go.Proofs.YtannfhbocfghkaaDoor.EnvP

theorem before_trans {a b c : Ln} (h : before a b = true) (k : before b c = true) : before a c = true := by
  unfold before at *
  simp only [beq_iff_eq] at *
  exact good_cmpLn.trans a b c h k
theorem rising_sorted : ∀ {l : List Ln}, rising l = true → ∀ (i j : Nat) (x y : Ln), i < j → l[i]? = some x → l[j]? = some y → before x y = true
  | [], _, i, j, x, y, _, hx, _ => by simp at hx
  | [a], _, i, j, x, y, hij, hx, hy => by
    have h1 := (List.getElem?_eq_some_iff.1 hy).1
    simp at h1; omega
  | a :: b :: r, h, i, j, x, y, hij, hx, hy => by
    rw [rising, Bool.and_eq_true] at h
    match i, j, hij, hx, hy with
    | 0, j + 1, _, hx, hy =>
      simp at hx hy
      subst hx
      match j, hy with
      | 0, hy => simp at hy; subst hy; exact h.1
      | j + 1, hy => exact before_trans h.1 (rising_sorted h.2 0 (j + 1) b y (by omega) rfl hy)
    | i + 1, j + 1, hij, hx, hy => exact rising_sorted h.2 i j x y (by omega) hx hy
theorem before_iff (a b : Ln) : before a b = decide (cmpLn a b < 0) := by
  unfold before; rcases good_cmpLn.rng a b with e | e | e <;> rw [e] <;> rfl
theorem found_has {l : List Ln} {x : Ln} {i : Nat} (hr : rising l = true) (h1 : ∀ k y, k < i → l[k]? = some y → before y x = true) (h2 : ∀ k y, i ≤ k → l[k]? = some y → before y x = false) :
    has l x = match l[i]? with | none => false | some y => cmpLn y x == 0 := by
  rw [Bool.eq_iff_iff]
  unfold has
  rw [List.any_eq_true]
  constructor
  · rintro ⟨z, hz, hs⟩
    have h0 := (good_cmpLn.zero z x).2 hs
    obtain ⟨k, hk, e⟩ := List.mem_iff_getElem.1 hz
    have hzk : l[k]? = some z := by rw [List.getElem?_eq_getElem hk, e]
    have hki : i ≤ k := by
      by_cases c : i ≤ k
      · exact c
      · have := h1 k z (by omega) hzk
        rw [before_iff, h0] at this; simp at this
    have e2 : k = i := by
      by_cases c : k = i
      · exact c
      · obtain ⟨y, hy⟩ : ∃ y, l[i]? = some y := ⟨l[i]'(by omega), List.getElem?_eq_getElem _⟩
        have hb := rising_sorted hr i k y z (by omega) hy hzk
        have hn := h2 i y (Nat.le_refl _) hy
        have g := good_cmpLn.congr z x y h0
        have a1 := good_cmpLn.anti y z
        have a2 := good_cmpLn.anti y x
        rw [before_iff] at hb hn
        simp at hb hn
        omega
    subst e2
    rw [hzk]
    simpa using h0
  · intro h
    cases hy : l[i]? with
    | none => rw [hy] at h; cases h
    | some y =>
      rw [hy] at h
      exact ⟨y, List.mem_of_getElem? hy, (good_cmpLn.zero y x).1 (by simpa using h)⟩

set_option maxHeartbeats 8000000 in
set_option maxRecDepth 100000 in
theorem search_any (l : List Ln) (v : Value) (x : Ln) (w : World) (hl : Lies w 4 v (l.map Ln.cells)) (hin : ∀ y ∈ l, y.pl.In w) (hst : ∀ y ∈ l, y.pl.steps.length ≤ 1048576) (hlen : l.length ≤ 1048576) (hx : x.pl.In w) (hxs : x.pl.steps.length ≤ 1048576) (hr : rising l = true) :
    Calls Tryd.prog 61 #[v, .agg x.cells.toArray, .func (.func 47) #[] #[]] w fun r w' => (∃ i : Int, r = .returned (.tuple #[.int .i64 i, .bool (has l x)])) ∧ Below w.heap.size w w' := by
  obtain ⟨R, hR⟩ : ∃ R, has l x = R := ⟨_, rfl⟩
  rw [hR]
  obtain ⟨p, cap, hcap, rfl⟩ := lies_slice hl
  generalize hL : l.length = L at *
  have B0 : Below w.heap.size w (w.alloc (.cells x.cells.toArray 44 (0, 0))) := (Below.refl _ _).alloc (Nat.le_refl _) _
  have X0 : BoxAt (w.alloc (.cells x.cells.toArray 44 (0, 0))) w.heap.size x.cells := BoxAt.new w _ _
  have HR := hid hR
  have HL := hid hL
  have HX := hid hl
  have HI := hid hin
  have HS := hid hst
  have HXI := hid hx
  have HXS := hid hxs
  have HRI := hid hr
  have H0 := hid B0
  have HX0 := hid X0
  have ZF := hid (lnSize x)
  clear hR hL hl hin hst hx hxs hr B0 X0
  have eg : ∀ (args : Array Value) (w : World), (callFunc 47 args).run Tryd.prog w = .ok (.enter 47 args) w := enters_of Tryd.func47 (by kernel_rfl) rfl
  go_enter Tryd.func61, Tryd.ntmps61
  go_wp2_with fail
  generalize World.alloc w _ = W1 at *
  go_loopg [9, 10] L (fun gf u9 u10 wx => ∃ i j : Nat, u9 = .int .i64 (i : Int) ∧ u10 = .int .i64 (j : Int) ∧ i ≤ j ∧ j ≤ L ∧ j ≤ i + gf ∧ Hid (∀ k y, k < i → l[k]? = some y → before y x = true) ∧ Hid (∀ k y, j ≤ k → l[k]? = some y → before y x = false) ∧ Hid (Below W1.heap.size W1 wx))
  case atStart => exact ⟨0, L, rfl, rfl, by omega, by omega, by omega, hid (fun k y h => by omega), hid (fun k y h hy => by have := (List.getElem?_eq_some_iff.1 hy).1; have := HL.out; omega), hid (Below.refl _ _)⟩
  case round =>
    obtain ⟨i, j, rfl, rfl, hij, hjL, hg, H1, H2, HB⟩ := hrel
    by_cases hlt : i < j
    · obtain ⟨m, hm⟩ : ∃ m, (i + j) / 2 = m := ⟨_, rfl⟩
      obtain ⟨y, hy⟩ : ∃ y, l[m]? = some y := ⟨l[m]'(by rw [HL.out]; omega), List.getElem?_eq_getElem _⟩
      have hyin := HI.out y (List.mem_of_getElem? hy)
      have hys := HS.out y (List.mem_of_getElem? hy)
      obtain ⟨b, off, cap', ev, _, hxx⟩ := Lies.at HX.out (i := m) (by rw [List.length_map, HL.out]; omega)
      injection ev with e1 e2 e3
      subst e1
      clear e2 e3
      have hbw := H0.out.trans (HB.out.mono H0.out.size)
      have hyy : ∀ (a : Nat) (u : Value), y.cells[a]? = some u → wr.cell? ⟨b, off + m * 4 + a, none⟩ = some u := fun a u hu => Keeps.of_below hbw _ _ _ (hxx m y.cells (by rw [List.getElem?_map, hy]; rfl) a u hu)
      have C1 := hid (cmp_reg y x (Below.refl wr.heap.size wr) (hyin.keep (Keeps.of_below hbw)) (HXI.out.keep (Keeps.of_below hbw)) hys HXS.out)
      have KY := hid (reg_cells hyy)
      have KX := hid (reg_cells (off := 0) (fun (a : Nat) (u : Value) (h : x.cells[a]? = some u) => show wr.cell? ⟨w.heap.size, 0 + a, none⟩ = some u by rw [Nat.zero_add]; exact HX0.out.later HB.out a u h))
      have ZY := hid (lnSize y)
      have hbf := before_iff y x
      have hS1 : before y x = true → ∀ k z, k < m + 1 → l[k]? = some z → before z x = true := fun hb k z hk hz => by
        by_cases c : k = m
        · subst c; rw [hy] at hz; cases hz; exact hb
        · exact before_trans (rising_sorted HRI.out k m z y (by omega) hz hy) hb
      have hS2 : before y x = false → ∀ k z, m ≤ k → l[k]? = some z → before z x = false := fun hb k z hk hz => by
        by_cases c : k = m
        · subst c; rw [hy] at hz; cases hz; exact hb
        · cases hz2 : before z x
          · rfl
          · rw [before_trans (rising_sorted HRI.out m k y z (by omega) hy hz) hz2] at hb; cases hb
      rw [hbf] at hS1 hS2
      have S1 := hid hS1
      have S2 := hid hS2
      generalize cmpLn y x = cm at *
      generalize y.cells = ycs at *
      generalize x.cells = xcs at *
      have i0 : ((i : Int) + (j : Int)) / 2 = (m : Int) := by omega
      have i1 : (0 : Int) ≤ (m : Int) := by omega
      have i2 : (m : Int) < (L : Int) := by omega
      clear hyin hys hxx hbw hyy hbf hS1 hS2 hy HX HI HS HX0 HXI
      go_wp2_with fail
      refine wp_region_quiet_below (by kernel_rfl) (by kernel_rfl) ?_
      repeat (first | ((with_reducible refine wpQuiet_load_at (o := ⟨some 28, _, _, _, _, _⟩) rfl _ _ rfl b (off + m * 4) rfl ycs _ KY.out Tryd.underlying44 rfl ZY.out ?_); simp only [Act.put, List.setIfInBounds_toArray, List.set_cons_zero, List.set_cons_succ]) | ((with_reducible refine wpQuiet_load_at (o := ⟨some 29, _, _, _, _, _⟩) rfl _ _ rfl w.heap.size 0 rfl xcs _ KX.out Tryd.underlying44 rfl ZF.out ?_); simp only [Act.put, List.setIfInBounds_toArray, List.set_cons_zero, List.set_cons_succ]) | go_big_quiet_step (first | (with_reducible exact C1.out _ _)))
      refine wpQuiet_nil ?_
      intro _ hw'
      obtain ⟨⟨dq, osq⟩, hw''⟩ := hw'
      subst hw''
      have B3 := hid (HB.out.trans ((below_regrown wr dq osq).mono HB.out.size))
      clear HB C1 KY KX
      by_cases hm0 : cm < 0
      · have T1 := hid (S1.out (by simp [hm0]))
        clear S1 S2 i0
        go_wp2_with fail
        go_roundg (gk - 1)
        case measure => omega
        case rel => exact ⟨m + 1, j, by go_num, rfl, by omega, by omega, by omega, T1, H2, B3⟩
      · have T2 := hid (S2.out (by simp [hm0]))
        clear S1 S2 i0
        go_wp2_with fail
        go_roundg (gk - 1)
        case measure => omega
        case rel => exact ⟨i, m, rfl, rfl, by omega, by omega, by omega, H1, T2, B3⟩
    · obtain rfl : i = j := by omega
      have hf := found_has HRI.out H1.out H2.out
      rw [HR.out] at hf
      have hbw := H0.out.trans (HB.out.mono H0.out.size)
      by_cases hiL : i < L
      · obtain ⟨y, hy⟩ : ∃ y, l[i]? = some y := ⟨l[i]'(by rw [HL.out]; omega), List.getElem?_eq_getElem _⟩
        have hyin := HI.out y (List.mem_of_getElem? hy)
        have hys := HS.out y (List.mem_of_getElem? hy)
        obtain ⟨b, off, cap', ev, _, hxx⟩ := Lies.at HX.out (i := i) (by rw [List.length_map, HL.out]; omega)
        injection ev with e1 e2 e3
        subst e1
        clear e2 e3
        have hyy : ∀ (a : Nat) (u : Value), y.cells[a]? = some u → wr.cell? ⟨b, off + i * 4 + a, none⟩ = some u := fun a u hu => Keeps.of_below hbw _ _ _ (hxx i y.cells (by rw [List.getElem?_map, hy]; rfl) a u hu)
        have C1 := hid (cmp_reg y x (Below.refl wr.heap.size wr) (hyin.keep (Keeps.of_below hbw)) (HXI.out.keep (Keeps.of_below hbw)) hys HXS.out)
        have KY := hid (reg_cells hyy)
        have KX := hid (reg_cells (off := 0) (fun (a : Nat) (u : Value) (h : x.cells[a]? = some u) => show wr.cell? ⟨w.heap.size, 0 + a, none⟩ = some u by rw [Nat.zero_add]; exact HX0.out.later HB.out a u h))
        have ZY := hid (lnSize y)
        rw [hy] at hf
        have HF : Hid (R = (cmpLn y x == 0)) := hid hf
        have HBW := hid hbw
        have hd : decide (i < L) = true := by simp [hiL]
        generalize cmpLn y x = cm at *
        generalize y.cells = ycs at *
        generalize x.cells = xcs at *
        clear hyin hys hxx hbw hyy hf hy HX HI HS HX0 HXI HRI H1 H2 HB HR HL
        go_wp2_with fail
        refine wp_region_quiet_below (by kernel_rfl) (by kernel_rfl) ?_
        repeat (first | ((with_reducible refine wpQuiet_load_at (o := ⟨some 44, _, _, _, _, _⟩) rfl _ _ rfl b (off + i * 4) rfl ycs _ KY.out Tryd.underlying44 rfl ZY.out ?_); simp only [Act.put, List.setIfInBounds_toArray, List.set_cons_zero, List.set_cons_succ]) | ((with_reducible refine wpQuiet_load_at (o := ⟨some 45, _, _, _, _, _⟩) rfl _ _ rfl w.heap.size 0 rfl xcs _ KX.out Tryd.underlying44 rfl ZF.out ?_); simp only [Act.put, List.setIfInBounds_toArray, List.set_cons_zero, List.set_cons_succ]) | go_big_quiet_step (first | (with_reducible exact C1.out _ _)))
        refine wpQuiet_nil ?_
        intro _ hw'
        obtain ⟨⟨dq, osq⟩, hw''⟩ := hw'
        subst hw''
        go_wp2_with fail
        refine bodyPost_ret (results_tmp2 rfl _ _ _) rfl ?_
        exact ⟨⟨_, by rw [HF.out]; rfl⟩, HBW.out.trans ((below_regrown wr dq osq).mono HBW.out.size)⟩
      · have hn : l[i]? = none := by rw [List.getElem?_eq_none_iff, HL.out]; omega
        rw [hn] at hf
        have HF : Hid (R = false) := hid hf
        have HBW := hid hbw
        have hd : decide (i < L) = false := by simp [hiL]
        clear hbw hf hn HX HI HS HX0 HXI HRI H1 H2 HB HR HL hiL
        go_wp2_with fail
        refine wp_region_quiet_below (by kernel_rfl) (by kernel_rfl) ?_
        repeat (go_big_quiet_step (fail))
        refine wpQuiet_nil ?_
        intro _ hw'
        obtain ⟨⟨dq, osq⟩, hw''⟩ := hw'
        subst hw''
        go_wp2_with fail
        refine bodyPost_ret (results_tmp2 rfl _ _ _) rfl ?_
        exact ⟨⟨_, by rw [HF.out]; rfl⟩, HBW.out.trans ((below_regrown wr dq osq).mono HBW.out.size)⟩
end Go.Proofs.YtannfhbocfghkaaDoor.EnvC
/- Contracts of env.walk, env.parts, env.pairs: closures over two boxes. -/
namespace Go.Proofs.YtannfhbocfghkaaDoor.EnvC
open Go Go.RowKit Go.Shelf Go.Lib Go.Sort Go.Proofs.YtannfhbocfghkaaDoor.EnvP

set_option maxHeartbeats 1000000 in
theorem walk_Pt (x : Pt) (w : World) : Calls Tryd.prog 34 #[.agg #[.pointer (some ⟨x.b, x.o, none⟩), .bool x.ins], .func (.func 35) #[] #[]] w fun e w' => e = .returned (.func (.func 56) #[] #[.pointer (some ⟨w.heap.size, 0, none⟩), .pointer (some ⟨w.heap.size + 1, 0, none⟩)]) ∧
    Below w.heap.size w w' ∧ w'.heap[w.heap.size]? = some (.cells x.cells.toArray 53 (0, 0)) ∧ Boxed w' (w.heap.size + 1) 67 (.func (.func 35) #[] #[]) ∧ w'.heap.size = w.heap.size + 2 := by
  go_enter Tryd.func34, Tryd.ntmps34
  go_wp2_with fail
  go_ret
  refine ⟨rfl, ((Below.refl _ w).alloc (Nat.le_refl _) _).alloc (by simp) _, ?_, ?_, by simp⟩
  · exact (Below.heap_alloc _ _ _ (by simp)).trans (heap_alloc_new w _)
  · have := Boxed.new (w.alloc (.cells #[.pointer (some ⟨x.b, x.o, none⟩), .bool x.ins] 53 (0, 0))) 67 (.func (.func 35) #[] #[])
    rwa [World.size_alloc] at this
set_option maxHeartbeats 1000000 in
theorem all_Pt (x : Pt) (hi : x.ins = false) (w : World) : Calls Tryd.prog 20 #[.pointer (some ⟨x.b, x.o, none⟩)] w fun e w' => e = .returned (.func (.func 56) #[] #[.pointer (some ⟨w.heap.size, 0, none⟩), .pointer (some ⟨w.heap.size + 1, 0, none⟩)]) ∧
    Below w.heap.size w w' ∧ w'.heap[w.heap.size]? = some (.cells x.cells.toArray 53 (0, 0)) ∧ Boxed w' (w.heap.size + 1) 67 (.func (.func 35) #[] #[]) ∧ w'.heap.size = w.heap.size + 2 := by
  have c1 := hid (walk_Pt x w)
  rw [hi] at c1
  go_enter Tryd.func20, Tryd.ntmps20
  go_wp2_with fail
  with_reducible refine c1.out.mono ?_
  rintro e W ⟨rfl, h1, h2, h3, h4⟩
  go_wp2_with fail
  go_ret
  exact ⟨rfl, h1, h2, h3, h4⟩
set_option maxHeartbeats 1000000 in
theorem walk_Pr (x : Pr) (w : World) : Calls Tryd.prog 42 #[.agg #[.pointer (some ⟨x.b, x.o, none⟩), .pointer (some ⟨x.c, x.q, none⟩)], .func (.func 43) #[] #[]] w fun e w' => e = .returned (.func (.func 59) #[] #[.pointer (some ⟨w.heap.size, 0, none⟩), .pointer (some ⟨w.heap.size + 1, 0, none⟩)]) ∧
    Below w.heap.size w w' ∧ w'.heap[w.heap.size]? = some (.cells x.cells.toArray 59 (0, 0)) ∧ Boxed w' (w.heap.size + 1) 74 (.func (.func 43) #[] #[]) ∧ w'.heap.size = w.heap.size + 2 := by
  go_enter Tryd.func42, Tryd.ntmps42
  go_wp2_with fail
  go_ret
  refine ⟨rfl, ((Below.refl _ w).alloc (Nat.le_refl _) _).alloc (by simp) _, ?_, ?_, by simp⟩
  · exact (Below.heap_alloc _ _ _ (by simp)).trans (heap_alloc_new w _)
  · have := Boxed.new (w.alloc (.cells #[.pointer (some ⟨x.b, x.o, none⟩), .pointer (some ⟨x.c, x.q, none⟩)] 59 (0, 0))) 74 (.func (.func 43) #[] #[])
    rwa [World.size_alloc] at this
set_option maxHeartbeats 1000000 in
theorem all_Pr (x : Pr)  (w : World) : Calls Tryd.prog 24 #[.pointer (some ⟨x.b, x.o, none⟩), .pointer (some ⟨x.c, x.q, none⟩)] w fun e w' => e = .returned (.func (.func 59) #[] #[.pointer (some ⟨w.heap.size, 0, none⟩), .pointer (some ⟨w.heap.size + 1, 0, none⟩)]) ∧
    Below w.heap.size w w' ∧ w'.heap[w.heap.size]? = some (.cells x.cells.toArray 59 (0, 0)) ∧ Boxed w' (w.heap.size + 1) 74 (.func (.func 43) #[] #[]) ∧ w'.heap.size = w.heap.size + 2 := by
  have c1 := hid (walk_Pr x w)
  skip
  go_enter Tryd.func24, Tryd.ntmps24
  go_wp2_with fail
  with_reducible refine c1.out.mono ?_
  rintro e W ⟨rfl, h1, h2, h3, h4⟩
  go_wp2_with fail
  go_ret
  exact ⟨rfl, h1, h2, h3, h4⟩
end Go.Proofs.YtannfhbocfghkaaDoor.EnvC
/- Marks: a function that ranges over functions again and again leaves by them. Contract of env.Right. -/
namespace Go.Proofs.YtannfhbocfghkaaDoor.EnvC
open Go Go.RowKit Go.Shelf Go.Lib Go.Sort Go.Proofs.YtannfhbocfghkaaDoor.EnvP

/-- the marks of loops over functions that have been left, the last one first: each block of deferred calls is there, and none of them is met twice -/
def Marks (b : Nat) (w : World) : List Deferred → Prop
  | [] => True
  | d :: ds => ∃ D, d = { target := .collected D, args := #[] } ∧ b ≤ D ∧ w.heap[D]? = some (.deferred (some [])) ∧ (∀ D', { target := .collected D', args := #[] } ∈ ds → D' < D) ∧ Marks b w ds
theorem Marks.keep {b : Nat} {w w' : World} : ∀ {ds : List Deferred}, Marks b w ds → (∀ D, { target := .collected D, args := #[] } ∈ ds → w.heap[D]? = some (.deferred (some [])) → w'.heap[D]? = some (.deferred (some []))) → Marks b w' ds
  | [], _, _ => trivial
  | d :: ds, ⟨D, e, h1, h2, h3, h4⟩, k => ⟨D, e, h1, k D (by rw [e]; exact List.mem_cons_self) h2, h3, h4.keep fun D' hm h => k D' (List.mem_cons_of_mem _ hm) h⟩
theorem Marks.there {b : Nat} {w : World} : ∀ {ds : List Deferred}, Marks b w ds → ∀ D, { target := .collected D, args := #[] } ∈ ds → w.heap[D]? = some (.deferred (some []))
  | d :: ds, ⟨D, e, h1, h2, h3, h4⟩, D', hm => by
    rcases List.mem_cons.1 hm with h | h
    · rw [e] at h; injection h with h _; injection h with h; rw [h]; exact h2
    · exact h4.there D' h
theorem Marks.below {b B : Nat} {w w' : World} {ds : List Deferred} (h : Marks b w ds) (k : Below B w w') (hB : ∀ D, { target := .collected D, args := #[] } ∈ ds → D < B) : Marks b w' ds :=
  h.keep fun D hm e => (k.block D (hB D hm)).trans e
theorem Marks.lt {b : Nat} {w : World} {ds : List Deferred} (h : Marks b w ds) : ∀ D, { target := .collected D, args := #[] } ∈ ds → D < w.heap.size := fun D hm => (Array.getElem?_eq_some_iff.1 (h.there D hm)).1
theorem Marks.later {b : Nat} {w w' : World} {ds : List Deferred} (h : Marks b w ds) (k : Below w.heap.size w w') : Marks b w' ds := h.below k h.lt
theorem Marks.push {b B : Nat} {w : World} {ds : List Deferred} (h : Marks b w ds) {D : Nat} (hB : ∀ D', { target := .collected D', args := #[] } ∈ ds → D' < B) (hD : B ≤ D) (hb : b ≤ D) (e : w.heap[D]? = some (.deferred (some []))) : Marks b w ({ target := .collected D, args := #[] } :: ds) :=
  ⟨D, rfl, hb, e, fun D' hm => by have := hB D' hm; omega, h⟩
theorem Marks.ge {b : Nat} {w : World} : ∀ {ds : List Deferred}, Marks b w ds → ∀ D, { target := .collected D, args := #[] } ∈ ds → b ≤ D
  | d :: ds, ⟨D, e, h1, h2, h3, h4⟩, D', hm => by
    rcases List.mem_cons.1 hm with h | h
    · rw [e] at h; injection h with h _; injection h with h; rw [h]; exact h1
    · exact h4.ge D' h
theorem Marks.set {b : Nat} {w : World} {ds : List Deferred} (h : Marks (b + 1) w ds) (o : Nat) (v : Value) : Marks (b + 1) (w.setCell ⟨b, o, none⟩ v) ds :=
  h.keep fun D hm e => (Below.heap_setCell w ⟨b, o, none⟩ v D (by have := h.ge D hm; show D ≠ b; omega)).trans e
/-- out by the marks -/
theorem leaves_marks {F : Fence} {n : Nat} {P : Program} {fn : Func} {tmps : Array Value} {R : Ending → World → Prop} {b : Nat} {u : FrameMode} (hu : u ≠ .run) : ∀ (ds : List Deferred) (w : World), Marks b w ds →
    (∀ w', Below b w w' → CellsSame w w' → LeavesInM F n P fn tmps R [] u w') → LeavesInM F n P fn tmps R ds u w
  | [], w, _, h => h w (Below.refl _ _) (fun _ _ e _ => e)
  | d :: ds, w, ⟨D, e, h1, h2, h3, h4⟩, h => by
    refine ⟨hu, .inl ⟨D, w.putObj D (.deferred none), by rw [e], run_takeDeferred h2, ?_⟩⟩
    refine leaves_marks hu ds _ (h4.keep fun D' hm e' => (World.putObj_heap_other (by have := h3 D' hm; omega)).trans e') fun w' hb hc => h w' ((below_put _ h1).trans hb) fun k o ho hoc => hc k o (cellsSame_put _ h2 rfl k o ho hoc) hoc
theorem CellsSame.boxed {A B : World} {r : Nat} {t : TypeId} {v : Value} (h : CellsSame A B) (k : Boxed A r t v) : Boxed B r t v := h r _ k rfl
theorem Soft.marks {T : TypeId} {B b : Nat} {x y : World} {ds : List Deferred} (h : Soft T B x y) (k : Marks b x ds) (hB : ∀ D, { target := .collected D, args := #[] } ∈ ds → D < B) : Marks b y ds := k.keep fun D hm e => h.same D _ e (.inl (hB D hm))
theorem Soft.boxed {T : TypeId} {B r : Nat} {x y : World} {t : TypeId} {v : Value} (h : Soft T B x y) (k : Boxed x r t v) (hr : r < B) : Boxed y r t v := h.same r _ k (.inl hr)

/-! ### The stack of parts -/
def PtOk (w : World) (x : Pt) : Prop := TyAt w x.b x.o x.t ∧ Small x.t
def stAll (q : Bool → ETy → Bool) (st : List Pt) : Bool := st.all fun x => allT q x.ins x.t
theorem all_mapIdx {α β : Type} (f : β → Bool) (e : α → Bool) : ∀ (l : List α) (g : Nat → α → β), (∀ i a, f (g i a) = e a) → (l.mapIdx g).all f = l.all e
  | [], g, h => by simp
  | x :: l, g, h => by rw [List.mapIdx_cons, List.all_cons, List.all_cons, h, all_mapIdx f e l _ (fun i a => h (i + 1) a)]
theorem allTs_all (q : Bool → ETy → Bool) (i : Bool) : ∀ l : List ETy, allTs q i l = l.all fun t => allT q i t
  | [] => rfl
  | t :: ts => by rw [allTs, List.all_cons, allTs_all q i ts]
theorem stAll_step (q : Bool → ETy → Bool) (x : Pt) (r : List Pt) : stAll q (x :: r) = (q x.ins x.t && stAll q (x.kids ++ r)) := by
  unfold stAll
  rw [List.all_cons, List.all_append]
  obtain ⟨b, o, i, ⟨k, m, g, lv, ls, kv, kids⟩⟩ := x
  have e := all_mapIdx (fun x : Pt => allT q x.ins x.t) (fun t => allT q (i || innerK k) t) kids (Pt.kid ⟨b, o, i, .mk k m g lv ls kv kids⟩) (fun _ _ => rfl)
  show (allT q i (.mk k m g lv ls kv kids) && _) = (q i _ && ((kids.mapIdx _).all _ && _))
  rw [e, allT, allTs_all, Bool.and_assoc]
theorem ptOk_kids {w : World} {x : Pt} (h : PtOk w x) : ∀ y ∈ x.kids, PtOk w y := by
  obtain ⟨b, o, i, ⟨k, m, g, lv, ls, kv, kids⟩⟩ := x
  have h2 := h.1.2
  rw [ETy.In] at h2
  intro y hy
  unfold Pt.kids at hy
  obtain ⟨j, hj, rfl⟩ := List.mem_mapIdx.1 hy
  have hjk : j < kids.length := hj
  obtain ⟨b', off, cap, e, _, hx⟩ := Lies.at h2.2.2.1 (i := j) (by rw [List.length_map]; exact hjk)
  have hs := h.2.kids.2 (kids[j]) (List.getElem_mem hjk)
  refine ⟨⟨fun a u hu => ?_, (ETy.ins_iff w kids).1 h2.2.2.2 _ (List.getElem_mem hjk)⟩, hs⟩
  have := hx j (ETy.cells kids[j]) (by rw [List.getElem?_map, List.getElem?_eq_getElem hjk]; rfl) a u hu
  show w.cell? ⟨(kidAt kv j).1, (kidAt kv j).2 + a, none⟩ = some u
  rw [e]
  exact this
theorem stOk_step {w : World} {x : Pt} {r : List Pt} (h : ∀ y ∈ x :: r, PtOk w y) : ∀ y ∈ x.kids ++ r, PtOk w y := by
  intro y hy
  rcases List.mem_append.1 hy with h1 | h1
  · exact ptOk_kids (h x (List.mem_cons_self)) y h1
  · exact h y (List.mem_cons_of_mem _ h1)
end Go.Proofs.YtannfhbocfghkaaDoor.EnvC

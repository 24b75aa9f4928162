/- Texts joined: TreeTP, TreeTR, TreeTS, PageA. -/
import Derived.Test.YtjkdcladjjpmoaaGreatDoorJ08
import Derived.Lib.AppendStr
import Derived.Lib.Builder
import Derived.Lib.FrozenHead2
import Derived.Lib.OthersKept
/- How deep a list of shelves is, and its weight: what one round of tree.sound does to both. No program. -/
namespace Go.Proofs.YtjkdcladjjpmoaaGreatDoor.TreeC
open Go Go.RowKit Go.Lib Go.Sort Go.Proofs.YtjkdcladjjpmoaaGreatDoor.LexP Go.Proofs.YtjkdcladjjpmoaaGreatDoor.TreeP Go.Proofs.YtjkdcladjjpmoaaGreatDoor.LexC

section
variable {α : Type} (dp wt : α → Nat)
/-- the deepest level of what stands in a list of things at a level -/
def deepAt (n : Nat) : List α → Nat
  | [] => n
  | x :: xs => max (n + dp x) (deepAt n xs)
def deepSh : List (Shelf α) → Nat
  | [] => 0
  | s :: ss => max (deepAt dp s.level s.list) (deepSh ss)
def wAll : List α → Nat
  | [] => 0
  | x :: xs => wt x + wAll xs
def wSh : List (Shelf α) → Nat
  | [] => 0
  | s :: ss => 1 + wAll wt s.list + wSh ss

theorem deepAt_le (n : Nat) : ∀ l : List α, n ≤ deepAt dp n l
  | [] => Nat.le_refl _
  | x :: xs => by rw [deepAt]; have := deepAt_le n xs; omega
theorem deepSh_app : ∀ l m : List (Shelf α), deepSh dp (l ++ m) = max (deepSh dp l) (deepSh dp m)
  | [], m => by simp [deepSh]
  | s :: ss, m => by rw [List.cons_append, deepSh, deepSh, deepSh_app ss m]; omega
theorem wSh_app : ∀ l m : List (Shelf α), wSh wt (l ++ m) = wSh wt l + wSh wt m
  | [], m => by simp [wSh]
  | s :: ss, m => by rw [List.cons_append, wSh, wSh, wSh_app ss m]; omega
theorem wSh_len : ∀ l : List (Shelf α), l.length ≤ wSh wt l
  | [] => Nat.le_refl _
  | s :: ss => by rw [wSh, List.length_cons]; have := wSh_len ss; omega
/-- what is in the things of a shelf, all in a row -/
def opened (inn : α → Nat → List (Shelf α)) (n : Nat) (l : List α) : List (Shelf α) := l.flatMap (fun x => inn x n)
theorem opened_deep (inn : α → Nat → List (Shelf α)) (law : ∀ x n, max n (deepSh dp (inn x n)) = n + dp x) (n : Nat) :
    ∀ l : List α, max n (deepSh dp (opened inn n l)) = deepAt dp n l
  | [] => by simp [opened, deepSh, deepAt]
  | x :: xs => by
    have h := opened_deep inn law n xs
    have k := law x n
    unfold opened at *
    rw [List.flatMap_cons, deepSh_app, deepAt]
    omega
theorem opened_w (inn : α → Nat → List (Shelf α)) (n : Nat) : ∀ l : List α, (∀ x ∈ l, wSh wt (inn x n) ≤ wt x) → wSh wt (opened inn n l) ≤ wAll wt l
  | [], _ => by simp [opened, wSh]
  | x :: xs, h => by
    have h1 := opened_w inn n xs fun y hy => h y (List.mem_cons_of_mem _ hy)
    have h2 := h x (List.mem_cons_self ..)
    unfold opened at *
    rw [List.flatMap_cons, wSh_app, wAll]
    omega
/-- one round: the deepest of all stays what it is, and the weight is less -/
theorem round_deep (inn : α → Nat → List (Shelf α)) (law : ∀ x n, max n (deepSh dp (inn x n)) = n + dp x) (d : Nat) (rest : List (Shelf α)) (s : Shelf α) :
    max (max d s.level) (deepSh dp (rest ++ opened inn s.level s.list)) = max d (deepSh dp (rest ++ [s])) := by
  have h := opened_deep dp inn law s.level s.list
  have h2 := deepAt_le dp s.level s.list
  rw [deepSh_app, deepSh_app, deepSh, deepSh]
  omega
theorem round_w (inn : α → Nat → List (Shelf α)) (rest : List (Shelf α)) (s : Shelf α) (h : ∀ x ∈ s.list, wSh wt (inn x s.level) ≤ wt x) :
    wSh wt (rest ++ opened inn s.level s.list) < wSh wt (rest ++ [s]) := by
  have := opened_w wt inn s.level s.list h
  rw [wSh_app, wSh_app, wSh, wSh]
  omega
end

/-! ### Types -/
theorem deepAt_ty (n : Nat) : ∀ l : List Ty, deepAt deepT n l = max n (n + deepTs l)
  | [] => by simp [deepAt, deepTs]
  | x :: xs => by rw [deepAt, deepTs, deepAt_ty n xs]; omega
theorem inT_law (t : Ty) (n : Nat) : max n (deepSh deepT (inT t n)) = n + deepT t := by
  obtain ⟨k, l, m, v, kids⟩ := t
  unfold inT
  rw [deepT]
  by_cases hk : k < 2 ∨ 4 < k
  · simp only [if_pos hk, deepSh]; omega
  · simp only [if_neg hk, deepSh, deepAt_ty]; omega
theorem wAll_ty : ∀ l : List Ty, wAll wT l = wTs l
  | [] => rfl
  | x :: xs => by rw [wAll, wTs, wAll_ty xs]
theorem inT_w (t : Ty) (n : Nat) : wSh wT (inT t n) ≤ wT t := by
  obtain ⟨k, l, m, v, kids⟩ := t
  unfold inT
  rw [wT]
  by_cases hk : k < 2 ∨ 4 < k
  · simp only [if_pos hk, wSh]; omega
  · simp only [if_neg hk, wSh, wAll_ty]; omega

/-! ### Expressions -/
mutual
def nE : Ex → Nat | .mk _ _ _ _ _ kids => 2 + nEs kids
def nEs : List Ex → Nat | [] => 0 | x :: xs => 1 + nE x + nEs xs
end
mutual
theorem nE_le : ∀ x : Ex, nE x + 1 ≤ wE x
  | .mk k num l m v kids => by have := nEs_le kids; rw [nE, wE]; omega
theorem nEs_le : ∀ l : List Ex, nEs l ≤ wEs l
  | [] => by rw [nEs, wEs]; exact Nat.le_refl _
  | x :: xs => by have h := nE_le x; have k := nEs_le xs; rw [nEs, wEs]; omega
end
theorem wAll_ex : ∀ l : List Ex, wAll nE l ≤ nEs l
  | [] => Nat.le_refl _
  | x :: xs => by have := wAll_ex xs; rw [wAll, nEs]; omega
theorem operKids_w (s n : Nat) (v : Value) : ∀ (l : List Ex) (i : Nat), wSh nE (operKids s n v i l) = nEs l
  | [], i => by rw [operKids, wSh, nEs]
  | x :: xs, i => by rw [operKids, wSh, nEs, operKids_w s n v xs (i + 1)]; simp only [wAll]; omega
theorem inE_w (x : Ex) (n : Nat) : wSh nE (inE x n) ≤ nE x := by
  obtain ⟨k, num, l, m, v, kids⟩ := x
  unfold inE
  rw [nE]
  by_cases hk : k < 3 ∨ 9 < k
  · simp only [if_pos hk, wSh]; omega
  · by_cases h8 : k = 8
    · simp only [if_neg hk, if_pos h8, wSh, operKids_w, wAll]; omega
    · have := wAll_ex kids
      simp only [if_neg hk, if_neg h8, wSh]; omega
theorem parens_if (s : Nat) (x : Ex) (i : Nat) : (if parensB 8 s x i = true then 1 else 0) = (if true = true ∧ i < 2 ∧ asideB s x.str i = true then 1 else 0) := by
  have h : parensB 8 s x i = operParens s x.str i := rfl
  rw [h]
  by_cases hi : i < 2
  · rw [operParens_aside s x.str i hi]
    simp only [hi, true_and]
  · have : operParens s x.str i = false := by unfold operParens; rw [if_pos (by omega)]
    rw [this]
    simp [hi]
theorem operKids_deep (s n : Nat) (v : Value) : ∀ (l : List Ex) (i : Nat), max (n + 1) (deepSh deepE (operKids s n v i l)) = n + 1 + deepEk true s i l
  | [], i => by rw [operKids, deepSh, deepEk]; omega
  | x :: xs, i => by
    have h := operKids_deep s n v xs (i + 1)
    rw [operKids, deepSh, deepEk, ← parens_if]
    simp only [deepAt]
    generalize (if parensB 8 s x i = true then 1 else 0) = q
    omega
theorem deepAt_ex (n s : Nat) : ∀ (l : List Ex) (i : Nat), deepAt deepE n l = max n (n + deepEk false s i l)
  | [], i => by simp [deepAt, deepEk]
  | x :: xs, i => by
    rw [deepAt, deepEk, deepAt_ex n s xs (i + 1), if_neg (by simp)]
    omega
theorem inE_law (x : Ex) (n : Nat) : max n (deepSh deepE (inE x n)) = n + deepE x := by
  obtain ⟨k, num, l, m, v, kids⟩ := x
  unfold inE
  rw [deepE]
  by_cases hk : k < 3 ∨ 9 < k
  · simp only [if_pos hk, deepSh]; omega
  · by_cases h8 : k = 8
    · subst h8
      have h := operKids_deep (strK 8 (bs l)) n v kids 0
      simp only [if_neg hk, if_true, deepSh, deepAt, show ((8 : Int) == 8) = true from rfl]
      omega
    · simp only [if_neg hk, if_neg h8, deepSh, show (k == 8) = false from by simpa using h8, deepAt_ex (n + 1) (strK k (bs l)) kids 0]
      omega

/-! ### The answer, when one stops beyond a limit -/
/-- the answer is the true depth, or both are beyond the limit -/
def Capped (limit r d : Nat) : Prop := r = d ∨ (limit < r ∧ limit < d)
theorem Capped.le {limit r d : Nat} (h : Capped limit r d) : (decide (r ≤ limit)) = decide (d ≤ limit) := by
  unfold Capped at h
  rw [Bool.eq_iff_iff]; simp; omega
theorem Capped.max {limit r d n : Nat} (h : Capped limit r d) : Capped limit (Nat.max r n) (Nat.max d n) := by
  unfold Capped at *
  have h1 : Nat.max r n = Max.max r n := rfl
  have h2 : Nat.max d n = Max.max d n := rfl
  omega
theorem Capped.trans {limit r d e : Nat} (h : Capped limit r d) (k : Capped limit d e) : Capped limit r e := by
  unfold Capped at *
  omega
end Go.Proofs.YtjkdcladjjpmoaaGreatDoor.TreeC
/- Contracts of tree.inOper, tree.inExpr. -/
namespace Go.Proofs.YtjkdcladjjpmoaaGreatDoor.TreeC
open Go Go.RowKit Go.Lib Go.Sort Go.Proofs.YtjkdcladjjpmoaaGreatDoor.LexP Go.Proofs.YtjkdcladjjpmoaaGreatDoor.TreeP Go.Proofs.YtjkdcladjjpmoaaGreatDoor.LexC

theorem sh_info : (Tryz.prog.info? 125).map (fun i => (i.zero, i.size, i.bytes)) = some (some (.agg #[.int .i64 0, .slice none 0 0]), 2, 32) := by kernel_rfl
def shRow {α : Type} (l : List (Shelf α)) : List Value := l.flatMap Shelf.cells
theorem shRow_snoc {α : Type} (l : List (Shelf α)) (t : Shelf α) : shRow (l ++ [t]) = shRow l ++ t.cells := by simp [shRow]
theorem shRow_len {α : Type} : ∀ l : List (Shelf α), (shRow l).length = l.length * 2
  | [] => rfl
  | s :: ss => by
    have := shRow_len ss
    unfold shRow at *
    rw [List.flatMap_cons, List.length_append, this, List.length_cons]
    unfold Shelf.cells
    simp only [List.length_cons, List.length_nil]; omega
theorem shRow_get {α : Type} : ∀ (l : List (Shelf α)) (i : Nat) (c : List Value), (l.map Shelf.cells)[i]? = some c → ∀ (j : Nat) (u : Value), c[j]? = some u → (shRow l)[i * 2 + j]? = some u
  | [], i, c, h, _, _, _ => by simp at h
  | s :: ss, 0, c, h, j, u, hj => by
    rw [List.map_cons, List.getElem?_cons_zero] at h
    cases h
    unfold shRow
    rw [List.flatMap_cons, Nat.zero_mul, Nat.zero_add, List.getElem?_append_left (List.getElem?_eq_some_iff.1 hj).1]
    exact hj
  | s :: ss, i + 1, c, h, j, u, hj => by
    have := shRow_get ss i c (by simpa using h) j u hj
    unfold shRow at *
    have hl : s.cells.length = 2 := rfl
    rw [List.flatMap_cons, List.getElem?_append_right (by rw [hl]; omega), hl, show (i + 1) * 2 + j - 2 = i * 2 + j by omega]
    exact this
theorem owns_cell {w : World} {base : Nat} {e : TypeId} {size : Nat} {g n cap : Nat} {xs : List Value} (h : w.ownsRow base e size (.slice (some ⟨g, 0, none⟩) n cap) n xs) {j : Nat} {u : Value} (hj : xs[j]? = some u) : w.cell? ⟨g, j, none⟩ = some u := by
  have h1 := (List.getElem?_eq_some_iff.1 hj).1
  rw [h.1] at h1
  exact (h.cellAt _ h1).trans hj
theorem owns_lies {α : Type} {w : World} {base : Nat} {e : TypeId} {v : Value} {l : List (Shelf α)} (h : w.ownsRow base e 2 v l.length (shRow l)) : Lies w 2 v (l.map Shelf.cells) := by
  obtain ⟨h1, ⟨rfl, h2⟩ | ⟨g, cap, cur, rfl, h3, h4, h5, h6, h7, h8⟩⟩ := id h
  · cases l with
    | nil => exact lies_none
    | cons s ss => simp at h2
  · refine ⟨some ⟨g, 0, none⟩, cap, by rw [List.length_map], by rw [List.length_map]; exact h5, fun _ => ⟨g, 0, rfl, fun i c hi j u hj => ?_⟩⟩
    rw [Nat.zero_add]
    exact owns_cell h (shRow_get l i c hi j u hj)
theorem owns_liesN {α : Type} {w : World} {base : Nat} {e : TypeId} {v : Value} {l : List (Shelf α)} (h : w.ownsRow base e 2 v l.length (shRow l)) : LiesN w 2 v (l.map Shelf.cells) := by
  refine ⟨owns_lies h, ?_⟩
  obtain ⟨_, ⟨rfl, _⟩ | ⟨g, cap, cur, rfl, _⟩⟩ := id h
  · intro n c h; injection h with _ h1 h2; exact ⟨h1.symm, h2.symm⟩
  · intro n c h; injection h with h0; cases h0
theorem operKids_snoc (s n : Nat) (v : Value) (t : Ex) : ∀ (l : List Ex) (i : Nat), operKids s n v i (l ++ [t]) = operKids s n v i l ++ [⟨n + 1 + (if parensB 8 s t (i + l.length) = true then 1 else 0), oneOf v (i + l.length), [t]⟩]
  | [], i => by simp [operKids]
  | x :: xs, i => by
    have h := operKids_snoc s n v t xs (i + 1)
    rw [List.cons_append, operKids, operKids, h, List.cons_append, List.length_cons, show i + 1 + xs.length = i + (xs.length + 1) by omega]

set_option maxHeartbeats 8000000 in
set_option maxRecDepth 100000 in
theorem inOper_any (x : Ex) (n : Nat) (w : World) (hn : n ≤ 4194304) (hin : x.In w) (hlen : x.kids.length ≤ 1048576) (h8 : x.kind = 8) :
    Calls Tryz.prog 132 #[x.val, .int .i64 (n : Int)] w fun r w' => ∃ v, r = .returned v ∧ LiesN w' 2 v ((inE x n).map Shelf.cells) ∧ Below w.heap.size w w' := by
  obtain ⟨i0, hinf, hi0⟩ := Option.map_eq_some_iff.1 sh_info
  have hz0 : i0.zero = some (.agg #[.int .i64 0, .slice none 0 0]) := by rw [Prod.mk.injEq] at hi0; exact hi0.1
  have hz1 : i0.size = 2 := by rw [Prod.mk.injEq, Prod.mk.injEq] at hi0; exact hi0.2.1
  have hz2 : i0.bytes = 32 := by rw [Prod.mk.injEq, Prod.mk.injEq] at hi0; exact hi0.2.2
  have hz := exSize x
  have cp : ∀ (i : Nat) (t : Ex) (W : World), x.kids[i]? = some t → Below w.heap.size w W → Calls Tryz.prog 178 #[.agg x.cells.toArray, .int .i64 (i : Int)] W fun r w' => r = .returned (.bool (parensB 8 x.str t i)) ∧ Below W.heap.size W w' := fun i t W ht hb => by
    have := inParens_any x t i W (Ex.In.keep (Keeps.of_below hb) x hin) ht hlen
    rw [h8] at this
    exact this
  obtain ⟨k, num, l, m, v, kids⟩ := x
  have h8' : k = 8 := h8
  subst h8'
  rw [Ex.In] at hin
  obtain ⟨p, cap, rfl, hcap, hp⟩ := hin.2.1
  clear hin h8
  have he : inE (.mk 8 num l m (.slice p (List.map Ex.cells kids).length cap) kids) n = ⟨n + 1, .slice none 0 0, []⟩ :: operKids (strK 8 (bs l)) n (.slice p (List.map Ex.cells kids).length cap) 0 kids :=
    by
      simp only [inE]
      rw [if_neg (by omega)]
      first | done | rw [if_pos rfl] | simp only [if_true]
  rw [he]
  rw [show Ex.str (.mk 8 num l m (.slice p (List.map Ex.cells kids).length cap) kids) = strK 8 (bs l) from rfl] at cp
  rw [show Ex.kids (.mk 8 num l m (.slice p (List.map Ex.cells kids).length cap) kids) = kids from rfl] at *
  have y4 : (Ex.mk 8 num l m (.slice p (List.map Ex.cells kids).length cap) kids).cells[4]? = some (.slice p (List.map Ex.cells kids).length cap) := rfl
  unfold Ex.val
  generalize strK 8 (bs l) = s at *
  have hpb : kids ≠ [] → ∃ b off, p = some ⟨b, off, none⟩ := fun hne => by
    obtain ⟨b, off, e, _⟩ := hp (by simpa using hne)
    exact ⟨b, off, e⟩
  rw [List.length_map] at *
  generalize (Ex.mk 8 num l m (.slice p kids.length cap) kids).cells = cs at *
  generalize hL : kids.length = L at *
  have HC := hid cp
  have HL := hid hL
  have HP := hid hpb
  have HZ := hid hz
  have HY := hid y4
  clear he cp hp hpb hz y4 hL
  have B0 := hid (show Below w.heap.size w (w.alloc (.cells cs.toArray 51 (0, 0))) from (Below.refl _ _).alloc (Nat.le_refl _) _)
  have X0 := hid (BoxAt.new w cs 51)
  have hb1 : Below w.heap.size w ((w.alloc (.cells cs.toArray 51 (0, 0))).alloc (.cells #[.int .i64 ((n : Int) + 1), .slice none 0 0] 125 (0, 0))) := B0.out.alloc (by have := B0.out.size; omega) _
  have X1 := hid (X0.out.later ((Below.refl _ _).alloc (Nat.le_refl _) (.cells #[.int .i64 ((n : Int) + 1), .slice none 0 0] 125 (0, 0))))
  have d4 := box_get X1.out HY.out
  have HO : Hid (((w.alloc (.cells cs.toArray 51 (0, 0))).alloc (.cells #[.int .i64 ((n : Int) + 1), .slice none 0 0] 125 (0, 0))).ownsRow (w.heap.size + 1) 125 2 (.slice (some ⟨w.heap.size + 1, 0, none⟩) 1 1) 1 (shRow [(⟨n + 1, .slice none 0 0, []⟩ : Shelf Ex)])) := hid
    ⟨rfl, .inr ⟨w.heap.size + 1, 1, _, rfl, Nat.le_refl _, by
      have := heap_alloc_new (w.alloc (.cells cs.toArray 51 (0, 0))) (.cells #[.int .i64 ((n : Int) + 1), .slice none 0 0] 125 (0, 0))
      rw [show (w.alloc (.cells cs.toArray 51 (0, 0))).heap.size = w.heap.size + 1 from Array.size_push ..] at this
      exact this, Nat.le_refl _, by unfold maxLen; omega, rfl, rfl⟩⟩
  have HB := hid hb1
  clear hb1 B0 X0
  go_enter Tryz.func132, Tryz.ntmps132
  go_wp2_with fail
  generalize (World.alloc (World.alloc w _) _) = W1 at *
  go_loopg [5, 15] L (fun gf u v wx => ∃ i : Nat, v = .int .i64 (i : Int) ∧ i ≤ L ∧ L ≤ i + gf ∧ Hid (wx.ownsRow (w.heap.size + 1) 125 2 u (i + 1) (shRow (⟨n + 1, .slice none 0 0, []⟩ :: operKids s n (.slice p L cap) 0 (kids.take i)))) ∧ Hid (BoxAt wx w.heap.size cs) ∧ Hid (Below w.heap.size w wx))
  case atStart => exact ⟨0, rfl, by omega, by omega, HO, X1, HB⟩
  case round =>
    obtain ⟨i, rfl, hi, hg, HOi, Xi, HBi⟩ := hrel
    by_cases hlt : i < L
    · obtain ⟨t, ht⟩ : ∃ t, kids[i]? = some t := ⟨kids[i]'(by rw [HL.out]; exact hlt), List.getElem?_eq_getElem _⟩
      obtain ⟨b, off, rfl⟩ := HP.out (fun e => by rw [e] at ht; simp at ht)
      have CP := hid fun W hb => HC.out i t W ht hb
      have hop : operKids s n (.slice (some ⟨b, off, none⟩) L cap) 0 (kids.take (i + 1)) = operKids s n (.slice (some ⟨b, off, none⟩) L cap) 0 (kids.take i) ++ [⟨n + 1 + (if parensB 8 s t i = true then 1 else 0), .slice (some ⟨b, off + i * 5, none⟩) 1 (cap - i), [t]⟩] := by
        rw [show kids.take (i + 1) = kids.take i ++ [t] by rw [List.take_add_one, ht]; rfl, operKids_snoc, Nat.zero_add, List.length_take, Nat.min_eq_left (by rw [HL.out]; omega)]
        rfl
      generalize operKids s n (.slice (some ⟨b, off, none⟩) L cap) 0 (kids.take i) = OLD at *
      generalize parensB 8 s t i = par at *
      have HN := hid hop
      clear hop HC HO HB HP X1 d4
      have d4 := box_get Xi.out HY.out
      have ZA : Hid ((Tryz.prog.info? 125).map (·.size) = some [Value.int .i64 ((n : Int) + 1), .slice (some ⟨b, off + i * 5, none⟩) 1 (cap - i)].toArray.size) := hid (show (Tryz.prog.info? 125).map (·.size) = some 2 by kernel_rfl)
      have ZO : Hid ((#[.int .i64 0, .slice none 0 0] : Array Value).size = [Value.int .i64 ((n : Int) + 1), .slice (some ⟨b, off + i * 5, none⟩) 1 (cap - i)].toArray.size) := hid rfl
      have ZN : Hid ([Value.int .i64 ((n : Int) + 1), .slice (some ⟨b, off + i * 5, none⟩) 1 (cap - i)].toArray.all (·.oneCell') = true) := hid (by simp [Value.oneCell'])
      have hb2 : Below wr.heap.size wr ((wr.alloc (.cells #[.int .i64 0, .slice none 0 0] 125 (0, 0))).setRow wr.heap.size [Value.int .i64 ((n : Int) + 1), .slice (some ⟨b, off + i * 5, none⟩) 1 (cap - i)].toArray) := rowed_below' _ _ _
      have hX2 : BoxAt ((wr.alloc (.cells #[.int .i64 0, .slice none 0 0] 125 (0, 0))).setRow wr.heap.size [Value.int .i64 ((n : Int) + 1), .slice (some ⟨b, off + i * 5, none⟩) 1 (cap - i)].toArray) wr.heap.size [Value.int .i64 ((n : Int) + 1), .slice (some ⟨b, off + i * 5, none⟩) 1 (cap - i)] := rowed_box' _ _ _ _
      have XC := hid (Xi.out.later hb2)
      have P1 : Hid (∀ (j : Nat) (u : Value), cs[j]? = some u → ((wr.alloc (.cells #[.int .i64 0, .slice none 0 0] 125 (0, 0))).setRow wr.heap.size [Value.int .i64 ((n : Int) + 1), .slice (some ⟨b, off + i * 5, none⟩) 1 (cap - i)].toArray).cell? ⟨w.heap.size, 0 + j, none⟩ = some u) := hid fun j u h => by rw [Nat.zero_add]; exact XC.out j u h
      have XS := hid hX2
      have FZ : Hid (((wr.alloc (.cells #[.int .i64 0, .slice none 0 0] 125 (0, 0))).setRow wr.heap.size [Value.int .i64 ((n : Int) + 1), .slice (some ⟨b, off + i * 5, none⟩) 1 (cap - i)].toArray).frozen? ⟨wr.heap.size, 0, none⟩ = false) := hid (by
        have h := setRow_heap _ wr.heap.size _ [Value.int .i64 ((n : Int) + 1), .slice (some ⟨b, off + i * 5, none⟩) 1 (cap - i)].toArray _ _ (heap_alloc_new wr (.cells #[.int .i64 0, .slice none 0 0] 125 (0, 0)))
        unfold World.frozen?
        first | (rw [h]; rfl) | (dsimp only; rw [h]; rfl) | (simp only [h]; rfl) | (simp only [h]; simp))
      have BB := hid hb2
      have BW := hid (HBi.out.trans (hb2.mono HBi.out.size))
      clear hb2 hX2
      go_wp2_with (first | (with_reducible refine wpList_store_row (o := ⟨none, _, _, _, _, _⟩) rfl _ _ _ rfl wr.heap.size [Value.int .i64 ((n : Int) + 1), .slice (some ⟨b, off + i * 5, none⟩) 1 (cap - i)].toArray rfl rfl _ _ (heap_alloc_new _ _) ZA.out ZO.out ZN.out ?_) | (with_reducible refine wpList_load_at (o := ⟨some 27, _, _, _, _, _⟩) rfl _ _ rfl w.heap.size 0 rfl cs _ P1.out Tryz.underlying51 rfl HZ.out ?_))
      with_reducible refine (CP.out _ BW.out).mono ?_
      rintro e W3 ⟨rfl, hb3⟩
      have f0 : W3.frozen? ⟨wr.heap.size, 0, none⟩ = false := ((bcell hb3).2 _ _ (World.block_lt_of_cell? _ _ (box_get XS.out (j := 0) rfl))).trans FZ.out
      have XS3 := hid (XS.out.later hb3)
      have B3 := hid (BW.out.trans (hb3.mono BW.out.size))
      have XB3 := hid (XC.out.later hb3)
      have BR := hid (BB.out.trans (hb3.mono BB.out.size))
      have HO3 := hid (owns_below HOi.out BR.out)
      have e0 := box_get XS3.out (j := 0) rfl
      have e1 := box_get XS3.out (j := 1) rfl
      have hltr : w.heap.size < wr.heap.size := World.block_lt_of_cell? _ _ (box_get Xi.out HY.out)
      clear hb3 d4 CP P1 XC XS BB BW ZA ZO ZN FZ
      have hlt3 : w.heap.size < W3.heap.size := World.block_lt_of_cell? _ _ (box_get XB3.out HY.out)
      cases par
      · go_wp2_with (at_builtin; refine wpList_append_own _ rfl _ _ 197 rfl (w.heap.size + 1) 125 i0 _ 2 32 Tryz.underlying197 hinf hz0 hz1 hz2 rfl (by decide) _ _ _ rfl (HO3.out.alloc _) ⟨W3.heap.size, 0, none⟩ 1 1 [.int .i64 ((n : Int) + 1), .slice (some ⟨b, off + i * 5, none⟩) 1 (cap - i)] rfl rfl ?c1 ?c2 ?c3 ?c4 ?c5 ?_)
        case c1 =>
          intro j u hj
          match j, hj with
          | 0, hj => simp at hj; subst hj; simp [Addr.add]
          | 1, hj => simp at hj; subst hj; simp [Addr.add]
        case c2 => intro u hu; simp at hu; rcases hu with rfl | rfl <;> rfl
        case c3 => unfold maxLen; omega
        case c4 => omega
        case c5 => rw [show (W3.alloc _).heap.size = W3.heap.size + 1 from Array.size_push ..]; omega
        intro v' w2 hown' hgrow _
        have hs2 : w.heap.size + 1 ≤ (W3.alloc (.cells #[.int .i64 ((n : Int) + 1), .slice (some ⟨b, off + i * 5, none⟩) 1 (cap - i)] 125 (0, 0))).heap.size := by rw [show (W3.alloc _).heap.size = W3.heap.size + 1 from Array.size_push ..]; omega
        have g1 : Below (w.heap.size + 1) W3 w2 := ((Below.refl _ _).alloc (by omega) _).grown hgrow hs2 (fun k hk => (HO3.out.lt k hk).1)
        have g2 : Below w.heap.size w w2 := B3.out.trans (g1.mono (Nat.le_succ _))
        have g3 : BoxAt w2 w.heap.size cs := fun j u hj => (g1.cell (p := ⟨w.heap.size, j, none⟩) (Nat.lt_succ_self _)).trans (XB3.out j u hj)
        have G1 := hid g2
        have G2 := hid g3
        have K : Hid (w2.ownsRow (w.heap.size + 1) 125 2 v' (i + 1 + 1) (shRow (⟨n + 1, .slice none 0 0, []⟩ :: operKids s n (.slice (some ⟨b, off, none⟩) L cap) 0 (kids.take (i + 1))))) := hid (by rw [HN.out, ← List.cons_append, shRow_snoc]; exact hown')
        clear hown' hgrow hs2 g1 g2 g3
        go_wp2_with fail
        go_roundg (gk - 1)
        case measure => omega
        case rel => exact ⟨i + 1, by go_num, by omega, by omega, K, G2, G1⟩
      · have hws : (W3.setCell ⟨wr.heap.size, 0, none⟩ (.int .i64 ((n : Int) + 1 + 1))).heap.size = W3.heap.size := by simp [World.setCell]
        have hbs : Below wr.heap.size wr (W3.setCell ⟨wr.heap.size, 0, none⟩ (.int .i64 ((n : Int) + 1 + 1))) := BR.out.setCell (Nat.le_refl _) _
        have HO4 := hid (owns_below HOi.out hbs)
        have B4 := hid (HBi.out.trans (hbs.mono HBi.out.size))
        have XB4 := hid (Xi.out.later hbs)
        have e1' : (W3.setCell ⟨wr.heap.size, 0, none⟩ (.int .i64 ((n : Int) + 1 + 1))).cell? ⟨wr.heap.size, 1, none⟩ = some (.slice (some ⟨b, off + i * 5, none⟩) 1 (cap - i)) := (World.cell?_setCell_other _ _ _ _ (by simp)).trans e1
        have e0' : (W3.setCell ⟨wr.heap.size, 0, none⟩ (.int .i64 ((n : Int) + 1 + 1))).cell? ⟨wr.heap.size, 0, none⟩ = some (.int .i64 ((n : Int) + 1 + 1)) := World.cell?_setCell_same' _ _ _ (by rw [e0]; rfl)
        clear hbs e1
        go_wp2_with (at_builtin; refine wpList_append_own _ rfl _ _ 197 rfl (w.heap.size + 1) 125 i0 _ 2 32 Tryz.underlying197 hinf hz0 hz1 hz2 rfl (by decide) _ _ _ rfl (HO4.out.alloc _) ⟨W3.heap.size, 0, none⟩ 1 1 [.int .i64 ((n : Int) + 1 + 1), .slice (some ⟨b, off + i * 5, none⟩) 1 (cap - i)] rfl rfl ?c1 ?c2 ?c3 ?c4 ?c5 ?_)
        case c1 =>
          intro j u hj
          have h := BoxAt.new (W3.setCell ⟨wr.heap.size, 0, none⟩ (.int .i64 ((n : Int) + 1 + 1))) [.int .i64 ((n : Int) + 1 + 1), .slice (some ⟨b, off + i * 5, none⟩) 1 (cap - i)] 125 j u hj
          rw [hws] at h
          rw [show (⟨W3.heap.size, 0, none⟩ : Addr).add j = ⟨W3.heap.size, j, none⟩ by simp [Addr.add]; exact fun h => h.symm]
          exact h
        case c2 => intro u hu; simp at hu; rcases hu with rfl | rfl <;> rfl
        case c3 => unfold maxLen; omega
        case c4 => omega
        case c5 => rw [show ((W3.setCell ⟨wr.heap.size, 0, none⟩ (.int .i64 ((n : Int) + 1 + 1))).alloc _).heap.size = (W3.setCell ⟨wr.heap.size, 0, none⟩ (.int .i64 ((n : Int) + 1 + 1))).heap.size + 1 from Array.size_push ..]; omega
        intro v' w2 hown' hgrow _
        have hs2 : w.heap.size + 1 ≤ ((W3.setCell ⟨wr.heap.size, 0, none⟩ (.int .i64 ((n : Int) + 1 + 1))).alloc (.cells #[.int .i64 ((n : Int) + 1 + 1), .slice (some ⟨b, off + i * 5, none⟩) 1 (cap - i)] 125 (0, 0))).heap.size := by rw [show ((W3.setCell ⟨wr.heap.size, 0, none⟩ (.int .i64 ((n : Int) + 1 + 1))).alloc _).heap.size = (W3.setCell ⟨wr.heap.size, 0, none⟩ (.int .i64 ((n : Int) + 1 + 1))).heap.size + 1 from Array.size_push ..]; omega
        have g1 : Below (w.heap.size + 1) (W3.setCell ⟨wr.heap.size, 0, none⟩ (.int .i64 ((n : Int) + 1 + 1))) w2 := ((Below.refl _ _).alloc (by omega) _).grown hgrow hs2 (fun k hk => (HO4.out.lt k hk).1)
        have g2 : Below w.heap.size w w2 := B4.out.trans (g1.mono (Nat.le_succ _))
        have g3 : BoxAt w2 w.heap.size cs := fun j u hj => (g1.cell (p := ⟨w.heap.size, j, none⟩) (Nat.lt_succ_self _)).trans (XB4.out j u hj)
        have G1 := hid g2
        have G2 := hid g3
        have K : Hid (w2.ownsRow (w.heap.size + 1) 125 2 v' (i + 1 + 1) (shRow (⟨n + 1, .slice none 0 0, []⟩ :: operKids s n (.slice (some ⟨b, off, none⟩) L cap) 0 (kids.take (i + 1))))) := hid (by rw [HN.out, ← List.cons_append, shRow_snoc]; exact hown')
        clear hown' hgrow hs2 g1 g2 g3
        go_wp2_with fail
        go_roundg (gk - 1)
        case measure => omega
        case rel => exact ⟨i + 1, by go_num, by omega, by omega, K, G2, G1⟩
    · obtain rfl : i = L := by omega
      have K := HOi.out
      rw [show kids.take i = kids by rw [← HL.out, List.take_length]] at K
      have hk : ∀ (l : List Ex) (j : Nat), (operKids s n (.slice p i cap) j l).length = l.length := by
        intro l
        induction l with
        | nil => intro j; rfl
        | cons x xs ih => intro j; rw [operKids, List.length_cons, List.length_cons, ih]
      have KL := hid (owns_liesN (l := ⟨n + 1, .slice none 0 0, []⟩ :: operKids s n (.slice p i cap) 0 kids) (by rw [List.length_cons, hk, HL.out]; exact K))
      clear K hk
      go_wp2_with fail
      go_ret
      exact ⟨_, rfl, KL.out, HBi.out⟩

theorem inExpr_any (x : Ex) (n : Nat) (w : World) (hn : n ≤ 4194304) (hin : x.In w) (hlen : x.kids.length ≤ 1048576) :
    Calls Tryz.prog 74 #[x.val, .int .i64 (n : Int)] w fun r w' => ∃ v, r = .returned v ∧ LiesN w' 2 v ((inE x n).map Shelf.cells) ∧ Below w.heap.size w w' :=
  inExpr_of x n w hn hin fun h8 W hb => inOper_any x n W hn (Ex.In.keep (Keeps.of_below hb) x hin) hlen h8
end Go.Proofs.YtjkdcladjjpmoaaGreatDoor.TreeC
/- The gauge's block: worlds that are as they were but for it; a world without it. -/
namespace Go.Proofs.YtjkdcladjjpmoaaGreatDoor.TreeC
open Go Go.RowKit Go.Lib Go.Sort Go.Proofs.YtjkdcladjjpmoaaGreatDoor.LexP Go.Proofs.YtjkdcladjjpmoaaGreatDoor.TreeP Go.Proofs.YtjkdcladjjpmoaaGreatDoor.LexC

/-- the world with nothing in a block -/
def hush (gb : Nat) (w : World) : World := { w with heap := w.heap.modify gb fun _ => .cells #[] 0 (0, 0) }
theorem hush_other (gb : Nat) (w : World) (b : Nat) (h : b ≠ gb) : (hush gb w).heap[b]? = w.heap[b]? := by
  unfold hush
  simp only [Array.getElem?_modify]
  rw [if_neg (fun e => h e.symm)]
theorem hush_none (gb : Nat) (w : World) (o : Nat) : (hush gb w).cell? ⟨gb, o, none⟩ = none := by
  unfold World.cell? hush
  simp only [Array.getElem?_modify, if_true]
  cases w.heap[gb]? <;> simp
theorem hush_cell {gb : Nat} {w : World} {b o : Nat} {u : Value} (h : (hush gb w).cell? ⟨b, o, none⟩ = some u) : b ≠ gb := by
  rintro rfl
  rw [hush_none] at h
  cases h
theorem hush_keeps (gb : Nat) (w : World) : Keeps (hush gb w) w := fun b o u h => by
  have hb := hush_cell h
  rw [World.cell?_of_block (w' := hush gb w) (w := w) (a := ⟨b, o, none⟩) (hush_other gb w b hb)] at h
  exact h
theorem hush_in {gb : Nat} {w : World} {b o : Nat} {u : Value} (h : w.cell? ⟨b, o, none⟩ = some u) (hb : b ≠ gb) : (hush gb w).cell? ⟨b, o, none⟩ = some u :=
  (World.cell?_of_block (w' := hush gb w) (w := w) (a := ⟨b, o, none⟩) (hush_other gb w b hb)).trans h
/-- what was there ahead of the gauge -/
theorem hush_old {gb : Nat} {w0 w : World} (h : Below w0.heap.size w0 w) (hg : w0.heap.size ≤ gb) : Keeps w0 (hush gb w) := fun b o u hc => by
  have hlt : b < w0.heap.size := World.block_lt_of_cell? _ _ hc
  exact hush_in (Keeps.of_below h _ _ _ hc) (by omega)

/-- below B all is as it was, but for one block -/
structure BelowX (gb B : Nat) (w w' : World) : Prop where
  os : w'.os = w.os
  tape : w'.tape = w.tape
  output : w'.output = w.output
  size : w.heap.size ≤ w'.heap.size
  block : ∀ k, k < B → k ≠ gb → w'.heap[k]? = w.heap[k]?
theorem BelowX.of {gb B : Nat} {w w' : World} (h : Below B w w') : BelowX gb B w w' := ⟨h.os, h.tape, h.output, h.size, fun k hk _ => h.block k hk⟩
theorem BelowX.refl (gb B : Nat) (w : World) : BelowX gb B w w := .of (Below.refl _ _)
theorem BelowX.trans {gb B : Nat} {a b c : World} (h : BelowX gb B a b) (k : BelowX gb B b c) : BelowX gb B a c :=
  ⟨k.os.trans h.os, k.tape.trans h.tape, k.output.trans h.output, Nat.le_trans h.size k.size, fun i hi hn => (k.block i hi hn).trans (h.block i hi hn)⟩
theorem BelowX.mono {gb B B' : Nat} {w w' : World} (h : BelowX gb B w w') (hB : B' ≤ B) : BelowX gb B' w w' := ⟨h.os, h.tape, h.output, h.size, fun k hk => h.block k (Nat.lt_of_lt_of_le hk hB)⟩
theorem BelowX.then {gb B : Nat} {a w w' : World} (h : BelowX gb B a w) (k : Below B w w') : BelowX gb B a w' := h.trans (.of k)
theorem BelowX.gauge {gb B : Nat} {a w : World} (h : BelowX gb B a w) (o : Nat) (u : Value) : BelowX gb B a (w.setCell ⟨gb, o, none⟩ u) :=
  h.trans ⟨rfl, rfl, rfl, by simp [World.setCell], fun k _ hn => Below.heap_setCell _ _ _ _ hn⟩
theorem BelowX.keeps {gb : Nat} {w w' : World} (h : BelowX gb w.heap.size w w') : Keeps (hush gb w) (hush gb w') := fun b o u hc => by
  have hb := hush_cell hc
  have hc' := hush_keeps gb w _ _ _ hc
  have hlt : b < w.heap.size := World.block_lt_of_cell? _ _ hc'
  exact hush_in ((World.cell?_of_block (w := w) (a := ⟨b, o, none⟩) (h.block b hlt hb)).trans hc') hb
theorem BelowX.below {gb B : Nat} {w w' : World} (h : BelowX gb B w w') (hB : B ≤ gb) : Below B w w' := ⟨h.os, h.tape, h.output, h.size, fun k hk => h.block k hk (by omega)⟩
theorem BelowX.box {gb : Nat} {w w' : World} (h : BelowX gb w.heap.size w w') {b : Nat} {cs : List Value} (hx : BoxAt w b cs) (hb : b ≠ gb) : BoxAt w' b cs := fun j u hj => by
  have hc := hx j u hj
  exact (World.cell?_of_block (w := w) (a := ⟨b, j, none⟩) (h.block b (World.block_lt_of_cell? _ _ hc) hb)).trans hc
theorem BelowX.owns {gb : Nat} {w w' : World} (h : BelowX gb w.heap.size w w') {base : Nat} {e : TypeId} {size : Nat} {v : Value} {n : Nat} {xs : List Value} (ho : w.ownsRow base e size v n xs) (hg : gb < base) : w'.ownsRow base e size v n xs := by
  refine ⟨ho.1, ?_⟩
  rcases ho.2 with hn | ⟨g, cap, cur, rfl, hg1, hg2, rest⟩
  · exact .inl hn
  · refine .inr ⟨g, cap, cur, rfl, hg1, ?_, rest⟩
    rw [h.block g (Array.getElem?_eq_some_iff.1 hg2).1 (by omega)]
    exact hg2

/-- the gauge, as it lies in memory -/
def GaugeAt (w : World) (gb : Nat) (d lim : Nat) : Prop := w.heap[gb]? = some (.cells #[.int .i64 (d : Int), .int .i64 (lim : Int)] 113 (0, 0))
theorem GaugeAt.lt {w : World} {gb d lim : Nat} (h : GaugeAt w gb d lim) : gb < w.heap.size := (Array.getElem?_eq_some_iff.1 h).1
theorem GaugeAt.deepest {w : World} {gb d lim : Nat} (h : GaugeAt w gb d lim) : w.cell? ⟨gb, 0, none⟩ = some (.int .i64 (d : Int)) := by unfold World.cell?; rw [show w.heap[(⟨gb, 0, none⟩ : Addr).block]? = _ from h]; rfl
theorem GaugeAt.limit {w : World} {gb d lim : Nat} (h : GaugeAt w gb d lim) : w.cell? ⟨gb, 1, none⟩ = some (.int .i64 (lim : Int)) := by unfold World.cell?; rw [show w.heap[(⟨gb, 1, none⟩ : Addr).block]? = _ from h]; rfl
theorem GaugeAt.thawed {w : World} {gb d lim : Nat} (h : GaugeAt w gb d lim) (o : Nat) : w.frozen? ⟨gb, o, none⟩ = false := by unfold World.frozen?; rw [show w.heap[(⟨gb, o, none⟩ : Addr).block]? = _ from h]; simp
theorem GaugeAt.below {w w' : World} {gb d lim : Nat} (h : GaugeAt w gb d lim) {B : Nat} (hb : Below B w w') (hB : gb < B) : GaugeAt w' gb d lim := (hb.block gb hB).trans h
theorem GaugeAt.set {w : World} {gb d lim : Nat} (h : GaugeAt w gb d lim) (e : Nat) : GaugeAt (w.setCell ⟨gb, 0, none⟩ (.int .i64 (e : Int))) gb e lim := by
  unfold GaugeAt World.setCell at *
  simp only [Array.getElem?_modify, if_true, h]
  rfl
theorem GaugeAt.new (w : World) (lim : Nat) : GaugeAt (w.alloc (.cells #[.int .i64 0, .int .i64 (lim : Int)] 113 (0, 0))) w.heap.size 0 lim := heap_alloc_new _ _
end Go.Proofs.YtjkdcladjjpmoaaGreatDoor.TreeC
/- A page that is being written: how it lies in memory, what is kept beside it; append of a string to what a call owns, with the place of what comes back. -/
namespace Go.Proofs.YtjkdcladjjpmoaaGreatDoor.PageC
open Go Go.RowKit Go.Lib Go.Sort Go.Proofs.YtjkdcladjjpmoaaGreatDoor.LexP Go.Proofs.YtjkdcladjjpmoaaGreatDoor.TreeP Go.Proofs.YtjkdcladjjpmoaaGreatDoor.LexC Go.Proofs.YtjkdcladjjpmoaaGreatDoor.TreeC

/-- the world without a page's block, and without the row of its bytes -/
def hush2 (pb : Nat) (r : Option Nat) (w : World) : World := match r with
  | none => hush pb w
  | some g => hush g (hush pb w)
theorem hush2_cell {pb : Nat} {r : Option Nat} {w : World} {b o : Nat} {u : Value} (h : (hush2 pb r w).cell? ⟨b, o, none⟩ = some u) : w.cell? ⟨b, o, none⟩ = some u ∧ b ≠ pb ∧ some b ≠ r := by
  unfold hush2 at h
  cases r with
  | none => exact ⟨hush_keeps _ _ _ _ _ h, hush_cell h, by simp⟩
  | some g =>
    have h1 := hush_keeps _ _ _ _ _ h
    exact ⟨hush_keeps _ _ _ _ _ h1, hush_cell h1, fun e => hush_cell h (Option.some.inj e)⟩
theorem hush2_in {pb : Nat} {r : Option Nat} {w : World} {b o : Nat} {u : Value} (h : w.cell? ⟨b, o, none⟩ = some u) (h1 : b ≠ pb) (h2 : some b ≠ r) : (hush2 pb r w).cell? ⟨b, o, none⟩ = some u := by
  unfold hush2
  cases r with
  | none => exact hush_in h h1
  | some g => exact hush_in (hush_in h h1) (fun e => h2 (by rw [e]))
theorem hush2_keeps (pb : Nat) (r : Option Nat) (w : World) : Keeps (hush2 pb r w) w := fun _ _ _ h => (hush2_cell h).1

/-- all but the page and the row of its bytes is as it was; that row is the one it was, or a new one -/
structure Step (pb : Nat) (r : Option Nat) (w : World) (r' : Option Nat) (w' : World) : Prop where
  os : w'.os = w.os
  tape : w'.tape = w.tape
  output : w'.output = w.output
  size : w.heap.size ≤ w'.heap.size
  block : ∀ k, k < w.heap.size → k ≠ pb → some k ≠ r → w'.heap[k]? = w.heap[k]?
  row : r' = r ∨ ∃ g, r' = some g ∧ w.heap.size ≤ g
theorem Step.refl (pb : Nat) (r : Option Nat) (w : World) : Step pb r w r w := ⟨rfl, rfl, rfl, Nat.le_refl _, fun _ _ _ _ => rfl, .inl rfl⟩
theorem Step.trans {pb : Nat} {r r' r'' : Option Nat} {a b c : World} (h : Step pb r a r' b) (k : Step pb r' b r'' c) : Step pb r a r'' c := by
  refine ⟨k.os.trans h.os, k.tape.trans h.tape, k.output.trans h.output, Nat.le_trans h.size k.size, fun i hi h1 h2 => ?_, ?_⟩
  · refine (k.block i (Nat.lt_of_lt_of_le hi h.size) h1 ?_).trans (h.block i hi h1 h2)
    rcases h.row with e | ⟨g, e, hg⟩
    · rw [e]; exact h2
    · rw [e]; intro e2; injection e2 with e2; omega
  · rcases k.row with e | ⟨g, e, hg⟩
    · rw [e]; exact h.row
    · exact .inr ⟨g, e, Nat.le_trans h.size hg⟩
theorem Step.below {pb : Nat} {r : Option Nat} {w w' : World} (h : Below w.heap.size w w') : Step pb r w r w' := ⟨h.os, h.tape, h.output, h.size, fun k hk _ _ => h.block k hk, .inl rfl⟩
theorem Step.then {pb : Nat} {r r' : Option Nat} {a b c : World} (h : Step pb r a r' b) (k : Below b.heap.size b c) : Step pb r a r' c := h.trans (.below k)
theorem Step.keeps {pb : Nat} {r r' : Option Nat} {w w' : World} (h : Step pb r w r' w') : Keeps (hush2 pb r w) (hush2 pb r' w') := fun b o u hc => by
  obtain ⟨h1, h2, h3⟩ := hush2_cell hc
  have hlt : b < w.heap.size := World.block_lt_of_cell? _ _ h1
  refine hush2_in ((World.cell?_of_block (w := w) (a := ⟨b, o, none⟩) (h.block b hlt h2 h3)).trans h1) h2 ?_
  rcases h.row with e | ⟨g, e, hg⟩
  · rw [e]; exact h3
  · rw [e]; intro e2; injection e2 with e2; omega
theorem Step.toBelow {pb : Nat} {r : Option Nat} {w w' : World} (h : Step pb none w r w') : Below pb w w' ∨ w.heap.size < pb := by
  by_cases hp : pb ≤ w.heap.size
  · exact .inl ⟨h.os, h.tape, h.output, h.size, fun k hk => h.block k (by omega) (by omega) (by simp)⟩
  · exact .inr (by omega)

/-- the row of bytes that a value lies in -/
def bytesV (l : List UInt8) : List Value := l.map fun b => .int .u8 b.toNat
theorem bytesV_str (s : ByteArray) : strCells s = bytesV s.data.toList := rfl
/-- a page, with these bytes, its row, in memory -/
def PageAt (w : World) (pb : Nat) (r : Option Nat) (l : List UInt8) : Prop :=
  ∃ p v, w.heap[pb]? = some (.cells #[p, v] 73 (0, 0)) ∧ (p = .pointer none ∨ p = .pointer (some ⟨pb, 0, none⟩)) ∧ w.ownsRow 0 5 1 v l.length (bytesV l) ∧ v.ownBlock = r ∧ r ≠ some pb ∧ l.length ≤ 2097152
theorem PageAt.lt {w : World} {pb : Nat} {r : Option Nat} {l : List UInt8} (h : PageAt w pb r l) : pb < w.heap.size := by
  obtain ⟨p, v, h1, _⟩ := h
  exact (Array.getElem?_eq_some_iff.1 h1).1
theorem PageAt.rowlt {w : World} {pb : Nat} {r : Option Nat} {l : List UInt8} (h : PageAt w pb r l) : ∀ g, r = some g → g < w.heap.size := by
  obtain ⟨p, v, h1, _, h3, h4, _⟩ := h
  intro g e
  exact (h3.lt g (h4.trans e)).2
theorem PageAt.below {w w' : World} {pb : Nat} {r : Option Nat} {l : List UInt8} (h : PageAt w pb r l) (hb : Below w.heap.size w w') : PageAt w' pb r l := by
  have hlt := h.lt
  obtain ⟨p, v, h1, h2, h3, h4⟩ := h
  exact ⟨p, v, (hb.block pb hlt).trans h1, h2, owns_below h3 hb, h4⟩
/-- a box that is laid anew is neither the page nor its row -/
theorem box_hush2 {w : World} {pb : Nat} {r : Option Nat} {b : Nat} {cs : List Value} (hx : BoxAt w b cs) (h1 : b ≠ pb) (h2 : some b ≠ r) : BoxAt (hush2 pb r w) b cs := fun j u hj => hush2_in (hx j u hj) h1 h2
theorem box_unhush {w : World} {pb : Nat} {r : Option Nat} {b : Nat} {cs : List Value} (hx : BoxAt (hush2 pb r w) b cs) : BoxAt w b cs := fun j u hj => (hush2_cell (hx j u hj)).1

/-- a text that is cut off where it is too long for a page -/
def Cut (l t : List UInt8) : Prop := l = t ∨ (20000 < l.length ∧ 20000 < t.length)
/-- a page whose text this is, or would be if it were not full -/
def Page (w : World) (pb : Nat) (r : Option Nat) (t : List UInt8) : Prop := ∃ l, PageAt w pb r l ∧ Cut l t
theorem Page.below {w w' : World} {pb : Nat} {r : Option Nat} {l : List UInt8} (h : Page w pb r l) (hb : Below w.heap.size w w') : Page w' pb r l := by
  obtain ⟨m, h1, h2⟩ := h
  exact ⟨m, h1.below hb, h2⟩
theorem Page.lt {w : World} {pb : Nat} {r : Option Nat} {l : List UInt8} (h : Page w pb r l) : pb < w.heap.size := by
  obtain ⟨m, h1, h2⟩ := h
  exact h1.lt
theorem Page.rowlt {w : World} {pb : Nat} {r : Option Nat} {l : List UInt8} (h : Page w pb r l) : ∀ g, r = some g → g < w.heap.size := by
  obtain ⟨m, h1, h2⟩ := h
  exact h1.rowlt

variable {P : Program} (w : World)
theorem run_append_str_at (base : Nat) (t u ty e : TypeId) (i : TypeInfo) (ht : P.underlying t = some (.slice e)) (hu : P.underlying u = some .string) (hi : P.info? e = some i) (hz : i.zero = some (.int .u8 0))
    (hsize : i.size = 1) (hby : i.bytes = 1) (v : Value) (n : Nat) (xs : List Value) (hown : w.ownsRow base e 1 v n xs) (s : ByteArray)
    (h63 : n + s.size ≤ maxLen) (hbytes : n + s.size ≤ 140737488355328) (hbase : base ≤ w.heap.size) :
    ∃ v' w', (Builtin.append_ #[t, u] ty #[v, .string s]).run P w = .ok v' w' ∧ w'.ownsRow base e 1 v' (n + s.size) (xs ++ strCells s) ∧ w.grownBy w' v.ownBlock ∧ (v'.ownBlock = v.ownBlock ∨ v'.ownBlock = some w.heap.size) := by
  obtain ⟨v', w', hr, h2, h3, h4⟩ := run_append_own_string (P := P) w base t u ty e i ht hu hi hz hsize hby v n xs hown s h63 hbytes hbase
  refine ⟨v', w', hr, h2, h3, ?_⟩
  have hxl : xs.length = n := by simpa using hown.1
  have hmax : n + s.size ≤ 9223372036854775807 := by unfold maxLen at h63; omega
  rcases hown.2 with ⟨rfl, rfl⟩ | ⟨g, cap, cur, rfl, hbg, hg, hnc, hcm, hcs, htake⟩
  · by_cases hm : s.size = 0
    · rw [h4.2 ⟨rfl, hm⟩]; exact .inl rfl
    · have hr2 := run_append_nil_string (P := P) w t u ty e i (.int .u8 0) ht hu hi hz s (by omega) (by omega) (by rw [hby]; omega)
      have := hr.symm.trans hr2
      injection this with e1 _
      rw [e1]; exact .inr rfl
  · by_cases hroom : n + s.size ≤ cap
    · have hcs' : cur.size = cap := by simpa using hcs
      have hr2 := run_append_room_string (P := P) w t u ty e i ht hu hi hsize g n cap cur hg s hroom (by omega)
      have := hr.symm.trans hr2
      injection this with e1 _
      rw [e1]; exact .inl rfl
    · have holds : ∀ j u, xs[j]? = some u → w.cell? ((⟨g, 0, none⟩ : Addr).add j) = some u := hown.cells (g := g) rfl
      have hr2 := run_append_grow_string (P := P) w t u ty e i (.int .u8 0) ht hu hi hz ⟨g, 0, none⟩ n cap xs (by rw [hsize]; simpa using hxl) holds s (by omega) (by omega) (by rw [hby]; exact growslice_fits (by omega) (by omega))
      have := hr.symm.trans hr2
      injection this with e1 _
      rw [e1]; exact .inr rfl
theorem wpList_append_str_at {ops : Array Oper} {rest : List Oper} {o : Oper} {a : Act} {Q : Exit → Act → World → Prop} (hgd : o.guard = none) (sl x : Operand) (t u : TypeId)
    (ho : o.op = .call { callee := .builtin .append, args := #[sl, x], argTypes := #[t, u] })
    (base : Nat) (e : TypeId) (i : TypeInfo) (ht : P.underlying t = some (.slice e)) (hu : P.underlying u = some .string) (hi : P.info? e = some i) (hz : i.zero = some (.int .u8 0))
    (hsize : i.size = 1) (hby : i.bytes = 1)
    (v : Value) (n : Nat) (xs : List Value) (hs : a.eval sl = v) (hown : w.ownsRow base e 1 v n xs) (s : ByteArray) (hx : a.eval x = .string s)
    (h63 : n + s.size ≤ maxLen) (hbytes : n + s.size ≤ 140737488355328) (hbase : base ≤ w.heap.size)
    (h : ∀ v' w', w'.ownsRow base e 1 v' (n + s.size) (xs ++ strCells s) → w.grownBy w' v.ownBlock → (v'.ownBlock = v.ownBlock ∨ v'.ownBlock = some w.heap.size) → wpList P ops Q rest (a.put o.dst v') w') : wpList P ops Q (o :: rest) a w := by
  refine wpList_plain hgd fun K hK => ?_
  obtain ⟨v', w', hr, h2, h3, h4⟩ := run_append_str_at (P := P) w base t u o.type e i ht hu hi hz hsize hby v n xs hown s h63 hbytes hbase
  unfold Oper.wp execOp
  simp only [ho, resolve, invoke, builtin, Sem.run_bind, Sem.run_pure, Result.andThen_ok, List.map_toArray, List.map_cons, List.map_nil, hs, hx, hr]
  exact hK _ _ (h v' w' h2 h3 h4)
end Go.Proofs.YtjkdcladjjpmoaaGreatDoor.PageC

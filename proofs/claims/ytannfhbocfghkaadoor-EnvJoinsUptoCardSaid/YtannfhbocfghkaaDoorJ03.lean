/- Contracts of walk's iterators: Walks, of parts and of pairs. -/
import Derived.Test.YtannfhbocfghkaaDoorJ02
import Derived.Lib.OwnBridge
import Derived.Sort.LoopGhostIn
import Derived.OwnWalkIn
import Derived.TacticsInMore
import Derived.Sort.QuietTacIn
import Derived.Shelf.Abstract
import Derived.Shelf.RegionOpen
namespace Go.Proofs.YtannfhbocfghkaaDoor.EnvC
open Go Go.RowKit Go.Shelf Go.Lib Go.Sort Go.Proofs.YtannfhbocfghkaaDoor.EnvP
attribute [local go_sem] Oper.semAt_some

/-- things of two cells each, one behind the other -/
def flat {α : Type} (f : α → List Value) (l : List α) : List Value := l.flatMap f
theorem flat_len {α : Type} {f : α → List Value} (h : ∀ x, (f x).length = 2) : ∀ l : List α, (flat f l).length = l.length * 2
  | [] => rfl
  | x :: l => by
    have := flat_len h l
    unfold flat at *
    rw [List.flatMap_cons, List.length_append, this, h, List.length_cons]; omega
theorem flat_app {α : Type} (f : α → List Value) (l m : List α) : flat f (l ++ m) = flat f l ++ flat f m := by unfold flat; rw [List.flatMap_append]
theorem flat_last {α : Type} {f : α → List Value} (h : ∀ x, (f x).length = 2) (l : List α) (x : α) (j : Nat) (u : Value) (hj : (f x)[j]? = some u) : (flat f (l ++ [x]))[l.length * 2 + j]? = some u := by
  rw [flat_app, List.getElem?_append_right (by rw [flat_len h]; omega), flat_len h, show l.length * 2 + j - l.length * 2 = j by omega]
  unfold flat
  simpa using hj
theorem flat_split {α : Type} {f : α → List Value} (h : ∀ x, (f x).length = 2) : ∀ (l : List α) (j : Nat) (u : Value), (flat f l)[j]? = some u → ∃ x, l[j / 2]? = some x ∧ (f x)[j % 2]? = some u
  | [], j, u, hj => by simp [flat] at hj
  | x :: l, j, u, hj => by
    unfold flat at hj
    rw [List.flatMap_cons] at hj
    by_cases h2 : j < 2
    · rw [List.getElem?_append_left (by rw [h]; exact h2)] at hj
      exact ⟨x, by rw [Nat.div_eq_of_lt h2]; rfl, by rw [Nat.mod_eq_of_lt h2]; exact hj⟩
    · rw [List.getElem?_append_right (by rw [h]; omega), h] at hj
      obtain ⟨y, h3, h4⟩ := flat_split h l (j - 2) u hj
      refine ⟨y, ?_, ?_⟩
      · rw [show j / 2 = (j - 2) / 2 + 1 by omega]; simpa using h3
      · rw [show j % 2 = (j - 2) % 2 by omega]; exact h4
theorem flat_lies {α : Type} {f : α → List Value} (h : ∀ x, (f x).length = 2) {w : World} {ad : Addr} {m c : Nat} {l : List α} (hl : Lies w 2 (.slice (some ad) m c) (l.map f)) : ∀ (j : Nat) (u : Value), (flat f l)[j]? = some u → w.cell? (ad.add j) = some u := by
  intro j u hj
  obtain ⟨t, ht, hu⟩ := flat_split h l j u hj
  obtain ⟨p, cap, e, _, hp⟩ := hl
  obtain ⟨b, off, rfl, hc⟩ := hp (by intro e; simp at e; rw [e] at ht; simp at ht)
  injection e with e1 _ _
  injection e1 with e1
  subst e1
  have := hc (j / 2) (f t) (by rw [List.getElem?_map, ht]; rfl) (j % 2) u hu
  rw [show off + j / 2 * 2 + j % 2 = off + j by omega] at this
  rw [show (⟨b, off, none⟩ : Addr).add j = ⟨b, off + j, none⟩ by simp [Addr.add]]
  exact this
theorem own_zero {w : World} {base : Nat} {e : TypeId} {size : Nat} {v : Value} {xs : List Value} (h : w.ownsRow base e size v 0 xs) : ∃ p cap, v = .slice p 0 cap := by
  obtain ⟨_, ⟨rfl, _⟩ | ⟨g, cap, cur, rfl, _⟩⟩ := h
  · exact ⟨_, _, rfl⟩
  · exact ⟨_, _, rfl⟩
theorem own_some {w : World} {base : Nat} {e : TypeId} {size n : Nat} {v : Value} {xs : List Value} (h : w.ownsRow base e size v (n + 1) xs) : ∃ g cap, v = .slice (some ⟨g, 0, none⟩) (n + 1) cap ∧ base ≤ g ∧ g < w.heap.size ∧ n + 1 ≤ cap := by
  obtain ⟨_, ⟨_, h2⟩ | ⟨g, cap, cur, rfl, h3, h4, h5, _⟩⟩ := id h
  · omega
  · exact ⟨_, _, rfl, h3, (Array.getElem?_eq_some_iff.1 h4).1, h5⟩
theorem own_pop {w : World} {base : Nat} {e : TypeId} {size g n cap : Nat} {xs : List Value} (h : w.ownsRow base e size (.slice (some ⟨g, 0, none⟩) (n + 1) cap) (n + 1) xs) : w.ownsRow base e size (.slice (some ⟨g, 0, none⟩) n cap) n (xs.take (n * size)) := by
  obtain ⟨h1, ⟨h2, _⟩ | ⟨g', cap', cur, h2, h3, h4, h5, h6, h7, h8⟩⟩ := h
  · cases h2
  · injection h2 with e1 e2 e3
    injection e1 with e1
    injection e1 with e1 _ _
    subst e1 e3
    refine ⟨?_, .inr ⟨g, cap, cur, rfl, h3, h4, by omega, h6, h7, ?_⟩⟩
    · rw [List.length_take, h1, Nat.min_eq_left (Nat.mul_le_mul_right _ (by omega))]
    · rw [← h8, List.take_take, Nat.min_eq_left (Nat.mul_le_mul_right _ (by omega))]
theorem own_types {T U : TypeId} {w w' : World} {base size n : Nat} {v : Value} {xs : List Value} (h : w.ownsRow base T size v n xs) (k : TypesKept T U w w') : w'.ownsRow base T size v n xs := by
  obtain ⟨h1, h2 | ⟨g, cap, cur, h2, h3, h4, h5⟩⟩ := h
  · exact ⟨h1, .inl h2⟩
  · exact ⟨h1, .inr ⟨g, cap, cur, h2, h3, (k g cur (0, 0)).1 h4, h5⟩⟩
theorem own_below {w w' : World} {base : Nat} {e : TypeId} {size n : Nat} {v : Value} {xs : List Value} (h : w.ownsRow base e size v n xs) (k : Below w.heap.size w w') : w'.ownsRow base e size v n xs := by
  obtain ⟨h1, h2 | ⟨g, cap, cur, h2, h3, h4, h5⟩⟩ := h
  · exact ⟨h1, .inl h2⟩
  · exact ⟨h1, .inr ⟨g, cap, cur, h2, h3, (k.block g (Array.getElem?_eq_some_iff.1 h4).1).trans h4, h5⟩⟩
theorem own_block {w : World} {base : Nat} {e : TypeId} {size n : Nat} {v : Value} {xs : List Value} (h : w.ownsRow base e size v n xs) : ∀ r, v.ownBlock = some r → base ≤ r ∧ ∀ o, w.heap[r]? = some o → ∃ cs f, o = .cells cs e f := by
  intro r hr
  obtain ⟨h1, ⟨h2, _⟩ | ⟨g, cap, cur, h2, h3, h4, h5⟩⟩ := h
  · subst h2; simp [Value.ownBlock] at hr
  · subst h2
    simp [Value.ownBlock] at hr
    subst hr
    exact ⟨h3, fun o ho => ⟨cur, (0, 0), by rw [h4] at ho; exact (Option.some.inj ho).symm⟩⟩
theorem boxed_below {w w' : World} {B : Nat} {t : TypeId} {v : Value} (h : Boxed w B t v) (k : Below w.heap.size w w') : Boxed w' B t v := (k.block B h.lt).trans h

def Pt.Kids (W : World) (x : Pt) (ks : List Pt) : Prop := TyAt W x.b x.o x.t ∧ Small x.t ∧ ks = x.kids
def Pr.Kids (W : World) (x : Pr) (ks : List Pr) : Prop := TyAt W x.b x.o x.t ∧ TyAt W x.c x.q x.u ∧ Small x.t ∧ x.t.kids.length = x.u.kids.length ∧ ks = x.kids
def Pt.w (x : Pt) : Nat := nT x.t
def Pr.w (x : Pr) : Nat := nT x.t
def wAll {α : Type} (f : α → Nat) : List α → Nat | [] => 0 | x :: l => f x + wAll f l
theorem wAll_app {α : Type} (f : α → Nat) : ∀ l m : List α, wAll f (l ++ m) = wAll f l + wAll f m
  | [], m => by simp [wAll]
  | x :: l, m => by rw [List.cons_append, wAll, wAll, wAll_app f l m]; omega
theorem wAll_rev {α : Type} (f : α → Nat) : ∀ l : List α, wAll f l.reverse = wAll f l
  | [] => rfl
  | x :: l => by rw [List.reverse_cons, wAll_app, wAll_rev f l, wAll, wAll, wAll]; omega
theorem wAll_len {α : Type} (f : α → Nat) (h : ∀ x, 1 ≤ f x) : ∀ l : List α, l.length ≤ wAll f l
  | [] => by simp [wAll]
  | x :: l => by have := wAll_len f h l; have := h x; rw [wAll, List.length_cons]; omega
theorem wAll_mapIdx {α β : Type} (f : β → Nat) (e : α → Nat) : ∀ (l : List α) (g : Nat → α → β), (∀ i a, f (g i a) = e a) → wAll f (l.mapIdx g) = wAll e l
  | [], g, h => by simp [wAll]
  | x :: l, g, h => by rw [List.mapIdx_cons, wAll, wAll, h, wAll_mapIdx f e l _ (fun i a => h (i + 1) a)]
theorem wAll_ty : ∀ l : List ETy, wAll nT l = nTs l
  | [] => rfl
  | x :: l => by rw [wAll, nTs, wAll_ty l]
theorem wAll_zip (l m : List ETy) : wAll (fun p : ETy × ETy => nT p.1) (l.zip m) ≤ nTs l := by
  induction l generalizing m with
  | nil => simp [wAll]
  | cons x l ih =>
    cases m with
    | nil => simp [wAll]
    | cons y m => rw [List.zip_cons_cons, wAll, nTs]; have := ih m; dsimp only; omega
theorem Pt.kids_w (x : Pt) : wAll Pt.w x.kids + 1 ≤ x.w := by
  obtain ⟨b, o, i, ⟨k, m, g, lv, ls, kv, kids⟩⟩ := x
  have e := wAll_mapIdx Pt.w nT kids (Pt.kid ⟨b, o, i, .mk k m g lv ls kv kids⟩) (fun i a => rfl)
  show wAll Pt.w (kids.mapIdx _) + 1 ≤ nT _
  rw [e]
  rw [wAll_ty, nT]; omega
theorem Pr.kids_w (x : Pr) : wAll Pr.w x.kids + 1 ≤ x.w := by
  obtain ⟨b, o, ⟨k, m, g, lv, ls, kv, kids⟩, c, q, ⟨k', m', g', lv', ls', kv', kids'⟩⟩ := x
  have e := wAll_mapIdx Pr.w (fun p : ETy × ETy => nT p.1) (kids.zip kids') (Pr.kid ⟨b, o, .mk k m g lv ls kv kids, c, q, .mk k' m' g' lv' ls' kv' kids'⟩) (fun i a => rfl)
  show wAll Pr.w ((kids.zip kids').mapIdx _) + 1 ≤ nT _
  rw [e]
  have := wAll_zip kids kids'
  rw [nT]; omega
theorem Pt.Kids.keep {W W' : World} {x : Pt} {ks : List Pt} (h : Pt.Kids W x ks) (k : Keeps W W') : Pt.Kids W' x ks := ⟨h.1.keep k, h.2⟩
theorem Pr.Kids.keep {W W' : World} {x : Pr} {ks : List Pr} (h : Pr.Kids W x ks) (k : Keeps W W') : Pr.Kids W' x ks := ⟨h.1.keep k, h.2.1.keep k, h.2.2⟩
theorem CellsSame.keeps {A B : World} (h : CellsSame A B) : Keeps A B := fun b o u hc => by
  obtain ⟨ob, ho, hcs⟩ := cells_of_cell hc
  exact (World.cell?_of_block (w := A) (a := ⟨b, o, none⟩) ((h b ob ho hcs).trans ho.symm)).trans hc
theorem filled_flat {α : Type} {f : α → List Value} (h : ∀ x, (f x).length = 2) {xs : List Value} {l : List α} (hx : xs.length = l.length * 2) (hf : Filled xs (l.map f) l.length) : xs = flat f l := by
  apply List.ext_getElem?
  intro j
  by_cases hj : j < l.length * 2
  · have hfl : j < (flat f l).length := by rw [flat_len h]; exact hj
    obtain ⟨x, h1, h2⟩ := flat_split h l j _ (List.getElem?_eq_getElem hfl)
    rw [List.getElem?_eq_getElem hfl]
    have := hf (j / 2) (by omega) (f x) (by rw [List.getElem?_map, h1]; rfl) (j % 2) _ h2
    rw [show j / 2 * 2 + j % 2 = j by omega] at this
    exact this
  · rw [List.getElem?_eq_none (by omega), List.getElem?_eq_none (by rw [flat_len h]; omega)]
theorem flatK_get {α : Type} [Inhabited α] {f : α → List Value} (h : ∀ x, (f x).length = 2) (l : List α) (j : Nat) (hj : j < l.length * 2) : (flat f l)[j]? = some ((flatK f 2 l.toArray)[j]!) := by
  have hfl : j < (flat f l).length := by rw [flat_len h]; exact hj
  obtain ⟨x, h1, h2⟩ := flat_split h l j _ (List.getElem?_eq_getElem hfl)
  have hlt := (List.getElem?_eq_some_iff.1 h1).1
  rw [get_flatK _ _ _ _ (by simpa using hj), List.getElem?_eq_getElem hfl]
  have e1 : l.toArray[j / 2]! = x := by
    rw [getElem!_pos l.toArray (j / 2) (by simpa using hlt)]
    simpa using (List.getElem?_eq_some_iff.1 h1).2
  rw [e1]
  obtain ⟨h3, h4⟩ := List.getElem?_eq_some_iff.1 h2
  rw [getElem!_pos (f x) (j % 2) h3, h4]
theorem own_holds {α : Type} [Inhabited α] {f : α → List Value} (h : ∀ x, (f x).length = 2) {w : World} {B g n c : Nat} {e : TypeId} {l : List α} (ho : w.ownsRow B e 2 (.slice (some ⟨g, 0, none⟩) n c) n (flat f l)) : HoldsK f 2 w g 0 l.toArray := by
  intro j hj
  have hl : l.length * 2 = n * 2 := by have := ho.1; rwa [flat_len h] at this
  have hj2 : j < l.length * 2 := by simpa using hj
  rw [Nat.zero_add]
  exact ⟨(ho.cellAt j (by omega)).trans (flatK_get h l j hj2), ho.frozenAt j⟩
theorem own_putK {α : Type} [Inhabited α] {f : α → List Value} (h : ∀ x, (f x).length = 2) {w : World} {B g n c q : Nat} {e : TypeId} {l m : List α} (ho : w.ownsRow B e 2 (.slice (some ⟨g, 0, none⟩) n c) n (flat f l)) (hm : m.length = n) :
    (putRowK f 2 (Sort.ahead w q) g 0 m.toArray).ownsRow B e 2 (.slice (some ⟨g, 0, none⟩) n c) n (flat f m) := by
  rcases ho.2 with ⟨e0, _⟩ | ⟨g', cap', cur, e0, hb, hg, hn, hc, hs, ht⟩
  · cases e0
  · injection e0 with e1 _ e3
    injection e1 with e1
    injection e1 with e1
    subst e1; subst e3
    refine ⟨by rw [flat_len h, hm], .inr ⟨g, c, putCells id 0 (flatK f 2 m.toArray) cur, rfl, hb, ?_, hn, hc, by simpa [putCells] using hs, ?_⟩⟩
    · simp [putRowK, putRow, mapBlock, Sort.ahead, Array.getElem?_modify, hg, onCells]
    · apply List.ext_getElem?
      intro j
      rw [List.getElem?_take, Array.getElem?_toList]
      by_cases hj : j < n * 2
      · have hjc : j < cur.size := by omega
        have hjm : j < m.length * 2 := by omega
        rw [if_pos hj, flatK_get h m j hjm]
        simp only [putCells, Array.getElem?_mapIdx, Array.getElem?_eq_getElem hjc, Option.map_some]
        rw [if_pos (by simp; omega)]
        rfl
      · rw [if_neg hj, List.getElem?_eq_none (by rw [flat_len h]; omega)]
theorem own_flat {w : World} {B g n c : Nat} {e : TypeId} {xs : List Value} (h : w.ownsRow B e 2 (.slice (some ⟨g, 0, none⟩) n c) n xs) (j : Nat) (u : Value) (hj : xs[j]? = some u) : w.cell? ((⟨g, 0, none⟩ : Addr).add j) = some u := by
  have := (List.getElem?_eq_some_iff.1 hj).1
  rw [Addr.add_lit, Nat.zero_add]
  exact (h.cellAt j (by have := h.1; omega)).trans hj
instance : Inhabited ETy := ⟨.mk 0 false false (.int .i64 0) [] (.int .i64 0) []⟩
instance : Inhabited Pt := ⟨⟨0, 0, false, default⟩⟩
instance : Inhabited Pr := ⟨⟨0, 0, default, 0, 0, default⟩⟩
theorem Pt.kidsCall {W : World} {x : Pt} {ks : List Pt} (h : Pt.Kids W x ks) : Calls Tryd.prog 35 #[.agg x.cells.toArray] W fun r w' => ∃ g c, r = .returned (.slice (some ⟨g, 0, none⟩) ks.length c) ∧ w'.ownsRow W.heap.size 53 2 (.slice (some ⟨g, 0, none⟩) ks.length c) ks.length (flat Pt.cells ks) ∧ Below W.heap.size W w' := by
  rw [h.2.2]
  refine (kids_any x W h.1 h.2.1).mono ?_
  rintro e w' ⟨g, c, n, xs, rfl, hn, ho, hf, hb⟩
  rw [List.length_map] at hn
  subst hn
  rw [filled_flat (fun _ => rfl) ho.1 hf] at ho
  exact ⟨g, c, rfl, ho, hb⟩
theorem Pr.kidsCall {W : World} {x : Pr} {ks : List Pr} (h : Pr.Kids W x ks) : Calls Tryd.prog 43 #[.agg x.cells.toArray] W fun r w' => ∃ g c, r = .returned (.slice (some ⟨g, 0, none⟩) ks.length c) ∧ w'.ownsRow W.heap.size 59 2 (.slice (some ⟨g, 0, none⟩) ks.length c) ks.length (flat Pr.cells ks) ∧ Below W.heap.size W w' := by
  rw [h.2.2.2.2]
  refine (prKids_any x W h.1 h.2.1 h.2.2.1 h.2.2.2.1).mono ?_
  rintro e w' ⟨g, c, n, xs, rfl, hn, ho, hf, hb⟩
  rw [List.length_map] at hn
  subst hn
  rw [filled_flat (fun _ => rfl) ho.1 hf] at ho
  exact ⟨g, c, rfl, ho, hb⟩
theorem Pt.two (x : Pt) : x.cells.length = 2 := rfl
theorem Pr.two (x : Pr) : x.cells.length = 2 := rfl
theorem Pt.ones (l : List Pt) : ∀ u ∈ flat Pt.cells l, u.oneCell' = true := by
  intro u hu
  obtain ⟨x, _, hx⟩ := List.mem_flatMap.1 hu
  unfold Pt.cells at hx
  simp at hx
  rcases hx with rfl | rfl <;> rfl
theorem Pr.ones (l : List Pr) : ∀ u ∈ flat Pr.cells l, u.oneCell' = true := by
  intro u hu
  obtain ⟨x, _, hx⟩ := List.mem_flatMap.1 hu
  unfold Pr.cells at hx
  simp at hx
  rcases hx with rfl | rfl <;> rfl
theorem Pt.w_pos (x : Pt) : 1 ≤ x.w := nT_ge _
theorem Pr.w_pos (x : Pr) : 1 ≤ x.w := nT_ge _

theorem rev_Pt (ks : List Pt) (w : World) (B g c : Nat) (h : w.ownsRow B 53 2 (.slice (some ⟨g, 0, none⟩) ks.length c) ks.length (flat Pt.cells ks)) :
    Calls Tryd.prog 57 #[.slice (some ⟨g, 0, none⟩) ks.length c] w fun e w' => e = .returned (.tuple #[]) ∧ w'.ownsRow B 53 2 (.slice (some ⟨g, 0, none⟩) ks.length c) ks.length (flat Pt.cells ks.reverse) ∧ Below B w w' := by
  have hg : B ≤ g ∧ ks.length ≤ maxLen := by
    obtain ⟨_, ⟨e, _⟩ | ⟨g', cap, cur, e, h3, _, h4, h5, _⟩⟩ := id h
    · cases e
    · injection e with e1 _ e3
      injection e1 with e1
      injection e1 with e1
      subst e1; exact ⟨h3, by omega⟩
  have hm : maxLen ≤ 9223372036854775807 := by unfold maxLen; omega
  refine (Proofs.AnyQ.slices_Reverse Tryd.reversePt 2 Tryd.isAgg53 Tryd.sizeOf53 Pt.cells Pt.two (fun x v hv => Pt.ones [x] v (by unfold flat; simpa using hv)) g 0 c ks.toArray w (own_holds Pt.two h) (by simp; omega)).mono ?_
  rintro e w' ⟨rfl, q, rfl⟩
  refine ⟨rfl, ?_, below_putRow (Below.refl _ _) hg.1⟩
  rw [List.reverse_toArray]
  exact own_putK Pt.two h (by simp)
theorem rev_Pr (ks : List Pr) (w : World) (B g c : Nat) (h : w.ownsRow B 59 2 (.slice (some ⟨g, 0, none⟩) ks.length c) ks.length (flat Pr.cells ks)) :
    Calls Tryd.prog 60 #[.slice (some ⟨g, 0, none⟩) ks.length c] w fun e w' => e = .returned (.tuple #[]) ∧ w'.ownsRow B 59 2 (.slice (some ⟨g, 0, none⟩) ks.length c) ks.length (flat Pr.cells ks.reverse) ∧ Below B w w' := by
  have hg : B ≤ g ∧ ks.length ≤ maxLen := by
    obtain ⟨_, ⟨e, _⟩ | ⟨g', cap, cur, e, h3, _, h4, h5, _⟩⟩ := id h
    · cases e
    · injection e with e1 _ e3
      injection e1 with e1
      injection e1 with e1
      subst e1; exact ⟨h3, by omega⟩
  have hm : maxLen ≤ 9223372036854775807 := by unfold maxLen; omega
  refine (Proofs.AnyQ.slices_Reverse Tryd.reversePr 2 Tryd.isAgg59 Tryd.sizeOf59 Pr.cells Pr.two (fun x v hv => Pr.ones [x] v (by unfold flat; simpa using hv)) g 0 c ks.toArray w (own_holds Pr.two h) (by simp; omega)).mono ?_
  rintro e w' ⟨rfl, q, rfl⟩
  refine ⟨rfl, ?_, below_putRow (Below.refl _ _) hg.1⟩
  rw [List.reverse_toArray]
  exact own_putK Pr.two h (by simp)

set_option maxHeartbeats 4000000 in
set_option maxRecDepth 100000 in
theorem walks_Pt (n : Nat) (hn3 : 3 ≤ n) (x0 : Pt) (B1 B2 : Nat) (w : World) (h1 : w.heap[B1]? = some (.cells x0.cells.toArray 53 (0, 0))) (h2 : Boxed w B2 67 (.func (.func 35) #[] #[])) (hw : x0.w ≤ 1048576) :
    Walks Fence.wide n Tryd.prog 56 #[.pointer (some ⟨B1, 0, none⟩), .pointer (some ⟨B2, 0, none⟩)] 53 67 Pt.cells Pt.Kids x0 w := by
  intro l J Jx W hW hJ hJx hY h0
  obtain ⟨i0, hi, hz0, hz1, hz2⟩ := info_parts pt_info
  have b1 : W.heap[B1]? = some (.cells x0.cells.toArray 53 (0, 0)) := (hW.block B1 (Array.getElem?_eq_some_iff.1 h1).1).trans h1
  have b2 : Boxed W B2 67 (.func (.func 35) #[] #[]) := (hW.block B2 h2.lt).trans h2
  clear h1 h2 hW
  refine callsIn_of_wp Tryd.func56 rfl trivial ?_ rfl
  simp only [Tryd.ntmps56, List.size_toArray, List.length_cons, List.length_nil, Nat.reduceAdd, Nat.reduceSub, Array.replicate_succ, Array.replicate_zero, List.push_toArray, List.append_toArray, List.nil_append, List.cons_append]
  have c0 : W.cell? ⟨B1, 0, none⟩ = some (.pointer (some ⟨x0.b, x0.o, none⟩)) := by rw [Lib.cell_of_heap b1]; rfl
  have c1 : W.cell? ⟨B1, 1, none⟩ = some (.bool x0.ins) := by rw [Lib.cell_of_heap b1]; rfl
  have hb1 : Below W.heap.size W (W.alloc (.cells x0.cells.toArray 53 (0, 0))) := (Below.refl _ _).alloc (Nat.le_refl _) _
  have O0 : Hid ((W.alloc (.cells x0.cells.toArray 53 (0, 0))).ownsRow W.heap.size 53 2 (.slice (some ⟨W.heap.size, 0, none⟩) 1 1) 1 (flat Pt.cells [x0])) := hid
    ⟨rfl, .inr ⟨W.heap.size, 1, _, rfl, Nat.le_refl _, heap_alloc_new _ _, Nat.le_refl _, by unfold maxLen; omega, rfl, rfl⟩⟩
  have J0 := hid (hJ _ _ _ h0 (Iter.of_below hb1))
  have X0 := hid (boxed_below b2 hb1)
  have HJ := hid hJ
  have HJx := hid hJx
  have HY := hid hY
  clear hJ hJx hY h0 b2 hb1 b1
  change Hid ((W.alloc (.cells #[.pointer (some ⟨x0.b, x0.o, none⟩), .bool x0.ins] 53 (0, 0))).ownsRow _ _ _ _ _ _) at O0
  change Hid (J [x0] (W.alloc (.cells #[.pointer (some ⟨x0.b, x0.o, none⟩), .bool x0.ins] 53 (0, 0)))) at J0
  change Hid (Boxed (W.alloc (.cells #[.pointer (some ⟨x0.b, x0.o, none⟩), .bool x0.ins] 53 (0, 0))) _ _ _) at X0
  gi_wp2
  generalize hV : World.alloc W _ = V at *
  have HS1 : Hid (W.heap.size ≤ V.heap.size) := hid (by rw [← hV]; simp)
  clear hV c0 c1
  gi_loopg [4] x0.w (fun gf u wr => ∃ st : List Pt, Hid (J st wr) ∧ Hid (wr.ownsRow W.heap.size 53 2 u st.length (flat Pt.cells st.reverse)) ∧ Hid (Boxed wr B2 67 (.func (.func 35) #[] #[])) ∧ Hid (W.heap.size ≤ wr.heap.size) ∧ wAll Pt.w st ≤ gf ∧ wAll Pt.w st ≤ 1048576)
  case atStart => exact ⟨[x0], J0, O0, X0, HS1, by simp [wAll], by simp [wAll]; exact hw⟩
  case round =>
    obtain ⟨st, hj, ho, hx, hs, hg, hm⟩ := hrel
    clear O0 J0 X0 HS1
    match st with
    | [] =>
      obtain ⟨p, cap, rfl⟩ := own_zero ho.out
      clear ho hx HJ HJx HY
      gi_wp2
      go_end0
      exact ⟨⟨_, rfl⟩, .inl hj.out⟩
    | x :: r =>
      have hlen : (x :: r).length = r.reverse.length + 1 := by simp
      have hO := ho.out
      rw [List.reverse_cons, hlen] at hO
      obtain ⟨g, cap, rfl, hg1, hg2, hnc⟩ := own_some hO
      have hc0 : wr.cell? ⟨g, r.reverse.length * 2, none⟩ = some (.pointer (some ⟨x.b, x.o, none⟩)) := (hO.cellAt _ (by omega)).trans (flat_last Pt.two r.reverse x 0 _ rfl)
      have hc1 : wr.cell? ⟨g, r.reverse.length * 2 + 1, none⟩ = some (.bool x.ins) := (hO.cellAt _ (by omega)).trans (flat_last Pt.two r.reverse x 1 _ rfl)
      have hP := own_pop hO
      rw [flat_app, List.take_append_of_le_length (by rw [flat_len Pt.two]; omega), List.take_of_length_le (by rw [flat_len Pt.two]; omega)] at hP
      have hrl := wAll_len Pt.w Pt.w_pos r
      have hwx := Pt.w_pos x
      rw [wAll] at hg hm
      have hn : r.reverse.length ≤ 1048576 := by simp; omega
      have HP := hid hP
      generalize hN : r.reverse.length = N at *
      have HN := hid hN
      have hb2 : Below wr.heap.size wr (wr.alloc (.cells #[.pointer (some ⟨x.b, x.o, none⟩), .bool x.ins] 53 (0, 0))) := (Below.refl _ _).alloc (Nat.le_refl _) _
      obtain ⟨fn, tmps, assign, body, hy, hR⟩ := HY.out x r _ (HJ.out _ _ _ hj.out (Iter.of_below hb2))
      change (Instr.yield l #[.agg #[.pointer (some ⟨x.b, x.o, none⟩), .bool x.ins]]).run _ _ = _ at hy
      have P2 := own_below HP.out hb2
      have X2 := boxed_below hx.out hb2
      have L2 := World.alloc_heap_new wr (.cells #[.pointer (some ⟨x.b, x.o, none⟩), .bool x.ins] 53 (0, 0))
      have HP2 := hid P2
      have HX2 := hid X2
      have HL2 := hid L2
      have HS2 := hid (Nat.le_trans hs.out hb2.size)
      clear hO ho hlen hrl hP hN HP hx hj P2 X2 L2 hb2 HY
      gi_wp2
      refine ⟨fun _ => by omega, ?_⟩
      refine hR.mono ?_
      generalize World.alloc wr _ = W2 at *
      rintro e W3 (⟨rfl, hk3, hsz3, ks, hks, hj3⟩ | ⟨rfl, hjx⟩)
      · have P3 := hid (own_types HP2.out hk3)
        have X3 := hid ((hk3 B2 _ (0, 0)).2 HX2.out)
        have L3 := (hk3 wr.heap.size _ (0, 0)).1 HL2.out
        have d0 : W3.cell? ⟨wr.heap.size, 0, none⟩ = some (.pointer (some ⟨x.b, x.o, none⟩)) := by rw [Lib.cell_of_heap L3]; rfl
        have d1 : W3.cell? ⟨wr.heap.size, 1, none⟩ = some (.bool x.ins) := by rw [Lib.cell_of_heap L3]; rfl
        have d2 : W3.cell? ⟨B2, 0, none⟩ = some (.func (.func 35) #[] #[]) := by rw [Lib.cell_of_heap X3.out]; rfl
        have CK : CallsIn Fence.wide (n - 1) Tryd.prog 35 #[.agg #[.pointer (some ⟨x.b, x.o, none⟩), .bool x.ins]] W3 fun r w' => ∃ g c, r = .returned (.slice (some ⟨g, 0, none⟩) ks.length c) ∧ w'.ownsRow W3.heap.size 53 2 (.slice (some ⟨g, 0, none⟩) ks.length c) ks.length (flat Pt.cells ks) ∧ Below W3.heap.size W3 w' := callsIn_wide.2 (Pt.kidsCall hks)
        have hkw : wAll Pt.w ks + 1 ≤ x.w := by
          have := Pt.kids_w x
          first | (rw [hks.2.2]; exact this) | (rw [hks.2.2.2.2]; exact this)
        have HJ3 := hid hj3
        have HCK := hid CK
        have HS3 := hid (Nat.le_trans HS2.out hsz3)
        clear hk3 hks hj3 L3 CK HP2 HX2 HL2 HS2 hy hR hc0 hc1
        gi_wp2
        refine ⟨trivial, fun _ => by omega, ?_⟩
        refine HCK.out.mono ?_
        rintro e W4 ⟨g4, c, rfl, ho4, hb4⟩
        have CR : CallsIn Fence.wide (n - 1) Tryd.prog 57 #[.slice (some ⟨g4, 0, none⟩) ks.length c] W4 fun e w' => e = .returned (.tuple #[]) ∧ w'.ownsRow W3.heap.size 53 2 (.slice (some ⟨g4, 0, none⟩) ks.length c) ks.length (flat Pt.cells ks.reverse) ∧ Below W3.heap.size W4 w' := callsIn_wide.2 (rev_Pt ks W4 _ g4 c ho4)
        have HCR := hid CR
        have HB4 := hid hb4
        clear CR HCK ho4 hb4 d0 d1 d2
        gi_wp2
        refine ⟨trivial, fun _ => by omega, ?_⟩
        refine HCR.out.mono ?_
        rintro e W5 ⟨rfl, ho5, hb5⟩
        have hb4 := HB4.out.trans hb5
        have P4 := hid (own_below P3.out hb4)
        have X4 := hid (boxed_below X3.out hb4)
        have J4 := hid (HJ.out _ _ _ HJ3.out (Iter.of_below hb4))
        have HS4 := hid (Nat.le_trans HS3.out hb4.size)
        have hfl := hid (own_flat ho5)
        have hkl := wAll_len Pt.w Pt.w_pos ks
        clear ho5 hb5 hb4 HB4 P3 X3 HJ3 HCR HS3
        gi_wp2_with (gi_at_builtin; go_loud (refine wpListIn_append_own _ rfl _ _ 97 rfl W.heap.size 53 i0 (.agg #[.pointer none, .bool false]) 2 16 Tryd.underlying97 hi hz0 hz1 hz2 rfl (by decide) _ N (flat Pt.cells r.reverse) rfl P4.out _ ks.length c (flat Pt.cells ks.reverse) rfl (by rw [flat_len Pt.two, List.length_reverse]) hfl.out (Pt.ones ks.reverse) (by unfold maxLen; omega) (by omega) HS4.out ?_); intro v' W5 hown' hgrow hnil; clear hnil)
        have J5 := hid (HJ.out _ _ _ J4.out (Iter.grown hgrow (own_block P4.out)))
        have X5 : Hid (Boxed W5 B2 67 (.func (.func 35) #[] #[])) := hid (X4.out.kept hgrow (Boxed.not_row X4.out (by decide) P4.out))
        have O5 : Hid (W5.ownsRow W.heap.size 53 2 v' (ks ++ r).length (flat Pt.cells (ks ++ r).reverse)) := hid (by
          rw [List.reverse_append, flat_app, List.length_append, Nat.add_comm ks.length, show r.length = N by have := HN.out; rwa [List.length_reverse] at this]
          exact hown')
        have S5 := hid (Nat.le_trans HS4.out hgrow.size)
        clear hown' hgrow P4 X4 J4 hfl HS4
        gi_wp2
        gi_roundg (gk - 1)
        case measure => omega
        case rel => exact ⟨ks ++ r, J5, O5, X5, S5, by rw [wAll_app]; omega, by rw [wAll_app]; omega⟩
      · gi_wp2
        exact bodyPost_ret (results_none rfl _ _ _) rfl ⟨⟨_, rfl⟩, .inr hjx⟩
set_option maxHeartbeats 4000000 in
set_option maxRecDepth 100000 in
theorem walks_Pr (n : Nat) (hn3 : 3 ≤ n) (x0 : Pr) (B1 B2 : Nat) (w : World) (h1 : w.heap[B1]? = some (.cells x0.cells.toArray 59 (0, 0))) (h2 : Boxed w B2 74 (.func (.func 43) #[] #[])) (hw : x0.w ≤ 1048576) :
    Walks Fence.wide n Tryd.prog 59 #[.pointer (some ⟨B1, 0, none⟩), .pointer (some ⟨B2, 0, none⟩)] 59 74 Pr.cells Pr.Kids x0 w := by
  intro l J Jx W hW hJ hJx hY h0
  obtain ⟨i0, hi, hz0, hz1, hz2⟩ := info_parts pr_info
  have b1 : W.heap[B1]? = some (.cells x0.cells.toArray 59 (0, 0)) := (hW.block B1 (Array.getElem?_eq_some_iff.1 h1).1).trans h1
  have b2 : Boxed W B2 74 (.func (.func 43) #[] #[]) := (hW.block B2 h2.lt).trans h2
  clear h1 h2 hW
  refine callsIn_of_wp Tryd.func59 rfl trivial ?_ rfl
  simp only [Tryd.ntmps59, List.size_toArray, List.length_cons, List.length_nil, Nat.reduceAdd, Nat.reduceSub, Array.replicate_succ, Array.replicate_zero, List.push_toArray, List.append_toArray, List.nil_append, List.cons_append]
  have c0 : W.cell? ⟨B1, 0, none⟩ = some (.pointer (some ⟨x0.b, x0.o, none⟩)) := by rw [Lib.cell_of_heap b1]; rfl
  have c1 : W.cell? ⟨B1, 1, none⟩ = some (.pointer (some ⟨x0.c, x0.q, none⟩)) := by rw [Lib.cell_of_heap b1]; rfl
  have hb1 : Below W.heap.size W (W.alloc (.cells x0.cells.toArray 59 (0, 0))) := (Below.refl _ _).alloc (Nat.le_refl _) _
  have O0 : Hid ((W.alloc (.cells x0.cells.toArray 59 (0, 0))).ownsRow W.heap.size 59 2 (.slice (some ⟨W.heap.size, 0, none⟩) 1 1) 1 (flat Pr.cells [x0])) := hid
    ⟨rfl, .inr ⟨W.heap.size, 1, _, rfl, Nat.le_refl _, heap_alloc_new _ _, Nat.le_refl _, by unfold maxLen; omega, rfl, rfl⟩⟩
  have J0 := hid (hJ _ _ _ h0 (Iter.of_below hb1))
  have X0 := hid (boxed_below b2 hb1)
  have HJ := hid hJ
  have HJx := hid hJx
  have HY := hid hY
  clear hJ hJx hY h0 b2 hb1 b1
  change Hid ((W.alloc (.cells #[.pointer (some ⟨x0.b, x0.o, none⟩), .pointer (some ⟨x0.c, x0.q, none⟩)] 59 (0, 0))).ownsRow _ _ _ _ _ _) at O0
  change Hid (J [x0] (W.alloc (.cells #[.pointer (some ⟨x0.b, x0.o, none⟩), .pointer (some ⟨x0.c, x0.q, none⟩)] 59 (0, 0)))) at J0
  change Hid (Boxed (W.alloc (.cells #[.pointer (some ⟨x0.b, x0.o, none⟩), .pointer (some ⟨x0.c, x0.q, none⟩)] 59 (0, 0))) _ _ _) at X0
  gi_wp2
  generalize hV : World.alloc W _ = V at *
  have HS1 : Hid (W.heap.size ≤ V.heap.size) := hid (by rw [← hV]; simp)
  clear hV c0 c1
  gi_loopg [4] x0.w (fun gf u wr => ∃ st : List Pr, Hid (J st wr) ∧ Hid (wr.ownsRow W.heap.size 59 2 u st.length (flat Pr.cells st.reverse)) ∧ Hid (Boxed wr B2 74 (.func (.func 43) #[] #[])) ∧ Hid (W.heap.size ≤ wr.heap.size) ∧ wAll Pr.w st ≤ gf ∧ wAll Pr.w st ≤ 1048576)
  case atStart => exact ⟨[x0], J0, O0, X0, HS1, by simp [wAll], by simp [wAll]; exact hw⟩
  case round =>
    obtain ⟨st, hj, ho, hx, hs, hg, hm⟩ := hrel
    clear O0 J0 X0 HS1
    match st with
    | [] =>
      obtain ⟨p, cap, rfl⟩ := own_zero ho.out
      clear ho hx HJ HJx HY
      gi_wp2
      go_end0
      exact ⟨⟨_, rfl⟩, .inl hj.out⟩
    | x :: r =>
      have hlen : (x :: r).length = r.reverse.length + 1 := by simp
      have hO := ho.out
      rw [List.reverse_cons, hlen] at hO
      obtain ⟨g, cap, rfl, hg1, hg2, hnc⟩ := own_some hO
      have hc0 : wr.cell? ⟨g, r.reverse.length * 2, none⟩ = some (.pointer (some ⟨x.b, x.o, none⟩)) := (hO.cellAt _ (by omega)).trans (flat_last Pr.two r.reverse x 0 _ rfl)
      have hc1 : wr.cell? ⟨g, r.reverse.length * 2 + 1, none⟩ = some (.pointer (some ⟨x.c, x.q, none⟩)) := (hO.cellAt _ (by omega)).trans (flat_last Pr.two r.reverse x 1 _ rfl)
      have hP := own_pop hO
      rw [flat_app, List.take_append_of_le_length (by rw [flat_len Pr.two]; omega), List.take_of_length_le (by rw [flat_len Pr.two]; omega)] at hP
      have hrl := wAll_len Pr.w Pr.w_pos r
      have hwx := Pr.w_pos x
      rw [wAll] at hg hm
      have hn : r.reverse.length ≤ 1048576 := by simp; omega
      have HP := hid hP
      generalize hN : r.reverse.length = N at *
      have HN := hid hN
      have hb2 : Below wr.heap.size wr (wr.alloc (.cells #[.pointer (some ⟨x.b, x.o, none⟩), .pointer (some ⟨x.c, x.q, none⟩)] 59 (0, 0))) := (Below.refl _ _).alloc (Nat.le_refl _) _
      obtain ⟨fn, tmps, assign, body, hy, hR⟩ := HY.out x r _ (HJ.out _ _ _ hj.out (Iter.of_below hb2))
      change (Instr.yield l #[.agg #[.pointer (some ⟨x.b, x.o, none⟩), .pointer (some ⟨x.c, x.q, none⟩)]]).run _ _ = _ at hy
      have P2 := own_below HP.out hb2
      have X2 := boxed_below hx.out hb2
      have L2 := World.alloc_heap_new wr (.cells #[.pointer (some ⟨x.b, x.o, none⟩), .pointer (some ⟨x.c, x.q, none⟩)] 59 (0, 0))
      have HP2 := hid P2
      have HX2 := hid X2
      have HL2 := hid L2
      have HS2 := hid (Nat.le_trans hs.out hb2.size)
      clear hO ho hlen hrl hP hN HP hx hj P2 X2 L2 hb2 HY
      gi_wp2
      refine ⟨fun _ => by omega, ?_⟩
      refine hR.mono ?_
      generalize World.alloc wr _ = W2 at *
      rintro e W3 (⟨rfl, hk3, hsz3, ks, hks, hj3⟩ | ⟨rfl, hjx⟩)
      · have P3 := hid (own_types HP2.out hk3)
        have X3 := hid ((hk3 B2 _ (0, 0)).2 HX2.out)
        have L3 := (hk3 wr.heap.size _ (0, 0)).1 HL2.out
        have d0 : W3.cell? ⟨wr.heap.size, 0, none⟩ = some (.pointer (some ⟨x.b, x.o, none⟩)) := by rw [Lib.cell_of_heap L3]; rfl
        have d1 : W3.cell? ⟨wr.heap.size, 1, none⟩ = some (.pointer (some ⟨x.c, x.q, none⟩)) := by rw [Lib.cell_of_heap L3]; rfl
        have d2 : W3.cell? ⟨B2, 0, none⟩ = some (.func (.func 43) #[] #[]) := by rw [Lib.cell_of_heap X3.out]; rfl
        have CK : CallsIn Fence.wide (n - 1) Tryd.prog 43 #[.agg #[.pointer (some ⟨x.b, x.o, none⟩), .pointer (some ⟨x.c, x.q, none⟩)]] W3 fun r w' => ∃ g c, r = .returned (.slice (some ⟨g, 0, none⟩) ks.length c) ∧ w'.ownsRow W3.heap.size 59 2 (.slice (some ⟨g, 0, none⟩) ks.length c) ks.length (flat Pr.cells ks) ∧ Below W3.heap.size W3 w' := callsIn_wide.2 (Pr.kidsCall hks)
        have hkw : wAll Pr.w ks + 1 ≤ x.w := by
          have := Pr.kids_w x
          first | (rw [hks.2.2]; exact this) | (rw [hks.2.2.2.2]; exact this)
        have HJ3 := hid hj3
        have HCK := hid CK
        have HS3 := hid (Nat.le_trans HS2.out hsz3)
        clear hk3 hks hj3 L3 CK HP2 HX2 HL2 HS2 hy hR hc0 hc1
        gi_wp2
        refine ⟨trivial, fun _ => by omega, ?_⟩
        refine HCK.out.mono ?_
        rintro e W4 ⟨g4, c, rfl, ho4, hb4⟩
        have CR : CallsIn Fence.wide (n - 1) Tryd.prog 60 #[.slice (some ⟨g4, 0, none⟩) ks.length c] W4 fun e w' => e = .returned (.tuple #[]) ∧ w'.ownsRow W3.heap.size 59 2 (.slice (some ⟨g4, 0, none⟩) ks.length c) ks.length (flat Pr.cells ks.reverse) ∧ Below W3.heap.size W4 w' := callsIn_wide.2 (rev_Pr ks W4 _ g4 c ho4)
        have HCR := hid CR
        have HB4 := hid hb4
        clear CR HCK ho4 hb4 d0 d1 d2
        gi_wp2
        refine ⟨trivial, fun _ => by omega, ?_⟩
        refine HCR.out.mono ?_
        rintro e W5 ⟨rfl, ho5, hb5⟩
        have hb4 := HB4.out.trans hb5
        have P4 := hid (own_below P3.out hb4)
        have X4 := hid (boxed_below X3.out hb4)
        have J4 := hid (HJ.out _ _ _ HJ3.out (Iter.of_below hb4))
        have HS4 := hid (Nat.le_trans HS3.out hb4.size)
        have hfl := hid (own_flat ho5)
        have hkl := wAll_len Pr.w Pr.w_pos ks
        clear ho5 hb5 hb4 HB4 P3 X3 HJ3 HCR HS3
        gi_wp2_with (gi_at_builtin; go_loud (refine wpListIn_append_own _ rfl _ _ 101 rfl W.heap.size 59 i0 (.agg #[.pointer none, .pointer none]) 2 16 Tryd.underlying101 hi hz0 hz1 hz2 rfl (by decide) _ N (flat Pr.cells r.reverse) rfl P4.out _ ks.length c (flat Pr.cells ks.reverse) rfl (by rw [flat_len Pr.two, List.length_reverse]) hfl.out (Pr.ones ks.reverse) (by unfold maxLen; omega) (by omega) HS4.out ?_); intro v' W5 hown' hgrow hnil; clear hnil)
        have J5 := hid (HJ.out _ _ _ J4.out (Iter.grown hgrow (own_block P4.out)))
        have X5 : Hid (Boxed W5 B2 74 (.func (.func 43) #[] #[])) := hid (X4.out.kept hgrow (Boxed.not_row X4.out (by decide) P4.out))
        have O5 : Hid (W5.ownsRow W.heap.size 59 2 v' (ks ++ r).length (flat Pr.cells (ks ++ r).reverse)) := hid (by
          rw [List.reverse_append, flat_app, List.length_append, Nat.add_comm ks.length, show r.length = N by have := HN.out; rwa [List.length_reverse] at this]
          exact hown')
        have S5 := hid (Nat.le_trans HS4.out hgrow.size)
        clear hown' hgrow P4 X4 J4 hfl HS4
        gi_wp2
        gi_roundg (gk - 1)
        case measure => omega
        case rel => exact ⟨ks ++ r, J5, O5, X5, S5, by rw [wAll_app]; omega, by rw [wAll_app]; omega⟩
      · gi_wp2
        exact bodyPost_ret (results_none rfl _ _ _) rfl ⟨⟨_, rfl⟩, .inr hjx⟩
end Go.Proofs.YtannfhbocfghkaaDoor.EnvC

/- Texts joined: EnvZM, EnvZN. -/
import Derived.Test.YtannfhbocfghkaaDoorJ05
import Derived.StillTailTactics
import Derived.Deep.RegionHeld3
import Derived.Deep.Cut
import Derived.Deep.CutRange
import Derived.Deep.AppendLies
import Derived.Test.YtannfhbocfghkaaDoorJ03
/- (env.pair).join -/
namespace Go.Proofs.YtannfhbocfghkaaDoor.EnvC
open Go Go.RowKit Go.Shelf Go.Lib Go.Sort Go.Proofs.YtannfhbocfghkaaDoor.EnvP

theorem mem_merge : ∀ {l m : List Ln} {x : Ln}, x ∈ mergeL l m → x ∈ l ∨ x ∈ m
  | [], m, x, h => by rw [merge_end (.inl rfl)] at h; exact .inr (by simpa using h)
  | a :: l, [], x, h => by rw [merge_end (.inr rfl)] at h; exact .inl (by simpa using h)
  | a :: l, b :: m, x, h => by
    rw [mergeL] at h
    split at h
    · rcases List.mem_cons.1 h with h | h
      · exact .inl (by simp [h])
      · exact (mem_merge h).imp (List.mem_cons_of_mem _) id
    · split at h
      · rcases List.mem_cons.1 h with h | h
        · exact .inl (by simp [h])
        · exact (mem_merge h).imp (List.mem_cons_of_mem _) (List.mem_cons_of_mem _)
      · rcases List.mem_cons.1 h with h | h
        · exact .inr (by simp [h])
        · exact (mem_merge h).imp id (List.mem_cons_of_mem _)
termination_by l m => l.length + m.length
/-- rows of this type are as they were -/
def RowKept (T : TypeId) (W W' : World) : Prop := ∀ (k : Nat) (cs : Array Value) (f : Nat × Nat), W.heap[k]? = some (.cells cs T f) → W'.heap[k]? = some (.cells cs T f)
theorem RowKept.trans {T : TypeId} {A B C : World} (h : RowKept T A B) (k : RowKept T B C) : RowKept T A C := fun b cs f e => k b cs f (h b cs f e)
theorem RowKept.refl (T : TypeId) (A : World) : RowKept T A A := fun _ _ _ e => e
theorem RowKept.of_below {T : TypeId} {A B : World} (h : Below A.heap.size A B) : RowKept T A B := fun k _ _ e => (h.block k (Array.getElem?_eq_some_iff.1 e).1).trans e
theorem RowKept.put {T U : TypeId} {W : World} {b j : Nat} {cs : Array Value} {v : Value} (h : W.heap[b]? = some (.cells cs U (0, 0))) (hT : U ≠ T) : RowKept T W (W.setCell ⟨b, j, none⟩ v) := fun k ds f e => by
  have hk : k ≠ b := fun ek => by subst ek; rw [h] at e; injection e with e; injection e with _ e _; exact hT e
  exact (Below.heap_setCell W ⟨b, j, none⟩ v k hk).trans e
theorem own_row {T : TypeId} {w w' : World} {base size n : Nat} {v : Value} {xs : List Value} (h : w.ownsRow base T size v n xs) (k : RowKept T w w') : w'.ownsRow base T size v n xs := by
  obtain ⟨h1, h2 | ⟨g, cap, cur, h2, h3, h4, h5⟩⟩ := h
  · exact ⟨h1, .inl h2⟩
  · exact ⟨h1, .inr ⟨g, cap, cur, h2, h3, k g cur (0, 0) h4, h5⟩⟩
/-- a loan whose steps lie in a row of their own, as long as rows of ints are as they were -/
def HeldLn (W : World) (l : Ln) : Prop := ∀ W', RowKept 3 W W' → l.pl.In W'
def withSt (l : Ln) (v : Value) : Ln := ⟨l.life, ⟨l.pl.var, v, l.pl.steps⟩, l.mt⟩
theorem alikes_set : ∀ {L M : List Ln} {i : Nat} {l : Ln} (v : Value), alikes L M = true → L[i]? = some l → alikes (L.set i (withSt l v)) M = true
  | [], _, i, l, v, _, h => by simp at h
  | a :: L, [], i, l, v, h, _ => by cases h
  | a :: L, b :: M, 0, l, v, h, e => by
    simp at e; subst e
    rw [alikes, Bool.and_eq_true] at h
    rw [List.set_cons_zero, alikes, h.2, Bool.and_true]
    exact h.1
  | a :: L, b :: M, i + 1, l, v, h, e => by
    rw [alikes, Bool.and_eq_true] at h
    rw [List.set_cons_succ, alikes, h.1, alikes_set v h.2 (by simpa using e)]; rfl
theorem cells_set : ∀ {L : List Ln} {i : Nat} {l : Ln} (v : Value), L[i]? = some l → ((L.set i (withSt l v)).map Ln.cells).flatten = ((L.map Ln.cells).flatten).set (i * 4 + 2) v
  | [], i, l, v, h => by simp at h
  | a :: L, 0, l, v, e => by
    simp at e; subst e
    rfl
  | a :: L, i + 1, l, v, e => by
    rw [List.set_cons_succ, List.map_cons, List.flatten_cons, cells_set v (by simpa using e), List.map_cons, List.flatten_cons, List.set_append_right _ _ (by show (4 : Nat) ≤ _; omega)]
    congr 2
    show (i * 4 + 2) = (i + 1) * 4 + 2 - 4
    omega

theorem ones_of {cs : List Value} (h : Ones cs) : ∀ u ∈ cs, u.oneCell' = true := by
  unfold Ones at h; rw [Array.all_eq_true'] at h; intro u hu; exact h u (by simpa using hu)
theorem own_same {w w' : World} {base size n : Nat} {e : TypeId} {v : Value} {xs : List Value} (h : w.ownsRow base e size v n xs) (k : ∀ r, v.ownBlock = some r → w'.heap[r]? = w.heap[r]?) : w'.ownsRow base e size v n xs := by
  obtain ⟨h1, h2 | ⟨g, cap, cur, rfl, h3, h4, h5⟩⟩ := h
  · exact ⟨h1, .inl h2⟩
  · exact ⟨h1, .inr ⟨g, cap, cur, rfl, h3, (k g rfl).trans h4, h5⟩⟩
theorem own_ptr {w : World} {base size n : Nat} {e : TypeId} {v : Value} {xs : List Value} (h : w.ownsRow base e size v n xs) (hn : 0 < n) : ∃ g cap, v = .slice (some ⟨g, 0, none⟩) n cap ∧ base ≤ g ∧ g < w.heap.size ∧ ∃ cs, w.heap[g]? = some (.cells cs e (0, 0)) := by
  obtain ⟨_, ⟨_, h2⟩ | ⟨g, cap, cur, rfl, h3, h4, _⟩⟩ := h
  · omega
  · exact ⟨g, cap, rfl, h3, (Array.getElem?_eq_some_iff.1 h4).1, cur, h4⟩
/-- what stands still but for one block, and what the call itself makes -/
def Fr (w0 w : World) (b : Nat) (T : TypeId) (cur : Array Value) (bx : Obj) (wx : World) : Prop :=
  wx.heap[b]? = some (.cells cur T (0, 0)) ∧ wx.heap[w.heap.size]? = some bx ∧ Below w0.heap.size w0 wx ∧ ∀ k, k < w.heap.size → k ≠ b → wx.heap[k]? = w.heap[k]?
theorem Fr.below {w0 w wx wy : World} {b : Nat} {T : TypeId} {cur : Array Value} {bx : Obj} (h : Fr w0 w b T cur bx wx) (k : Below wx.heap.size wx wy) : Fr w0 w b T cur bx wy := by
  obtain ⟨h1, h2, h3, h4⟩ := h
  have hz := (Array.getElem?_eq_some_iff.1 h2).1
  exact ⟨(k.block _ (Array.getElem?_eq_some_iff.1 h1).1).trans h1, (k.block _ hz).trans h2, h3.trans (k.mono h3.size), fun i hi hne => (k.block i (by omega)).trans (h4 i hi hne)⟩
theorem Fr.row {w0 w wx : World} {b g j : Nat} {T : TypeId} {cur : Array Value} {bx : Obj} (h : Fr w0 w b T cur bx wx) (v : Value) (hg : w.heap.size < g) (hb : b < w.heap.size) (h0 : w0.heap.size ≤ w.heap.size) : Fr w0 w b T cur bx (wx.setCell ⟨g, j, none⟩ v) := by
  obtain ⟨h1, h2, h3, h4⟩ := h
  have e : ∀ i, i ≤ w.heap.size → (wx.setCell ⟨g, j, none⟩ v).heap[i]? = wx.heap[i]? := fun i hi => Below.heap_setCell wx ⟨g, j, none⟩ v i (by show i ≠ g; omega)
  exact ⟨(e b (by omega)).trans h1, (e _ (Nat.le_refl _)).trans h2, h3.setCell (show w0.heap.size ≤ g by omega) _, fun i hi hne => (e i (by omega)).trans (h4 i hi hne)⟩
theorem Fr.drew {w0 w wx : World} {b : Nat} {T : TypeId} {cur : Array Value} {bx : Obj} (h : Fr w0 w b T cur bx wx) : Fr w0 w b T cur bx wx.drew := ⟨h.1, h.2.1, h.2.2.1.drew, h.2.2.2⟩

/-- the cells that a join leaves: its loans in rows of the call's own, its kids in a row of the call's own -/
structure Joined (w0 w : World) (b o : Nat) (T : TypeId) (cur : Array Value) (t u : ETy) (w' : World) : Prop where
  below : Below w0.heap.size w0 w'
  size : w.heap.size ≤ w'.heap.size
  same : ∀ k, k < w.heap.size → k ≠ b → w'.heap[k]? = w.heap[k]?
  made : ∃ cur' lv2 kv2 L, w'.heap[b]? = some (.cells cur' T (0, 0)) ∧ (∀ j, (j < o + 2 ∨ o + 5 ≤ j) → cur'[j]? = cur[j]?) ∧ cur'[o + 2]? = some (.bool (t.gone || u.gone)) ∧ cur'[o + 3]? = some lv2 ∧ cur'[o + 4]? = some kv2 ∧
    alikes L (mergeL t.loans u.loans) = true ∧ (∀ W', RowKept 44 w' W' → RowKept 3 w' W' → Lies W' 4 lv2 (L.map Ln.cells) ∧ ∀ x ∈ L, x.pl.In W') ∧
    w'.ownsRow w.heap.size 31 5 kv2 t.kids.length (t.kids.map ETy.cells).flatten

theorem joined_of {w0 w wr W5 : World} {b o N : Nat} {T : TypeId} {cur cur2 cur3 : Array Value} {bx : Obj} {k k' : Int} {m g m' g' : Bool} {lv kv lv' kv' lv2 kv2 : Value} {ls ls' L : List Ln} {ks ks' : List ETy} {B : Nat}
    (hTL : T ≠ 44) (hTI : T ≠ 3) (hb0 : w0.heap.size ≤ b) (hbs : b < w.heap.size) (hz : o + 4 < cur.size)
    (e2 : cur.setIfInBounds (o + 2) (.bool (g || g')) = cur2) (e3 : cur2.setIfInBounds (o + 3) lv2 = cur3)
    (hF : Fr w0 w b T cur3 bx wr) (hA : alikes L (mergeL ls ls') = true) (hl : L.length = N) (hO : wr.ownsRow B 44 4 lv2 N (L.map Ln.cells).flatten) (hH : ∀ j l, j < N → L[j]? = some l → HeldLn wr l)
    (hb5 : Below wr.heap.size wr W5) (h5 : W5.ownsRow wr.heap.size 31 5 kv2 ks.length (ks.map ETy.cells).flatten) :
    Joined w0 w b o T cur (.mk k m g lv ls kv ks) (.mk k' m' g' lv' ls' kv' ks') (W5.setCell ⟨b, o + 4, none⟩ kv2) := by
  have hF5 := hF.below hb5
  have hz5 := (Array.getElem?_eq_some_iff.1 hF5.2.1).1
  have hzr := (Array.getElem?_eq_some_iff.1 hF.2.1).1
  have kL : RowKept 44 wr (W5.setCell ⟨b, o + 4, none⟩ kv2) := (RowKept.of_below hb5).trans (RowKept.put hF5.1 hTL)
  have kI : RowKept 3 wr (W5.setCell ⟨b, o + 4, none⟩ kv2) := (RowKept.of_below hb5).trans (RowKept.put hF5.1 hTI)
  refine ⟨hF5.2.2.1.setCell hb0 _, by simp [World.setCell]; omega, fun i hi hne => (Below.heap_setCell W5 ⟨b, o + 4, none⟩ kv2 i hne).trans (hF5.2.2.2 i hi hne), cur3.setIfInBounds (o + 4) kv2, lv2, kv2, L, heap_setCell_same W5 b (o + 4) cur3 T kv2 hF5.1, ?_, ?_, ?_, ?_, hA, ?_, ?_⟩
  · intro j hj
    rw [Array.getElem?_setIfInBounds_ne (by omega), ← e3, Array.getElem?_setIfInBounds_ne (by omega), ← e2, Array.getElem?_setIfInBounds_ne (by omega)]
  · rw [Array.getElem?_setIfInBounds_ne (by omega), ← e3, Array.getElem?_setIfInBounds_ne (by omega), ← e2, Array.getElem?_setIfInBounds_self, if_pos (by omega)]; rfl
  · rw [Array.getElem?_setIfInBounds_ne (by omega), ← e3, Array.getElem?_setIfInBounds_self, if_pos (by rw [← e2, Array.size_setIfInBounds]; omega)]
  · rw [Array.getElem?_setIfInBounds_self, if_pos (by rw [← e3, ← e2, Array.size_setIfInBounds, Array.size_setIfInBounds]; omega)]
  · intro W' k1 k2
    refine ⟨own_lies (ln_len L) (by rw [List.length_map, hl]; exact own_row (own_row hO kL) k1), fun x hx => ?_⟩
    obtain ⟨j, hj⟩ := List.getElem?_of_mem hx
    exact hH j x (by rw [← hl]; exact (List.getElem?_eq_some_iff.1 hj).1) hj W' (kI.trans k2)
  · refine own_lower (own_same h5 fun r hr => Below.heap_setCell W5 ⟨b, o + 4, none⟩ kv2 r ?_) (by omega)
    have := (h5.lt r hr).1
    show r ≠ b
    omega

set_option maxHeartbeats 8000000 in
set_option maxRecDepth 100000 in
theorem join_any (b o c q : Nat) (w0 w : World) (T : TypeId) (hT : T = 31 ∨ T = 33) (cur : Array Value) (t u : ETy) (hw : Below w0.heap.size w0 w) (hb0 : w0.heap.size ≤ b) (hb : w.heap[b]? = some (.cells cur T (0, 0))) (hc : ∀ (j : Nat) (x : Value), t.cells[j]? = some x → cur[o + j]? = some x) (ht : t.In w0) (hu : TyAt w0 c q u) (hst : Small t) (hsu : Small u) :
    Calls Tryd.prog 29 #[.agg #[.pointer (some ⟨b, o, none⟩), .pointer (some ⟨c, q, none⟩)]] w fun e w' => e = .returned (.tuple #[]) ∧ Joined w0 w b o T cur t u w' := by
  obtain ⟨k, m, g, lv, ls, kv, ks⟩ := t
  obtain ⟨k', m', g', lv', ls', kv', ks'⟩ := u
  have hcz : o + 4 < cur.size := (Array.getElem?_eq_some_iff.1 (hc 4 kv rfl)).1
  have a2 : w.cell? ⟨b, o + 2, none⟩ = some (.bool g) := by rw [Lib.cell_of_heap hb]; exact hc 2 _ rfl
  have hcz0 : c < w0.heap.size := World.block_lt_of_cell? w0 _ (hu.1 2 _ rfl)
  have hcb : c ≠ b := by omega
  have b2 := later hw (hu.1 2 _ rfl)
  have b3 := later hw (hu.1 3 _ rfl)
  have a3 : w.cell? ⟨b, o + 3, none⟩ = some lv := by rw [Lib.cell_of_heap hb]; exact hc 3 _ rfl
  rw [ETy.In] at ht
  have hu2 := hu.2
  rw [ETy.In] at hu2
  have M := hid (fun (W : World) (hW : Below w0.heap.size w0 W) => merge_any ls ls' lv lv' W (ht.1.keep (Keeps.of_below hW)) (hu2.1.keep (Keeps.of_below hW)) (fun x hx => ⟨(ht.2.1 x hx).keep (Keeps.of_below hW), hst.loans.2 x hx⟩) (fun x hx => ⟨(hu2.2.1 x hx).keep (Keeps.of_below hW), hsu.loans.2 x hx⟩) hst.loans.1 hsu.loans.1)
  have HMI : Hid (LnsIn w0 (mergeL ls ls')) := hid (fun x hx => (mem_merge hx).elim (fun h => ⟨ht.2.1 x h, hst.loans.2 x h⟩) (fun h => ⟨hu2.2.1 x h, hsu.loans.2 x h⟩))
  have HML : Hid ((mergeL ls ls').length ≤ 2097152) := hid (by have h1 := merge_len ls ls'; have h2 := hst.loans.1; have h3 := hsu.loans.1; change ls.length ≤ _ at h2; change ls'.length ≤ _ at h3; omega)
  have CK := hid (fun (W : World) (hW : Below w0.heap.size w0 W) => clone_ty kv (ks.map ETy.cells) W (by intro c hc; obtain ⟨x, _, rfl⟩ := List.mem_map.1 hc; cases x; rfl) (by intro c hc y hy; obtain ⟨x, hx, rfl⟩ := List.mem_map.1 hc; exact ones_of (ty_ones ((ETy.ins_iff w0 ks).1 ht.2.2.2 x hx)) y hy) (ht.2.2.1.keep (Keeps.of_below hW)) (by rw [List.length_map]; have h := hst.kids.1; change ks.length ≤ _ at h; omega))
  obtain ⟨pl, cl, _, el⟩ := lies_slice ht.1
  obtain ⟨pl', cl', _, el'⟩ := lies_slice hu2.1
  subst el el'
  have hbs : b < w.heap.size := (Array.getElem?_eq_some_iff.1 hb).1
  have p1 : (w.alloc (.cells #[.pointer (some ⟨b, o, none⟩), .pointer (some ⟨c, q, none⟩)] 59)).cell? ⟨w.heap.size, 0, none⟩ = some (.pointer (some ⟨b, o, none⟩)) := box_cell w [.pointer (some ⟨b, o, none⟩), .pointer (some ⟨c, q, none⟩)] _ 0 _ rfl
  have p2 : (w.alloc (.cells #[.pointer (some ⟨b, o, none⟩), .pointer (some ⟨c, q, none⟩)] 59)).cell? ⟨w.heap.size, 1, none⟩ = some (.pointer (some ⟨c, q, none⟩)) := box_cell w [.pointer (some ⟨b, o, none⟩), .pointer (some ⟨c, q, none⟩)] _ 1 _ rfl
  have d1 : (w.alloc (.cells #[.pointer (some ⟨b, o, none⟩), .pointer (some ⟨c, q, none⟩)] 59)).cell? ⟨b, o + 2, none⟩ = some (.bool g) := Lib.cell?_alloc_some _ a2
  have e1 : (w.alloc (.cells #[.pointer (some ⟨b, o, none⟩), .pointer (some ⟨c, q, none⟩)] 59)).cell? ⟨c, q + 2, none⟩ = some (.bool g') := Lib.cell?_alloc_some _ b2
  have h1 : (w.alloc (.cells #[.pointer (some ⟨b, o, none⟩), .pointer (some ⟨c, q, none⟩)] 59)).heap[b]? = some (.cells cur T (0, 0)) := (Below.heap_alloc _ _ _ hbs).trans hb
  have HC := hid hc
  have HU := hid hu
  have HB := hid hb
  have HZ := hid hcz
  have g3 := Lib.cell?_alloc_some (.cells #[.pointer (some ⟨b, o, none⟩), .pointer (some ⟨c, q, none⟩)] 59) a3
  have f3 := Lib.cell?_alloc_some (.cells #[.pointer (some ⟨b, o, none⟩), .pointer (some ⟨c, q, none⟩)] 59) b3
  have HW0 := hid hw
  have HW := hid (hw.alloc hw.size (.cells #[.pointer (some ⟨b, o, none⟩), .pointer (some ⟨c, q, none⟩)] 59))
  clear hc hu hb hcz a2 b2 a3 b3 ht hu2 hst hsu hw
  have fr : (w.alloc (.cells #[.pointer (some ⟨b, o, none⟩), .pointer (some ⟨c, q, none⟩)] 59)).frozen? ⟨b, o + 2, none⟩ = false := Lib.frozen_of_heap h1 _
  go_enter Tryd.func29, Tryd.ntmps29
  go_upto_region 1 with fail
  go_cut [] from 4 to 69 (fun wx => Hid (wx.heap[b]? = some (.cells (cur.setIfInBounds (o + 2) (.bool (g || g'))) T (0, 0)) ∧ wx.heap[w.heap.size]? = some (.cells #[.pointer (some ⟨b, o, none⟩), .pointer (some ⟨c, q, none⟩)] 59 (0, 0)) ∧ Below w0.heap.size w0 wx ∧ wx.heap.size = w.heap.size + 1 ∧ ∀ k, k < w.heap.size → k ≠ b → wx.heap[k]? = w.heap[k]?))
  case first =>
    have hn := heap_alloc_new w (.cells #[.pointer (some ⟨b, o, none⟩), .pointer (some ⟨c, q, none⟩)] 59)
    have hz : (w.alloc (.cells #[.pointer (some ⟨b, o, none⟩), .pointer (some ⟨c, q, none⟩)] 59)).heap.size = w.heap.size + 1 := by simp
    have hk : ∀ k, k < w.heap.size → (w.alloc (.cells #[.pointer (some ⟨b, o, none⟩), .pointer (some ⟨c, q, none⟩)] 59)).heap[k]? = w.heap[k]? := fun k h => Below.heap_alloc _ _ _ h
    have HN := hid (And.intro hn (And.intro hz hk))
    clear hn hz hk
    generalize hW1 : World.alloc w _ = W1 at *
    clear hW1
    have nb : w.heap.size ≠ b := by omega
    have HD : Hid (∀ v, (W1.setCell ⟨b, o + 2, none⟩ v).drew.heap[b]? = some (.cells (cur.setIfInBounds (o + 2) v) T (0, 0)) ∧ (W1.setCell ⟨b, o + 2, none⟩ v).drew.heap[w.heap.size]? = some (.cells #[.pointer (some ⟨b, o, none⟩), .pointer (some ⟨c, q, none⟩)] 59 (0, 0)) ∧ Below w0.heap.size w0 (W1.setCell ⟨b, o + 2, none⟩ v).drew ∧ (W1.setCell ⟨b, o + 2, none⟩ v).drew.heap.size = w.heap.size + 1 ∧ ∀ k, k < w.heap.size → k ≠ b → (W1.setCell ⟨b, o + 2, none⟩ v).drew.heap[k]? = w.heap[k]?) :=
      hid fun v => ⟨heap_setCell_same W1 b (o + 2) cur T v h1, (Below.heap_setCell W1 ⟨b, o + 2, none⟩ v w.heap.size nb).trans HN.out.1, (HW.out.setCell hb0 _).drew, by rw [← HN.out.2.1]; simp [World.setCell, World.drew], fun k hk hne => (Below.heap_setCell W1 ⟨b, o + 2, none⟩ v k hne).trans (HN.out.2.2 k hk)⟩
    cases g
    · go_still_tail 16, (by kernel_rfl)
      go_wp2_with fail
      go_meet
      exact hid (HD.out _)
    · go_still_tail 16, (by kernel_rfl)
      go_wp2_with fail
      go_meet
      exact hid (HD.out _)
  case rest =>
    obtain ⟨V, hV⟩ : ∃ V, V = wc := ⟨_, rfl⟩
    subst hV
    obtain ⟨hh, hbox, hbw, hsz, hkp⟩ := hcut.out
    have q1 : V.cell? ⟨w.heap.size, 0, none⟩ = some (.pointer (some ⟨b, o, none⟩)) := by rw [Lib.cell_of_heap hbox]; rfl
    have q2 : V.cell? ⟨w.heap.size, 1, none⟩ = some (.pointer (some ⟨c, q, none⟩)) := by rw [Lib.cell_of_heap hbox]; rfl
    have q3 : V.cell? ⟨c, q + 3, none⟩ = some (.slice pl' ls'.length cl') := later hbw (HU.out.1 3 _ rfl)
    have q4 : V.cell? ⟨b, o + 3, none⟩ = some (.slice pl ls.length cl) := by
      rw [Lib.cell_of_heap hh, Array.getElem?_setIfInBounds_ne (by omega)]; exact HC.out 3 _ rfl
    have HZ2 : Hid (o + 3 < (cur.setIfInBounds (o + 2) (.bool (g || g'))).size) := hid (by have := HZ.out; rw [Array.size_setIfInBounds]; omega)
    generalize hcur2 : cur.setIfInBounds (o + 2) (.bool (g || g')) = cur2 at *
    have HCUR2 := hid hcur2
    have hlt : b < V.heap.size := (Array.getElem?_eq_some_iff.1 hh).1
    have Q := hid (And.intro q1 (And.intro q2 (And.intro q3 q4)))
    have HH := hid hh
    have HLT := hid hlt
    have HW2 := hid hbw
    have HSZ := hid (And.intro hsz (And.intro hkp hbox))
    have fr3 : V.frozen? ⟨b, o + 3, none⟩ = false := Lib.frozen_of_heap hh _
    clear hcut hh hbox hbw hsz hkp hlt p1 p2 d1 e1 h1 g3 f3 fr HW hcur2
    go_upto_region 2 with fail
    go_cut [] from 20 to 69 (fun wx => ∃ pv cv, Hid (∃ W3, wx = W3.setCell ⟨b, o + 3, none⟩ (.slice pv (mergeL ls ls').length cv) ∧ Below V.heap.size V W3 ∧ W3.ownsRow V.heap.size 44 4 (.slice pv (mergeL ls ls').length cv) (mergeL ls ls').length ((mergeL ls ls').map Ln.cells).flatten))
    case first =>
      go_region_law (first | (go_simp; go_at_call 46; (refine (M.out _ HW2.out.drew).mono ?_); rintro e W3 ⟨v', rfl, hown, hb3⟩; obtain ⟨pv, cv, rfl⟩ := own_slice hown; have hh3 : W3.heap[b]? = some (.cells cur2 T (0, 0)) := (hb3.block b HLT.out).trans HH.out; have fr3 : W3.frozen? ⟨b, o + 3, none⟩ = false := Lib.frozen_of_heap hh3 _; have cc3 : W3.cell? ⟨b, o + 3, none⟩ = some (.slice pl ls.length cl) := later hb3 Q.out.2.2.2; have cc4 := later hb3 Q.out.1; have cc5 := later hb3 Q.out.2.1; have cc6 := later hb3 Q.out.2.2.1))
      all_goals
        go_wp2_with fail
        go_meet
        exact ⟨_, _, hid ⟨_, rfl, ⟨hb3.os, hb3.tape, hb3.output, hb3.size, hb3.block⟩, hown⟩⟩
    case rest =>
      obtain ⟨pv, cv, hc2⟩ := hcut
      obtain ⟨W3, e3, hb3, hown3⟩ := hc2.out
      have hh3 := (hb3.block b HLT.out).trans HH.out
      have hTL : T ≠ 44 := by rcases hT with rfl | rfl <;> decide
      have hTI : T ≠ 3 := by rcases hT with rfl | rfl <;> decide
      have hsv : w.heap.size < V.heap.size := by have := HSZ.out.1; omega
      have F0 : Hid (Fr w0 w b T (cur2.setIfInBounds (o + 3) (.slice pv (mergeL ls ls').length cv)) (.cells #[.pointer (some ⟨b, o, none⟩), .pointer (some ⟨c, q, none⟩)] 59 (0, 0)) wc) := hid (by
        rw [e3]
        exact ⟨heap_setCell_same W3 b (o + 3) cur2 T _ hh3, (Below.heap_setCell W3 ⟨b, o + 3, none⟩ _ w.heap.size (by show w.heap.size ≠ b; omega)).trans ((hb3.block _ hsv).trans HSZ.out.2.2), (HW2.out.trans (hb3.mono HW2.out.size)).setCell hb0 _, fun k hk hne => (Below.heap_setCell W3 ⟨b, o + 3, none⟩ _ k hne).trans ((hb3.block k (by omega)).trans (HSZ.out.2.1 k hk hne))⟩)
      have O0 : Hid (wc.ownsRow V.heap.size 44 4 (.slice pv (mergeL ls ls').length cv) (mergeL ls ls').length ((mergeL ls ls').map Ln.cells).flatten) := hid (by
        rw [e3]; exact own_row hown3 (RowKept.put hh3 hTL))
      generalize hML : mergeL ls ls' = ML at *
      have HMQ := hid hML
      have HSV := hid hsv
      have hw0s : w0.heap.size ≤ w.heap.size := HW0.out.size
      have NIL : Hid (ML.length ≤ 2097152) := HML.out
      clear hc2 e3 hb3 hown3 hh3 M
      generalize hcur3 : cur2.setIfInBounds (o + 3) (.slice pv ML.length cv) = cur3 at *
      have hc3 : cur3[o + 3]? = some (.slice pv ML.length cv) := by rw [← hcur3, Array.getElem?_setIfInBounds_self, if_pos HZ2.out]
      have HC3 := hid hc3
      have s1 : wc.cell? ⟨w.heap.size, 0, none⟩ = some (.pointer (some ⟨b, o, none⟩)) := by rw [Lib.cell_of_heap F0.out.2.1]; rfl
      have s2 : wc.cell? ⟨b, o + 3, none⟩ = some (.slice pv ML.length cv) := by rw [Lib.cell_of_heap F0.out.1]; exact hc3
      have HCUR3 := hid hcur3
      clear q1 q2 q3 q4 Q HH HLT HW2 HSZ fr3 hcur3 hc3 hML
      go_wp2_with fail
      generalize hN : ML.length = N at *
      have HN := hid hN
      clear hN s1 s2
      go_loopg [41] N (fun gf u wx => ∃ (i : Nat) (L : List Ln), u = .int .i64 (i : Int) ∧ i ≤ N ∧ N ≤ i + gf ∧ Hid (alikes L ML = true ∧ L.length = N) ∧ Hid (wx.ownsRow V.heap.size 44 4 (.slice pv N cv) N (L.map Ln.cells).flatten) ∧ Hid (∀ j l, j < i → L[j]? = some l → HeldLn wx l) ∧ Hid ((∀ j l, i ≤ j → L[j]? = some l → l.pl.In w0) ∧ ∀ x ∈ L, x.pl.steps.length ≤ 1048576) ∧ Hid (Fr w0 w b T cur3 (.cells #[.pointer (some ⟨b, o, none⟩), .pointer (some ⟨c, q, none⟩)] 59 (0, 0)) wx))
      case atStart => exact ⟨0, ML, rfl, Nat.zero_le _, by omega, hid ⟨alikes_refl ML, HN.out⟩, O0, hid (fun j l h => by omega), hid ⟨fun j l _ h => (HMI.out l (List.mem_of_getElem? h)).1, fun x hx => (HMI.out x hx).2⟩, F0⟩
      case round =>
        obtain ⟨i, L, rfl, hi, hg, HA, HO, HH, HI, HF⟩ := hrel
        clear O0 F0
        have s1 : wr.cell? ⟨w.heap.size, 0, none⟩ = some (.pointer (some ⟨b, o, none⟩)) := by rw [Lib.cell_of_heap HF.out.2.1]; rfl
        by_cases hlt : i < N
        · obtain ⟨l, hl⟩ : ∃ l, L[i]? = some l := ⟨L[i]'(by rw [HA.out.2]; exact hlt), List.getElem?_eq_getElem _⟩
          obtain ⟨gb, cap, e, hgb, hgz, gcs, hgc⟩ := own_ptr HO.out (by omega)
          injection e with e1 e2 e3
          subst e1 e3
          clear e2
          have s2 : wr.cell? ⟨b, o + 3, none⟩ = some (.slice (some ⟨gb, 0, none⟩) N cv) := by rw [Lib.cell_of_heap HF.out.1]; exact HC3.out
          have hlin : l.pl.In wr ∧ l.pl.steps.length ≤ 1048576 := ⟨(HI.out.1 i l (Nat.le_refl _) hl).keep (Keeps.of_below HF.out.2.2.1), HI.out.2 l (List.mem_of_getElem? hl)⟩
          obtain ⟨ps, cs, _, es⟩ := lies_slice hlin.1
          have s3 : wr.cell? ⟨gb, i * 4 + 1 + 1, none⟩ = some (.slice ps l.pl.steps.length cs) := by
            rw [HO.out.cellAt (i * 4 + 2) (by omega)]
            exact (flatten_at (ln_len L) i l.cells (by rw [List.getElem?_map, hl]; rfl) 2 _ rfl).trans (by rw [es])
          have f3 : wr.frozen? ⟨gb, i * 4 + 1 + 1, none⟩ = false := HO.out.frozenAt _
          have HC := hid (clone_int l.pl.sv (l.pl.steps.map stCells) wr (by intro c hc; obtain ⟨x, _, rfl⟩ := List.mem_map.1 hc; rfl) (by intro c hc u hu; obtain ⟨x, _, rfl⟩ := List.mem_map.1 hc; unfold stCells at hu; simp at hu; subst hu; rfl) hlin.1 (by rw [List.length_map]; have := hlin.2; omega))
          rw [es] at HC
          have HE := hid es
          have HL := hid (And.intro hl hlin)
          clear hl hlin es
          go_wp2_with fail
          refine HC.out.mono ?_
          rintro e W5 ⟨v', rfl, hown5, hb5⟩
          obtain ⟨pw, cw, rfl⟩ := own_slice hown5
          rw [List.length_map] at hown5
          have k5 := hid (own_row HO.out (RowKept.of_below hb5))
          have s4 : W5.cell? ⟨gb, i * 4 + 1 + 1, none⟩ = some (.slice ps l.pl.steps.length cs) := later hb5 s3
          have f4 : W5.frozen? ⟨gb, i * 4 + 1 + 1, none⟩ = false := k5.out.frozenAt _
          have HB5 := hid hb5
          have HO5 := hid hown5
          clear hb5 hown5 s1 s2 s3 f3 HC
          go_wp2_with fail
          have hrow := (k5.out.stored (i * 4 + 1 + 1) (.slice pw l.pl.steps.length cw)).1
          have hcs := cells_set (.slice pw l.pl.steps.length cw) HL.out.1
          rw [show i * 4 + 1 + 1 = i * 4 + 2 from rfl, ← hcs] at hrow
          obtain ⟨gc5, hgc5⟩ : ∃ cs, W5.heap[gb]? = some (.cells cs 44 (0, 0)) := ⟨_, (HB5.out.block gb hgz).trans hgc⟩
          have kI : RowKept 3 W5 (W5.setCell ⟨gb, i * 4 + 2, none⟩ (.slice pw l.pl.steps.length cw)) := RowKept.put hgc5 (by decide)
          have HR := hid hrow
          have hheld : HeldLn (W5.setCell ⟨gb, i * 4 + 2, none⟩ (.slice pw l.pl.steps.length cw)) (withSt l (.slice pw l.pl.steps.length cw)) := fun W' k => own_lies (by intro c hc; obtain ⟨x, _, rfl⟩ := List.mem_map.1 hc; rfl) (own_row (own_row (by rw [List.length_map]; exact HO5.out) kI) k)
          have H' : Hid (∀ j x, j < i + 1 → (L.set i (withSt l (.slice pw l.pl.steps.length cw)))[j]? = some x → HeldLn (W5.setCell ⟨gb, i * 4 + 2, none⟩ (.slice pw l.pl.steps.length cw)) x) := hid (fun j x hj hx => by
            by_cases hji : j = i
            · subst hji
              rw [List.getElem?_set_self (by rw [HA.out.2]; exact hlt)] at hx
              cases hx
              exact hheld
            · rw [List.getElem?_set_ne (Ne.symm hji)] at hx
              exact fun W' k => HH.out j x (by omega) hx W' (((RowKept.of_below HB5.out).trans kI).trans k))
          have HIN : Hid ((∀ j x, i + 1 ≤ j → (L.set i (withSt l (.slice pw l.pl.steps.length cw)))[j]? = some x → x.pl.In w0) ∧ ∀ x ∈ L.set i (withSt l (.slice pw l.pl.steps.length cw)), x.pl.steps.length ≤ 1048576) := hid ⟨fun j x hj hx => by
            rw [List.getElem?_set_ne (by omega)] at hx
            exact HI.out.1 j x (by omega) hx, fun x hx => (List.mem_or_eq_of_mem_set hx).elim (fun h => HI.out.2 x h) (fun h => by subst h; exact HL.out.2.2)⟩
          have HF' := hid ((HF.out.below HB5.out).row (j := i * 4 + 2) (.slice pw l.pl.steps.length cw) (show w.heap.size < gb by have := HSV.out; omega) hbs hw0s)
          have hN2 := NIL.out
          go_roundg (gk - 1)
          case measure => omega
          case rel =>
            refine ⟨i + 1, L.set i (withSt l (.slice pw l.pl.steps.length cw)), ?_, by omega, by omega, hid ⟨alikes_set _ HA.out.1 HL.out.1, by rw [List.length_set]; exact HA.out.2⟩, HR, H', HIN, HF'⟩
            rw [show wrap64 ((i : Int) + 1) = ((i + 1 : Nat) : Int) by unfold wrap64; omega]
        · obtain rfl : i = N := by omega
          have s2 : wr.cell? ⟨b, o + 4, none⟩ = some kv := by
            rw [Lib.cell_of_heap HF.out.1, ← HCUR3.out, Array.getElem?_setIfInBounds_ne (by omega), ← HCUR2.out, Array.getElem?_setIfInBounds_ne (by omega)]; exact HC.out 4 _ rfl
          have HS := hid (And.intro s1 s2)
          have hFb := HF.out.1
          have f2 : wr.frozen? ⟨b, o + 4, none⟩ = false := Lib.frozen_of_heap hFb _
          have hlb : b < wr.heap.size := (Array.getElem?_eq_some_iff.1 hFb).1
          have HLB := hid hlb
          clear hFb hlb
          go_wp2_with fail
          go_region_law (first | (go_simp; go_at_call 49; (refine (CK.out _ HF.out.2.2.1.drew).mono ?_); rintro e W5 ⟨v', rfl, hown5, hb5⟩; obtain ⟨pw, cw, rfl⟩ := own_slice hown5; have hh5 : W5.heap[b]? = some (.cells cur3 T (0, 0)) := (hb5.block b HLB.out).trans HF.out.1; have f5 : W5.frozen? ⟨b, o + 4, none⟩ = false := Lib.frozen_of_heap hh5 _; have cc3 := later hb5 HS.out.2; have cc4 := later hb5 HS.out.1))
          all_goals
            go_wp2_with fail
            go_end0
            exact ⟨rfl, joined_of hTL hTI hb0 hbs HZ.out HCUR2.out HCUR3.out HF.out (by rw [HMQ.out]; exact HA.out.1) HA.out.2 HO.out HH.out ⟨hb5.os, hb5.tape, hb5.output, hb5.size, hb5.block⟩ (by rw [List.length_map] at hown5; exact hown5)⟩
end Go.Proofs.YtannfhbocfghkaaDoor.EnvC
/- walk's iterator of pairs, where the body may give the first part kids elsewhere. -/
namespace Go.Proofs.YtannfhbocfghkaaDoor.EnvC
open Go Go.RowKit Go.Shelf Go.Lib Go.Sort Go.Proofs.YtannfhbocfghkaaDoor.EnvP
attribute [local go_sem] Oper.semAt_some

/-- the kids of what now lies where the first part lay -/
def Pr.Kids2 (W : World) (x : Pr) (ks : List Pr) : Prop := ∃ t', nT t' ≤ nT x.t ∧ Pr.Kids W ⟨x.b, x.o, t', x.c, x.q, x.u⟩ ks
theorem Pr.Kids2.keep {W W' : World} {x : Pr} {ks : List Pr} (h : Pr.Kids2 W x ks) (k : Keeps W W') : Pr.Kids2 W' x ks := let ⟨t, h1, h2⟩ := h; ⟨t, h1, h2.keep k⟩
theorem Pr.kidsCall2 {W : World} {x : Pr} {ks : List Pr} (h : Pr.Kids2 W x ks) : Calls Tryd.prog 43 #[.agg x.cells.toArray] W fun r w' => ∃ g c, r = .returned (.slice (some ⟨g, 0, none⟩) ks.length c) ∧ w'.ownsRow W.heap.size 59 2 (.slice (some ⟨g, 0, none⟩) ks.length c) ks.length (flat Pr.cells ks) ∧ Below W.heap.size W w' := by
  obtain ⟨t, _, h2⟩ := h
  exact @Pr.kidsCall W ⟨x.b, x.o, t, x.c, x.q, x.u⟩ ks h2
theorem Pr.kids_w2 {W : World} {x : Pr} {ks : List Pr} (h : Pr.Kids2 W x ks) : wAll Pr.w ks + 1 ≤ x.w := by
  obtain ⟨t, h1, h2⟩ := h
  have := Pr.kids_w ⟨x.b, x.o, t, x.c, x.q, x.u⟩
  rw [h2.2.2.2.2]
  unfold Pr.w at *
  dsimp only at *
  omega
set_option maxHeartbeats 4000000 in
set_option maxRecDepth 100000 in
theorem walksJ (n : Nat) (hn3 : 3 ≤ n) (x0 : Pr) (B1 B2 : Nat) (w : World) (h1 : w.heap[B1]? = some (.cells x0.cells.toArray 59 (0, 0))) (h2 : Boxed w B2 74 (.func (.func 43) #[] #[])) (hw : x0.w ≤ 1048576) :
    Walks Fence.wide n Tryd.prog 59 #[.pointer (some ⟨B1, 0, none⟩), .pointer (some ⟨B2, 0, none⟩)] 59 74 Pr.cells Pr.Kids2 x0 w := by
  intro l J Jx W hW hJ hJx hY h0
  obtain ⟨i0, hi, hz0, hz1, hz2⟩ := info_parts pr_info
  have b1 : W.heap[B1]? = some (.cells x0.cells.toArray 59 (0, 0)) := (hW.block B1 (Array.getElem?_eq_some_iff.1 h1).1).trans h1
  have b2 : Boxed W B2 74 (.func (.func 43) #[] #[]) := (hW.block B2 h2.lt).trans h2
  clear h1 h2 hW
  refine callsIn_of_wp Tryd.func59 rfl trivial ?_ rfl
  simp only [Tryd.ntmps59, List.size_toArray, List.length_cons, List.length_nil, Nat.reduceAdd, Nat.reduceSub, Array.replicate_succ, Array.replicate_zero, List.push_toArray, List.append_toArray, List.nil_append, List.cons_append]
  have c0 : W.cell? ⟨B1, 0, none⟩ = some (.pointer (some ⟨x0.b, x0.o, none⟩)) := by rw [Lib.cell_of_heap b1]; rfl
  have c1 : W.cell? ⟨B1, 1, none⟩ = some (.pointer (some ⟨x0.c, x0.q, none⟩)) := by rw [Lib.cell_of_heap b1]; rfl
  have hb1 : Below W.heap.size W (W.alloc (.cells x0.cells.toArray 59 (0, 0))) := (Below.refl _ _).alloc (Nat.le_refl _) _
  have O0 : Hid ((W.alloc (.cells x0.cells.toArray 59 (0, 0))).ownsRow W.heap.size 59 2 (.slice (some ⟨W.heap.size, 0, none⟩) 1 1) 1 (flat Pr.cells [x0])) := hid
    ⟨rfl, .inr ⟨W.heap.size, 1, _, rfl, Nat.le_refl _, heap_alloc_new _ _, Nat.le_refl _, by unfold maxLen; omega, rfl, rfl⟩⟩
  have J0 := hid (hJ _ _ _ h0 (Iter.of_below hb1))
  have X0 := hid (boxed_below b2 hb1)
  have HJ := hid hJ
  have HJx := hid hJx
  have HY := hid hY
  clear hJ hJx hY h0 b2 hb1 b1
  change Hid ((W.alloc (.cells #[.pointer (some ⟨x0.b, x0.o, none⟩), .pointer (some ⟨x0.c, x0.q, none⟩)] 59 (0, 0))).ownsRow _ _ _ _ _ _) at O0
  change Hid (J [x0] (W.alloc (.cells #[.pointer (some ⟨x0.b, x0.o, none⟩), .pointer (some ⟨x0.c, x0.q, none⟩)] 59 (0, 0)))) at J0
  change Hid (Boxed (W.alloc (.cells #[.pointer (some ⟨x0.b, x0.o, none⟩), .pointer (some ⟨x0.c, x0.q, none⟩)] 59 (0, 0))) _ _ _) at X0
  gi_wp2
  generalize hV : World.alloc W _ = V at *
  have HS1 : Hid (W.heap.size ≤ V.heap.size) := hid (by rw [← hV]; simp)
  clear hV c0 c1
  gi_loopg [4] x0.w (fun gf u wr => ∃ st : List Pr, Hid (J st wr) ∧ Hid (wr.ownsRow W.heap.size 59 2 u st.length (flat Pr.cells st.reverse)) ∧ Hid (Boxed wr B2 74 (.func (.func 43) #[] #[])) ∧ Hid (W.heap.size ≤ wr.heap.size) ∧ wAll Pr.w st ≤ gf ∧ wAll Pr.w st ≤ 1048576)
  case atStart => exact ⟨[x0], J0, O0, X0, HS1, by simp [wAll], by simp [wAll]; exact hw⟩
  case round =>
    obtain ⟨st, hj, ho, hx, hs, hg, hm⟩ := hrel
    clear O0 J0 X0 HS1
    match st with
    | [] =>
      obtain ⟨p, cap, rfl⟩ := own_zero ho.out
      clear ho hx HJ HJx HY
      gi_wp2
      go_end0
      exact ⟨⟨_, rfl⟩, .inl hj.out⟩
    | x :: r =>
      have hlen : (x :: r).length = r.reverse.length + 1 := by simp
      have hO := ho.out
      rw [List.reverse_cons, hlen] at hO
      obtain ⟨g, cap, rfl, hg1, hg2, hnc⟩ := own_some hO
      have hc0 : wr.cell? ⟨g, r.reverse.length * 2, none⟩ = some (.pointer (some ⟨x.b, x.o, none⟩)) := (hO.cellAt _ (by omega)).trans (flat_last Pr.two r.reverse x 0 _ rfl)
      have hc1 : wr.cell? ⟨g, r.reverse.length * 2 + 1, none⟩ = some (.pointer (some ⟨x.c, x.q, none⟩)) := (hO.cellAt _ (by omega)).trans (flat_last Pr.two r.reverse x 1 _ rfl)
      have hP := own_pop hO
      rw [flat_app, List.take_append_of_le_length (by rw [flat_len Pr.two]; omega), List.take_of_length_le (by rw [flat_len Pr.two]; omega)] at hP
      have hrl := wAll_len Pr.w Pr.w_pos r
      have hwx := Pr.w_pos x
      rw [wAll] at hg hm
      have hn : r.reverse.length ≤ 1048576 := by simp; omega
      have HP := hid hP
      generalize hN : r.reverse.length = N at *
      have HN := hid hN
      have hb2 : Below wr.heap.size wr (wr.alloc (.cells #[.pointer (some ⟨x.b, x.o, none⟩), .pointer (some ⟨x.c, x.q, none⟩)] 59 (0, 0))) := (Below.refl _ _).alloc (Nat.le_refl _) _
      obtain ⟨fn, tmps, assign, body, hy, hR⟩ := HY.out x r _ (HJ.out _ _ _ hj.out (Iter.of_below hb2))
      change (Instr.yield l #[.agg #[.pointer (some ⟨x.b, x.o, none⟩), .pointer (some ⟨x.c, x.q, none⟩)]]).run _ _ = _ at hy
      have P2 := own_below HP.out hb2
      have X2 := boxed_below hx.out hb2
      have L2 := World.alloc_heap_new wr (.cells #[.pointer (some ⟨x.b, x.o, none⟩), .pointer (some ⟨x.c, x.q, none⟩)] 59 (0, 0))
      have HP2 := hid P2
      have HX2 := hid X2
      have HL2 := hid L2
      have HS2 := hid (Nat.le_trans hs.out hb2.size)
      clear hO ho hlen hrl hP hN HP hx hj P2 X2 L2 hb2 HY
      gi_wp2
      refine ⟨fun _ => by omega, ?_⟩
      refine hR.mono ?_
      generalize World.alloc wr _ = W2 at *
      rintro e W3 (⟨rfl, hk3, hsz3, ks, hks, hj3⟩ | ⟨rfl, hjx⟩)
      · have P3 := hid (own_types HP2.out hk3)
        have X3 := hid ((hk3 B2 _ (0, 0)).2 HX2.out)
        have L3 := (hk3 wr.heap.size _ (0, 0)).1 HL2.out
        have d0 : W3.cell? ⟨wr.heap.size, 0, none⟩ = some (.pointer (some ⟨x.b, x.o, none⟩)) := by rw [Lib.cell_of_heap L3]; rfl
        have d1 : W3.cell? ⟨wr.heap.size, 1, none⟩ = some (.pointer (some ⟨x.c, x.q, none⟩)) := by rw [Lib.cell_of_heap L3]; rfl
        have d2 : W3.cell? ⟨B2, 0, none⟩ = some (.func (.func 43) #[] #[]) := by rw [Lib.cell_of_heap X3.out]; rfl
        have CK : CallsIn Fence.wide (n - 1) Tryd.prog 43 #[.agg #[.pointer (some ⟨x.b, x.o, none⟩), .pointer (some ⟨x.c, x.q, none⟩)]] W3 fun r w' => ∃ g c, r = .returned (.slice (some ⟨g, 0, none⟩) ks.length c) ∧ w'.ownsRow W3.heap.size 59 2 (.slice (some ⟨g, 0, none⟩) ks.length c) ks.length (flat Pr.cells ks) ∧ Below W3.heap.size W3 w' := callsIn_wide.2 (Pr.kidsCall2 hks)
        have hkw : wAll Pr.w ks + 1 ≤ x.w := by
          exact Pr.kids_w2 hks
        have HJ3 := hid hj3
        have HCK := hid CK
        have HS3 := hid (Nat.le_trans HS2.out hsz3)
        clear hk3 hks hj3 L3 CK HP2 HX2 HL2 HS2 hy hR hc0 hc1
        gi_wp2
        refine ⟨trivial, fun _ => by omega, ?_⟩
        refine HCK.out.mono ?_
        rintro e W4 ⟨g4, c, rfl, ho4, hb4⟩
        have CR : CallsIn Fence.wide (n - 1) Tryd.prog 60 #[.slice (some ⟨g4, 0, none⟩) ks.length c] W4 fun e w' => e = .returned (.tuple #[]) ∧ w'.ownsRow W3.heap.size 59 2 (.slice (some ⟨g4, 0, none⟩) ks.length c) ks.length (flat Pr.cells ks.reverse) ∧ Below W3.heap.size W4 w' := callsIn_wide.2 (rev_Pr ks W4 _ g4 c ho4)
        have HCR := hid CR
        have HB4 := hid hb4
        clear CR HCK ho4 hb4 d0 d1 d2
        gi_wp2
        refine ⟨trivial, fun _ => by omega, ?_⟩
        refine HCR.out.mono ?_
        rintro e W5 ⟨rfl, ho5, hb5⟩
        have hb4 := HB4.out.trans hb5
        have P4 := hid (own_below P3.out hb4)
        have X4 := hid (boxed_below X3.out hb4)
        have J4 := hid (HJ.out _ _ _ HJ3.out (Iter.of_below hb4))
        have HS4 := hid (Nat.le_trans HS3.out hb4.size)
        have hfl := hid (own_flat ho5)
        have hkl := wAll_len Pr.w Pr.w_pos ks
        clear ho5 hb5 hb4 HB4 P3 X3 HJ3 HCR HS3
        gi_wp2_with (gi_at_builtin; go_loud (refine wpListIn_append_own _ rfl _ _ 101 rfl W.heap.size 59 i0 (.agg #[.pointer none, .pointer none]) 2 16 Tryd.underlying101 hi hz0 hz1 hz2 rfl (by decide) _ N (flat Pr.cells r.reverse) rfl P4.out _ ks.length c (flat Pr.cells ks.reverse) rfl (by rw [flat_len Pr.two, List.length_reverse]) hfl.out (Pr.ones ks.reverse) (by unfold maxLen; omega) (by omega) HS4.out ?_); intro v' W5 hown' hgrow hnil; clear hnil)
        have J5 := hid (HJ.out _ _ _ J4.out (Iter.grown hgrow (own_block P4.out)))
        have X5 : Hid (Boxed W5 B2 74 (.func (.func 43) #[] #[])) := hid (X4.out.kept hgrow (Boxed.not_row X4.out (by decide) P4.out))
        have O5 : Hid (W5.ownsRow W.heap.size 59 2 v' (ks ++ r).length (flat Pr.cells (ks ++ r).reverse)) := hid (by
          rw [List.reverse_append, flat_app, List.length_append, Nat.add_comm ks.length, show r.length = N by have := HN.out; rwa [List.length_reverse] at this]
          exact hown')
        have S5 := hid (Nat.le_trans HS4.out hgrow.size)
        clear hown' hgrow P4 X4 J4 hfl HS4
        gi_wp2
        gi_roundg (gk - 1)
        case measure => omega
        case rel => exact ⟨ks ++ r, J5, O5, X5, S5, by rw [wAll_app]; omega, by rw [wAll_app]; omega⟩
      · gi_wp2
        exact bodyPost_ret (results_none rfl _ _ _) rfl ⟨⟨_, rfl⟩, .inr hjx⟩
end Go.Proofs.YtannfhbocfghkaaDoor.EnvC

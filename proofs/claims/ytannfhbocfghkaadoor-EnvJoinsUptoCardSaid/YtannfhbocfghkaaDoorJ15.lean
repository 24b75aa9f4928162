/- The document's joinTy (lienbookref05). -/
import Derived.Test.YtannfhbocfghkaaDoorJ07
import Derived.Test.YtannfhbocfghkaaDoorJ12
import Derived.Test.YtannfhbocfghkaaDoorJ14
import Derived.Deep.RegionHeld3
import Derived.Deep.Cut
import Derived.Deep.CutRange
namespace Go.Proofs.YtannfhbocfghkaaDoor.EnvC
open Go Go.RowKit Go.Shelf Go.Lib Go.Sort Go.Proofs.YtannfhbocfghkaaDoor.EnvP

theorem rightT_kids {k : Int} {m g : Bool} {lv kv : Value} {ls : List Ln} {ks : List ETy} (h : rightT (.mk k m g lv ls kv ks) = true) : ∀ t ∈ ks, rightT t = true := fun t ht => by
  rw [rightT, Bool.and_eq_true] at h
  exact rightTs_mem h.1 ht

def zTy : Array Value := #[.int .i64 0, .bool false, .bool false, .slice none 0 0, .slice none 0 0]
/-- how joinTy's boxes stand -/
def JSt (w wx : World) (tc uc : List Value) (bc : Array Value) : Prop :=
  wx.heap[w.heap.size + 3]? = some (.cells bc 31 (0, 0)) ∧ BoxAt wx w.heap.size tc ∧ BoxAt wx (w.heap.size + 1) uc ∧ wx.heap[w.heap.size + 2]? = some (.cells zTy 31 (0, 0)) ∧ Below w.heap.size w wx
theorem JSt.below {w wx wy : World} {tc uc : List Value} {bc : Array Value} (h : JSt w wx tc uc bc) (k : Below wx.heap.size wx wy) : JSt w wy tc uc bc := by
  obtain ⟨h1, h2, h3, h4, h5⟩ := h
  exact ⟨(k.block _ (Array.getElem?_eq_some_iff.1 h1).1).trans h1, h2.later k, h3.later k, (k.block _ (Array.getElem?_eq_some_iff.1 h4).1).trans h4, h5.trans (k.mono h5.size)⟩
theorem JSt.put {w wx : World} {tc uc : List Value} {bc : Array Value} (h : JSt w wx tc uc bc) (j : Nat) (v : Value) : JSt w (wx.setCell ⟨w.heap.size + 3, j, none⟩ v) tc uc (bc.setIfInBounds j v) := by
  obtain ⟨h1, h2, h3, h4, h5⟩ := h
  have e : ∀ i, i ≠ w.heap.size + 3 → (wx.setCell ⟨w.heap.size + 3, j, none⟩ v).heap[i]? = wx.heap[i]? := fun i hi => Below.heap_setCell wx ⟨w.heap.size + 3, j, none⟩ v i hi
  exact ⟨heap_setCell_same wx _ j bc _ v h1, fun a x hx => (World.cell?_of_block (e w.heap.size (by omega))).trans (h2 a x hx), fun a x hx => (World.cell?_of_block (e (w.heap.size + 1) (by omega))).trans (h3 a x hx), (e (w.heap.size + 2) (by omega)).trans h4, h5.setCell (show w.heap.size ≤ w.heap.size + 3 by omega) _⟩
theorem JSt.drew {w wx : World} {tc uc : List Value} {bc : Array Value} (h : JSt w wx tc uc bc) : JSt w wx.drew tc uc bc := ⟨h.1, h.2.1, h.2.2.1, h.2.2.2.1, h.2.2.2.2.drew⟩
/-- a tree that lies in a first world, and between two marks -/
def HeldIn (w0 wx : World) (B E : Nat) (j : ETy) : Prop := ∀ W', Keeps w0 W' → (∀ (k o : Nat) (v : Value), B ≤ k → k < E → wx.cell? ⟨k, o, none⟩ = some v → W'.cell? ⟨k, o, none⟩ = some v) → j.In W'
theorem HeldIn.step {w0 wx wy : World} {B E : Nat} {j : ETy} (h : HeldIn w0 wx B E j) (k : ∀ i, B ≤ i → i < E → wy.heap[i]? = wx.heap[i]?) : HeldIn w0 wy B E j := fun W' h1 h2 =>
  h W' h1 fun i o v hB hE hc => h2 i o v hB hE ((World.cell?_of_block (a := ⟨i, o, none⟩) (k i hB hE)).trans hc)
theorem own_agree {k base : Nat} {w W' : World} {e : TypeId} {v : Value} {xs : List (List Value)} (hx : ∀ c ∈ xs, c.length = k) (h : w.ownsRow base e k v xs.length xs.flatten)
    (ha : ∀ (i o : Nat) (u : Value), base ≤ i → w.cell? ⟨i, o, none⟩ = some u → W'.cell? ⟨i, o, none⟩ = some u) : Lies W' k v xs := by
  have hl := own_lies hx h
  obtain ⟨_, ⟨rfl, h2⟩ | ⟨g, cap, cur, rfl, h3, h4, h5, _⟩⟩ := h
  · exact ⟨none, 0, by rw [h2], by omega, fun hne => absurd (List.length_eq_zero_iff.1 h2) hne⟩
  · obtain ⟨p, c, e, hc, hq⟩ := hl
    injection e with e1 _ e3
    refine ⟨_, cap, rfl, h5, fun hne => ?_⟩
    obtain ⟨b, off, e4, hcell⟩ := hq hne
    rw [← e1] at e4
    injection e4 with e4
    injection e4 with e5 e6 _
    subst e5 e6
    exact ⟨g, 0, rfl, fun i d hi j u hj => ha g _ u h3 (hcell i d hi j u hj)⟩
/-- trees that lie so, none where this block is -/
def Kept (w0 wx : World) (base : Nat) (r : Option Nat) (l : List ETy) : Prop := ∀ j ∈ l, ∃ B E, HeldIn w0 wx B E j ∧ base ≤ B ∧ E ≤ wx.heap.size ∧ ∀ g, r = some g → g < B ∨ E ≤ g
theorem jst_new (w : World) (tc uc : List Value) (bc : Array Value) : JSt w ((((w.alloc (.cells tc.toArray 31 (0, 0))).alloc (.cells uc.toArray 31 (0, 0))).alloc (.cells zTy 31 (0, 0))).alloc (.cells bc 31 (0, 0))) tc uc bc ∧ ((((w.alloc (.cells tc.toArray 31 (0, 0))).alloc (.cells uc.toArray 31 (0, 0))).alloc (.cells zTy 31 (0, 0))).alloc (.cells bc 31 (0, 0))).heap.size = w.heap.size + 4 := by
  have X1 := BoxAt.new w tc 31
  generalize hA : w.alloc (.cells tc.toArray 31 (0, 0)) = A at *
  have sA : A.heap.size = w.heap.size + 1 := by rw [← hA]; simp
  have bA : Below w.heap.size w A := by rw [← hA]; exact (Below.refl _ _).alloc (Nat.le_refl _) _
  have X2 := BoxAt.new A uc 31
  rw [sA] at X2
  have bB : Below A.heap.size A (A.alloc (.cells uc.toArray 31 (0, 0))) := (Below.refl _ _).alloc (Nat.le_refl _) _
  generalize hB : A.alloc (.cells uc.toArray 31 (0, 0)) = B at *
  have sB : B.heap.size = w.heap.size + 2 := by rw [← hB, World.size_alloc, sA]
  have X3 := heap_alloc_new B (.cells zTy 31 (0, 0))
  have bC : Below B.heap.size B (B.alloc (.cells zTy 31 (0, 0))) := (Below.refl _ _).alloc (Nat.le_refl _) _
  rw [sB] at X3
  generalize hC : B.alloc (.cells zTy 31 (0, 0)) = C at *
  have sC : C.heap.size = w.heap.size + 3 := by rw [← hC, World.size_alloc, sB]
  have X4 := heap_alloc_new C (.cells bc 31 (0, 0))
  have bD : Below C.heap.size C (C.alloc (.cells bc 31 (0, 0))) := (Below.refl _ _).alloc (Nat.le_refl _) _
  rw [sC] at X4
  have k2 := (bC.trans (bD.mono bC.size))
  have k1 := bB.trans (k2.mono bB.size)
  exact ⟨⟨X4, X1.later k1, X2.later k2, (bD.block _ (by omega)).trans X3, bA.trans (k1.mono bA.size)⟩, by rw [World.size_alloc, sC]⟩
theorem JSt.grown {w wx wy : World} {tc uc : List Value} {bc : Array Value} {row : Option Nat} (h : JSt w wx tc uc bc) (hg : wx.grownBy wy row) (hr : ∀ r, row = some r → w.heap.size + 4 ≤ r) : JSt w wy tc uc bc := by
  obtain ⟨h1, h2, h3, h4, h5⟩ := h
  have hz := (Array.getElem?_eq_some_iff.1 h1).1
  have e : ∀ i, i < w.heap.size + 4 → wy.heap[i]? = wx.heap[i]? := fun i hi => hg.block i (by omega) (fun e => by have := hr i e.symm; omega)
  exact ⟨(e _ (by omega)).trans h1, fun a x hx => (World.cell?_of_block (e w.heap.size (by omega))).trans (h2 a x hx), fun a x hx => (World.cell?_of_block (e (w.heap.size + 1) (by omega))).trans (h3 a x hx), (e (w.heap.size + 2) (by omega)).trans h4, h5.grown hg (by omega) (fun r hr' => by have := hr r hr'; omega)⟩
/-- one tree more: behind the call that made it, and the row that took it -/
theorem Kept.snoc {w0 wr W3 w1 : World} {base B5 j5 g n cap : Nat} {x5 : Value} {v : Value} {l : List ETy} {j : ETy} {row : Option Nat} (hrow : row = v.ownBlock) (h : Kept w0 wr base row l) (hb3 : Below wr.heap.size wr W3) (hj : HeldIn w0 W3 wr.heap.size W3.heap.size j) (hbase : base ≤ wr.heap.size) (hB5 : B5 < base)
    (hrw : ∀ r, row = some r → r < wr.heap.size) (Z : Obj) (hg : (W3.alloc Z).grownBy w1 row) (hat : row = some g ∨ g = W3.heap.size + 1) : Kept w0 (w1.setCell ⟨B5, j5, none⟩ x5) base (Value.slice (some ⟨g, 0, none⟩) n cap).ownBlock (l ++ [j]) := by
  have hsz : W3.heap.size + 1 ≤ w1.heap.size := by have := hg.size; rwa [World.size_alloc] at this
  have hz3 := hb3.size
  have hall : ∀ k, B5 ≠ k → row ≠ some k → k < W3.heap.size → (w1.setCell ⟨B5, j5, none⟩ x5).heap[k]? = W3.heap[k]? := fun k hk hr hlt =>
    (Below.heap_setCell w1 ⟨B5, j5, none⟩ x5 k (fun e => hk e.symm)).trans ((hg.block k (by rw [World.size_alloc]; omega) (fun e => hr e.symm)).trans (Below.heap_alloc W3 Z k hlt))
  have hs2 : (w1.setCell ⟨B5, j5, none⟩ x5).heap.size = w1.heap.size := by simp [World.setCell]
  intro y hy
  rcases List.mem_append.1 hy with hy | hy
  · obtain ⟨B, E, h1, h2, h3, h4⟩ := h y hy
    refine ⟨B, E, h1.step fun i hB hE => (hall i (by omega) (fun e => by have := h4 i e; omega) (by omega)).trans (hb3.block i (by omega)), h2, by rw [hs2]; omega, fun g' hg' => ?_⟩
    simp only [Value.ownBlock, Option.some.injEq] at hg'
    subst hg'
    rcases hat with e | e
    · exact h4 _ e
    · right; omega
  · obtain rfl := List.mem_singleton.1 hy
    refine ⟨wr.heap.size, W3.heap.size, hj.step fun i hB hE => hall i (by omega) (fun e => by have := hrw i e; omega) hE, hbase, by rw [hs2]; omega, fun g' hg' => ?_⟩
    simp only [Value.ownBlock, Option.some.injEq] at hg'
    subst hg'
    rcases hat with e | e
    · left; exact hrw _ e
    · right; omega
theorem own_put {w : World} {B base size n j : Nat} {e : TypeId} {v x : Value} {xs : List Value} (h : w.ownsRow base e size v n xs) (hB : B < base) : (w.setCell ⟨B, j, none⟩ x).ownsRow base e size v n xs :=
  own_same h fun r hr => Below.heap_setCell w ⟨B, j, none⟩ x r (by have := (h.lt r hr).1; show r ≠ B; omega)
/-- an added loan's row is the call's own, or the old one -/
theorem add_own {w w' : World} {base : Nat} {l : List Ln} {x : Ln} {v v' : Value} (h : w.ownsRow base 44 4 v l.length (l.map Ln.cells).flatten) (hb : Below w.heap.size w w') (hbase : base ≤ w.heap.size)
    (ho : (addL l x = l ∧ v' = v) ∨ w'.ownsRow w.heap.size 44 4 v' (addL l x).length ((addL l x).map Ln.cells).flatten) : w'.ownsRow base 44 4 v' (addL l x).length ((addL l x).map Ln.cells).flatten := by
  rcases ho with ⟨e, rfl⟩ | ho
  · rw [e]; exact own_below h hb
  · exact own_lower ho hbase

theorem not_same {w : World} {b1 b2 s1 s2 n1 n2 : Nat} {e1 e2 : TypeId} {v1 v2 : Value} {x1 x2 : List Value} (h1 : w.ownsRow b1 e1 s1 v1 n1 x1) (h2 : w.ownsRow b2 e2 s2 v2 n2 x2) (he : e1 ≠ e2) : v1.ownBlock = none ∨ v1.ownBlock ≠ v2.ownBlock := by
  rcases hv : v1.ownBlock with _ | r
  · exact .inl rfl
  · refine .inr fun e => ?_
    obtain ⟨_, ⟨rfl, _⟩ | ⟨g, cap, cur, rfl, _, k1, _⟩⟩ := h1
    · simp [Value.ownBlock] at hv
    obtain ⟨_, ⟨rfl, _⟩ | ⟨g', cap', cur', rfl, _, k2, _⟩⟩ := h2
    · simp [Value.ownBlock] at e
    simp only [Value.ownBlock, Option.some.injEq] at hv e
    subst hv
    subst e
    rw [k1] at k2
    injection k2 with k2
    injection k2 with _ k2 _
    exact he k2
theorem join_next {w0 w wr W3 w1 : World} {tc uc : List Value} {bc : Array Value} {lv kvv : Value} {n1 n g cap : Nat} {x1 : List Value} {l : List ETy} {j : ETy} {Z : Obj} (hJ5 : JSt w w1 tc uc bc) (hO3 : wr.ownsRow (w.heap.size + 4) 44 4 lv n1 x1) (hb3 : Below wr.heap.size wr W3)
    (hgrow : (W3.alloc Z).grownBy w1 kvv.ownBlock) (hl : l.length = n) (hK3 : wr.ownsRow (w.heap.size + 4) 31 5 kvv n (l.map ETy.cells).flatten)
    (hown : w1.ownsRow (w.heap.size + 4) 31 5 (.slice (some ⟨g, 0, none⟩) (n + 1) cap) (n + 1) ((l.map ETy.cells).flatten ++ j.cells))
    (hat : kvv.ownBlock = some g ∨ g = W3.heap.size + 1) (hKP : Kept w0 wr (w.heap.size + 4) kvv.ownBlock l) (hh : HeldIn w0 W3 wr.heap.size W3.heap.size j) (hsz : w.heap.size + 4 ≤ wr.heap.size) (v' : Value) (hv' : v' = .slice (some ⟨g, 0, none⟩) (n + 1) cap) :
    JSt w (w1.setCell ⟨w.heap.size + 3, 4, none⟩ v') tc uc (bc.setIfInBounds 4 v') ∧ (w1.setCell ⟨w.heap.size + 3, 4, none⟩ v').ownsRow (w.heap.size + 4) 44 4 lv n1 x1 ∧
      (w1.setCell ⟨w.heap.size + 3, 4, none⟩ v').ownsRow (w.heap.size + 4) 31 5 v' (l ++ [j]).length ((l ++ [j]).map ETy.cells).flatten ∧ Kept w0 (w1.setCell ⟨w.heap.size + 3, 4, none⟩ v') (w.heap.size + 4) v'.ownBlock (l ++ [j]) ∧
      w.heap.size + 4 ≤ (w1.setCell ⟨w.heap.size + 3, 4, none⟩ v').heap.size := by
  subst hv'
  have ba : Below W3.heap.size W3 (W3.alloc Z) := (Below.refl _ _).alloc (Nat.le_refl _) _
  refine ⟨hJ5.put 4 _, own_put ((own_below (own_below hO3 hb3) ba).kept hgrow (not_same hO3 hK3 (by decide))) (Nat.lt_succ_self _), own_put (by rw [List.length_append, hl, List.map_append, List.flatten_append]; simpa using hown) (Nat.lt_succ_self _), Kept.snoc rfl hKP hb3 hh hsz (Nat.lt_succ_self _) (fun r hr => (hK3.lt r hr).2) Z hgrow hat, ?_⟩
  have h1 := hgrow.size
  have h2 := hb3.size
  rw [World.size_alloc] at h1
  simp [World.setCell]
  omega

theorem setRow_else {w : World} {g k : Nat} (cs : Array Value) (h : k ≠ g) : (w.setRow g cs).heap[k]? = w.heap[k]? := by
  simp only [World.setRow, Array.getElem?_modify]
  rw [if_neg (Ne.symm h)]
theorem below_row {B g : Nat} {w0 w : World} (h : Below B w0 w) (hg : B ≤ g) (cs : Array Value) : Below B w0 (w.setRow g cs) := ⟨h.os, h.tape, h.output, by simpa [World.setRow] using h.size, fun k hk => (setRow_else cs (by omega)).trans (h.block k hk)⟩
theorem join_final {w0 w wr : World} {tc uc : List Value} {bc cs : Array Value} {lv kv : Value} {l : List ETy} {LA : List Ln} {k : Int} {m gg : Bool} (hJ : JSt w wr tc uc bc) (hO : wr.ownsRow (w.heap.size + 4) 44 4 lv LA.length (LA.map Ln.cells).flatten)
    (hK : wr.ownsRow (w.heap.size + 4) 31 5 kv l.length (l.map ETy.cells).flatten) (hA : LnsIn w0 LA) (hP : Kept w0 wr (w.heap.size + 4) kv.ownBlock l) :
    HeldIn w0 (wr.setRow (w.heap.size + 1 + 1) cs) w.heap.size (wr.setRow (w.heap.size + 1 + 1) cs).heap.size (.mk k m gg lv LA kv l) ∧ Below w.heap.size w (wr.setRow (w.heap.size + 1 + 1) cs) := by
  have hs : (wr.setRow (w.heap.size + 1 + 1) cs).heap.size = wr.heap.size := by simp [World.setRow]
  have e : ∀ i, w.heap.size + 4 ≤ i → (wr.setRow (w.heap.size + 1 + 1) cs).heap[i]? = wr.heap[i]? := fun i hi => setRow_else cs (by omega)
  have O1 := own_same (w' := wr.setRow (w.heap.size + 1 + 1) cs) hO fun r hr => e r (hO.lt r hr).1
  have K1 := own_same (w' := wr.setRow (w.heap.size + 1 + 1) cs) hK fun r hr => e r (hK.lt r hr).1
  refine ⟨fun W' h0 ha => ?_, below_row hJ.2.2.2.2 (by omega) cs⟩
  have ag : ∀ (i o : Nat) (u : Value), w.heap.size + 4 ≤ i → (wr.setRow (w.heap.size + 1 + 1) cs).cell? ⟨i, o, none⟩ = some u → W'.cell? ⟨i, o, none⟩ = some u := fun i o u hi hc => ha i o u (by omega) (World.block_lt_of_cell? _ _ hc) hc
  rw [ETy.In]
  refine ⟨own_agree (ln_len LA) (by rw [List.length_map]; exact O1) ag, fun x hx => (hA x hx).1.keep h0, own_agree (ty_len l) (by rw [List.length_map]; exact K1) ag, (ETy.ins_iff W' l).2 fun j hj => ?_⟩
  obtain ⟨B, E, h1, h2, h3, _⟩ := hP j hj
  exact h1 W' h0 fun i o v hB hE hc => ag i o v (by omega) ((World.cell?_of_block (a := ⟨i, o, none⟩) (e i (by omega))).trans hc)

set_option maxHeartbeats 8000000 in
set_option maxRecDepth 100000 in
theorem rJoinT_any : ∀ (n : Nat) (t u : ETy) (w0 w : World), wT t ≤ n → n ≤ 1048576 → wT t + wT u ≤ 1048576 → Below w0.heap.size w0 w → t.In w0 → u.In w0 → fitsT t u = true → rightT t = true → rightT u = true →
    Calls Tryd.prog 32 #[t.val, u.val] w fun r w' => ∃ j, r = .returned (ETy.val j) ∧ HeldIn w0 w' w.heap.size w'.heap.size j ∧ Joins t u j ∧ Below w.heap.size w w' := by
  intro n
  induction n using Nat.strongRecOn with
  | ind n ih =>
    intro t u w0 w hw hn hwu hw0 ht hu hf hrt hru
    have hsm : Small t := by unfold Small; omega
    have hsl := hsm.loans
    have hsm2 : Small u := by unfold Small; omega
    have hsl2 := hsm2.loans
    have hr1 := right_rising hrt
    have hr2 := right_rising hru
    obtain ⟨k, m, g, lv, ls, kv, kids⟩ := t
    obtain ⟨k2, m2, g2, lv2, ls2, kv2, kids2⟩ := u
    have hk1 := rightT_kids hrt
    have hk2 := rightT_kids hru
    change rising ls = true at hr1
    change rising ls2 = true at hr2
    rw [ETy.In] at ht hu
    obtain ⟨pl, cl, hcl, rfl⟩ := lies_slice ht.1
    obtain ⟨pk, ck, hck, rfl⟩ := lies_slice ht.2.2.1
    obtain ⟨pl2, cl2, hcl2, rfl⟩ := lies_slice hu.1
    obtain ⟨pk2, ck2, hck2, rfl⟩ := lies_slice hu.2.2.1
    rw [wT] at hw
    rw [wT, wT] at hwu
    have hkl := kids_len kids
    have hLb : ls.length ≤ 1048576 := hsl.1
    have hNb : kids.length ≤ 1048576 := by omega
    have hln1 := loans_len ls
    have hln2 := loans_len ls2
    have hLL : ls.length + ls2.length ≤ 1048576 := by omega
    rw [fitsT, Bool.and_eq_true] at hf
    have hlk : kids.length = kids2.length := by have := hf.1; simp at this; exact this.2
    have hfk := hf.2
    have hwx : ∀ x ∈ kids, wT x < n ∧ wT x ≤ wTs kids := fun x hx => by have := mem_w hx; omega
    have hwy : ∀ y ∈ kids2, wT y ≤ wTs kids2 := fun y hy => mem_w hy
    have ihk := fun (i : Nat) (x y : ETy) (hx : kids[i]? = some x) (hy : kids2[i]? = some y) (W : World) (hb : Below w0.heap.size w0 W) => ih (wT x) (hwx x (List.mem_of_getElem? hx)).1 x y w0 W (Nat.le_refl _) (by have := (hwx x (List.mem_of_getElem? hx)).1; omega) (by have := (hwx x (List.mem_of_getElem? hx)).2; have := hwy y (List.mem_of_getElem? hy); omega) hb ((ETy.ins_iff w0 kids).1 ht.2.2.2 x (List.mem_of_getElem? hx)) ((ETy.ins_iff w0 kids2).1 hu.2.2.2 y (List.mem_of_getElem? hy)) (fitsTs_mem hfk hx hy) (hk1 x (List.mem_of_getElem? hx)) (hk2 y (List.mem_of_getElem? hy))
    have hal := alikes_fold hr1 hr2
    change Calls _ _ #[.agg #[.int .i64 k, .bool m, .bool g, .slice pl ls.length cl, .slice pk kids.length ck], .agg #[.int .i64 k2, .bool m2, .bool g2, .slice pl2 ls2.length cl2, .slice pk2 kids2.length ck2]] _ _
    generalize hL : ls.length = L at *
    generalize hN : kids.length = N at *
    generalize hL2 : ls2.length = L2 at *
    generalize hN2 : kids2.length = N2 at *
    obtain rfl : N = N2 := hlk
    have X1 : BoxAt ((w.alloc (.cells #[.int .i64 k, .bool m, .bool g, .slice pl L cl, .slice pk N ck] 31 (0, 0))).alloc (.cells #[.int .i64 k2, .bool m2, .bool g2, .slice pl2 L2 cl2, .slice pk2 N ck2] 31 (0, 0))) w.heap.size [.int .i64 k, .bool m, .bool g, .slice pl L cl, .slice pk N ck] := (BoxAt.new w _ _).later ((Below.refl _ _).alloc (Nat.le_refl _) _)
    have X2 : BoxAt ((w.alloc (.cells #[.int .i64 k, .bool m, .bool g, .slice pl L cl, .slice pk N ck] 31 (0, 0))).alloc (.cells #[.int .i64 k2, .bool m2, .bool g2, .slice pl2 L2 cl2, .slice pk2 N ck2] 31 (0, 0))) (w.heap.size + 1) [.int .i64 k2, .bool m2, .bool g2, .slice pl2 L2 cl2, .slice pk2 N ck2] := by
      have := BoxAt.new (w.alloc (.cells #[.int .i64 k, .bool m, .bool g, .slice pl L cl, .slice pk N ck] 31 (0, 0))) [.int .i64 k2, .bool m2, .bool g2, .slice pl2 L2 cl2, .slice pk2 N ck2] 31
      rwa [World.size_alloc] at this
    have HX := hid (And.intro X1 X2)
    have HT := hid ht
    have HU := hid hu
    have HIK := hid ihk
    have HL := hid (And.intro hL hN)
    have HL2 := hid (And.intro hL2 hN2)
    have HST := hid (And.intro hsl hsl2)
    have HAL := hid hal
    have HW0 := hid hw0
    clear X1 X2 hw0 ht hu ihk hL hN hL2 hN2 ih hw hwu hsm hsl hsm2 hsl2 hf hfk hrt hru hr1 hr2 hk1 hk2 hwx hwy hal hln1 hln2 hkl
    go_enter Tryd.func32, Tryd.ntmps32
    go_upto_region 1 with fail
    go_cut [5] from 9 to 75 (fun u wx => u = .pointer (some ⟨w.heap.size + 1 + 1 + 1, 0, none⟩) ∧ Hid (JSt w wx [.int .i64 k, .bool m, .bool g, .slice pl L cl, .slice pk N ck] [.int .i64 k2, .bool m2, .bool g2, .slice pl2 L2 cl2, .slice pk2 N ck2] #[.int .i64 k, .bool m, .bool (g || g2), .slice none 0 0, .slice none 0 0]) ∧ Hid (wx.heap.size = w.heap.size + 4))
    case first =>
      cases g
      all_goals
        go_wp2_with fail
        go_meet
        exact ⟨rfl, hid (jst_new w _ _ _).1, hid (jst_new w _ _ _).2⟩
    case rest =>
      obtain ⟨rfl, H0, HZ0⟩ := hcut
      clear HX
      generalize hG : (g || g2) = gg at *
      have HG := hid hG
      clear hG
      go_wp2_with fail
      go_loopg [6] L (fun gf u wx => ∃ (i : Nat) (acc : List Ln) (lv : Value), u = .int .i64 (i : Int) ∧ i ≤ L ∧ L ≤ i + gf ∧ Hid (JSt w wx [.int .i64 k, .bool m, .bool g, .slice pl L cl, .slice pk N ck] [.int .i64 k2, .bool m2, .bool g2, .slice pl2 L2 cl2, .slice pk2 N ck2] #[.int .i64 k, .bool m, .bool gg, lv, .slice none 0 0]) ∧ Hid (wx.ownsRow (w.heap.size + 4) 44 4 lv acc.length (acc.map Ln.cells).flatten) ∧ Hid ((ls.drop i).foldl addL acc = ls.foldl addL []) ∧ acc.length + (L - i) ≤ L ∧ Hid (LnsIn w0 acc) ∧ Hid (w.heap.size + 4 ≤ wx.heap.size))
      case atStart => exact ⟨0, [], _, rfl, by omega, by omega, H0, hid (World.ownsRow_nil _ _ _ _), hid (by rw [List.drop_zero]), by simp, hid (fun x hx => by cases hx), hid (by rw [HZ0.out]; exact Nat.le_refl _)⟩
      case round =>
        obtain ⟨i, acc, lvv, rfl, hi, hg, HJ, HO, HFo, hal, HAI, HZ⟩ := hrel
        clear H0 HZ0
        obtain ⟨pa, ca, rfl⟩ := own_slice HO.out
        have z3 := HJ.out.2.1 3 _ rfl
        by_cases hlt : i < L
        · obtain ⟨x, hx⟩ : ∃ x, ls[i]? = some x := ⟨ls[i]'(by rw [HL.out.1]; exact hlt), List.getElem?_eq_getElem _⟩
          have hbw := HW0.out.trans (HJ.out.2.2.2.2.mono HW0.out.size)
          have hxm := List.mem_of_getElem? hx
          obtain ⟨b, off, c0, e, _, hxx⟩ := Lies.at (HT.out.1.keep (Keeps.of_below hbw)) (i := i) (by rw [List.length_map, HL.out.1]; exact hlt)
          injection e with e1 e2 e3
          subst e1
          clear e2 e3
          have hxc := hxx i x.cells (by rw [List.getElem?_map, hx]; rfl)
          have CA := rAdd_any acc x (.slice pa acc.length ca) wr.drew ((own_lies (ln_len acc) (by rw [List.length_map]; exact HO.out)).keep (fun _ _ _ h => h)) (lnsIn_keep (Keeps.of_below hbw.drew) HAI.out) ((HT.out.2.1 x hxm).keep (Keeps.of_below hbw.drew)) (HST.out.1.2 x hxm) (by omega)
          have hfo := HFo.out
          rw [drop_cons hx, List.foldl_cons] at hfo
          have hxi : x.pl.In w0 ∧ x.pl.steps.length ≤ 1048576 := ⟨HT.out.2.1 x hxm, HST.out.1.2 x hxm⟩
          obtain ⟨xp, xq, _, ex⟩ : ∃ pp pq, x.pl.steps.length ≤ pq ∧ x.pl.sv = .slice pp x.pl.steps.length pq := lies_slice hxi.1
          have HXI := hid hxi
          have HF2 := hid hfo
          have HCA := hid CA
          have hla := len_add acc x
          obtain ⟨xl, ⟨xv, xs, xt⟩, xm⟩ := x
          dsimp only at ex
          subst ex
          change Hid (Calls _ _ #[.slice pa acc.length ca, .agg #[.string xl, .string xv, .slice xp xt.length xq, .bool xm]] _ _) at HCA
          have c0 := hxc 0 (.string xl) rfl
          have c1 := hxc 1 (.string xv) rfl
          have c2 := hxc 2 (.slice xp xt.length xq) rfl
          have c3 := hxc 3 (.bool xm) rfl
          rw [Nat.add_zero] at c0
          have c5 : wr.cell? ⟨w.heap.size + 1 + 1 + 1, 3, none⟩ = some (.slice pa acc.length ca) := by rw [show w.heap.size + 1 + 1 + 1 = w.heap.size + 3 from rfl, Lib.cell_of_heap HJ.out.1]; rfl
          have f5 : wr.frozen? ⟨w.heap.size + 1 + 1 + 1, 3, none⟩ = false := Lib.frozen_of_heap HJ.out.1 _
          have i1 : (i : Int) < (L : Int) := by omega
          have i0 : (0 : Int) ≤ (i : Int) := by omega
          have HLA := hid hla
          clear hx hbw hxm hxx hxc CA hfo hxi hla
          go_wp2_with fail
          go_region_law (first | (go_simp; go_at_call 55; (refine HCA.out.mono ?_); rintro e W3 ⟨v', rfl, hb3, hor⟩; have ho3 := add_own (w := wr.drew) HO.out hb3 HZ.out hor; obtain ⟨qv, kc, rfl⟩ := own_slice ho3; have HJ3 := hid (HJ.out.drew.below hb3); have cc5 := Keeps.of_below hb3 _ _ _ c5; have ff5 : W3.frozen? ⟨w.heap.size + 1 + 1 + 1, 3, none⟩ = false := Lib.frozen_of_heap HJ3.out.1 _))
          all_goals
            have O3 := hid ho3
            have B3 := hid (Nat.le_trans HZ.out hb3.size)
            clear ho3 hb3 hor cc5 ff5 c0 c1 c2 c3 c5 f5 HCA HJ HO HFo z3
            go_wp2_with fail
            have hN2 := hLL
            go_roundg (gk - 1)
            case measure => omega
            case rel =>
              refine ⟨i + 1, _, _, ?_, by omega, by omega, hid (HJ3.out.put 3 _), hid (own_put O3.out (Nat.lt_succ_self _)), HF2, by have := HLA.out; omega, hid (fun y hy => (mem_add hy).elim (HAI.out y) (fun e => by subst e; exact HXI.out)), hid (by have := B3.out; simp [World.setCell]; exact this)⟩
              first | rfl | go_num | (rw [show wrap64 ((i : Int) + 1) = ((i + 1 : Nat) : Int) by unfold wrap64; omega])
        · obtain rfl : L = i := by omega
          have hfo := HFo.out
          rw [List.drop_eq_nil_of_le (by rw [HL.out.1]; exact Nat.le_refl _), List.foldl_nil] at hfo
          subst hfo
          have hb2 : (ls.foldl addL []).length + (L2 - 0) ≤ L + L2 := by omega
          go_wp2_with fail
          go_loopg [7] L2 (fun gf u wx => ∃ (i : Nat) (acc : List Ln) (lv : Value), u = .int .i64 (i : Int) ∧ i ≤ L2 ∧ L2 ≤ i + gf ∧ Hid (JSt w wx [.int .i64 k, .bool m, .bool g, .slice pl L cl, .slice pk N ck] [.int .i64 k2, .bool m2, .bool g2, .slice pl2 L2 cl2, .slice pk2 N ck2] #[.int .i64 k, .bool m, .bool gg, lv, .slice none 0 0]) ∧ Hid (wx.ownsRow (w.heap.size + 4) 44 4 lv acc.length (acc.map Ln.cells).flatten) ∧ Hid ((ls2.drop i).foldl addL acc = ls2.foldl addL (ls.foldl addL [])) ∧ acc.length + (L2 - i) ≤ L + L2 ∧ Hid (LnsIn w0 acc) ∧ Hid (w.heap.size + 4 ≤ wx.heap.size))
          case atStart => exact ⟨0, _, _, rfl, by omega, by omega, HJ, HO, hid (by rw [List.drop_zero]), hb2, HAI, HZ⟩
          case round =>
            obtain ⟨i, acc, lvv, rfl, hi, hg, HJ, HO, HFo, hal, HAI, HZ⟩ := hrel
            skip
            obtain ⟨pa, ca, rfl⟩ := own_slice HO.out
            have z3 := HJ.out.2.2.1 3 _ rfl
            by_cases hlt : i < L2
            · obtain ⟨x, hx⟩ : ∃ x, ls2[i]? = some x := ⟨ls2[i]'(by rw [HL2.out.1]; exact hlt), List.getElem?_eq_getElem _⟩
              have hbw := HW0.out.trans (HJ.out.2.2.2.2.mono HW0.out.size)
              have hxm := List.mem_of_getElem? hx
              obtain ⟨b, off, c0, e, _, hxx⟩ := Lies.at (HU.out.1.keep (Keeps.of_below hbw)) (i := i) (by rw [List.length_map, HL2.out.1]; exact hlt)
              injection e with e1 e2 e3
              subst e1
              clear e2 e3
              have hxc := hxx i x.cells (by rw [List.getElem?_map, hx]; rfl)
              have CA := rAdd_any acc x (.slice pa acc.length ca) wr.drew ((own_lies (ln_len acc) (by rw [List.length_map]; exact HO.out)).keep (fun _ _ _ h => h)) (lnsIn_keep (Keeps.of_below hbw.drew) HAI.out) ((HU.out.2.1 x hxm).keep (Keeps.of_below hbw.drew)) (HST.out.2.2 x hxm) (by omega)
              have hfo := HFo.out
              rw [drop_cons hx, List.foldl_cons] at hfo
              have hxi : x.pl.In w0 ∧ x.pl.steps.length ≤ 1048576 := ⟨HU.out.2.1 x hxm, HST.out.2.2 x hxm⟩
              obtain ⟨xp, xq, _, ex⟩ : ∃ pp pq, x.pl.steps.length ≤ pq ∧ x.pl.sv = .slice pp x.pl.steps.length pq := lies_slice hxi.1
              have HXI := hid hxi
              have HF2 := hid hfo
              have HCA := hid CA
              have hla := len_add acc x
              obtain ⟨xl, ⟨xv, xs, xt⟩, xm⟩ := x
              dsimp only at ex
              subst ex
              change Hid (Calls _ _ #[.slice pa acc.length ca, .agg #[.string xl, .string xv, .slice xp xt.length xq, .bool xm]] _ _) at HCA
              have c0 := hxc 0 (.string xl) rfl
              have c1 := hxc 1 (.string xv) rfl
              have c2 := hxc 2 (.slice xp xt.length xq) rfl
              have c3 := hxc 3 (.bool xm) rfl
              rw [Nat.add_zero] at c0
              have c5 : wr.cell? ⟨w.heap.size + 1 + 1 + 1, 3, none⟩ = some (.slice pa acc.length ca) := by rw [show w.heap.size + 1 + 1 + 1 = w.heap.size + 3 from rfl, Lib.cell_of_heap HJ.out.1]; rfl
              have f5 : wr.frozen? ⟨w.heap.size + 1 + 1 + 1, 3, none⟩ = false := Lib.frozen_of_heap HJ.out.1 _
              have i1 : (i : Int) < (L2 : Int) := by omega
              have i0 : (0 : Int) ≤ (i : Int) := by omega
              have HLA := hid hla
              clear hx hbw hxm hxx hxc CA hfo hxi hla
              go_wp2_with fail
              go_region_law (first | (go_simp; go_at_call 55; (refine HCA.out.mono ?_); rintro e W3 ⟨v', rfl, hb3, hor⟩; have ho3 := add_own (w := wr.drew) HO.out hb3 HZ.out hor; obtain ⟨qv, kc, rfl⟩ := own_slice ho3; have HJ3 := hid (HJ.out.drew.below hb3); have cc5 := Keeps.of_below hb3 _ _ _ c5; have ff5 : W3.frozen? ⟨w.heap.size + 1 + 1 + 1, 3, none⟩ = false := Lib.frozen_of_heap HJ3.out.1 _))
              all_goals
                have O3 := hid ho3
                have B3 := hid (Nat.le_trans HZ.out hb3.size)
                clear ho3 hb3 hor cc5 ff5 c0 c1 c2 c3 c5 f5 HCA HJ HO HFo z3
                go_wp2_with fail
                have hN2 := hLL
                go_roundg (gk - 1)
                case measure => omega
                case rel =>
                  refine ⟨i + 1, _, _, ?_, by omega, by omega, hid (HJ3.out.put 3 _), hid (own_put O3.out (Nat.lt_succ_self _)), HF2, by have := HLA.out; omega, hid (fun y hy => (mem_add hy).elim (HAI.out y) (fun e => by subst e; exact HXI.out)), hid (by have := B3.out; simp [World.setCell]; exact this)⟩
                  first | rfl | go_num | (rw [show wrap64 ((i : Int) + 1) = ((i + 1 : Nat) : Int) by unfold wrap64; omega])
            · obtain rfl : L2 = i := by omega
              have hfo := HFo.out
              rw [List.drop_eq_nil_of_le (by rw [HL2.out.1]; exact Nat.le_refl _), List.foldl_nil] at hfo
              subst hfo
              generalize hLA : ls2.foldl addL (ls.foldl addL []) = LA at *
              have HLAQ := hid hLA
              obtain ⟨i0, hinf, hz0, hz1, hz2⟩ := info_parts ty_info
              clear hLA hal hg
              go_wp2_with fail
              go_loopg [8] N (fun gf u wx => ∃ (i : Nat) (jks0 : List ETy) (kvv : Value), u = .int .i64 (i : Int) ∧ i ≤ N ∧ N ≤ i + gf ∧ jks0.length = i ∧ Hid (JSt w wx [.int .i64 k, .bool m, .bool g, .slice pl L cl, .slice pk N ck] [.int .i64 k2, .bool m2, .bool g2, .slice pl2 L2 cl2, .slice pk2 N ck2] #[.int .i64 k, .bool m, .bool gg, .slice pa LA.length ca, kvv]) ∧ Hid (wx.ownsRow (w.heap.size + 4) 44 4 (.slice pa LA.length ca) LA.length (LA.map Ln.cells).flatten) ∧ Hid (wx.ownsRow (w.heap.size + 4) 31 5 kvv jks0.length (jks0.map ETy.cells).flatten) ∧ Hid (Kept w0 wx (w.heap.size + 4) kvv.ownBlock jks0) ∧ Hid (∀ (p : Nat) t u j, kids[p]? = some t → kids2[p]? = some u → jks0[p]? = some j → Joins t u j) ∧ Hid (w.heap.size + 4 ≤ wx.heap.size))
              case atStart => exact ⟨0, [], _, rfl, by omega, by omega, rfl, HJ, HO, hid (World.ownsRow_nil _ _ _ _), hid (fun j hj => by cases hj), hid (fun p t u j _ _ h => by simp at h), HZ⟩
              case round =>
                obtain ⟨i, jks0, kvv, rfl, hi, hg, hjl, HJ3, HO3, HK3, HKP, HJN, HZ3⟩ := hrel
                clear HJ HO HZ
                have HJL := hid hjl
                have hjb : jks0.length ≤ 1048576 := by omega
                clear hjl
                obtain ⟨pv, cv, rfl⟩ := own_slice HK3.out
                have z4 := HJ3.out.2.1 4 _ rfl
                by_cases hlt : i < N
                · obtain ⟨x, hx⟩ : ∃ x, kids[i]? = some x := ⟨kids[i]'(by rw [HL.out.2]; exact hlt), List.getElem?_eq_getElem _⟩
                  obtain ⟨y, hy⟩ : ∃ y, kids2[i]? = some y := ⟨kids2[i]'(by rw [HL2.out.2]; exact hlt), List.getElem?_eq_getElem _⟩
                  have hbw := HW0.out.trans (HJ3.out.2.2.2.2.mono HW0.out.size)
                  obtain ⟨b, off, c0, e, _, hxx⟩ := Lies.at (HT.out.2.2.1.keep (Keeps.of_below hbw)) (i := i) (by rw [List.length_map, HL.out.2]; exact hlt)
                  obtain ⟨b2, off2, c02, e', _, hyy⟩ := Lies.at (HU.out.2.2.1.keep (Keeps.of_below hbw)) (i := i) (by rw [List.length_map, HL2.out.2]; exact hlt)
                  injection e with e1 e2 e3
                  injection e' with e4 e5 e6
                  subst e1 e4
                  clear e2 e3 e5 e6
                  have hxc := hxx i x.cells (by rw [List.getElem?_map, hx]; rfl)
                  have hyc := hyy i y.cells (by rw [List.getElem?_map, hy]; rfl)
                  have CJ : Calls Tryd.prog 32 #[x.val, y.val] wr.drew fun r w' => ∃ jk jm jg p1 c1 jls p2 c2 jks, r = .returned (.agg #[.int .i64 jk, .bool jm, .bool jg, .slice p1 jls.length c1, .slice p2 jks.length c2]) ∧ HeldIn w0 w' wr.heap.size w'.heap.size (.mk jk jm jg (.slice p1 jls.length c1) jls (.slice p2 jks.length c2) jks) ∧ Joins x y (.mk jk jm jg (.slice p1 jls.length c1) jls (.slice p2 jks.length c2) jks) ∧ Below wr.heap.size wr w' := (HIK.out i x y hx hy wr.drew hbw.drew).mono fun r w' ⟨j, hr, hh, hj, hb⟩ => by
                    have hin := hh w' (Keeps.of_below (hbw.drew.trans (hb.mono hbw.size))) (fun _ _ _ _ _ h => h)
                    obtain ⟨jk, jm, jg, jlv, jls, jkv, jks⟩ := j
                    rw [ETy.In] at hin
                    obtain ⟨p1, c1, _, rfl⟩ := lies_slice hin.1
                    obtain ⟨p2, c2, _, rfl⟩ := lies_slice hin.2.2.1
                    exact ⟨jk, jm, jg, p1, c1, jls, p2, c2, jks, hr, hh, hj, ⟨hb.os, hb.tape, hb.output, hb.size, hb.block⟩⟩
                  have HCJ := hid CJ
                  have HXY := hid (And.intro hx hy)
                  obtain ⟨xk, xm, xg, xlv, xls, xkv, xks⟩ := x
                  obtain ⟨yk, ym, yg, ylv, yls, ykv, yks⟩ := y
                  change Hid (Calls _ _ #[.agg #[.int .i64 xk, .bool xm, .bool xg, xlv, xkv], .agg #[.int .i64 yk, .bool ym, .bool yg, ylv, ykv]] _ _) at HCJ
                  have x0 := hxc 0 _ rfl
                  have x1 := hxc 1 _ rfl
                  have x2 := hxc 2 _ rfl
                  have x3 := hxc 3 _ rfl
                  have x4 := hxc 4 _ rfl
                  have y0 := hyc 0 _ rfl
                  have y1 := hyc 1 _ rfl
                  have y2 := hyc 2 _ rfl
                  have y3 := hyc 3 _ rfl
                  have y4 := hyc 4 _ rfl
                  rw [Nat.add_zero] at x0 y0
                  have q4 := HJ3.out.2.2.1 4 _ rfl
                  have c5 : wr.cell? ⟨w.heap.size + 1 + 1 + 1, 4, none⟩ = some (.slice pv jks0.length cv) := by rw [show w.heap.size + 1 + 1 + 1 = w.heap.size + 3 from rfl, Lib.cell_of_heap HJ3.out.1]; rfl
                  have f5 : wr.frozen? ⟨w.heap.size + 1 + 1 + 1, 4, none⟩ = false := Lib.frozen_of_heap HJ3.out.1 _
                  have i1 : (i : Int) < (N : Int) := by omega
                  have i0' : (0 : Int) ≤ (i : Int) := by omega
                  clear hx hy hbw hxx hyy hxc hyc CJ
                  go_wp2_with fail
                  go_region_law (first
                    | (go_simp; go_at_call 32; (refine HCJ.out.mono ?_); rintro e W3 ⟨jk, jm, jg, p1, c1, jls, p2, c2, jks, rfl, hh, hjn, hb3⟩; have OK := hid (own_below (own_below HK3.out hb3) ((Below.refl W3.heap.size W3).alloc (Nat.le_refl _) (.cells ([.int .i64 jk, .bool jm, .bool jg, .slice p1 jls.length c1, .slice p2 jks.length c2] : List Value).toArray 31))); have KA := hid (fun (j : Nat) (u : Value) (h : ([.int .i64 jk, .bool jm, .bool jg, .slice p1 jls.length c1, .slice p2 jks.length c2] : List Value)[j]? = some u) => show (W3.alloc (.cells ([.int .i64 jk, .bool jm, .bool jg, .slice p1 jls.length c1, .slice p2 jks.length c2] : List Value).toArray 31)).cell? ((⟨W3.heap.size, 0, none⟩ : Addr).add j) = some u by rw [Addr.add_lit, Nat.zero_add]; exact box_cell W3 [.int .i64 jk, .bool jm, .bool jg, .slice p1 jls.length c1, .slice p2 jks.length c2] _ j u h); have B3 := hid hb3; have HH := hid hh; have HJ4 := hid ((HJ3.out.below hb3).below ((Below.refl W3.heap.size W3).alloc (Nat.le_refl _) (.cells ([.int .i64 jk, .bool jm, .bool jg, .slice p1 jls.length c1, .slice p2 jks.length c2] : List Value).toArray 31))); have HJNN := hid hjn; have cc3 := Keeps.of_below hb3 _ _ _ c5; have cc4 := Lib.cell?_alloc_some (.cells ([.int .i64 jk, .bool jm, .bool jg, .slice p1 jls.length c1, .slice p2 jks.length c2] : List Value).toArray 31) cc3)
                    | ((refine step_append_lies _ (by rfl) _ _ 29 (by rfl) (w.heap.size + 4) 31 i0 _ 5 64 Tryd.underlying29 hinf hz0 hz1 hz2 rfl (by decide) (.slice pv jks0.length cv) jks0.length ((jks0.map ETy.cells).flatten) (by rfl) OK.out ⟨W3.heap.size, 0, none⟩ 1 1 [.int .i64 jk, .bool jm, .bool jg, .slice p1 jls.length c1, .slice p2 jks.length c2] (by rfl) (by rfl) KA.out (by simp [Value.oneCell']) (by decide) (by unfold maxLen; omega) (by omega) (by have := HZ3.out; have := B3.out.size; rw [World.size_alloc]; omega) (W3.heap.size + 1) (by rw [World.size_alloc]) ?_); intro g cap w1 hown hgrow hat hlt; have HG1 := hid hgrow; have HOW := hid hown; have HAT := hid hat; have HJ5 := hid (HJ4.out.grown hgrow (fun r hr => (HK3.out.lt r hr).1)); have cc5 : w1.cell? ⟨w.heap.size + 1 + 1 + 1, 4, none⟩ = some (.slice pv jks0.length cv) := (by rw [show w.heap.size + 1 + 1 + 1 = w.heap.size + 3 from rfl, Lib.cell_of_heap HJ5.out.1]; rfl); have ff5 : w1.frozen? ⟨w.heap.size + 1 + 1 + 1, 4, none⟩ = false := Lib.frozen_of_heap HJ5.out.1 _))
                  all_goals
                    have NX := hid (join_next HJ5.out HO3.out B3.out HG1.out rfl HK3.out HOW.out HAT.out HKP.out HH.out HZ3.out _ rfl)
                    have HJN' : Hid (∀ (p : Nat) t u j, kids[p]? = some t → kids2[p]? = some u → (jks0 ++ [ETy.mk jk jm jg (.slice p1 jls.length c1) jls (.slice p2 jks.length c2) jks])[p]? = some j → Joins t u j) := hid (fun p t u j h1 h2 h3 => by
                      have hjl := HJL.out
                      by_cases hp : p < jks0.length
                      · rw [List.getElem?_append_left hp] at h3
                        exact HJN.out p t u j h1 h2 h3
                      · have hpi : p = i := by have := (List.getElem?_eq_some_iff.1 h3).1; simp at this; omega
                        subst hpi
                        rw [List.getElem?_append_right (by omega), hjl, Nat.sub_self] at h3
                        cases h3
                        rw [HXY.out.1] at h1
                        rw [HXY.out.2] at h2
                        cases h1; cases h2
                        exact HJNN.out)
                    clear HJ5 HG1 HOW HAT HJ4 HH B3 OK KA HJ3 HO3 HK3 HKP HJN HJNN HCJ HXY cc5 ff5 cc3 cc4 c5 f5 x0 x1 x2 x3 x4 y0 y1 y2 y3 y4 z4 q4 hh hjn hb3 hown hgrow hat hlt
                    have HJL' : Hid ((jks0 ++ [ETy.mk jk jm jg (.slice p1 jls.length c1) jls (.slice p2 jks.length c2) jks]).length = i + 1) := hid (by rw [List.length_append, HJL.out]; rfl)
                    go_wp2_with fail
                    go_roundg (gk - 1)
                    case measure => omega
                    case rel =>
                      refine ⟨i + 1, _, _, ?_, by omega, by omega, HJL'.out, hid NX.out.1, hid NX.out.2.1, hid NX.out.2.2.1, hid NX.out.2.2.2.1, HJN', hid NX.out.2.2.2.2⟩
                      first | rfl | go_num | (rw [show wrap64 ((i : Int) + 1) = ((i + 1 : Nat) : Int) by unfold wrap64; omega])
                · obtain rfl : N = i := by omega
                  have bc := HJ3.out.1
                  have bz := HJ3.out.2.2.2.1
                  have z0 : wr.cell? ⟨w.heap.size + 1 + 1 + 1, 0, none⟩ = some (.int .i64 k) := by rw [show w.heap.size + 1 + 1 + 1 = w.heap.size + 3 from rfl, Lib.cell_of_heap bc]; rfl
                  have z1 : wr.cell? ⟨w.heap.size + 1 + 1 + 1, 1, none⟩ = some (.bool m) := by rw [show w.heap.size + 1 + 1 + 1 = w.heap.size + 3 from rfl, Lib.cell_of_heap bc]; rfl
                  have z2 : wr.cell? ⟨w.heap.size + 1 + 1 + 1, 2, none⟩ = some (.bool gg) := by rw [show w.heap.size + 1 + 1 + 1 = w.heap.size + 3 from rfl, Lib.cell_of_heap bc]; rfl
                  have z3 : wr.cell? ⟨w.heap.size + 1 + 1 + 1, 3, none⟩ = some (.slice pa LA.length ca) := by rw [show w.heap.size + 1 + 1 + 1 = w.heap.size + 3 from rfl, Lib.cell_of_heap bc]; rfl
                  have z5 : wr.cell? ⟨w.heap.size + 1 + 1 + 1, 4, none⟩ = some (.slice pv jks0.length cv) := by rw [show w.heap.size + 1 + 1 + 1 = w.heap.size + 3 from rfl, Lib.cell_of_heap bc]; rfl
                  have BZ := hid bz
                  have ZA : Hid ((Tryd.prog.info? 31).map (·.size) = some (#[.int .i64 k, .bool m, .bool gg, .slice pa LA.length ca, .slice pv jks0.length cv] : Array Value).size) := hid (show (Tryd.prog.info? 31).map (·.size) = some 5 by kernel_rfl)
                  have ZO : Hid (zTy.size = (#[.int .i64 k, .bool m, .bool gg, .slice pa LA.length ca, .slice pv jks0.length cv] : Array Value).size) := hid rfl
                  have H1C : Hid (((#[.int .i64 k, .bool m, .bool gg, .slice pa LA.length ca, .slice pv jks0.length cv] : Array Value).all (·.oneCell')) = true) := hid (by simp [Value.oneCell'])
                  clear bc bz
                  go_wp2_with (with_reducible refine wpList_store_row (o := ⟨none, _, _, _, _, _⟩) rfl _ _ _ rfl (w.heap.size + 1 + 1) #[.int .i64 k, .bool m, .bool gg, .slice pa LA.length ca, .slice pv jks0.length cv] rfl rfl _ _ BZ.out ZA.out ZO.out H1C.out ?_)
                  refine bodyPost_ret (results_cell_row rfl _ _ (w.heap.size + 1 + 1) _ #[.int .i64 k, .bool m, .bool gg, .slice pa LA.length ca, .slice pv jks0.length cv] _ _ rfl (setRow_heap _ _ _ _ _ _ BZ.out) Tryd.underlying31 rfl ZA.out) rfl ?_
                  have FF := join_final (k := k) (m := m) (gg := gg) (cs := #[.int .i64 k, .bool m, .bool gg, .slice pa LA.length ca, .slice pv jks0.length cv]) HJ3.out HO3.out HK3.out HAI.out HKP.out
                  refine ⟨.mk k m gg (.slice pa LA.length ca) LA (.slice pv jks0.length cv) jks0, rfl, FF.1, ?_, FF.2⟩
                  rw [Joins]
                  exact ⟨rfl, rfl, HG.out.symm, HAL.out, joinsL_of kids kids2 jks0 (HL.out.2.trans HL2.out.2.symm) (HJL.out.trans HL.out.2.symm) fun p t u j h1 h2 h3 => HJN.out p t u j h1 h2 h3⟩
end Go.Proofs.YtannfhbocfghkaaDoor.EnvC

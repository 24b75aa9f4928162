/- Contract of tree.sound at types, expressions and statements, out of one of what looks into a thing. -/
import Derived.Test.YtemflcojebanlaaGreatDoorJ09
import Derived.Test.YtemflcojebanlaaGreatDoorJ11
import Derived.Test.YtemflcojebanlaaGreatDoorJ14
import Derived.Maps.AppendAt
import Derived.Laws.AppendOwnNone
import Derived.WalkSmall
namespace Go.Proofs.YtemflcojebanlaaGreatDoor.TreeC
open Go Go.RowKit Go.Lib Go.Sort LexP TreeP LexC

theorem own_zero {w : World} {base : Nat} {e : TypeId} {size : Nat} {v : Value} {xs : List Value} (h : w.ownsRow base e size v 0 xs) : ∃ p cap, v = .slice p 0 cap := by
 obtain ⟨_, ⟨rfl, _⟩ | ⟨g, cap, cur, rfl, _⟩⟩ := h
 ·exact ⟨_, _, rfl⟩
 ·exact ⟨_, _, rfl⟩
theorem own_some {w : World} {base : Nat} {e : TypeId} {size n : Nat} {v : Value} {xs : List Value} (h : w.ownsRow base e size v (n + 1) xs) : ∃ g cap, v = .slice (some ⟨g, 0, none⟩) (n + 1) cap ∧ base ≤ g ∧ g < w.heap.size ∧ n + 1 ≤ cap := by
 obtain ⟨_, ⟨_, h2⟩ | ⟨g, cap, cur, rfl, h3, h4, h5, _⟩⟩ := id h
 ·omega
 ·exact ⟨_, _, rfl, h3, (Array.getElem?_eq_some_iff.1 h4).1, h5⟩
theorem shRow_last {α : Type} (l : List (Shelf α)) (t : Shelf α) (j : Nat) (u : Value) (h : t.cells[j]? = some u) : (shRow (l ++ [t]))[l.length * 2 + j]? = some u := by
 rw [shRow_snoc, List.getElem?_append_right (by rw [shRow_len]; omega), shRow_len, show l.length * 2 + j - l.length * 2 = j by omega]
 exact h
theorem shRow_app {α : Type} (l m : List (Shelf α)) : shRow (l ++ m) = shRow l ++ shRow m := by simp [shRow]
theorem shRow_ones {α : Type} (l : List (Shelf α)) (h : ∀ t ∈ l, t.v.oneCell' = true) : ∀ u ∈ shRow l, u.oneCell' = true := by
 intro u hu
 unfold shRow at hu
 obtain ⟨t, ht, hu⟩ := List.mem_flatMap.1 hu
 unfold Shelf.cells at hu
 simp at hu
 rcases hu with rfl | rfl
 ·rfl
 ·exact h t ht
theorem drop_len {α : Type} {l : List α} {i : Nat} (h : l.length ≤ i) : l.drop i = [] := List.drop_eq_nil_of_le h

/-- what looks into a thing: its shelves; what it shows the gauge -/
def Opens {α : Type} (cellsOf : α → List Value) (inW : World → α → Prop) (big : α → Nat) (inn : α → Nat → List (Shelf α)) (ex : α → Nat → Nat) (dp : α → Nat) (g : Nat) (pre : Array Value) (gb lim : Nat) (w : World) : Prop :=
 ∀ (x : α) (n dc : Nat) (W : World), n ≤ dc → max dc (n + dp x) ≤ 4194304 → inW (hush gb w) x → big x ≤ 1048576 → BelowX gb w.heap.size w W → GaugeAt W gb dc lim →
  Calls Tryz.prog g (pre ++ #[.agg (cellsOf x).toArray, .int .i64 (n : Int)]) W fun r w' => ∃ v dc', r = .returned v ∧ LiesN w' 2 v ((inn x n).map Shelf.cells) ∧ BelowX gb W.heap.size W w' ∧ GaugeAt w' gb dc' lim ∧ dc ≤ dc' ∧ dc' ≤ max dc (n + dp x) ∧ Capped lim dc' (max dc (ex x n))

def okT (u : World) (t : Shelf Ty) : Prop := Lies u 4 t.v (t.list.map Ty.cells) ∧ Ty.Ins u t.list ∧ (∀ x ∈ t.list, wT x ≤ 1048576) ∧ t.list.length ≤ 1048576
def okE (u : World) (t : Shelf Ex) : Prop := Lies u 5 t.v (t.list.map Ex.cells) ∧ Ex.Ins u t.list ∧ (∀ x ∈ t.list, wE x ≤ 1048576) ∧ t.list.length ≤ 1048576
def okS (u : World) (t : Shelf St) : Prop := Lies u 14 t.v (t.list.map St.cells) ∧ St.Ins u t.list ∧ (∀ x ∈ t.list, wS x ≤ 1048576) ∧ t.list.length ≤ 1048576

theorem BelowX.drewN {gb B : Nat} {a w : World} (h : BelowX gb B a w) (n : Nat) : BelowX gb B a (w.drewN n) := ⟨h.os, h.tape, h.output, h.size, h.block⟩
theorem BelowX.drew {gb B : Nat} {a w : World} (h : BelowX gb B a w) : BelowX gb B a w.drew := ⟨h.os, h.tape, h.output, h.size, h.block⟩
theorem BelowX.grown {gb B : Nat} {a w w' : World} {row : Option Nat} (h : BelowX gb B a w) (hg : w.grownBy w' row) (hB : B ≤ w.heap.size) (hr : ∀ k, row = some k → B ≤ k) : BelowX gb B a w' :=
 h.trans ⟨hg.os, hg.tape, hg.output, hg.size, fun k hk _ => hg.block k (by omega) (fun e => by have := hr k e.symm; omega)⟩
theorem BelowX.pre {gb : Nat} {w w' : World} (h : BelowX gb w.heap.size w w') {a : World} {B : Nat} (k : BelowX gb B a w) (hB : B ≤ w.heap.size) : BelowX gb B a w' := k.trans (h.mono hB)
/-- a shelf's cells, told apart -/
theorem shRow_split {α : Type} {l : List (Shelf α)} {j : Nat} {u : Value} (h : (shRow l)[j]? = some u) : ∃ t, l[j / 2]? = some t ∧ t.cells[j % 2]? = some u := by
 have hj : j < (shRow l).length := (List.getElem?_eq_some_iff.1 h).1
 rw [shRow_len] at hj
 have hi : j / 2 < l.length := by omega
 refine ⟨l[j / 2], List.getElem?_eq_getElem hi, ?_⟩
 have hr : j % 2 < (l[j / 2]).cells.length := by show j % 2 < 2; omega
 have := shRow_get l (j / 2) (l[j / 2]).cells (by rw [List.getElem?_map, List.getElem?_eq_getElem hi]; rfl) (j % 2) _ (List.getElem?_eq_getElem hr)
 rw [show j / 2 * 2 + j % 2 = j by omega, h] at this
 rw [List.getElem?_eq_getElem hr]
 exact this.symm
theorem lies_row {α : Type} {w : World} {ad : Addr} {m c : Nat} {l : List (Shelf α)} (h : Lies w 2 (.slice (some ad) m c) (l.map Shelf.cells)) : ∀ (j : Nat) (u : Value), (shRow l)[j]? = some u → w.cell? (ad.add j) = some u := by
 intro j u hj
 obtain ⟨t, ht, hu⟩ := shRow_split hj
 obtain ⟨p, cap, e, _, hp⟩ := h
 obtain ⟨b, off, rfl, hc⟩ := hp (by intro e; simp at e; rw [e] at ht; simp at ht)
 injection e with e1 _ _
 injection e1 with e1
 subst e1
 have := hc (j / 2) t.cells (by rw [List.getElem?_map, ht]; rfl) (j % 2) u hu
 rw [show off + j / 2 * 2 + j % 2 = off + j by omega] at this
 rw [show (⟨b, off, none⟩ : Addr).add j = ⟨b, off + j, none⟩ by simp [Addr.add]]
 exact this
theorem open_bound {α : Type} {dp : α → Nat} {inn : α → Nat → List (Shelf α)} {ex : α → Nat → Nat} {d d' D n : Nat} {work : List (Shelf α)} {x : α} {l : List α}
  (law : ∀ x n, max n (max (ex x n) (deepSh dp (inn x n))) = n + dp x)
  (h : max d (max (deepSh dp work) (deepAt dp n (x :: l))) ≤ D) (hd : d' ≤ max d (n + dp x)) : max d' (max (deepSh dp (work ++ inn x n)) (deepAt dp n l)) ≤ D := by
 have k := law x n
 have m := deepAt_le dp n l
 rw [deepAt] at h
 rw [deepSh_app]
 omega
theorem pop_bound {α : Type} {dp : α → Nat} {d D : Nat} {rest : List (Shelf α)} {s : Shelf α} (h : max d (deepSh dp (rest ++ [s])) ≤ D) :
  max (max d s.level) (max (deepSh dp rest) (deepAt dp s.level s.list)) ≤ D := by
 have := deepAt_le dp s.level s.list
 rw [deepSh_app] at h
 simp only [deepSh] at h
 omega

theorem sh_infoT : (Tryz.prog.info? 123).map (fun i => (i.zero, i.size, i.bytes)) = some (some (.agg #[.int .i64 0, .slice none 0 0]), 2, 32) := by kernel_rfl
set_option maxHeartbeats 8000000 in
set_option maxRecDepth 100000 in
theorem sound_tySize (s : Shelf Ty) (gb d lim : Nat) (w : World) (hg : GaugeAt w gb d lim) (hok : okT (hush gb w) s) (hwt : wAll wT s.list ≤ 1048576)
  (hD : max d (deepAt deepT s.level s.list) ≤ 4194304) (hlim : lim ≤ 9223372036854775807)
  (HO : Opens Ty.cells (fun u x => Ty.In u x) wT inT (fun _ _ => 0) deepT 63 #[] gb lim w)
  (innok : ∀ (x : Ty) (n : Nat) (u : World), Ty.In u x → wT x ≤ 1048576 → ∀ t ∈ inT x n, okT u t) :
  Calls Tryz.prog 62 #[.pointer (some ⟨gb, 0, none⟩), .agg s.cells.toArray, .func (.func 63) #[] #[]] w fun r w' => r = .returned (.tuple #[]) ∧
   ∃ d', d ≤ d' ∧ d' ≤ max d (deepAt deepT s.level s.list) ∧ GaugeAt w' gb d' lim ∧ Capped lim d' (max d (deepAt deepT s.level s.list)) ∧ BelowX gb w.heap.size w w' := by
 obtain ⟨i0, hinf, hi0⟩ := Option.map_eq_some_iff.1 sh_infoT
 have hz0 : i0.zero = some (.agg #[.int .i64 0, .slice none 0 0]) := by rw [Prod.mk.injEq] at hi0; exact hi0.1
 have hz1 : i0.size = 2 := by rw [Prod.mk.injEq, Prod.mk.injEq] at hi0; exact hi0.2.1
 have hz2 : i0.bytes = 32 := by rw [Prod.mk.injEq, Prod.mk.injEq] at hi0; exact hi0.2.2
 clear hi0
 have hgl := hg.lt
 generalize hDe : max d (deepAt deepT s.level s.list) = D at *
 have hsv : s.v.oneCell' = true := slice_one hok.1
 obtain ⟨lv, sv, ls⟩ := s
 unfold Shelf.cells
 dsimp only at hDe hwt hsv ⊢
 have hb1 : Below w.heap.size w ((w.alloc (.cells #[.int .i64 (lv : Int), sv] 123 (0, 0))).alloc (.cells #[.int .i64 (lv : Int), sv] 123 (0, 0))) := ((Below.refl _ _).alloc (Nat.le_refl _) _).alloc (by simp) _
 have O0 : Hid (((w.alloc (.cells #[.int .i64 (lv : Int), sv] 123 (0, 0))).alloc (.cells #[.int .i64 (lv : Int), sv] 123 (0, 0))).ownsRow (w.heap.size + 1) 123 2 (.slice (some ⟨w.heap.size + 1, 0, none⟩) 1 1) 1 (shRow [(⟨lv, sv, ls⟩ : Shelf Ty)])) := hid
  ⟨rfl, .inr ⟨w.heap.size + 1, 1, _, rfl, Nat.le_refl _, by
   have := heap_alloc_new (w.alloc (.cells #[.int .i64 (lv : Int), sv] 123 (0, 0))) (.cells #[.int .i64 (lv : Int), sv] 123 (0, 0))
   rw [show (w.alloc (.cells #[.int .i64 (lv : Int), sv] 123 (0, 0))).heap.size = w.heap.size + 1 from Array.size_push ..] at this
   exact this, Nat.le_refl _, by unfold maxLen; omega, rfl, rfl⟩⟩
 have G0 := hid (hg.below hb1 hgl)
 have B0 := hid (BelowX.of (gb := gb) hb1)
 have S0 : Hid (∀ t ∈ [(⟨lv, sv, ls⟩ : Shelf Ty)], okT (hush gb w) t) := hid (by intro t ht; rw [List.mem_singleton] at ht; rw [ht]; exact hok)
 have N0 : Hid (d ≤ d ∧ max d (deepSh deepT [(⟨lv, sv, ls⟩ : Shelf Ty)]) ≤ D ∧ Capped lim (max d (deepSh deepT [(⟨lv, sv, ls⟩ : Shelf Ty)])) D) := hid (by
  have e : max d (deepSh deepT [(⟨lv, sv, ls⟩ : Shelf Ty)]) = D := by simp only [deepSh]; omega
  rw [e]; exact ⟨Nat.le_refl _, Nat.le_refl _, .inl rfl⟩)
 have F0 : wSh wT [(⟨lv, sv, ls⟩ : Shelf Ty)] ≤ 1 + wAll wT ls := by simp only [wSh]; omega
 have OP := hid HO
 have IK := hid innok
 have HV := hid hsv
 have HGL := hid hgl
 have HDD := hid (And.intro hD hwt)
 have HLI := hid hlim
 have hlim' := hlim
 clear hb1 hg hok HO innok hsv hDe hgl hD hwt hlim
 go_enter Tryz.func62, Tryz.ntmps62
 go_wp2_with fail
 generalize (World.alloc (World.alloc w _) _) = W1 at *
 go_loopg [6] (1 + wAll wT ls) (fun gf u wx => ∃ (work : List (Shelf Ty)) (dc : Nat), Hid (wx.ownsRow (w.heap.size + 1) 123 2 u work.length (shRow work)) ∧ Hid (∀ t ∈ work, okT (hush gb w) t) ∧ Hid (GaugeAt wx gb dc lim) ∧ Hid (BelowX gb w.heap.size w wx) ∧ Hid (d ≤ dc ∧ max dc (deepSh deepT work) ≤ D ∧ Capped lim (max dc (deepSh deepT work)) D) ∧ wSh wT work ≤ gf ∧ wSh wT work ≤ 1048577)
 case atStart => exact ⟨[⟨lv, sv, ls⟩], d, O0, S0, G0, B0, N0, F0, by have := HDD.out.2; omega⟩
 case round =>
  obtain ⟨work, dc, HO, HS, HG, HB, HN, hf, hf2⟩ := hrel
  have c0 := HG.out.deepest
  have c1 := HG.out.limit
  clear O0 S0 G0 B0 N0 F0
  rcases List.eq_nil_or_concat work with rfl | ⟨rest, t, hwk⟩
  ·obtain ⟨p, cap, rfl⟩ := own_zero HO.out
   clear HO HS
   go_wp2_with fail
   go_quiet (fail)
   go_wp2_with fail
   go_end0
   obtain ⟨n1, n2, n3⟩ := HN.out
   simp only [deepSh, Nat.max_zero] at n2 n3
   exact ⟨rfl, dc, n1, n2, HG.out, n3, HB.out.drewN _⟩
  ·rw [List.concat_eq_append] at hwk
   subst hwk
   have hlen : (rest ++ [t]).length = rest.length + 1 := by simp
   have HOo := HO.out
   rw [hlen] at HOo
   obtain ⟨g, cap, rfl, hg1, hg2, hnc⟩ := own_some HOo
   by_cases hle : dc ≤ lim
   ·have hokt := HS.out t (by simp)
    have hone : t.v.oneCell' = true := slice_one hokt.1
    have hcell : ∀ (j : Nat) (u : Value), t.cells[j]? = some u → wr.cell? ⟨g, 0 + rest.length * 2 + j, none⟩ = some u := fun j u hj => by
     rw [Nat.zero_add]
     exact owns_cell HOo (shRow_last rest t j u hj)
    have hpop := ownsRow_pop (w := wr) (base := w.heap.size + 1) (e := 123) (size := 2) (g := g) (cap := cap) (n := rest.length) (xs := shRow rest) (last := t.cells) (shRow_len rest) (by rw [← shRow_snoc]; exact HOo)
    have hn1 := wSh_len wT (rest ++ [t])
    rw [hlen] at hn1
    generalize hn : rest.length = n at *
    have hn2 : n + 1 ≤ 1048577 := by omega
    have PO := hid hpop
    have CE := hid hcell
    have OKT := hid hokt
    have HNN := hid hn
    obtain ⟨lt, vt, lst⟩ := t
    unfold Shelf.cells at CE
    dsimp only at hone CE OKT
    have HONE := hid hone
    clear hcell hpop hokt HO HOo hlen hn hone hn1
    go_wp2_with fail
    go_quiet (fail)
    have G1 : Hid (GaugeAt (wr.drewN nq) gb dc lim) := HG
    have B1 : Hid (BelowX gb w.heap.size w (wr.drewN nq)) := hid (HB.out.drewN _)
    have P1 : Hid ((wr.drewN nq).ownsRow (w.heap.size + 1) 123 2 (Value.slice (some ⟨g, 0, none⟩) n cap) n (shRow rest)) := PO
    have C1 : Hid (∀ (j : Nat) (u : Value), [Value.int .i64 (lt : Int), vt][j]? = some u → (wr.drewN nq).cell? ⟨g, 0 + n * 2 + j, none⟩ = some u) := CE
    have hg3 : g < (wr.drewN nq).heap.size := hg2
    clear HG HB PO CE hg2 c0 c1
    generalize wr.drewN nq = wq at *
    have hb2 : Below wq.heap.size wq ((wq.alloc (.cells #[.int .i64 0, .slice none 0 0] 123 (0, 0))).setRow wq.heap.size [Value.int .i64 (lt : Int), vt].toArray) := rowed_below' _ _ _
    have hX2 : BoxAt ((wq.alloc (.cells #[.int .i64 0, .slice none 0 0] 123 (0, 0))).setRow wq.heap.size [Value.int .i64 (lt : Int), vt].toArray) wq.heap.size [Value.int .i64 (lt : Int), vt] := rowed_box' _ _ _ _
    have ZA : Hid ((Tryz.prog.info? 123).map (·.size) = some [Value.int .i64 (lt : Int), vt].toArray.size) := hid (show (Tryz.prog.info? 123).map (·.size) = some 2 by kernel_rfl)
    have ZO : Hid ((#[.int .i64 0, .slice none 0 0] : Array Value).size = [Value.int .i64 (lt : Int), vt].toArray.size) := hid rfl
    have ZN : Hid ([Value.int .i64 (lt : Int), vt].toArray.all (·.oneCell') = true) := hid (by
     simp only [List.all_toArray, List.all_cons, List.all_nil, HONE.out, Bool.and_true]; rfl)
    have ZL : Hid ((Tryz.prog.info? 123).map (·.size) = some [Value.int .i64 (lt : Int), vt].length) := hid (show (Tryz.prog.info? 123).map (·.size) = some 2 by kernel_rfl)
    have BB := hid hb2
    have XX := hid hX2
    clear hb2 hX2
    go_wp2_with (first | (with_reducible refine wpList_load_at (o := ⟨some 31, _, _, _, _, _⟩) rfl _ _ rfl g (0 + n * 2) rfl [Value.int .i64 (lt : Int), vt] _ C1.out Tryz.underlying123 rfl ZL.out ?_) | (with_reducible refine wpList_load_at (o := ⟨some 31, _, _, _, _, _⟩) rfl _ _ rfl g (n * 2) rfl [Value.int .i64 (lt : Int), vt] _ (by rw [Nat.zero_add] at C1; exact C1.out) Tryz.underlying123 rfl ZL.out ?_) | (with_reducible refine wpList_store_row (o := ⟨none, _, _, _, _, _⟩) rfl _ _ _ rfl wq.heap.size [Value.int .i64 (lt : Int), vt].toArray rfl rfl _ _ (heap_alloc_new _ _) ZA.out ZO.out ZN.out ?_))
    generalize (World.alloc wq _).setRow _ _ = W2 at *
    have G2 := hid (G1.out.below BB.out G1.out.lt)
    have B2 := hid (B1.out.then (BB.out.mono (by have := B1.out.size; omega)))
    have P2 := hid (owns_below P1.out BB.out)
    have hgl2 : gb < wq.heap.size := G1.out.lt
    have hsz : wq.heap.size < W2.heap.size := World.block_lt_of_cell? _ _ (box_get XX.out (j := 0) rfl)
    clear BB ZA ZO ZN ZL C1 HONE B1 P1 G1
    have c0 := G2.out.deepest
    have f0 := G2.out.thawed 0
    have l0 := box_get XX.out (j := 0) rfl
    go_region
    have em : max (dc : Int) (lt : Int) = ((max dc lt : Nat) : Int) := by omega
    have G3 : Hid (GaugeAt (W2.setCell ⟨gb, 0, none⟩ (.int .i64 (max (dc : Int) (lt : Int)))).drew gb (max dc lt) lim) := hid (by rw [em]; exact G2.out.set _)
    have B3 : Hid (BelowX gb w.heap.size w (W2.setCell ⟨gb, 0, none⟩ (.int .i64 (max (dc : Int) (lt : Int)))).drew) := hid (B2.out.gauge 0 _).drew
    have P3 : Hid ((W2.setCell ⟨gb, 0, none⟩ (.int .i64 (max (dc : Int) (lt : Int)))).drew.ownsRow (w.heap.size + 1) 123 2 (.slice (some ⟨g, 0, none⟩) n cap) n (shRow rest)) := hid (ownsRow_setCell_below P2.out (by have := HGL.out; show gb < _; omega) _)
    have X3 : Hid (BoxAt (W2.setCell ⟨gb, 0, none⟩ (.int .i64 (max (dc : Int) (lt : Int)))).drew wq.heap.size [Value.int .i64 (lt : Int), vt]) := hid (((BelowX.refl gb W2.heap.size W2).gauge 0 _).drew.box XX.out (by omega))
    have hlb : w.heap.size < wq.heap.size ∧ g ≠ wq.heap.size := by have := B2.out.size; omega
    generalize World.drew _ = W3 at *
    generalize wq.heap.size = lb at *
    clear em c0 f0 l0 G2 B2 P2 XX hsz hg3
    have l1 := box_get X3.out (j := 1) rfl
    obtain ⟨p, cap', hve, hcap', _⟩ := OKT.out.1
    dsimp only at hve
    subst hve
    rw [List.length_map] at *
    have hL1 : lst.length ≤ 1048576 := OKT.out.2.2.2
    generalize hL : lst.length = L at *
    have HL := hid hL
    have N3 : Hid (d ≤ max dc lt ∧ lt ≤ max dc lt ∧ max (max dc lt) (max (deepSh deepT rest) (deepAt deepT lt (lst.drop 0))) ≤ D ∧ Capped lim (max (max dc lt) (max (deepSh deepT rest) (deepAt deepT lt (lst.drop 0)))) D ∧ wSh wT rest + wAll wT (lst.drop 0) ≤ wSh wT rest + wAll wT lst) := hid (by
     rw [List.drop_zero]
     exact ⟨by have := HN.out.1; omega, by omega, pop_bound HN.out.2.1, capped_pop HN.out.2.2, Nat.le_refl _⟩)
    have F3 : wSh wT rest + wAll wT lst + 1 ≤ gk ∧ wSh wT rest + wAll wT lst ≤ 1048576 := by
     rw [wSh_app] at hf hf2
     simp only [wSh] at hf hf2
     omega
    have S3 : Hid (∀ t ∈ rest, okT (hush gb w) t) := hid fun t ht => HS.out t (by simp [ht])
    obtain ⟨go, rfl⟩ : ∃ go : Nat, go = gk := ⟨_, rfl⟩
    clear hL hf hf2 HS HN hcap'
    rw [show n = rest.length from HNN.out.symm] at *
    go_wp2_with fail
    go_loopg [6, 50] L (fun gf u v wx => ∃ (i : Nat) (wk : List (Shelf Ty)) (dk : Nat), v = .int .i64 (i : Int) ∧ i ≤ L ∧ L ≤ i + gf ∧ Hid (wx.ownsRow (w.heap.size + 1) 123 2 u wk.length (shRow wk)) ∧ Hid (u.ownBlock ≠ some lb) ∧ Hid (∀ t ∈ wk, okT (hush gb w) t) ∧ Hid (GaugeAt wx gb dk lim) ∧ Hid (BelowX gb w.heap.size w wx) ∧ Hid (BoxAt wx lb [Value.int .i64 (lt : Int), .slice p L cap']) ∧ Hid (d ≤ dk ∧ lt ≤ dk ∧ max dk (max (deepSh deepT wk) (deepAt deepT lt (lst.drop i))) ≤ D ∧ Capped lim (max dk (max (deepSh deepT wk) (deepAt deepT lt (lst.drop i)))) D ∧ wSh wT wk + wAll wT (lst.drop i) ≤ wSh wT rest + wAll wT lst))
    case atStart => exact ⟨0, rest, max dc lt, rfl, by omega, by omega, P3, hid (by simp [Value.ownBlock]; exact hlb.2), S3, G3, B3, X3, N3⟩
    case round =>
     obtain ⟨i, wk, dk, rfl, hi, hgk, HOi, HWi, HSi, HGi, HBi, HXi, HNi⟩ := hrel
     clear P3 S3 G3 B3 X3 N3 l1
     by_cases hlt : i < L
     ·obtain ⟨x, hx⟩ : ∃ x, lst[i]? = some x := ⟨lst[i]'(by rw [HL.out]; exact hlt), List.getElem?_eq_getElem _⟩
      have hdrop : lst.drop i = x :: lst.drop (i + 1) := drop_cons hx
      have hxi : Ty.In (hush gb w) x := (Ty.ins_iff _ _).1 OKT.out.2.1 x (List.mem_of_getElem? hx)
      have hxw : wT x ≤ 1048576 := OKT.out.2.2.1 x (List.mem_of_getElem? hx)
      obtain ⟨b, off, capx, e, _, hc⟩ := Lies.at (OKT.out.1.keep (fun b o u hc => hush_keeps gb wr _ _ _ (HBi.out.keeps _ _ _ hc))) (i := i) (by rw [List.length_map, HL.out]; exact hlt)
      injection e with e1 e2 e3
      subst e1
      clear e2 e3
      have hx' : ∀ (j : Nat) (u : Value), (Ty.cells x)[j]? = some u → wr.cell? ⟨b, off + i * 4 + j, none⟩ = some u := hc i _ (by rw [List.getElem?_map, hx]; rfl)
      have hz := tySize x
      have ho := ty_ones hxi
      unfold Ones at ho
      have hN := HNi.out
      rw [hdrop] at hN
      have CI : ∀ (W : World), BelowX gb w.heap.size w W → GaugeAt W gb dk lim → Calls Tryz.prog 63 #[.agg (Ty.cells x).toArray, .int .i64 (lt : Int)] W fun r w' => ∃ v dc', r = .returned v ∧ LiesN w' 2 v ((inT x lt).map Shelf.cells) ∧ BelowX gb W.heap.size W w' ∧ GaugeAt w' gb dc' lim ∧ dk ≤ dc' ∧ dc' ≤ max dk (lt + deepT x) ∧ Capped lim dc' (max dk ((fun _ _ => 0) x lt)) :=
       fun W h1 h2 => OP.out x lt dk W hN.2.1 (by have h := hN.2.2.1; rw [deepAt] at h; have := HDD.out.1; omega) hxi hxw h1 h2
      have hiw := inT_w x lt
      have hik := IK.out x lt _ hxi hxw
      have hone := shRow_ones (inT x lt) fun t ht => slice_one (hik t ht).1
      have hsm : ∀ t ∈ wk ++ inT x lt, okT (hush gb w) t := fun t ht => (List.mem_append.1 ht).elim (HSi.out t) (hik t)
      have hnx : ∀ dk', dk ≤ dk' → dk' ≤ max dk (lt + deepT x) → Capped lim dk' (max dk ((fun _ _ => 0) x lt)) → Hid (d ≤ dk' ∧ lt ≤ dk' ∧ max dk' (max (deepSh deepT (wk ++ inT x lt)) (deepAt deepT lt (lst.drop (i + 1)))) ≤ D ∧ Capped lim (max dk' (max (deepSh deepT (wk ++ inT x lt)) (deepAt deepT lt (lst.drop (i + 1))))) D ∧ wSh wT (wk ++ inT x lt) + wAll wT (lst.drop (i + 1)) ≤ wSh wT rest + wAll wT lst) := fun dk' h1 h2 h3 => hid
       ⟨by have := hN.1; omega, by have := hN.2.1; omega, open_bound inT_law' hN.2.2.1 h2, capped_open inT_law' hN.2.1 hN.2.2.2.1 h3 h1, by
        have h := hN.2.2.2.2
        rw [wAll] at h
        rw [wSh_app]
        omega⟩
      have hlen2 : wk.length + (inT x lt).length ≤ 1048577 := by
       have h := hN.2.2.2.2
       rw [wAll] at h
       have a1 := wSh_len wT wk
       have a2 := wSh_len wT (inT x lt)
       have := F3.2
       omega
      generalize inT x lt = NEW at *
      generalize Ty.cells x = fcs at *
      have HCI := hid CI
      have HONE := hid hone
      have HSM := hid hsm
      have HNX := hid hnx
      have HX' := hid hx'
      have H1C := hid ho
      clear hx hdrop hxi hxw hc hiw hik hN CI hone hsm hnx hx' ho HNi HSi
      have hb2 : Below wr.heap.size wr ((wr.alloc (.cells #[.int .i64 0, .string ⟨#[]⟩, .bool false, .slice none 0 0] 34 (0, 0))).setRow wr.heap.size fcs.toArray) := rowed_below' _ _ _
      have hX2 : BoxAt ((wr.alloc (.cells #[.int .i64 0, .string ⟨#[]⟩, .bool false, .slice none 0 0] 34 (0, 0))).setRow wr.heap.size fcs.toArray) wr.heap.size fcs := rowed_box' _ _ _ _
      have B5 := hid (HBi.out.then (hb2.mono HBi.out.size))
      have G5 := hid (HGi.out.below hb2 HGi.out.lt)
      have CI2 := hid (HCI.out _ B5.out G5.out)
      have X5 := hid (HXi.out.later hb2)
      have O5 := hid (owns_below HOi.out hb2)
      have ZF := hid hz
      have ZA : Hid ((Tryz.prog.info? 34).map (·.size) = some fcs.toArray.size) := hid (by rw [List.size_toArray]; exact hz)
      have ZO : Hid ((#[.int .i64 0, .string ⟨#[]⟩, .bool false, .slice none 0 0] : Array Value).size = fcs.toArray.size) := hid (by
       rw [show (Tryz.prog.info? 34).map (·.size) = some 4 by kernel_rfl] at hz
       exact Option.some.inj hz)
      have XE : Hid (∀ (j : Nat) (u : Value), fcs[j]? = some u → ((wr.alloc (.cells #[.int .i64 0, .string ⟨#[]⟩, .bool false, .slice none 0 0] 34 (0, 0))).setRow wr.heap.size fcs.toArray).cell? ⟨wr.heap.size, 0 + j, none⟩ = some u) := hid fun j u h => by rw [Nat.zero_add]; exact hX2 j u h
      have l5 := box_get X5.out (j := 0) rfl
      clear hb2 hX2 hz HCI HGi HBi HXi HOi
      go_wp2_with (first | (with_reducible refine wpList_load_at (o := ⟨some 53, _, _, _, _, _⟩) rfl _ _ rfl b (off + i * 4) rfl fcs _ HX'.out Tryz.underlying34 rfl ZF.out ?_) | (with_reducible refine wpList_store_row (o := ⟨none, _, _, _, _, _⟩) rfl _ _ _ rfl wr.heap.size fcs.toArray rfl rfl _ _ (heap_alloc_new _ _) ZA.out ZO.out H1C.out ?_) | (with_reducible refine wpList_load_at (o := ⟨some 56, _, _, _, _, _⟩) rfl _ _ rfl wr.heap.size 0 rfl fcs _ XE.out Tryz.underlying34 rfl ZF.out ?_))
      with_reducible refine CI2.out.mono ?_
      rintro e W5 ⟨v', dk', rfl, hl', hb5, hg5, h1, h2, h3⟩
      have G6 := hid hg5
      have B6 := hid (hb5.pre B5.out B5.out.size)
      have X6 := hid (hb5.box X5.out (by have := hlb.1; have := HGL.out; omega))
      have O6 := hid (hb5.owns O5.out (by have := HGL.out; omega))
      have N6 := HNX.out dk' h1 h2 h3
      have hs6 : w.heap.size + 1 ≤ W5.heap.size := by
       have h1 : lb < W5.heap.size := World.block_lt_of_cell? _ _ (box_get X6.out (j := 0) rfl)
       have h2 := hlb.1
       omega
      obtain ⟨hlie, hnil⟩ := hl'
      have hrow := fun ad m c (e : v' = .slice (some ad) m c) => lies_row (e ▸ hlie)
      obtain ⟨q, cq, rfl, hcq, _⟩ := hlie
      rw [List.length_map] at *
      clear CI2 B5 G5 X5 O5 ZF ZA ZO XE HX' H1C HNX l5 hb5 hg5 h1 h2 h3 hcq
      rcases q with _ | ad
      ·have hz := (hnil _ _ rfl)
       obtain ⟨hz1', hz2'⟩ := hz
       have hN0 : NEW = [] := List.eq_nil_of_length_eq_zero hz1'
       subst hN0
       subst hz2'
       rw [List.append_nil] at HSM N6
       clear hrow hnil HONE
       go_wp2_with (at_builtin; refine wpList_append_own_none rfl _ _ 158 rfl (w.heap.size + 1) 123 i0 2 Tryz.underlying158 hinf _ _ _ rfl O6.out rfl ?_)
       go_roundg (gk - 1)
       case measure => omega
       case rel => exact ⟨i + 1, wk, dk', by go_num, by omega, by omega, O6, HWi, HSM, G6, B6, X6, N6⟩
      ·have HROW := hid (hrow ad _ _ rfl)
       have HSH := hid (shRow_app wk NEW)
       have HLA : Hid ((wk ++ NEW).length = wk.length + NEW.length) := hid List.length_append
       have HRL := hid (shRow_len NEW)
       clear hrow hnil
       generalize NEW.length = m at *
       go_wp2_with (at_builtin; refine wpList_append_own_at _ rfl _ _ 158 rfl (w.heap.size + 1) 123 i0 _ 2 32 Tryz.underlying158 hinf hz0 hz1 hz2 rfl (by decide) _ _ _ rfl O6.out ad m cq (shRow NEW) rfl HRL.out HROW.out HONE.out ?c3 ?c4 hs6 ?_)
       case c3 => unfold maxLen; omega
       case c4 => omega
       intro v'' W6 hown' hgrow _ hat
       have K1 : Hid (W6.ownsRow (w.heap.size + 1) 123 2 v'' (wk ++ NEW).length (shRow (wk ++ NEW))) := hid (by rw [HLA.out, HSH.out]; exact hown')
       have hrowb : ∀ k, (Value.ownBlock _ = some k) → w.heap.size ≤ k := fun k hk => by have := (O6.out.lt k hk).1; omega
       have K2 := hid (B6.out.grown hgrow (by omega) hrowb)
       have K3 : Hid (GaugeAt W6 gb dk' lim) := hid ((hgrow.block gb G6.out.lt (fun e => by have := hrowb gb e.symm; have := HGL.out; omega)).trans G6.out)
       have hlbs := World.block_lt_of_cell? _ _ (box_get X6.out (j := 0) rfl)
       have K4 : Hid (BoxAt W6 lb [Value.int .i64 (lt : Int), .slice (some ⟨b, off, none⟩) L cap']) := hid fun j u hj => (World.cell?_of_block (w := W5) (a := ⟨lb, j, none⟩) (hgrow.block lb hlbs (fun e => HWi.out e.symm))).trans (X6.out j u hj)
       have K5 : Hid (v''.ownBlock ≠ some lb) := hid fun e => by
        rcases hat with h | h
        ·exact HWi.out (h.symm.trans e)
        ·rw [h] at e
         injection e with e
         have hlbs' : lb < W5.heap.size := hlbs
         omega
       clear hown' hgrow hat hrowb hlbs HROW HSH HLA HRL HONE
       go_wp2_with fail
       go_roundg (gk - 1)
       case measure => omega
       case rel => exact ⟨i + 1, wk ++ NEW, dk', by go_num, by omega, by omega, K1, K5, HSM, K3, K2, K4, N6⟩
     ·obtain rfl : i = L := by omega
      have hd0 : lst.drop i = [] := drop_len (by rw [HL.out]; exact Nat.le_refl _)
      have hN := HNi.out
      rw [hd0] at hN
      have K : Hid (d ≤ dk ∧ max dk (deepSh deepT wk) ≤ D ∧ Capped lim (max dk (deepSh deepT wk)) D) := hid
       ⟨hN.1, by have := hN.2.2.1; rw [deepAt] at this; omega, capped_end hN.2.1 hN.2.2.2.1⟩
      have hw2 : wSh wT wk ≤ go - 1 ∧ wSh wT wk ≤ 1048577 ∧ 0 < go := by
       have h := hN.2.2.2.2
       rw [wAll] at h
       have := F3.1; have := F3.2
       omega
      clear hN hd0 HNi
      go_wp2_with fail
      go_roundg (go - 1)
      case measure => omega
      case rel => exact ⟨wk, dk, HOi, HSi, HGi, HBi, K, hw2.1, hw2.2.1⟩
   ·obtain ⟨n1, n2, n3⟩ := HN.out
    clear HO HOo HS
    go_wp2_with fail
    go_quiet (fail)
    go_wp2_with fail
    go_end0
    exact ⟨rfl, dc, n1, by omega, HG.out, capped_done (by omega) n3, HB.out.drewN _⟩
theorem sh_infoE : (Tryz.prog.info? 131).map (fun i => (i.zero, i.size, i.bytes)) = some (some (.agg #[.int .i64 0, .slice none 0 0]), 2, 32) := by kernel_rfl
set_option maxHeartbeats 8000000 in
set_option maxRecDepth 100000 in
theorem sound_exSize (s : Shelf Ex) (gb d lim : Nat) (w : World) (hg : GaugeAt w gb d lim) (hok : okE (hush gb w) s) (hwt : wAll nE s.list ≤ 1048576)
  (hD : max d (deepAt deepE s.level s.list) ≤ 4194304) (hlim : lim ≤ 9223372036854775807)
  (HO : Opens Ex.cells (fun u x => Ex.In u x) wE inE (fun _ _ => 0) deepE 67 #[] gb lim w)
  (innok : ∀ (x : Ex) (n : Nat) (u : World), Ex.In u x → wE x ≤ 1048576 → ∀ t ∈ inE x n, okE u t) :
  Calls Tryz.prog 66 #[.pointer (some ⟨gb, 0, none⟩), .agg s.cells.toArray, .func (.func 67) #[] #[]] w fun r w' => r = .returned (.tuple #[]) ∧
   ∃ d', d ≤ d' ∧ d' ≤ max d (deepAt deepE s.level s.list) ∧ GaugeAt w' gb d' lim ∧ Capped lim d' (max d (deepAt deepE s.level s.list)) ∧ BelowX gb w.heap.size w w' := by
 obtain ⟨i0, hinf, hi0⟩ := Option.map_eq_some_iff.1 sh_infoE
 have hz0 : i0.zero = some (.agg #[.int .i64 0, .slice none 0 0]) := by rw [Prod.mk.injEq] at hi0; exact hi0.1
 have hz1 : i0.size = 2 := by rw [Prod.mk.injEq, Prod.mk.injEq] at hi0; exact hi0.2.1
 have hz2 : i0.bytes = 32 := by rw [Prod.mk.injEq, Prod.mk.injEq] at hi0; exact hi0.2.2
 clear hi0
 have hgl := hg.lt
 generalize hDe : max d (deepAt deepE s.level s.list) = D at *
 have hsv : s.v.oneCell' = true := slice_one hok.1
 obtain ⟨lv, sv, ls⟩ := s
 unfold Shelf.cells
 dsimp only at hDe hwt hsv ⊢
 have hb1 : Below w.heap.size w ((w.alloc (.cells #[.int .i64 (lv : Int), sv] 131 (0, 0))).alloc (.cells #[.int .i64 (lv : Int), sv] 131 (0, 0))) := ((Below.refl _ _).alloc (Nat.le_refl _) _).alloc (by simp) _
 have O0 : Hid (((w.alloc (.cells #[.int .i64 (lv : Int), sv] 131 (0, 0))).alloc (.cells #[.int .i64 (lv : Int), sv] 131 (0, 0))).ownsRow (w.heap.size + 1) 131 2 (.slice (some ⟨w.heap.size + 1, 0, none⟩) 1 1) 1 (shRow [(⟨lv, sv, ls⟩ : Shelf Ex)])) := hid
  ⟨rfl, .inr ⟨w.heap.size + 1, 1, _, rfl, Nat.le_refl _, by
   have := heap_alloc_new (w.alloc (.cells #[.int .i64 (lv : Int), sv] 131 (0, 0))) (.cells #[.int .i64 (lv : Int), sv] 131 (0, 0))
   rw [show (w.alloc (.cells #[.int .i64 (lv : Int), sv] 131 (0, 0))).heap.size = w.heap.size + 1 from Array.size_push ..] at this
   exact this, Nat.le_refl _, by unfold maxLen; omega, rfl, rfl⟩⟩
 have G0 := hid (hg.below hb1 hgl)
 have B0 := hid (BelowX.of (gb := gb) hb1)
 have S0 : Hid (∀ t ∈ [(⟨lv, sv, ls⟩ : Shelf Ex)], okE (hush gb w) t) := hid (by intro t ht; rw [List.mem_singleton] at ht; rw [ht]; exact hok)
 have N0 : Hid (d ≤ d ∧ max d (deepSh deepE [(⟨lv, sv, ls⟩ : Shelf Ex)]) ≤ D ∧ Capped lim (max d (deepSh deepE [(⟨lv, sv, ls⟩ : Shelf Ex)])) D) := hid (by
  have e : max d (deepSh deepE [(⟨lv, sv, ls⟩ : Shelf Ex)]) = D := by simp only [deepSh]; omega
  rw [e]; exact ⟨Nat.le_refl _, Nat.le_refl _, .inl rfl⟩)
 have F0 : wSh nE [(⟨lv, sv, ls⟩ : Shelf Ex)] ≤ 1 + wAll nE ls := by simp only [wSh]; omega
 have OP := hid HO
 have IK := hid innok
 have HV := hid hsv
 have HGL := hid hgl
 have HDD := hid (And.intro hD hwt)
 have HLI := hid hlim
 have hlim' := hlim
 clear hb1 hg hok HO innok hsv hDe hgl hD hwt hlim
 go_enter Tryz.func66, Tryz.ntmps66
 go_wp2_with fail
 generalize (World.alloc (World.alloc w _) _) = W1 at *
 go_loopg [6] (1 + wAll nE ls) (fun gf u wx => ∃ (work : List (Shelf Ex)) (dc : Nat), Hid (wx.ownsRow (w.heap.size + 1) 131 2 u work.length (shRow work)) ∧ Hid (∀ t ∈ work, okE (hush gb w) t) ∧ Hid (GaugeAt wx gb dc lim) ∧ Hid (BelowX gb w.heap.size w wx) ∧ Hid (d ≤ dc ∧ max dc (deepSh deepE work) ≤ D ∧ Capped lim (max dc (deepSh deepE work)) D) ∧ wSh nE work ≤ gf ∧ wSh nE work ≤ 1048577)
 case atStart => exact ⟨[⟨lv, sv, ls⟩], d, O0, S0, G0, B0, N0, F0, by have := HDD.out.2; omega⟩
 case round =>
  obtain ⟨work, dc, HO, HS, HG, HB, HN, hf, hf2⟩ := hrel
  have c0 := HG.out.deepest
  have c1 := HG.out.limit
  clear O0 S0 G0 B0 N0 F0
  rcases List.eq_nil_or_concat work with rfl | ⟨rest, t, hwk⟩
  ·obtain ⟨p, cap, rfl⟩ := own_zero HO.out
   clear HO HS
   go_wp2_with fail
   go_quiet (fail)
   go_wp2_with fail
   go_end0
   obtain ⟨n1, n2, n3⟩ := HN.out
   simp only [deepSh, Nat.max_zero] at n2 n3
   exact ⟨rfl, dc, n1, n2, HG.out, n3, HB.out.drewN _⟩
  ·rw [List.concat_eq_append] at hwk
   subst hwk
   have hlen : (rest ++ [t]).length = rest.length + 1 := by simp
   have HOo := HO.out
   rw [hlen] at HOo
   obtain ⟨g, cap, rfl, hg1, hg2, hnc⟩ := own_some HOo
   by_cases hle : dc ≤ lim
   ·have hokt := HS.out t (by simp)
    have hone : t.v.oneCell' = true := slice_one hokt.1
    have hcell : ∀ (j : Nat) (u : Value), t.cells[j]? = some u → wr.cell? ⟨g, 0 + rest.length * 2 + j, none⟩ = some u := fun j u hj => by
     rw [Nat.zero_add]
     exact owns_cell HOo (shRow_last rest t j u hj)
    have hpop := ownsRow_pop (w := wr) (base := w.heap.size + 1) (e := 131) (size := 2) (g := g) (cap := cap) (n := rest.length) (xs := shRow rest) (last := t.cells) (shRow_len rest) (by rw [← shRow_snoc]; exact HOo)
    have hn1 := wSh_len nE (rest ++ [t])
    rw [hlen] at hn1
    generalize hn : rest.length = n at *
    have hn2 : n + 1 ≤ 1048577 := by omega
    have PO := hid hpop
    have CE := hid hcell
    have OKT := hid hokt
    have HNN := hid hn
    obtain ⟨lt, vt, lst⟩ := t
    unfold Shelf.cells at CE
    dsimp only at hone CE OKT
    have HONE := hid hone
    clear hcell hpop hokt HO HOo hlen hn hone hn1
    go_wp2_with fail
    go_quiet (fail)
    have G1 : Hid (GaugeAt (wr.drewN nq) gb dc lim) := HG
    have B1 : Hid (BelowX gb w.heap.size w (wr.drewN nq)) := hid (HB.out.drewN _)
    have P1 : Hid ((wr.drewN nq).ownsRow (w.heap.size + 1) 131 2 (Value.slice (some ⟨g, 0, none⟩) n cap) n (shRow rest)) := PO
    have C1 : Hid (∀ (j : Nat) (u : Value), [Value.int .i64 (lt : Int), vt][j]? = some u → (wr.drewN nq).cell? ⟨g, 0 + n * 2 + j, none⟩ = some u) := CE
    have hg3 : g < (wr.drewN nq).heap.size := hg2
    clear HG HB PO CE hg2 c0 c1
    generalize wr.drewN nq = wq at *
    have hb2 : Below wq.heap.size wq ((wq.alloc (.cells #[.int .i64 0, .slice none 0 0] 131 (0, 0))).setRow wq.heap.size [Value.int .i64 (lt : Int), vt].toArray) := rowed_below' _ _ _
    have hX2 : BoxAt ((wq.alloc (.cells #[.int .i64 0, .slice none 0 0] 131 (0, 0))).setRow wq.heap.size [Value.int .i64 (lt : Int), vt].toArray) wq.heap.size [Value.int .i64 (lt : Int), vt] := rowed_box' _ _ _ _
    have ZA : Hid ((Tryz.prog.info? 131).map (·.size) = some [Value.int .i64 (lt : Int), vt].toArray.size) := hid (show (Tryz.prog.info? 131).map (·.size) = some 2 by kernel_rfl)
    have ZO : Hid ((#[.int .i64 0, .slice none 0 0] : Array Value).size = [Value.int .i64 (lt : Int), vt].toArray.size) := hid rfl
    have ZN : Hid ([Value.int .i64 (lt : Int), vt].toArray.all (·.oneCell') = true) := hid (by
     simp only [List.all_toArray, List.all_cons, List.all_nil, HONE.out, Bool.and_true]; rfl)
    have ZL : Hid ((Tryz.prog.info? 131).map (·.size) = some [Value.int .i64 (lt : Int), vt].length) := hid (show (Tryz.prog.info? 131).map (·.size) = some 2 by kernel_rfl)
    have BB := hid hb2
    have XX := hid hX2
    clear hb2 hX2
    go_wp2_with (first | (with_reducible refine wpList_load_at (o := ⟨some 31, _, _, _, _, _⟩) rfl _ _ rfl g (0 + n * 2) rfl [Value.int .i64 (lt : Int), vt] _ C1.out Tryz.underlying131 rfl ZL.out ?_) | (with_reducible refine wpList_load_at (o := ⟨some 31, _, _, _, _, _⟩) rfl _ _ rfl g (n * 2) rfl [Value.int .i64 (lt : Int), vt] _ (by rw [Nat.zero_add] at C1; exact C1.out) Tryz.underlying131 rfl ZL.out ?_) | (with_reducible refine wpList_store_row (o := ⟨none, _, _, _, _, _⟩) rfl _ _ _ rfl wq.heap.size [Value.int .i64 (lt : Int), vt].toArray rfl rfl _ _ (heap_alloc_new _ _) ZA.out ZO.out ZN.out ?_))
    generalize (World.alloc wq _).setRow _ _ = W2 at *
    have G2 := hid (G1.out.below BB.out G1.out.lt)
    have B2 := hid (B1.out.then (BB.out.mono (by have := B1.out.size; omega)))
    have P2 := hid (owns_below P1.out BB.out)
    have hgl2 : gb < wq.heap.size := G1.out.lt
    have hsz : wq.heap.size < W2.heap.size := World.block_lt_of_cell? _ _ (box_get XX.out (j := 0) rfl)
    clear BB ZA ZO ZN ZL C1 HONE B1 P1 G1
    have c0 := G2.out.deepest
    have f0 := G2.out.thawed 0
    have l0 := box_get XX.out (j := 0) rfl
    go_region
    have em : max (dc : Int) (lt : Int) = ((max dc lt : Nat) : Int) := by omega
    have G3 : Hid (GaugeAt (W2.setCell ⟨gb, 0, none⟩ (.int .i64 (max (dc : Int) (lt : Int)))).drew gb (max dc lt) lim) := hid (by rw [em]; exact G2.out.set _)
    have B3 : Hid (BelowX gb w.heap.size w (W2.setCell ⟨gb, 0, none⟩ (.int .i64 (max (dc : Int) (lt : Int)))).drew) := hid (B2.out.gauge 0 _).drew
    have P3 : Hid ((W2.setCell ⟨gb, 0, none⟩ (.int .i64 (max (dc : Int) (lt : Int)))).drew.ownsRow (w.heap.size + 1) 131 2 (.slice (some ⟨g, 0, none⟩) n cap) n (shRow rest)) := hid (ownsRow_setCell_below P2.out (by have := HGL.out; show gb < _; omega) _)
    have X3 : Hid (BoxAt (W2.setCell ⟨gb, 0, none⟩ (.int .i64 (max (dc : Int) (lt : Int)))).drew wq.heap.size [Value.int .i64 (lt : Int), vt]) := hid (((BelowX.refl gb W2.heap.size W2).gauge 0 _).drew.box XX.out (by omega))
    have hlb : w.heap.size < wq.heap.size ∧ g ≠ wq.heap.size := by have := B2.out.size; omega
    generalize World.drew _ = W3 at *
    generalize wq.heap.size = lb at *
    clear em c0 f0 l0 G2 B2 P2 XX hsz hg3
    have l1 := box_get X3.out (j := 1) rfl
    obtain ⟨p, cap', hve, hcap', _⟩ := OKT.out.1
    dsimp only at hve
    subst hve
    rw [List.length_map] at *
    have hL1 : lst.length ≤ 1048576 := OKT.out.2.2.2
    generalize hL : lst.length = L at *
    have HL := hid hL
    have N3 : Hid (d ≤ max dc lt ∧ lt ≤ max dc lt ∧ max (max dc lt) (max (deepSh deepE rest) (deepAt deepE lt (lst.drop 0))) ≤ D ∧ Capped lim (max (max dc lt) (max (deepSh deepE rest) (deepAt deepE lt (lst.drop 0)))) D ∧ wSh nE rest + wAll nE (lst.drop 0) ≤ wSh nE rest + wAll nE lst) := hid (by
     rw [List.drop_zero]
     exact ⟨by have := HN.out.1; omega, by omega, pop_bound HN.out.2.1, capped_pop HN.out.2.2, Nat.le_refl _⟩)
    have F3 : wSh nE rest + wAll nE lst + 1 ≤ gk ∧ wSh nE rest + wAll nE lst ≤ 1048576 := by
     rw [wSh_app] at hf hf2
     simp only [wSh] at hf hf2
     omega
    have S3 : Hid (∀ t ∈ rest, okE (hush gb w) t) := hid fun t ht => HS.out t (by simp [ht])
    obtain ⟨go, rfl⟩ : ∃ go : Nat, go = gk := ⟨_, rfl⟩
    clear hL hf hf2 HS HN hcap'
    rw [show n = rest.length from HNN.out.symm] at *
    go_wp2_with fail
    go_loopg [6, 50] L (fun gf u v wx => ∃ (i : Nat) (wk : List (Shelf Ex)) (dk : Nat), v = .int .i64 (i : Int) ∧ i ≤ L ∧ L ≤ i + gf ∧ Hid (wx.ownsRow (w.heap.size + 1) 131 2 u wk.length (shRow wk)) ∧ Hid (u.ownBlock ≠ some lb) ∧ Hid (∀ t ∈ wk, okE (hush gb w) t) ∧ Hid (GaugeAt wx gb dk lim) ∧ Hid (BelowX gb w.heap.size w wx) ∧ Hid (BoxAt wx lb [Value.int .i64 (lt : Int), .slice p L cap']) ∧ Hid (d ≤ dk ∧ lt ≤ dk ∧ max dk (max (deepSh deepE wk) (deepAt deepE lt (lst.drop i))) ≤ D ∧ Capped lim (max dk (max (deepSh deepE wk) (deepAt deepE lt (lst.drop i)))) D ∧ wSh nE wk + wAll nE (lst.drop i) ≤ wSh nE rest + wAll nE lst))
    case atStart => exact ⟨0, rest, max dc lt, rfl, by omega, by omega, P3, hid (by simp [Value.ownBlock]; exact hlb.2), S3, G3, B3, X3, N3⟩
    case round =>
     obtain ⟨i, wk, dk, rfl, hi, hgk, HOi, HWi, HSi, HGi, HBi, HXi, HNi⟩ := hrel
     clear P3 S3 G3 B3 X3 N3 l1
     by_cases hlt : i < L
     ·obtain ⟨x, hx⟩ : ∃ x, lst[i]? = some x := ⟨lst[i]'(by rw [HL.out]; exact hlt), List.getElem?_eq_getElem _⟩
      have hdrop : lst.drop i = x :: lst.drop (i + 1) := drop_cons hx
      have hxi : Ex.In (hush gb w) x := (Ex.ins_iff _ _).1 OKT.out.2.1 x (List.mem_of_getElem? hx)
      have hxw : wE x ≤ 1048576 := OKT.out.2.2.1 x (List.mem_of_getElem? hx)
      obtain ⟨b, off, capx, e, _, hc⟩ := Lies.at (OKT.out.1.keep (fun b o u hc => hush_keeps gb wr _ _ _ (HBi.out.keeps _ _ _ hc))) (i := i) (by rw [List.length_map, HL.out]; exact hlt)
      injection e with e1 e2 e3
      subst e1
      clear e2 e3
      have hx' : ∀ (j : Nat) (u : Value), (Ex.cells x)[j]? = some u → wr.cell? ⟨b, off + i * 5 + j, none⟩ = some u := hc i _ (by rw [List.getElem?_map, hx]; rfl)
      have hz := exSize x
      have ho := ex_ones hxi
      unfold Ones at ho
      have hN := HNi.out
      rw [hdrop] at hN
      have CI : ∀ (W : World), BelowX gb w.heap.size w W → GaugeAt W gb dk lim → Calls Tryz.prog 67 #[.agg (Ex.cells x).toArray, .int .i64 (lt : Int)] W fun r w' => ∃ v dc', r = .returned v ∧ LiesN w' 2 v ((inE x lt).map Shelf.cells) ∧ BelowX gb W.heap.size W w' ∧ GaugeAt w' gb dc' lim ∧ dk ≤ dc' ∧ dc' ≤ max dk (lt + deepE x) ∧ Capped lim dc' (max dk ((fun _ _ => 0) x lt)) :=
       fun W h1 h2 => OP.out x lt dk W hN.2.1 (by have h := hN.2.2.1; rw [deepAt] at h; have := HDD.out.1; omega) hxi hxw h1 h2
      have hiw := inE_w x lt
      have hik := IK.out x lt _ hxi hxw
      have hone := shRow_ones (inE x lt) fun t ht => slice_one (hik t ht).1
      have hsm : ∀ t ∈ wk ++ inE x lt, okE (hush gb w) t := fun t ht => (List.mem_append.1 ht).elim (HSi.out t) (hik t)
      have hnx : ∀ dk', dk ≤ dk' → dk' ≤ max dk (lt + deepE x) → Capped lim dk' (max dk ((fun _ _ => 0) x lt)) → Hid (d ≤ dk' ∧ lt ≤ dk' ∧ max dk' (max (deepSh deepE (wk ++ inE x lt)) (deepAt deepE lt (lst.drop (i + 1)))) ≤ D ∧ Capped lim (max dk' (max (deepSh deepE (wk ++ inE x lt)) (deepAt deepE lt (lst.drop (i + 1))))) D ∧ wSh nE (wk ++ inE x lt) + wAll nE (lst.drop (i + 1)) ≤ wSh nE rest + wAll nE lst) := fun dk' h1 h2 h3 => hid
       ⟨by have := hN.1; omega, by have := hN.2.1; omega, open_bound inE_law' hN.2.2.1 h2, capped_open inE_law' hN.2.1 hN.2.2.2.1 h3 h1, by
        have h := hN.2.2.2.2
        rw [wAll] at h
        rw [wSh_app]
        omega⟩
      have hlen2 : wk.length + (inE x lt).length ≤ 1048577 := by
       have h := hN.2.2.2.2
       rw [wAll] at h
       have a1 := wSh_len nE wk
       have a2 := wSh_len nE (inE x lt)
       have := F3.2
       omega
      generalize inE x lt = NEW at *
      generalize Ex.cells x = fcs at *
      have HCI := hid CI
      have HONE := hid hone
      have HSM := hid hsm
      have HNX := hid hnx
      have HX' := hid hx'
      have H1C := hid ho
      clear hx hdrop hxi hxw hc hiw hik hN CI hone hsm hnx hx' ho HNi HSi
      have hb2 : Below wr.heap.size wr ((wr.alloc (.cells #[.int .i64 0, .int .i64 0, .string ⟨#[]⟩, .bool false, .slice none 0 0] 40 (0, 0))).setRow wr.heap.size fcs.toArray) := rowed_below' _ _ _
      have hX2 : BoxAt ((wr.alloc (.cells #[.int .i64 0, .int .i64 0, .string ⟨#[]⟩, .bool false, .slice none 0 0] 40 (0, 0))).setRow wr.heap.size fcs.toArray) wr.heap.size fcs := rowed_box' _ _ _ _
      have B5 := hid (HBi.out.then (hb2.mono HBi.out.size))
      have G5 := hid (HGi.out.below hb2 HGi.out.lt)
      have CI2 := hid (HCI.out _ B5.out G5.out)
      have X5 := hid (HXi.out.later hb2)
      have O5 := hid (owns_below HOi.out hb2)
      have ZF := hid hz
      have ZA : Hid ((Tryz.prog.info? 40).map (·.size) = some fcs.toArray.size) := hid (by rw [List.size_toArray]; exact hz)
      have ZO : Hid ((#[.int .i64 0, .int .i64 0, .string ⟨#[]⟩, .bool false, .slice none 0 0] : Array Value).size = fcs.toArray.size) := hid (by
       rw [show (Tryz.prog.info? 40).map (·.size) = some 5 by kernel_rfl] at hz
       exact Option.some.inj hz)
      have XE : Hid (∀ (j : Nat) (u : Value), fcs[j]? = some u → ((wr.alloc (.cells #[.int .i64 0, .int .i64 0, .string ⟨#[]⟩, .bool false, .slice none 0 0] 40 (0, 0))).setRow wr.heap.size fcs.toArray).cell? ⟨wr.heap.size, 0 + j, none⟩ = some u) := hid fun j u h => by rw [Nat.zero_add]; exact hX2 j u h
      have l5 := box_get X5.out (j := 0) rfl
      clear hb2 hX2 hz HCI HGi HBi HXi HOi
      go_wp2_with (first | (with_reducible refine wpList_load_at (o := ⟨some 53, _, _, _, _, _⟩) rfl _ _ rfl b (off + i * 5) rfl fcs _ HX'.out Tryz.underlying40 rfl ZF.out ?_) | (with_reducible refine wpList_store_row (o := ⟨none, _, _, _, _, _⟩) rfl _ _ _ rfl wr.heap.size fcs.toArray rfl rfl _ _ (heap_alloc_new _ _) ZA.out ZO.out H1C.out ?_) | (with_reducible refine wpList_load_at (o := ⟨some 56, _, _, _, _, _⟩) rfl _ _ rfl wr.heap.size 0 rfl fcs _ XE.out Tryz.underlying40 rfl ZF.out ?_))
      with_reducible refine CI2.out.mono ?_
      rintro e W5 ⟨v', dk', rfl, hl', hb5, hg5, h1, h2, h3⟩
      have G6 := hid hg5
      have B6 := hid (hb5.pre B5.out B5.out.size)
      have X6 := hid (hb5.box X5.out (by have := hlb.1; have := HGL.out; omega))
      have O6 := hid (hb5.owns O5.out (by have := HGL.out; omega))
      have N6 := HNX.out dk' h1 h2 h3
      have hs6 : w.heap.size + 1 ≤ W5.heap.size := by
       have h1 : lb < W5.heap.size := World.block_lt_of_cell? _ _ (box_get X6.out (j := 0) rfl)
       have h2 := hlb.1
       omega
      obtain ⟨hlie, hnil⟩ := hl'
      have hrow := fun ad m c (e : v' = .slice (some ad) m c) => lies_row (e ▸ hlie)
      obtain ⟨q, cq, rfl, hcq, _⟩ := hlie
      rw [List.length_map] at *
      clear CI2 B5 G5 X5 O5 ZF ZA ZO XE HX' H1C HNX l5 hb5 hg5 h1 h2 h3 hcq
      rcases q with _ | ad
      ·have hz := (hnil _ _ rfl)
       obtain ⟨hz1', hz2'⟩ := hz
       have hN0 : NEW = [] := List.eq_nil_of_length_eq_zero hz1'
       subst hN0
       subst hz2'
       rw [List.append_nil] at HSM N6
       clear hrow hnil HONE
       go_wp2_with (at_builtin; refine wpList_append_own_none rfl _ _ 160 rfl (w.heap.size + 1) 131 i0 2 Tryz.underlying160 hinf _ _ _ rfl O6.out rfl ?_)
       go_roundg (gk - 1)
       case measure => omega
       case rel => exact ⟨i + 1, wk, dk', by go_num, by omega, by omega, O6, HWi, HSM, G6, B6, X6, N6⟩
      ·have HROW := hid (hrow ad _ _ rfl)
       have HSH := hid (shRow_app wk NEW)
       have HLA : Hid ((wk ++ NEW).length = wk.length + NEW.length) := hid List.length_append
       have HRL := hid (shRow_len NEW)
       clear hrow hnil
       generalize NEW.length = m at *
       go_wp2_with (at_builtin; refine wpList_append_own_at _ rfl _ _ 160 rfl (w.heap.size + 1) 131 i0 _ 2 32 Tryz.underlying160 hinf hz0 hz1 hz2 rfl (by decide) _ _ _ rfl O6.out ad m cq (shRow NEW) rfl HRL.out HROW.out HONE.out ?c3 ?c4 hs6 ?_)
       case c3 => unfold maxLen; omega
       case c4 => omega
       intro v'' W6 hown' hgrow _ hat
       have K1 : Hid (W6.ownsRow (w.heap.size + 1) 131 2 v'' (wk ++ NEW).length (shRow (wk ++ NEW))) := hid (by rw [HLA.out, HSH.out]; exact hown')
       have hrowb : ∀ k, (Value.ownBlock _ = some k) → w.heap.size ≤ k := fun k hk => by have := (O6.out.lt k hk).1; omega
       have K2 := hid (B6.out.grown hgrow (by omega) hrowb)
       have K3 : Hid (GaugeAt W6 gb dk' lim) := hid ((hgrow.block gb G6.out.lt (fun e => by have := hrowb gb e.symm; have := HGL.out; omega)).trans G6.out)
       have hlbs := World.block_lt_of_cell? _ _ (box_get X6.out (j := 0) rfl)
       have K4 : Hid (BoxAt W6 lb [Value.int .i64 (lt : Int), .slice (some ⟨b, off, none⟩) L cap']) := hid fun j u hj => (World.cell?_of_block (w := W5) (a := ⟨lb, j, none⟩) (hgrow.block lb hlbs (fun e => HWi.out e.symm))).trans (X6.out j u hj)
       have K5 : Hid (v''.ownBlock ≠ some lb) := hid fun e => by
        rcases hat with h | h
        ·exact HWi.out (h.symm.trans e)
        ·rw [h] at e
         injection e with e
         have hlbs' : lb < W5.heap.size := hlbs
         omega
       clear hown' hgrow hat hrowb hlbs HROW HSH HLA HRL HONE
       go_wp2_with fail
       go_roundg (gk - 1)
       case measure => omega
       case rel => exact ⟨i + 1, wk ++ NEW, dk', by go_num, by omega, by omega, K1, K5, HSM, K3, K2, K4, N6⟩
     ·obtain rfl : i = L := by omega
      have hd0 : lst.drop i = [] := drop_len (by rw [HL.out]; exact Nat.le_refl _)
      have hN := HNi.out
      rw [hd0] at hN
      have K : Hid (d ≤ dk ∧ max dk (deepSh deepE wk) ≤ D ∧ Capped lim (max dk (deepSh deepE wk)) D) := hid
       ⟨hN.1, by have := hN.2.2.1; rw [deepAt] at this; omega, capped_end hN.2.1 hN.2.2.2.1⟩
      have hw2 : wSh nE wk ≤ go - 1 ∧ wSh nE wk ≤ 1048577 ∧ 0 < go := by
       have h := hN.2.2.2.2
       rw [wAll] at h
       have := F3.1; have := F3.2
       omega
      clear hN hd0 HNi
      go_wp2_with fail
      go_roundg (go - 1)
      case measure => omega
      case rel => exact ⟨wk, dk, HOi, HSi, HGi, HBi, K, hw2.1, hw2.2.1⟩
   ·obtain ⟨n1, n2, n3⟩ := HN.out
    clear HO HOo HS
    go_wp2_with fail
    go_quiet (fail)
    go_wp2_with fail
    go_end0
    exact ⟨rfl, dc, n1, by omega, HG.out, capped_done (by omega) n3, HB.out.drewN _⟩
theorem sh_infoS : (Tryz.prog.info? 127).map (fun i => (i.zero, i.size, i.bytes)) = some (some (.agg #[.int .i64 0, .slice none 0 0]), 2, 32) := by kernel_rfl
set_option maxHeartbeats 8000000 in
set_option maxRecDepth 100000 in
theorem sound_stSize (s : Shelf St) (gb d lim : Nat) (w : World) (hg : GaugeAt w gb d lim) (hok : okS (hush gb w) s) (hwt : wAll nS s.list ≤ 1048576)
  (hD : max d (deepAt deepS s.level s.list) ≤ 4194304) (hlim : lim ≤ 9223372036854775807)
  (HO : Opens St.cells (fun u x => St.In u x) wS inS exS deepS 65 #[.pointer (some ⟨gb, 0, none⟩)] gb lim w)
  (innok : ∀ (x : St) (n : Nat) (u : World), St.In u x → wS x ≤ 1048576 → ∀ t ∈ inS x n, okS u t) :
  Calls Tryz.prog 64 #[.pointer (some ⟨gb, 0, none⟩), .agg s.cells.toArray, .func (.func 65) #[.pointer (some ⟨gb, 0, none⟩)] #[]] w fun r w' => r = .returned (.tuple #[]) ∧
   ∃ d', d ≤ d' ∧ d' ≤ max d (deepAt deepS s.level s.list) ∧ GaugeAt w' gb d' lim ∧ Capped lim d' (max d (deepAt deepS s.level s.list)) ∧ BelowX gb w.heap.size w w' := by
 obtain ⟨i0, hinf, hi0⟩ := Option.map_eq_some_iff.1 sh_infoS
 have hz0 : i0.zero = some (.agg #[.int .i64 0, .slice none 0 0]) := by rw [Prod.mk.injEq] at hi0; exact hi0.1
 have hz1 : i0.size = 2 := by rw [Prod.mk.injEq, Prod.mk.injEq] at hi0; exact hi0.2.1
 have hz2 : i0.bytes = 32 := by rw [Prod.mk.injEq, Prod.mk.injEq] at hi0; exact hi0.2.2
 clear hi0
 have hgl := hg.lt
 generalize hDe : max d (deepAt deepS s.level s.list) = D at *
 have hsv : s.v.oneCell' = true := slice_one hok.1
 obtain ⟨lv, sv, ls⟩ := s
 unfold Shelf.cells
 dsimp only at hDe hwt hsv ⊢
 have hb1 : Below w.heap.size w ((w.alloc (.cells #[.int .i64 (lv : Int), sv] 127 (0, 0))).alloc (.cells #[.int .i64 (lv : Int), sv] 127 (0, 0))) := ((Below.refl _ _).alloc (Nat.le_refl _) _).alloc (by simp) _
 have O0 : Hid (((w.alloc (.cells #[.int .i64 (lv : Int), sv] 127 (0, 0))).alloc (.cells #[.int .i64 (lv : Int), sv] 127 (0, 0))).ownsRow (w.heap.size + 1) 127 2 (.slice (some ⟨w.heap.size + 1, 0, none⟩) 1 1) 1 (shRow [(⟨lv, sv, ls⟩ : Shelf St)])) := hid
  ⟨rfl, .inr ⟨w.heap.size + 1, 1, _, rfl, Nat.le_refl _, by
   have := heap_alloc_new (w.alloc (.cells #[.int .i64 (lv : Int), sv] 127 (0, 0))) (.cells #[.int .i64 (lv : Int), sv] 127 (0, 0))
   rw [show (w.alloc (.cells #[.int .i64 (lv : Int), sv] 127 (0, 0))).heap.size = w.heap.size + 1 from Array.size_push ..] at this
   exact this, Nat.le_refl _, by unfold maxLen; omega, rfl, rfl⟩⟩
 have G0 := hid (hg.below hb1 hgl)
 have B0 := hid (BelowX.of (gb := gb) hb1)
 have S0 : Hid (∀ t ∈ [(⟨lv, sv, ls⟩ : Shelf St)], okS (hush gb w) t) := hid (by intro t ht; rw [List.mem_singleton] at ht; rw [ht]; exact hok)
 have N0 : Hid (d ≤ d ∧ max d (deepSh deepS [(⟨lv, sv, ls⟩ : Shelf St)]) ≤ D ∧ Capped lim (max d (deepSh deepS [(⟨lv, sv, ls⟩ : Shelf St)])) D) := hid (by
  have e : max d (deepSh deepS [(⟨lv, sv, ls⟩ : Shelf St)]) = D := by simp only [deepSh]; omega
  rw [e]; exact ⟨Nat.le_refl _, Nat.le_refl _, .inl rfl⟩)
 have F0 : wSh nS [(⟨lv, sv, ls⟩ : Shelf St)] ≤ 1 + wAll nS ls := by simp only [wSh]; omega
 have OP := hid HO
 have IK := hid innok
 have HV := hid hsv
 have HGL := hid hgl
 have HDD := hid (And.intro hD hwt)
 have HLI := hid hlim
 have hlim' := hlim
 clear hb1 hg hok HO innok hsv hDe hgl hD hwt hlim
 go_enter Tryz.func64, Tryz.ntmps64
 go_wp2_with fail
 generalize (World.alloc (World.alloc w _) _) = W1 at *
 go_loopg [6] (1 + wAll nS ls) (fun gf u wx => ∃ (work : List (Shelf St)) (dc : Nat), Hid (wx.ownsRow (w.heap.size + 1) 127 2 u work.length (shRow work)) ∧ Hid (∀ t ∈ work, okS (hush gb w) t) ∧ Hid (GaugeAt wx gb dc lim) ∧ Hid (BelowX gb w.heap.size w wx) ∧ Hid (d ≤ dc ∧ max dc (deepSh deepS work) ≤ D ∧ Capped lim (max dc (deepSh deepS work)) D) ∧ wSh nS work ≤ gf ∧ wSh nS work ≤ 1048577)
 case atStart => exact ⟨[⟨lv, sv, ls⟩], d, O0, S0, G0, B0, N0, F0, by have := HDD.out.2; omega⟩
 case round =>
  obtain ⟨work, dc, HO, HS, HG, HB, HN, hf, hf2⟩ := hrel
  have c0 := HG.out.deepest
  have c1 := HG.out.limit
  clear O0 S0 G0 B0 N0 F0
  rcases List.eq_nil_or_concat work with rfl | ⟨rest, t, hwk⟩
  ·obtain ⟨p, cap, rfl⟩ := own_zero HO.out
   clear HO HS
   go_wp2_with fail
   go_quiet (fail)
   go_wp2_with fail
   go_end0
   obtain ⟨n1, n2, n3⟩ := HN.out
   simp only [deepSh, Nat.max_zero] at n2 n3
   exact ⟨rfl, dc, n1, n2, HG.out, n3, HB.out.drewN _⟩
  ·rw [List.concat_eq_append] at hwk
   subst hwk
   have hlen : (rest ++ [t]).length = rest.length + 1 := by simp
   have HOo := HO.out
   rw [hlen] at HOo
   obtain ⟨g, cap, rfl, hg1, hg2, hnc⟩ := own_some HOo
   by_cases hle : dc ≤ lim
   ·have hokt := HS.out t (by simp)
    have hone : t.v.oneCell' = true := slice_one hokt.1
    have hcell : ∀ (j : Nat) (u : Value), t.cells[j]? = some u → wr.cell? ⟨g, 0 + rest.length * 2 + j, none⟩ = some u := fun j u hj => by
     rw [Nat.zero_add]
     exact owns_cell HOo (shRow_last rest t j u hj)
    have hpop := ownsRow_pop (w := wr) (base := w.heap.size + 1) (e := 127) (size := 2) (g := g) (cap := cap) (n := rest.length) (xs := shRow rest) (last := t.cells) (shRow_len rest) (by rw [← shRow_snoc]; exact HOo)
    have hn1 := wSh_len nS (rest ++ [t])
    rw [hlen] at hn1
    generalize hn : rest.length = n at *
    have hn2 : n + 1 ≤ 1048577 := by omega
    have PO := hid hpop
    have CE := hid hcell
    have OKT := hid hokt
    have HNN := hid hn
    obtain ⟨lt, vt, lst⟩ := t
    unfold Shelf.cells at CE
    dsimp only at hone CE OKT
    have HONE := hid hone
    clear hcell hpop hokt HO HOo hlen hn hone hn1
    go_wp2_with fail
    go_quiet (fail)
    have G1 : Hid (GaugeAt (wr.drewN nq) gb dc lim) := HG
    have B1 : Hid (BelowX gb w.heap.size w (wr.drewN nq)) := hid (HB.out.drewN _)
    have P1 : Hid ((wr.drewN nq).ownsRow (w.heap.size + 1) 127 2 (Value.slice (some ⟨g, 0, none⟩) n cap) n (shRow rest)) := PO
    have C1 : Hid (∀ (j : Nat) (u : Value), [Value.int .i64 (lt : Int), vt][j]? = some u → (wr.drewN nq).cell? ⟨g, 0 + n * 2 + j, none⟩ = some u) := CE
    have hg3 : g < (wr.drewN nq).heap.size := hg2
    clear HG HB PO CE hg2 c0 c1
    generalize wr.drewN nq = wq at *
    have hb2 : Below wq.heap.size wq ((wq.alloc (.cells #[.int .i64 0, .slice none 0 0] 127 (0, 0))).setRow wq.heap.size [Value.int .i64 (lt : Int), vt].toArray) := rowed_below' _ _ _
    have hX2 : BoxAt ((wq.alloc (.cells #[.int .i64 0, .slice none 0 0] 127 (0, 0))).setRow wq.heap.size [Value.int .i64 (lt : Int), vt].toArray) wq.heap.size [Value.int .i64 (lt : Int), vt] := rowed_box' _ _ _ _
    have ZA : Hid ((Tryz.prog.info? 127).map (·.size) = some [Value.int .i64 (lt : Int), vt].toArray.size) := hid (show (Tryz.prog.info? 127).map (·.size) = some 2 by kernel_rfl)
    have ZO : Hid ((#[.int .i64 0, .slice none 0 0] : Array Value).size = [Value.int .i64 (lt : Int), vt].toArray.size) := hid rfl
    have ZN : Hid ([Value.int .i64 (lt : Int), vt].toArray.all (·.oneCell') = true) := hid (by
     simp only [List.all_toArray, List.all_cons, List.all_nil, HONE.out, Bool.and_true]; rfl)
    have ZL : Hid ((Tryz.prog.info? 127).map (·.size) = some [Value.int .i64 (lt : Int), vt].length) := hid (show (Tryz.prog.info? 127).map (·.size) = some 2 by kernel_rfl)
    have BB := hid hb2
    have XX := hid hX2
    clear hb2 hX2
    go_wp2_with (first | (with_reducible refine wpList_load_at (o := ⟨some 31, _, _, _, _, _⟩) rfl _ _ rfl g (0 + n * 2) rfl [Value.int .i64 (lt : Int), vt] _ C1.out Tryz.underlying127 rfl ZL.out ?_) | (with_reducible refine wpList_load_at (o := ⟨some 31, _, _, _, _, _⟩) rfl _ _ rfl g (n * 2) rfl [Value.int .i64 (lt : Int), vt] _ (by rw [Nat.zero_add] at C1; exact C1.out) Tryz.underlying127 rfl ZL.out ?_) | (with_reducible refine wpList_store_row (o := ⟨none, _, _, _, _, _⟩) rfl _ _ _ rfl wq.heap.size [Value.int .i64 (lt : Int), vt].toArray rfl rfl _ _ (heap_alloc_new _ _) ZA.out ZO.out ZN.out ?_))
    generalize (World.alloc wq _).setRow _ _ = W2 at *
    have G2 := hid (G1.out.below BB.out G1.out.lt)
    have B2 := hid (B1.out.then (BB.out.mono (by have := B1.out.size; omega)))
    have P2 := hid (owns_below P1.out BB.out)
    have hgl2 : gb < wq.heap.size := G1.out.lt
    have hsz : wq.heap.size < W2.heap.size := World.block_lt_of_cell? _ _ (box_get XX.out (j := 0) rfl)
    clear BB ZA ZO ZN ZL C1 HONE B1 P1 G1
    have c0 := G2.out.deepest
    have f0 := G2.out.thawed 0
    have l0 := box_get XX.out (j := 0) rfl
    go_region
    have em : max (dc : Int) (lt : Int) = ((max dc lt : Nat) : Int) := by omega
    have G3 : Hid (GaugeAt (W2.setCell ⟨gb, 0, none⟩ (.int .i64 (max (dc : Int) (lt : Int)))).drew gb (max dc lt) lim) := hid (by rw [em]; exact G2.out.set _)
    have B3 : Hid (BelowX gb w.heap.size w (W2.setCell ⟨gb, 0, none⟩ (.int .i64 (max (dc : Int) (lt : Int)))).drew) := hid (B2.out.gauge 0 _).drew
    have P3 : Hid ((W2.setCell ⟨gb, 0, none⟩ (.int .i64 (max (dc : Int) (lt : Int)))).drew.ownsRow (w.heap.size + 1) 127 2 (.slice (some ⟨g, 0, none⟩) n cap) n (shRow rest)) := hid (ownsRow_setCell_below P2.out (by have := HGL.out; show gb < _; omega) _)
    have X3 : Hid (BoxAt (W2.setCell ⟨gb, 0, none⟩ (.int .i64 (max (dc : Int) (lt : Int)))).drew wq.heap.size [Value.int .i64 (lt : Int), vt]) := hid (((BelowX.refl gb W2.heap.size W2).gauge 0 _).drew.box XX.out (by omega))
    have hlb : w.heap.size < wq.heap.size ∧ g ≠ wq.heap.size := by have := B2.out.size; omega
    generalize World.drew _ = W3 at *
    generalize wq.heap.size = lb at *
    clear em c0 f0 l0 G2 B2 P2 XX hsz hg3
    have l1 := box_get X3.out (j := 1) rfl
    obtain ⟨p, cap', hve, hcap', _⟩ := OKT.out.1
    dsimp only at hve
    subst hve
    rw [List.length_map] at *
    have hL1 : lst.length ≤ 1048576 := OKT.out.2.2.2
    generalize hL : lst.length = L at *
    have HL := hid hL
    have N3 : Hid (d ≤ max dc lt ∧ lt ≤ max dc lt ∧ max (max dc lt) (max (deepSh deepS rest) (deepAt deepS lt (lst.drop 0))) ≤ D ∧ Capped lim (max (max dc lt) (max (deepSh deepS rest) (deepAt deepS lt (lst.drop 0)))) D ∧ wSh nS rest + wAll nS (lst.drop 0) ≤ wSh nS rest + wAll nS lst) := hid (by
     rw [List.drop_zero]
     exact ⟨by have := HN.out.1; omega, by omega, pop_bound HN.out.2.1, capped_pop HN.out.2.2, Nat.le_refl _⟩)
    have F3 : wSh nS rest + wAll nS lst + 1 ≤ gk ∧ wSh nS rest + wAll nS lst ≤ 1048576 := by
     rw [wSh_app] at hf hf2
     simp only [wSh] at hf hf2
     omega
    have S3 : Hid (∀ t ∈ rest, okS (hush gb w) t) := hid fun t ht => HS.out t (by simp [ht])
    obtain ⟨go, rfl⟩ : ∃ go : Nat, go = gk := ⟨_, rfl⟩
    clear hL hf hf2 HS HN hcap'
    rw [show n = rest.length from HNN.out.symm] at *
    go_wp2_with fail
    go_loopg [6, 50] L (fun gf u v wx => ∃ (i : Nat) (wk : List (Shelf St)) (dk : Nat), v = .int .i64 (i : Int) ∧ i ≤ L ∧ L ≤ i + gf ∧ Hid (wx.ownsRow (w.heap.size + 1) 127 2 u wk.length (shRow wk)) ∧ Hid (u.ownBlock ≠ some lb) ∧ Hid (∀ t ∈ wk, okS (hush gb w) t) ∧ Hid (GaugeAt wx gb dk lim) ∧ Hid (BelowX gb w.heap.size w wx) ∧ Hid (BoxAt wx lb [Value.int .i64 (lt : Int), .slice p L cap']) ∧ Hid (d ≤ dk ∧ lt ≤ dk ∧ max dk (max (deepSh deepS wk) (deepAt deepS lt (lst.drop i))) ≤ D ∧ Capped lim (max dk (max (deepSh deepS wk) (deepAt deepS lt (lst.drop i)))) D ∧ wSh nS wk + wAll nS (lst.drop i) ≤ wSh nS rest + wAll nS lst))
    case atStart => exact ⟨0, rest, max dc lt, rfl, by omega, by omega, P3, hid (by simp [Value.ownBlock]; exact hlb.2), S3, G3, B3, X3, N3⟩
    case round =>
     obtain ⟨i, wk, dk, rfl, hi, hgk, HOi, HWi, HSi, HGi, HBi, HXi, HNi⟩ := hrel
     clear P3 S3 G3 B3 X3 N3 l1
     by_cases hlt : i < L
     ·obtain ⟨x, hx⟩ : ∃ x, lst[i]? = some x := ⟨lst[i]'(by rw [HL.out]; exact hlt), List.getElem?_eq_getElem _⟩
      have hdrop : lst.drop i = x :: lst.drop (i + 1) := drop_cons hx
      have hxi : St.In (hush gb w) x := (St.ins_iff _ _).1 OKT.out.2.1 x (List.mem_of_getElem? hx)
      have hxw : wS x ≤ 1048576 := OKT.out.2.2.1 x (List.mem_of_getElem? hx)
      obtain ⟨b, off, capx, e, _, hc⟩ := Lies.at (OKT.out.1.keep (fun b o u hc => hush_keeps gb wr _ _ _ (HBi.out.keeps _ _ _ hc))) (i := i) (by rw [List.length_map, HL.out]; exact hlt)
      injection e with e1 e2 e3
      subst e1
      clear e2 e3
      have hx' : ∀ (j : Nat) (u : Value), (St.cells x)[j]? = some u → wr.cell? ⟨b, off + i * 14 + j, none⟩ = some u := hc i _ (by rw [List.getElem?_map, hx]; rfl)
      have hz := stSize x
      have ho := st_ones hxi
      unfold Ones at ho
      have hN := HNi.out
      rw [hdrop] at hN
      have CI : ∀ (W : World), BelowX gb w.heap.size w W → GaugeAt W gb dk lim → Calls Tryz.prog 65 #[.pointer (some ⟨gb, 0, none⟩), .agg (St.cells x).toArray, .int .i64 (lt : Int)] W fun r w' => ∃ v dc', r = .returned v ∧ LiesN w' 2 v ((inS x lt).map Shelf.cells) ∧ BelowX gb W.heap.size W w' ∧ GaugeAt w' gb dc' lim ∧ dk ≤ dc' ∧ dc' ≤ max dk (lt + deepS x) ∧ Capped lim dc' (max dk (exS x lt)) :=
       fun W h1 h2 => OP.out x lt dk W hN.2.1 (by have h := hN.2.2.1; rw [deepAt] at h; have := HDD.out.1; omega) hxi hxw h1 h2
      have hiw := inS_w x lt
      have hik := IK.out x lt _ hxi hxw
      have hone := shRow_ones (inS x lt) fun t ht => slice_one (hik t ht).1
      have hsm : ∀ t ∈ wk ++ inS x lt, okS (hush gb w) t := fun t ht => (List.mem_append.1 ht).elim (HSi.out t) (hik t)
      have hnx : ∀ dk', dk ≤ dk' → dk' ≤ max dk (lt + deepS x) → Capped lim dk' (max dk (exS x lt)) → Hid (d ≤ dk' ∧ lt ≤ dk' ∧ max dk' (max (deepSh deepS (wk ++ inS x lt)) (deepAt deepS lt (lst.drop (i + 1)))) ≤ D ∧ Capped lim (max dk' (max (deepSh deepS (wk ++ inS x lt)) (deepAt deepS lt (lst.drop (i + 1))))) D ∧ wSh nS (wk ++ inS x lt) + wAll nS (lst.drop (i + 1)) ≤ wSh nS rest + wAll nS lst) := fun dk' h1 h2 h3 => hid
       ⟨by have := hN.1; omega, by have := hN.2.1; omega, open_bound inS_law hN.2.2.1 h2, capped_open inS_law hN.2.1 hN.2.2.2.1 h3 h1, by
        have h := hN.2.2.2.2
        rw [wAll] at h
        rw [wSh_app]
        omega⟩
      have hlen2 : wk.length + (inS x lt).length ≤ 1048577 := by
       have h := hN.2.2.2.2
       rw [wAll] at h
       have a1 := wSh_len nS wk
       have a2 := wSh_len nS (inS x lt)
       have := F3.2
       omega
      generalize inS x lt = NEW at *
      generalize St.cells x = fcs at *
      have HCI := hid CI
      have HONE := hid hone
      have HSM := hid hsm
      have HNX := hid hnx
      have HX' := hid hx'
      have H1C := hid ho
      clear hx hdrop hxi hxw hc hiw hik hN CI hone hsm hnx hx' ho HNi HSi
      have hb2 : Below wr.heap.size wr ((wr.alloc (.cells #[.int .i64 0, .string ⟨#[]⟩, .int .i64 0, .int .i64 0, .string ⟨#[]⟩, .bool false, .slice none 0 0, .int .i64 0, .int .i64 0, .string ⟨#[]⟩, .bool false, .slice none 0 0, .slice none 0 0, .slice none 0 0] 68 (0, 0))).setRow wr.heap.size fcs.toArray) := rowed_below' _ _ _
      have hX2 : BoxAt ((wr.alloc (.cells #[.int .i64 0, .string ⟨#[]⟩, .int .i64 0, .int .i64 0, .string ⟨#[]⟩, .bool false, .slice none 0 0, .int .i64 0, .int .i64 0, .string ⟨#[]⟩, .bool false, .slice none 0 0, .slice none 0 0, .slice none 0 0] 68 (0, 0))).setRow wr.heap.size fcs.toArray) wr.heap.size fcs := rowed_box' _ _ _ _
      have B5 := hid (HBi.out.then (hb2.mono HBi.out.size))
      have G5 := hid (HGi.out.below hb2 HGi.out.lt)
      have CI2 := hid (HCI.out _ B5.out G5.out)
      have X5 := hid (HXi.out.later hb2)
      have O5 := hid (owns_below HOi.out hb2)
      have ZF := hid hz
      have ZA : Hid ((Tryz.prog.info? 68).map (·.size) = some fcs.toArray.size) := hid (by rw [List.size_toArray]; exact hz)
      have ZO : Hid ((#[.int .i64 0, .string ⟨#[]⟩, .int .i64 0, .int .i64 0, .string ⟨#[]⟩, .bool false, .slice none 0 0, .int .i64 0, .int .i64 0, .string ⟨#[]⟩, .bool false, .slice none 0 0, .slice none 0 0, .slice none 0 0] : Array Value).size = fcs.toArray.size) := hid (by
       rw [show (Tryz.prog.info? 68).map (·.size) = some 14 by kernel_rfl] at hz
       exact Option.some.inj hz)
      have XE : Hid (∀ (j : Nat) (u : Value), fcs[j]? = some u → ((wr.alloc (.cells #[.int .i64 0, .string ⟨#[]⟩, .int .i64 0, .int .i64 0, .string ⟨#[]⟩, .bool false, .slice none 0 0, .int .i64 0, .int .i64 0, .string ⟨#[]⟩, .bool false, .slice none 0 0, .slice none 0 0, .slice none 0 0] 68 (0, 0))).setRow wr.heap.size fcs.toArray).cell? ⟨wr.heap.size, 0 + j, none⟩ = some u) := hid fun j u h => by rw [Nat.zero_add]; exact hX2 j u h
      have l5 := box_get X5.out (j := 0) rfl
      clear hb2 hX2 hz HCI HGi HBi HXi HOi
      go_wp2_with (first | (with_reducible refine wpList_load_at (o := ⟨some 53, _, _, _, _, _⟩) rfl _ _ rfl b (off + i * 14) rfl fcs _ HX'.out Tryz.underlying68 rfl ZF.out ?_) | (with_reducible refine wpList_store_row (o := ⟨none, _, _, _, _, _⟩) rfl _ _ _ rfl wr.heap.size fcs.toArray rfl rfl _ _ (heap_alloc_new _ _) ZA.out ZO.out H1C.out ?_) | (with_reducible refine wpList_load_at (o := ⟨some 56, _, _, _, _, _⟩) rfl _ _ rfl wr.heap.size 0 rfl fcs _ XE.out Tryz.underlying68 rfl ZF.out ?_))
      with_reducible refine CI2.out.mono ?_
      rintro e W5 ⟨v', dk', rfl, hl', hb5, hg5, h1, h2, h3⟩
      have G6 := hid hg5
      have B6 := hid (hb5.pre B5.out B5.out.size)
      have X6 := hid (hb5.box X5.out (by have := hlb.1; have := HGL.out; omega))
      have O6 := hid (hb5.owns O5.out (by have := HGL.out; omega))
      have N6 := HNX.out dk' h1 h2 h3
      have hs6 : w.heap.size + 1 ≤ W5.heap.size := by
       have h1 : lb < W5.heap.size := World.block_lt_of_cell? _ _ (box_get X6.out (j := 0) rfl)
       have h2 := hlb.1
       omega
      obtain ⟨hlie, hnil⟩ := hl'
      have hrow := fun ad m c (e : v' = .slice (some ad) m c) => lies_row (e ▸ hlie)
      obtain ⟨q, cq, rfl, hcq, _⟩ := hlie
      rw [List.length_map] at *
      clear CI2 B5 G5 X5 O5 ZF ZA ZO XE HX' H1C HNX l5 hb5 hg5 h1 h2 h3 hcq
      rcases q with _ | ad
      ·have hz := (hnil _ _ rfl)
       obtain ⟨hz1', hz2'⟩ := hz
       have hN0 : NEW = [] := List.eq_nil_of_length_eq_zero hz1'
       subst hN0
       subst hz2'
       rw [List.append_nil] at HSM N6
       clear hrow hnil HONE
       go_wp2_with (at_builtin; refine wpList_append_own_none rfl _ _ 159 rfl (w.heap.size + 1) 127 i0 2 Tryz.underlying159 hinf _ _ _ rfl O6.out rfl ?_)
       go_roundg (gk - 1)
       case measure => omega
       case rel => exact ⟨i + 1, wk, dk', by go_num, by omega, by omega, O6, HWi, HSM, G6, B6, X6, N6⟩
      ·have HROW := hid (hrow ad _ _ rfl)
       have HSH := hid (shRow_app wk NEW)
       have HLA : Hid ((wk ++ NEW).length = wk.length + NEW.length) := hid List.length_append
       have HRL := hid (shRow_len NEW)
       clear hrow hnil
       generalize NEW.length = m at *
       go_wp2_with (at_builtin; refine wpList_append_own_at _ rfl _ _ 159 rfl (w.heap.size + 1) 127 i0 _ 2 32 Tryz.underlying159 hinf hz0 hz1 hz2 rfl (by decide) _ _ _ rfl O6.out ad m cq (shRow NEW) rfl HRL.out HROW.out HONE.out ?c3 ?c4 hs6 ?_)
       case c3 => unfold maxLen; omega
       case c4 => omega
       intro v'' W6 hown' hgrow _ hat
       have K1 : Hid (W6.ownsRow (w.heap.size + 1) 127 2 v'' (wk ++ NEW).length (shRow (wk ++ NEW))) := hid (by rw [HLA.out, HSH.out]; exact hown')
       have hrowb : ∀ k, (Value.ownBlock _ = some k) → w.heap.size ≤ k := fun k hk => by have := (O6.out.lt k hk).1; omega
       have K2 := hid (B6.out.grown hgrow (by omega) hrowb)
       have K3 : Hid (GaugeAt W6 gb dk' lim) := hid ((hgrow.block gb G6.out.lt (fun e => by have := hrowb gb e.symm; have := HGL.out; omega)).trans G6.out)
       have hlbs := World.block_lt_of_cell? _ _ (box_get X6.out (j := 0) rfl)
       have K4 : Hid (BoxAt W6 lb [Value.int .i64 (lt : Int), .slice (some ⟨b, off, none⟩) L cap']) := hid fun j u hj => (World.cell?_of_block (w := W5) (a := ⟨lb, j, none⟩) (hgrow.block lb hlbs (fun e => HWi.out e.symm))).trans (X6.out j u hj)
       have K5 : Hid (v''.ownBlock ≠ some lb) := hid fun e => by
        rcases hat with h | h
        ·exact HWi.out (h.symm.trans e)
        ·rw [h] at e
         injection e with e
         have hlbs' : lb < W5.heap.size := hlbs
         omega
       clear hown' hgrow hat hrowb hlbs HROW HSH HLA HRL HONE
       go_wp2_with fail
       go_roundg (gk - 1)
       case measure => omega
       case rel => exact ⟨i + 1, wk ++ NEW, dk', by go_num, by omega, by omega, K1, K5, HSM, K3, K2, K4, N6⟩
     ·obtain rfl : i = L := by omega
      have hd0 : lst.drop i = [] := drop_len (by rw [HL.out]; exact Nat.le_refl _)
      have hN := HNi.out
      rw [hd0] at hN
      have K : Hid (d ≤ dk ∧ max dk (deepSh deepS wk) ≤ D ∧ Capped lim (max dk (deepSh deepS wk)) D) := hid
       ⟨hN.1, by have := hN.2.2.1; rw [deepAt] at this; omega, capped_end hN.2.1 hN.2.2.2.1⟩
      have hw2 : wSh nS wk ≤ go - 1 ∧ wSh nS wk ≤ 1048577 ∧ 0 < go := by
       have h := hN.2.2.2.2
       rw [wAll] at h
       have := F3.1; have := F3.2
       omega
      clear hN hd0 HNi
      go_wp2_with fail
      go_roundg (go - 1)
      case measure => omega
      case rel => exact ⟨wk, dk, HOi, HSi, HGi, HBi, K, hw2.1, hw2.2.1⟩
   ·obtain ⟨n1, n2, n3⟩ := HN.out
    clear HO HOo HS
    go_wp2_with fail
    go_quiet (fail)
    go_wp2_with fail
    go_end0
    exact ⟨rfl, dc, n1, by omega, HG.out, capped_done (by omega) n3, HB.out.drewN _⟩
end Go.Proofs.YtemflcojebanlaaGreatDoor.TreeC

/- Texts joined: TreeTV, TreeTW. -/
import Derived.Test.YtjkdcladjjpmoaaGreatDoorJ16
/- What is in a type, an expression, a statement lies in memory as it must; what looks into them, as tree.sound asks. -/
namespace Go.Proofs.YtjkdcladjjpmoaaGreatDoor.TreeC
open Go Go.RowKit Go.Lib Go.Sort Go.Proofs.YtjkdcladjjpmoaaGreatDoor.LexP Go.Proofs.YtjkdcladjjpmoaaGreatDoor.TreeP Go.Proofs.YtjkdcladjjpmoaaGreatDoor.LexC

theorem mem_wT {l : List Ty} {x : Ty} (h : x ∈ l) : wT x ≤ wTs l := by
  obtain ⟨i, hi, e⟩ := List.mem_iff_getElem.1 h
  exact wTs_get l i x (by rw [List.getElem?_eq_getElem hi, e])
theorem mem_wE {l : List Ex} {x : Ex} (h : x ∈ l) : wE x ≤ wEs l := by
  obtain ⟨i, hi, e⟩ := List.mem_iff_getElem.1 h
  exact wEs_get l i x (by rw [List.getElem?_eq_getElem hi, e])
theorem mem_wS {l : List St} {x : St} (h : x ∈ l) : wS x ≤ wSs l := by
  obtain ⟨i, hi, e⟩ := List.mem_iff_getElem.1 h
  exact wSs_get l i x (by rw [List.getElem?_eq_getElem hi, e])
theorem inT_ok (x : Ty) (n : Nat) (u : World) (h : x.In u) (hw : wT x ≤ 1048576) : ∀ t ∈ inT x n, okT u t := by
  obtain ⟨k, l, m, v, kids⟩ := x
  rw [Ty.In] at h
  rw [wT] at hw
  have hl := wTs_len kids
  intro t ht
  unfold inT at ht
  by_cases hk : k < 2 ∨ 4 < k
  · simp only [if_pos hk] at ht; simp at ht
  · simp only [if_neg hk] at ht
    rw [List.mem_singleton] at ht
    subst ht
    exact ⟨h.1, h.2, fun x hx => by have := mem_wT (l := kids) hx; omega, by show kids.length ≤ _; omega⟩
theorem operKids_ok (u : World) (s n : Nat) (v : Value) (all : List Ex) (hl : Lies u 5 v (all.map Ex.cells)) (hi : ∀ x ∈ all, x.In u ∧ wE x ≤ 1048576) :
    ∀ (l : List Ex) (i : Nat), all.drop i = l → ∀ t ∈ operKids s n v i l, okE u t
  | [], i, _, t, ht => by simp [operKids] at ht
  | x :: xs, i, hd, t, ht => by
    have hx : all[i]? = some x := by
      have := congrArg (fun l => l[0]?) hd
      simpa using this
    have hlt : i < all.length := (List.getElem?_eq_some_iff.1 hx).1
    rw [operKids, List.mem_cons] at ht
    rcases ht with rfl | ht
    · obtain ⟨b, off, cap, rfl, hcap, hc⟩ := Lies.at hl (i := i) (by rw [List.length_map]; exact hlt)
      rw [List.length_map] at *
      have hm := hi x (List.mem_of_getElem? hx)
      refine ⟨?_, by rw [Ex.Ins, Ex.Ins]; exact ⟨hm.1, trivial⟩, fun y hy => by rw [List.mem_singleton] at hy; rw [hy]; exact hm.2, by show 1 ≤ _; omega⟩
      refine ⟨some ⟨b, off + i * 5, none⟩, cap - i, rfl, by show 1 ≤ _; omega, fun _ => ⟨b, off + i * 5, rfl, fun j c hj a q hq => ?_⟩⟩
      match j, hj with
      | 0, hj =>
        have hj' : some x.cells = some c := hj
        cases hj'
        have := hc i x.cells (by rw [List.getElem?_map, hx]; rfl) a q hq
        rw [Nat.zero_mul, Nat.add_zero]
        exact this
      | j + 1, hj => simp at hj
    · exact operKids_ok u s n v all hl hi xs (i + 1) (by rw [← List.drop_drop, hd]; rfl) t ht
theorem inE_ok (x : Ex) (n : Nat) (u : World) (h : x.In u) (hw : wE x ≤ 1048576) : ∀ t ∈ inE x n, okE u t := by
  obtain ⟨k, num, l, m, v, kids⟩ := x
  rw [Ex.In] at h
  rw [wE] at hw
  have hl := wEs_len kids
  intro t ht
  unfold inE at ht
  by_cases hk : k < 3 ∨ 9 < k
  · simp only [if_pos hk] at ht; simp at ht
  · by_cases h8 : k = 8
    · simp only [if_neg hk, if_pos h8] at ht
      rw [List.mem_cons] at ht
      rcases ht with rfl | ht
      · exact ⟨lies_none, by rw [Ex.Ins]; trivial, fun x hx => by simp at hx, Nat.zero_le _⟩
      · exact operKids_ok u _ n v kids h.2.1 (fun x hx => ⟨(Ex.ins_iff u kids).1 h.2.2 x hx, by have := mem_wE hx; omega⟩) kids 0 rfl t ht
    · simp only [if_neg hk, if_neg h8] at ht
      rw [List.mem_singleton] at ht
      subst ht
      exact ⟨h.2.1, h.2.2, fun x hx => by have := mem_wE (l := kids) hx; omega, by show kids.length ≤ _; omega⟩
theorem inS_ok (x : St) (n : Nat) (u : World) (h : x.In u) (hw : wS x ≤ 1048576) : ∀ t ∈ inS x n, okS u t := by
  obtain ⟨k, name, p, e, tv, thn, ev, els⟩ := x
  rw [St.In] at h
  rw [wS] at hw
  have hl := wSs_len thn
  have hl2 := wSs_len els
  intro t ht
  unfold inS at ht
  simp only [List.mem_cons, List.not_mem_nil, or_false] at ht
  rcases ht with rfl | rfl
  · exact ⟨h.2.2.1, h.2.2.2.1, fun x hx => by have := mem_wS (l := thn) hx; omega, by show thn.length ≤ _; omega⟩
  · exact ⟨h.2.2.2.2.1, h.2.2.2.2.2, fun x hx => by have := mem_wS (l := els) hx; omega, by show els.length ≤ _; omega⟩

/-- looking into a type, into an expression: nothing is shown to the gauge -/
theorem opensT (gb lim : Nat) (w : World) : Opens Ty.cells (fun u x => Ty.In u x) wT inT (fun _ _ => 0) deepT 70 #[] gb lim w := fun x n dc W hn hD hin hw hb hg =>
  (inType_any x n W (by omega) (Ty.In.keep (fun b o u hc => hush_keeps gb W _ _ _ (hb.keeps _ _ _ hc)) x hin)).mono fun r w' ⟨v, h1, h2, h3⟩ =>
    ⟨v, dc, h1, h2, .of h3, hg.below h3 hg.lt, Nat.le_refl _, by omega, .inl (Nat.max_eq_left (Nat.zero_le _)).symm⟩
theorem opensE (gb lim : Nat) (w : World) : Opens Ex.cells (fun u x => Ex.In u x) wE inE (fun _ _ => 0) deepE 74 #[] gb lim w := fun x n dc W hn hD hin hw hb hg =>
  (inExpr_any x n W (by omega) (Ex.In.keep (fun b o u hc => hush_keeps gb W _ _ _ (hb.keeps _ _ _ hc)) x hin) (by
    obtain ⟨k, num, l, m, v, kids⟩ := x
    rw [wE] at hw
    have := wEs_len kids
    show kids.length ≤ _; omega)).mono fun r w' ⟨v, h1, h2, h3⟩ =>
    ⟨v, dc, h1, h2, .of h3, hg.below h3 hg.lt, Nat.le_refl _, by omega, .inl (Nat.max_eq_left (Nat.zero_le _)).symm⟩
end Go.Proofs.YtjkdcladjjpmoaaGreatDoor.TreeC
/- Contract of (*tree.gauge).inStmt: what looks into a statement, as tree.sound asks. -/
namespace Go.Proofs.YtjkdcladjjpmoaaGreatDoor.TreeC
open Go Go.RowKit Go.Lib Go.Sort Go.Proofs.YtjkdcladjjpmoaaGreatDoor.LexP Go.Proofs.YtjkdcladjjpmoaaGreatDoor.TreeP Go.Proofs.YtjkdcladjjpmoaaGreatDoor.LexC

theorem hush_below {gb : Nat} {w w' : World} (h : Below w.heap.size w w') : Keeps (hush gb w) (hush gb w') := (BelowX.of h).keeps
theorem flat_get {size : Nat} : ∀ (xs : List (List Value)), (∀ c ∈ xs, c.length = size) → ∀ (i : Nat) (c : List Value), xs[i]? = some c → ∀ (j : Nat) (u : Value), c[j]? = some u → (xs.flatMap id)[i * size + j]? = some u
  | [], _, i, c, hi, _, _, _ => by simp at hi
  | x :: xs, hs, 0, c, hi, j, u, hj => by
    rw [List.getElem?_cons_zero] at hi
    cases hi
    rw [List.flatMap_cons, Nat.zero_mul, Nat.zero_add]
    show (x ++ _)[j]? = _
    rw [List.getElem?_append_left (List.getElem?_eq_some_iff.1 hj).1]
    exact hj
  | x :: xs, hs, i + 1, c, hi, j, u, hj => by
    have h := flat_get xs (fun c hc => hs c (List.mem_cons_of_mem _ hc)) i c (by simpa using hi) j u hj
    have hx : x.length = size := hs x (List.mem_cons_self ..)
    rw [List.flatMap_cons]
    show (x ++ _)[(i + 1) * size + j]? = _
    rw [List.getElem?_append_right (by rw [hx, Nat.add_mul]; omega), hx, show (i + 1) * size + j - size = i * size + j by rw [Nat.add_mul]; omega]
    exact h
/-- some things laid side by side in a block of their own -/
theorem lies_cells {w : World} {b : Nat} {xs : List (List Value)} {size : Nat} (hs : ∀ c ∈ xs, c.length = size) (h : BoxAt w b (xs.flatMap id)) : Lies w size (.slice (some ⟨b, 0, none⟩) xs.length xs.length) xs := by
  refine ⟨some ⟨b, 0, none⟩, xs.length, rfl, Nat.le_refl _, fun _ => ⟨b, 0, rfl, fun i c hi j u hj => ?_⟩⟩
  rw [Nat.zero_add]
  refine h (i * size + j) u ?_
  clear h
  exact flat_get xs hs i c hi j u hj
theorem deepAt_two (n : Nat) (a b : Ex) : deepAt deepE n [a, b] = n + max (deepE a) (deepE b) := by simp only [deepAt]; omega
theorem nE_two (a b : Ex) : wAll nE [a, b] ≤ wE a + wE b := by have := nE_le a; have := nE_le b; simp only [wAll]; omega

set_option maxHeartbeats 8000000 in
set_option maxRecDepth 100000 in
theorem opensS (gb lim : Nat) (w : World) (hlim : lim ≤ 9223372036854775807) : Opens St.cells (fun u x => St.In u x) wS inS exS deepS 72 #[.pointer (some ⟨gb, 0, none⟩)] gb lim w := by
  intro x n dc W hn hD hin hw hb hg
  have hinW : St.In W x := St.In.keep (fun b o u hc => hush_keeps gb W _ _ _ (hb.keeps _ _ _ hc)) x hin
  have hinH : St.In (hush gb W) x := St.In.keep hb.keeps x hin
  show Calls Tryz.prog 72 #[.pointer (some ⟨gb, 0, none⟩), .agg (St.cells x).toArray, .int .i64 (n : Int)] W _
  have hz := stSize x
  have ho := st_ones hinW
  unfold Ones at ho
  have hX : BoxAt (W.alloc (.cells (St.cells x).toArray 111 (0, 0))) W.heap.size (St.cells x) := BoxAt.new _ _ _
  have hW1 : Below W.heap.size W (W.alloc (.cells (St.cells x).toArray 111 (0, 0))) := (Below.refl _ _).alloc (Nat.le_refl _) _
  obtain ⟨k, name, place, expr, tv, thn, ev, els⟩ := x
  have hn4 : n ≤ 4194304 := by omega
  have hwp : wE place ≤ 1048576 ∧ wE expr ≤ 1048576 ∧ wAll nE [place, expr] ≤ 1048576 := by
    have := nE_two place expr
    rw [wS] at hw
    omega
  have hds : n + 1 + max (deepE place) (deepE expr) ≤ n + deepS (St.mk k name place expr tv thn ev els) := by rw [deepS]; omega
  have hex : exS (St.mk k name place expr tv thn ev els) n = deepAt deepE (n + 1) [place, expr] := (deepAt_two (n + 1) place expr).symm
  have hdb : max dc (deepAt deepE (n + 1) [place, expr]) ≤ 4194304 := by rw [deepAt_two]; omega
  have y12 : (St.mk k name place expr tv thn ev els).cells[12]? = some tv := St.cells_tv ..
  have y13 : (St.mk k name place expr tv thn ev els).cells[13]? = some ev := St.cells_ev ..
  have yp : ∀ (j : Nat) (u : Value), place.cells[j]? = some u → (St.mk k name place expr tv thn ev els).cells[2 + j]? = some u := fun j u h => St.cells_place h
  have ye : ∀ (j : Nat) (u : Value), expr.cells[j]? = some u → (St.mk k name place expr tv thn ev els).cells[7 + j]? = some u := fun j u h => St.cells_expr h
  have hdt : ∀ d', d' ≤ max dc (deepAt deepE (n + 1) [place, expr]) → d' ≤ max dc (n + deepS (St.mk k name place expr tv thn ev els)) := fun d' h => by rw [deepAt_two] at h; omega
  rw [hex]
  generalize n + deepS (St.mk k name place expr tv thn ev els) = DD at *
  generalize (St.mk k name place expr tv thn ev els).cells = fcs at *
  rw [St.In] at hinW hinH
  obtain ⟨tp, tc, htv, htc, _⟩ := id hinH.2.2.1
  obtain ⟨ep, ec, hev, hec, _⟩ := id hinH.2.2.2.2.1
  rw [List.length_map] at htv hev
  subst htv
  subst hev
  have cells5 : ∀ e : Ex, e.In (hush gb W) → ∃ (a b : Int) (s : ByteArray) (m : Bool) (q : Option Addr) (x y : Nat), e.cells = [.int .i64 a, .int .i64 b, .string s, .bool m, .slice q x y] := fun e he => by
    obtain ⟨a, b, s, m, v, l⟩ := e
    rw [Ex.In] at he
    obtain ⟨q, c, rfl, _⟩ := he.2.1
    exact ⟨a, b, s, m, q, _, c, rfl⟩
  obtain ⟨pa, pb, ps, pm, pq, px, py, hpc⟩ := cells5 place hinH.1
  obtain ⟨ea, eb, es, em, eq, ex, ey, hec'⟩ := cells5 expr hinH.2.1
  have P1 : Hid (∀ (j : Nat) (u : Value), place.cells[j]? = some u → (W.alloc (.cells fcs.toArray 111 (0, 0))).cell? ⟨W.heap.size, 2 + j, none⟩ = some u) := hid fun j u h => hX (2 + j) u (yp j u h)
  have P2 : Hid (∀ (j : Nat) (u : Value), expr.cells[j]? = some u → (W.alloc (.cells fcs.toArray 111 (0, 0))).cell? ⟨W.heap.size, 7 + j, none⟩ = some u) := hid fun j u h => hX (7 + j) u (ye j u h)
  have ZP := hid (exSize place)
  have ZE := hid (exSize expr)
  rw [hpc] at P1 ZP
  rw [hec'] at P2 ZE
  have hW2 : Below W.heap.size W ((W.alloc (.cells fcs.toArray 111 (0, 0))).alloc (.cells #[.int .i64 pa, .int .i64 pb, .string ps, .bool pm, .slice pq px py, .int .i64 ea, .int .i64 eb, .string es, .bool em, .slice eq ex ey] 51 (0, 0))) := hW1.alloc (by have := hW1.size; omega) _
  have hX2 : BoxAt ((W.alloc (.cells fcs.toArray 111 (0, 0))).alloc (.cells #[.int .i64 pa, .int .i64 pb, .string ps, .bool pm, .slice pq px py, .int .i64 ea, .int .i64 eb, .string es, .bool em, .slice eq ex ey] 51 (0, 0))) W.heap.size fcs := hX.later ((Below.refl _ _).alloc (Nat.le_refl _) _)
  have hX3 : BoxAt ((W.alloc (.cells fcs.toArray 111 (0, 0))).alloc (.cells #[.int .i64 pa, .int .i64 pb, .string ps, .bool pm, .slice pq px py, .int .i64 ea, .int .i64 eb, .string es, .bool em, .slice eq ex ey] 51 (0, 0))) (W.heap.size + 1) ([place.cells, expr.cells].flatMap id) := by
    have h := BoxAt.new (W.alloc (.cells fcs.toArray 111 (0, 0))) ([place.cells, expr.cells].flatMap id) 51
    rw [show (W.alloc (.cells fcs.toArray 111 (0, 0))).heap.size = W.heap.size + 1 from Array.size_push ..] at h
    rw [hpc, hec'] at h ⊢
    exact h
  have CI : ∀ W2 : World, Below W.heap.size W W2 → BoxAt W2 (W.heap.size + 1) ([place.cells, expr.cells].flatMap id) → Calls Tryz.prog 73 #[.pointer (some ⟨gb, 0, none⟩), .agg #[.int .i64 ((n : Int) + 1), .slice (some ⟨W.heap.size + 1, 0, none⟩) 2 2], .func (.func 74) #[] #[]] W2 fun r w' => r = .returned (.tuple #[]) ∧
      ∃ d', dc ≤ d' ∧ d' ≤ max dc (deepAt deepE (n + 1) [place, expr]) ∧ GaugeAt w' gb d' lim ∧ Capped lim d' (max dc (deepAt deepE (n + 1) [place, expr])) ∧ BelowX gb W2.heap.size W2 w' := fun W2 hb2 hx2 => by
    have hbx : BoxAt (hush gb W2) (W.heap.size + 1) ([place.cells, expr.cells].flatMap id) := fun j u hj => hush_in (hx2 j u hj) (by have := hg.lt; omega)
    have hli := lies_cells (w := hush gb W2) (b := W.heap.size + 1) (xs := [place.cells, expr.cells]) (size := 5) (by intro c hc; simp at hc; rcases hc with rfl | rfl; rw [hpc]; rfl; rw [hec']; rfl) hbx
    exact sound_exSize ⟨n + 1, .slice (some ⟨W.heap.size + 1, 0, none⟩) 2 2, [place, expr]⟩ gb dc lim W2 (hg.below hb2 hg.lt) ⟨hli, by
      rw [Ex.Ins, Ex.Ins, Ex.Ins]
      exact ⟨Ex.In.keep (hush_below hb2) _ hinH.1, Ex.In.keep (hush_below hb2) _ hinH.2.1, trivial⟩, by
      intro x hx; simp at hx; rcases hx with rfl | rfl; exact hwp.1; exact hwp.2.1, by show 2 ≤ _; omega⟩ hwp.2.2 hdb hlim (opensE gb lim W2) inE_ok
  have CI' := hid (CI _ hW2 hX3)
  have ZS := hid hz
  have ZO := hid ho
  have XX := hid hX2
  have HT := hid hdt
  have HG := hid hg
  have Y := hid (And.intro y12 y13)
  have BB := hid hW2
  have IH := hid hinH
  generalize deepAt deepE (n + 1) [place, expr] = EE at *
  clear hX hz ho hinH hinW hin hw hD hg hb y12 y13 yp ye hW1 hW2 hX2 hX3 CI hdt hds hex hdb hwp cells5 hpc hec' hn hlim
  go_enter Tryz.func72, Tryz.ntmps72
  go_wp2_with (first | (with_reducible refine wpList_load_at (o := ⟨some 11, _, _, _, _, _⟩) rfl _ _ rfl W.heap.size 2 rfl [.int .i64 pa, .int .i64 pb, .string ps, .bool pm, .slice pq px py] _ P1.out Tryz.underlying51 rfl ZP.out ?_) | (with_reducible refine wpList_load_at (o := ⟨some 13, _, _, _, _, _⟩) rfl _ _ rfl W.heap.size 7 rfl [.int .i64 ea, .int .i64 eb, .string es, .bool em, .slice eq ex ey] _ P2.out Tryz.underlying51 rfl ZE.out ?_))
  with_reducible refine CI'.out.mono ?_
  rintro e W3 ⟨rfl, d', h1, h2, h3, h4, h5⟩
  have X3 := hid (h5.box XX.out (by have := HG.out.lt; omega))
  have l12 := box_get X3.out Y.out.1
  have l13 := box_get X3.out Y.out.2
  have G3 := hid h3
  have N3 := hid (And.intro h1 (And.intro (HT.out d' h2) h4))
  have B3 := hid (h5.pre (BelowX.of (gb := gb) BB.out) BB.out.size)
  clear CI' h1 h2 h3 h4 h5
  go_wp2_with fail
  go_ret
  have hbx := BoxAt.new W3 [.int .i64 ((n : Int) + 1), .slice tp thn.length tc, .int .i64 ((n : Int) + 1), .slice ep els.length ec] 121
  have hl := lies_cells (xs := (inS (St.mk k name place expr (.slice tp thn.length tc) thn (.slice ep els.length ec) els) n).map Shelf.cells) (size := 2) (by intro c hc; unfold inS at hc; simp at hc; rcases hc with rfl | rfl <;> rfl) hbx
  have hba : Below W3.heap.size W3 (W3.alloc (.cells [.int .i64 ((n : Int) + 1), .slice tp thn.length tc, .int .i64 ((n : Int) + 1), .slice ep els.length ec].toArray 121 (0, 0))) := (Below.refl _ _).alloc (Nat.le_refl _) _
  exact ⟨_, d', rfl, ⟨hl, fun n c h => by injection h with h0; cases h0⟩, B3.out.then (hba.mono B3.out.size), G3.out.below hba G3.out.lt, N3.out.1, N3.out.2.1, N3.out.2.2⟩
end Go.Proofs.YtjkdcladjjpmoaaGreatDoor.TreeC

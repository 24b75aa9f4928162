/- Texts joined: TreeTJ, TreeTT0, TreeRF, TreeRG, TreeRH. -/
import Derived.Test.YtjkdcladjjpmoaaGreatDoorJ07
import Derived.Test.YtjkdcladjjpmoaaGreatDoorJ10
import Derived.Test.YtjkdcladjjpmoaaGreatDoorJ09
import Derived.Test.YtjkdcladjjpmoaaGreatDoorJ04
/- Contracts of tree.every at strings, tree.rightParam. -/
namespace Go.Proofs.YtjkdcladjjpmoaaGreatDoor.TreeC
open Go Go.RowKit Go.Lib Go.Sort Go.Proofs.YtjkdcladjjpmoaaGreatDoor.LexP Go.Proofs.YtjkdcladjjpmoaaGreatDoor.TreeP Go.Proofs.YtjkdcladjjpmoaaGreatDoor.LexC

theorem enPr : Enters 78 := enters_of Tryz.func78 (by kernel_rfl) rfl

set_option maxHeartbeats 4000000 in
set_option maxRecDepth 100000 in
theorem every_str (g : Nat) (f : ByteArray → Bool) (eg : Enters g) (w : World) (v : Value) (l : List ByteArray) (hl : Lies w 1 v (l.map nmCells)) (hlen : l.length ≤ 1048576)
    (H : ∀ x ∈ l, ∀ W, Below w.heap.size w W → Calls Tryz.prog g #[.string x] W fun r w' => r = .returned (.bool (f x)) ∧ Below W.heap.size W w') :
    Calls Tryz.prog 76 #[v, .func (.func g) #[] #[]] w fun r w' => r = .returned (.bool (l.all f && decide (l.length ≤ 30))) ∧ Below w.heap.size w w' := by
  obtain ⟨R, hR⟩ : ∃ R, (l.all f && decide (l.length ≤ 30)) = R := ⟨_, rfl⟩
  rw [hR]
  have eg' : ∀ (args : Array Value) (w : World), (callFunc g args).run Tryz.prog w = .ok (.enter g args) w := eg
  have hl' := hl
  obtain ⟨p, cap, rfl, hcap, hx⟩ := hl
  rw [List.length_map] at *
  generalize hL : l.length = L at *
  have HS := hid hR
  have HL := hid hL
  have HX := hid hl'
  have HH := hid H
  clear hx hL hl' hR H eg
  by_cases h30 : 30 < L
  · clear eg'
    go_enter Tryz.func76, Tryz.ntmps76
    go_wp2_with fail
    go_ret
    exact ⟨ret_bool (by rw [← HS.out]; simp; omega), Below.refl _ _⟩
  go_enter Tryz.func76, Tryz.ntmps76
  go_wp2_with fail
  go_loopg [12] L (fun gf v wx => ∃ i : Nat, v = .int .i64 (i : Int) ∧ i ≤ L ∧ L ≤ i + gf ∧ Hid (l.all f = (l.drop i).all f) ∧ Hid (Below w.heap.size w wx))
  case atStart => exact ⟨0, rfl, by omega, by omega, hid (by simp), hid (Below.refl _ _)⟩
  case round =>
    obtain ⟨i, rfl, hi, hg, HR, HB⟩ := hrel
    by_cases hlt : i < L
    · obtain ⟨t', ht⟩ : ∃ t', l[i]? = some t' := ⟨l[i]'(by rw [HL.out]; exact hlt), List.getElem?_eq_getElem _⟩
      obtain ⟨b, off, cap', e, _, hx⟩ := Lies.at (HX.out.keep (Keeps.of_below HB.out)) (i := i) (by rw [List.length_map, HL.out]; exact hlt)
      injection e with e1 e2 e3
      subst e1
      clear e2 e3
      have hx' := hx i (nmCells t') (by rw [List.getElem?_map, ht]; rfl)
      have y0 : wr.cell? ⟨b, off + i, none⟩ = some (.string t') := by have := hx' 0 _ rfl; rw [Nat.mul_one] at this; exact this
      have hr := all_drop f ht
      have CI := hid (HH.out t' (List.mem_of_getElem? ht) wr HB.out)
      generalize f t' = ft at *
      have HRR := hid hr
      clear hx hx' ht hr
      go_wp2_with fail
      with_reducible refine CI.out.mono ?_
      rintro e w3 ⟨rfl, hb3⟩
      cases ft
      · have K : Hid (R = false) := hid (by rw [← HS.out, HR.out, HRR.out]; rfl)
        go_wp2_with fail
        go_ret
        exact ⟨ret_bool K.out.symm, HB.out.trans (hb3.mono HB.out.size)⟩
      · have K : Hid (l.all f = (l.drop (i + 1)).all f) := hid (by rw [HR.out, HRR.out]; rfl)
        go_wp2_with fail
        go_roundg (gk - 1)
        case measure => omega
        case rel => exact ⟨i + 1, by go_num, by omega, by omega, K, hid (HB.out.trans (hb3.mono HB.out.size))⟩
    · obtain rfl : i = L := by omega
      have K : Hid (R = true) := hid (by
        have h := HR.out
        rw [← HL.out, List.drop_length] at h
        rw [← HS.out, h]; simp; omega)
      clear eg'
      go_wp2_with fail
      go_ret
      exact ⟨ret_bool K.out.symm, HB.out⟩
theorem names_any (w : World) (v : Value) (l : List ByteArray) (hl : Lies w 1 v (l.map nmCells)) (hw : wNs l ≤ 1048576) (T : Tabs w) :
    Calls Tryz.prog 76 #[v, .func (.func 75) #[] #[]] w fun r w' => r = .returned (.bool (namesB l)) ∧ Below w.heap.size w w' :=
  every_str 75 (fun s => nameB (bs s)) enNa w v l hl (by have := wNs_len l; omega) fun x hx W hb => by
    obtain ⟨i, hi, e⟩ := List.mem_iff_getElem.1 hx
    have := wNs_get l i x (by rw [List.getElem?_eq_getElem hi, e])
    exact isName_any x W (by omega) (T.below hb)

theorem Pa.type_cells {p : Pa} {j : Nat} {u : Value} (h : p.type.cells[j]? = some u) : (Pa.cells p)[1 + j]? = some u := by
  obtain ⟨a, ⟨c1, c2, c3, c4, c5⟩⟩ := p
  match j, h with
  | 0, h => exact h
  | 1, h => exact h
  | 2, h => exact h
  | 3, h => exact h
  | j + 4, h => simp [Ty.cells] at h
set_option maxHeartbeats 4000000 in
set_option maxRecDepth 100000 in
theorem rightPa_any (q : Pa) (w : World) (hw : wPa q ≤ 1048576) (hin : q.In w) (T : Tabs w) : Calls Tryz.prog 78 #[.agg (Pa.cells q).toArray] w fun r w' => r = .returned (.bool (rightPa q)) ∧ Below w.heap.size w w' := by
  unfold wPa at hw
  have c1 : Hid (∀ W, Below w.heap.size w W → Calls Tryz.prog 75 #[.string q.name] W fun r w' => r = .returned (.bool (nameB (bs q.name))) ∧ Below W.heap.size W w') := hid fun W hb => isName_any q.name W (by omega) (T.below hb)
  have c2 : Hid (∀ W, Below w.heap.size w W → Calls Tryz.prog 79 #[.agg q.type.cells.toArray] W fun r w' => r = .returned (.bool (rightT q.type)) ∧ Below W.heap.size W w') := hid fun W hb => rightT_any _ q.type W (Nat.le_refl _) (by omega) (Ty.In.keep (Keeps.of_below hb) _ hin) (T.below hb)
  have z0 : (Pa.cells q)[0]? = some (.string q.name) := rfl
  have zt : ∀ j u, q.type.cells[j]? = some u → (Pa.cells q)[1 + j]? = some u := fun j u h => Pa.type_cells h
  obtain ⟨R, hR⟩ : ∃ R, rightPa q = R := ⟨_, rfl⟩
  rw [hR]
  unfold rightPa at hR
  have SG := hid (tySize q.type)
  generalize nameB (bs q.name) = nb at *
  generalize rightT q.type = tb at *
  generalize q.name = name at *
  generalize q.type.cells = tc at *
  generalize Pa.cells q = cs at *
  have HS := hid hR
  have HY := hid (And.intro z0 zt)
  clear hR z0 zt hw hin T
  have B0 := hid (show Below w.heap.size w (w.alloc (.cells cs.toArray 59 (0, 0))) from (Below.refl _ _).alloc (Nat.le_refl _) _)
  have X0 := hid (BoxAt.new w cs 59)
  have d0 := box_get X0.out HY.out.1
  go_enter Tryz.func78, Tryz.ntmps78
  go_wp2_with fail
  with_reducible refine (c1.out _ B0.out).mono ?_
  rintro e W1 ⟨rfl, hb1⟩
  have B1 := hid (B0.out.trans (hb1.mono B0.out.size))
  have X1 := hid (X0.out.later hb1)
  clear d0 hb1
  cases nb
  · go_wp2_with fail
    go_ret
    exact ⟨ret_bool (by rw [← HS.out]; rfl), B1.out⟩
  go_wp2_with (with_reducible refine wpList_load_at (o := ⟨some 8, _, _, _, _, _⟩) rfl _ _ rfl w.heap.size 1 rfl tc _ (fun j u h => box_get X1.out (HY.out.2 j u h)) Tryz.underlying45 rfl SG.out ?_)
  with_reducible refine (c2.out _ B1.out).mono ?_
  rintro e W2 ⟨rfl, hb2⟩
  go_wp2_with fail
  go_ret
  exact ⟨ret_bool (by rw [← HS.out]; rfl), B1.out.trans (hb2.mono B1.out.size)⟩
theorem pa_ones {w : World} {q : Pa} (h : q.In w) : Ones (Pa.cells q) := by
  obtain ⟨a, ⟨k', l', m', v', ks'⟩⟩ := q
  unfold Pa.In at h
  rw [Ty.In] at h
  obtain ⟨p, c, e, _⟩ := h.1
  subst e
  exact (show Ones [.string a, .int .i64 k', .string l', .bool m', .slice p (List.map Ty.cells ks').length c] from by unfold Ones; simp [Value.oneCell'])
end Go.Proofs.YtjkdcladjjpmoaaGreatDoor.TreeC
/- What is in a statement, as plain shelves; the relation that tree.sound keeps to the gauge. No program. -/
namespace Go.Proofs.YtjkdcladjjpmoaaGreatDoor.TreeC
open Go Go.RowKit Go.Lib Go.Sort Go.Proofs.YtjkdcladjjpmoaaGreatDoor.LexP Go.Proofs.YtjkdcladjjpmoaaGreatDoor.TreeP Go.Proofs.YtjkdcladjjpmoaaGreatDoor.LexC

/-- what is in a statement that stands at a level -/
def inS (s : St) (n : Nat) : List (Shelf St) := match s with
  | .mk _ _ _ _ tv thn ev els => [⟨n + 1, tv, thn⟩, ⟨n + 1, ev, els⟩]
/-- how deep its own expressions are -/
def exS (s : St) (n : Nat) : Nat := match s with
  | .mk _ _ place expr _ _ _ _ => n + 1 + max (deepE place) (deepE expr)
mutual
def nS : St → Nat | .mk _ _ _ _ _ thn _ els => 2 + nSs thn + nSs els
def nSs : List St → Nat | [] => 0 | x :: xs => nS x + nSs xs
end
theorem wAll_st : ∀ l : List St, wAll nS l = nSs l
  | [] => rfl
  | x :: xs => by rw [wAll, nSs, wAll_st xs]
mutual
theorem nS_le : ∀ x : St, nS x ≤ wS x
  | .mk k n p e tv thn ev els => by have := nSs_le thn; have := nSs_le els; rw [nS, wS]; omega
theorem nSs_le : ∀ l : List St, nSs l ≤ wSs l
  | [] => by rw [nSs, wSs]; exact Nat.le_refl _
  | x :: xs => by have h := nS_le x; have k := nSs_le xs; rw [nSs, wSs]; omega
end
theorem inS_w (x : St) (n : Nat) : wSh nS (inS x n) ≤ nS x := by
  obtain ⟨k, name, p, e, tv, thn, ev, els⟩ := x
  unfold inS
  rw [nS]
  simp only [wSh, wAll_st]
  omega
theorem deepAt_st (n : Nat) : ∀ l : List St, deepAt deepS n l = max n (n + deepSs l)
  | [] => by simp [deepAt, deepSs]
  | x :: xs => by rw [deepAt, deepSs, deepAt_st n xs]; omega
theorem inS_law (x : St) (n : Nat) : max n (max (exS x n) (deepSh deepS (inS x n))) = n + deepS x := by
  obtain ⟨k, name, p, e, tv, thn, ev, els⟩ := x
  unfold inS exS
  rw [deepS]
  simp only [deepSh, deepAt_st]
  omega
theorem inT_law' (t : Ty) (n : Nat) : max n (max 0 (deepSh deepT (inT t n))) = n + deepT t := by rw [← inT_law t n]; omega
theorem inE_law' (x : Ex) (n : Nat) : max n (max 0 (deepSh deepE (inE x n))) = n + deepE x := by rw [← inE_law x n]; omega
theorem deepAt_le_top {α : Type} (dp : α → Nat) (n : Nat) : ∀ (l : List α) (i : Nat) (x : α), l[i]? = some x → n + dp x ≤ deepAt dp n l
  | [], i, x, h => by simp at h
  | y :: l, 0, x, h => by simp at h; subst h; rw [deepAt]; omega
  | y :: l, i + 1, x, h => by have := deepAt_le_top dp n l i x (by simpa using h); rw [deepAt]; omega

/-- the gauge shows what it must: Capped, of the greater of what it shows and what is still to be seen -/
theorem capped_pop {α : Type} {dp : α → Nat} {lim d D : Nat} {rest : List (Shelf α)} {s : Shelf α} (h : Capped lim (max d (deepSh dp (rest ++ [s]))) D) :
    Capped lim (max (max d s.level) (max (deepSh dp rest) (deepAt dp s.level s.list))) D := by
  have e : max d (deepSh dp (rest ++ [s])) = max (max d s.level) (max (deepSh dp rest) (deepAt dp s.level s.list)) := by
    have := deepAt_le dp s.level s.list
    rw [deepSh_app]
    simp only [deepSh]
    omega
  rw [e] at h
  exact h
/-- one thing of a shelf is looked into: what it shows the gauge, what is in it, and what is still to be seen of the shelf -/
theorem capped_open {α : Type} {dp : α → Nat} {inn : α → Nat → List (Shelf α)} {ex : α → Nat → Nat} {lim d d' D n : Nat} {work : List (Shelf α)} {x : α} {l : List α}
    (law : ∀ x n, max n (max (ex x n) (deepSh dp (inn x n))) = n + dp x) (hn : n ≤ d)
    (h : Capped lim (max d (max (deepSh dp work) (deepAt dp n (x :: l)))) D) (hd : Capped lim d' (max d (ex x n))) (hle : d ≤ d') :
    Capped lim (max d' (max (deepSh dp (work ++ inn x n)) (deepAt dp n l))) D := by
  have k := law x n
  have m := deepAt_le dp n l
  rw [deepAt] at h
  rw [deepSh_app]
  unfold Capped at *
  omega
theorem capped_end {α : Type} {dp : α → Nat} {lim d D n : Nat} {work : List (Shelf α)} (hn : n ≤ d) (h : Capped lim (max d (max (deepSh dp work) (deepAt dp n []))) D) :
    Capped lim (max d (deepSh dp work)) D := by
  rw [deepAt] at h
  rw [show max d (max (deepSh dp work) n) = max d (deepSh dp work) by omega] at h
  exact h
theorem capped_done {lim d e D : Nat} (hd : lim < d) (h : Capped lim (max d e) D) : Capped lim d D := by
  unfold Capped at *
  omega
end Go.Proofs.YtjkdcladjjpmoaaGreatDoor.TreeC
/- Contracts of lienbookref02's sizes of types and expressions. -/
namespace Go.Proofs.YtjkdcladjjpmoaaGreatDoor.TreeC
open Go Go.RowKit Go.Lib Go.Sort Go.Proofs.YtjkdcladjjpmoaaGreatDoor.LexP Go.Proofs.YtjkdcladjjpmoaaGreatDoor.TreeP Go.Proofs.YtjkdcladjjpmoaaGreatDoor.LexC

mutual
theorem sizeT_le : ∀ t : Ty, sizeT t ≤ wT t
  | .mk k life mt v kids => by
    have := sizeTs_le (1 + life.size / 100) kids
    rw [sizeT, wT]
    have : life.size / 100 ≤ life.size := Nat.div_le_self _ _
    omega
theorem sizeTs_le : ∀ (n : Nat) (l : List Ty), sizeTs n l ≤ n + wTs l
  | n, [] => by simp [sizeTs]
  | n, t :: ts => by
    have h1 := sizeT_le t
    have h2 := sizeTs_le (n + sizeT t) ts
    rw [sizeTs, wTs]
    split <;> omega
end
mutual
theorem sizeE_le : ∀ t : Ex, sizeE t ≤ wE t
  | .mk k num name mt v kids => by
    have := sizeEs_le (1 + name.size / 100) kids
    rw [sizeE, wE]
    have : name.size / 100 ≤ name.size := Nat.div_le_self _ _
    omega
theorem sizeEs_le : ∀ (n : Nat) (l : List Ex), sizeEs n l ≤ n + wEs l
  | n, [] => by simp [sizeEs]
  | n, t :: ts => by
    have h1 := sizeE_le t
    have h2 := sizeEs_le (n + sizeE t) ts
    rw [sizeEs, wEs]
    split <;> omega
end

set_option maxHeartbeats 4000000 in
set_option maxRecDepth 100000 in
theorem rsizeT_any : ∀ (n : Nat) (t : Ty) (w : World), wT t ≤ n → n ≤ 1048576 → t.In w → Calls Tryz.prog 32 #[t.val] w fun r w' => r = .returned (.int .i64 (sizeT t : Int)) ∧ Below w.heap.size w w' := by
  intro n
  induction n with
  | zero => intro t w h; obtain ⟨k, life, mt, v, kids⟩ := t; rw [wT] at h; omega
  | succ n ih =>
    intro t w hw hn hin
    obtain ⟨k, life, mt, v, kids⟩ := t
    have hsz := sizeT_le (.mk k life mt v kids)
    rw [wT] at hw hsz
    rw [Ty.In] at hin
    obtain hin := hin
    obtain ⟨hl, hk⟩ := hin
    have hlen := wTs_len kids
    obtain ⟨R, hR⟩ : ∃ R, sizeT (.mk k life mt v kids) = R := ⟨_, rfl⟩
    rw [hR] at hsz ⊢
    rw [sizeT] at hR
    have yk : (.mk k life mt v kids : Ty).cells[3]? = some v := rfl
    have yn : (.mk k life mt v kids : Ty).cells[1]? = some (.string life) := rfl
    rw [Ty.val]
    generalize (.mk k life mt v kids : Ty).cells = cs at *
    have hl' := hl
    obtain ⟨p, cap, rfl, hcap, hx⟩ := hl
    rw [List.length_map] at *
    generalize hL : kids.length = L at *
    have hd : life.size / 100 ≤ life.size := Nat.div_le_self _ _
    have hdi : ((life.size : Int)) / 100 = ((life.size / 100 : Nat) : Int) := by omega
    generalize hD : life.size / 100 = D at *
    have HD := hid hdi
    have HS := hid hR
    have HL := hid hL
    have HK := hid hk
    have HX := hid hl'
    have YK := hid yk
    have YN := hid yn
    clear hx hk hL hl' hR yk yn hdi hD
    have B0 : Below w.heap.size w (w.alloc (.cells cs.toArray 45 (0, 0))) := (Below.refl _ _).alloc (Nat.le_refl _) _
    have X0 : BoxAt (w.alloc (.cells cs.toArray 45 (0, 0))) w.heap.size cs := BoxAt.new _ _ _
    have d1 := box_get X0 YN.out
    have X0 := hid X0
    have B0 := hid B0
    go_enter Tryz.func32, Tryz.ntmps32
    go_wp2_with fail
    have X0 := X0.out
    generalize w.alloc _ = W1 at *
    have X0 := hid X0
    go_loopg [3, 4] L (fun gf u v wx => ∃ i a : Nat, u = .int .i64 (a : Int) ∧ v = .int .i64 (i : Int) ∧ i ≤ L ∧ L ≤ i + gf ∧ a ≤ 2097152 ∧ Hid (sizeTs a (kids.drop i) = R) ∧ Hid (Below W1.heap.size W1 wx))
    case atStart => exact ⟨0, 1 + D, by rw [HD.out]; go_num, rfl, by omega, by omega, by omega, hid (by rw [List.drop_zero]; exact HS.out), hid (Below.refl _ _)⟩
    case round =>
      obtain ⟨i, a, rfl, rfl, hi, hg, ha, HA, HB⟩ := hrel
      have hbw := hid (B0.out.trans (HB.out.mono B0.out.size))
      have XR := hid (X0.out.later HB.out)
      have d3 := box_get XR.out YK.out
      clear d1
      by_cases hlt : i < L
      · by_cases h4 : a ≤ 400
        · obtain ⟨t', ht⟩ : ∃ t', kids[i]? = some t' := ⟨kids[i]'(by rw [HL.out]; exact hlt), List.getElem?_eq_getElem _⟩
          obtain ⟨b, off, cap', e, _, hx⟩ := Lies.at (HX.out.keep (Keeps.of_below hbw.out)) (i := i) (by rw [List.length_map, HL.out]; exact hlt)
          injection e with e1 e2 e3
          subst e1
          clear e2 e3
          have hx' : ∀ (j : Nat) (u : Value), t'.cells[j]? = some u → wr.cell? ⟨b, off + i * 4 + j, none⟩ = some u := hx i t'.cells (by rw [List.getElem?_map, ht]; rfl)
          have hin' : t'.In wr := Ty.In.keep (Keeps.of_below hbw.out) t' ((Ty.ins_iff w kids).1 HK.out t' (List.mem_of_getElem? ht))
          have hws := wTs_get kids i t' ht
          have hle := sizeT_le t'
          have K : Hid (sizeTs (a + sizeT t') (kids.drop (i + 1)) = R) := hid (by rw [← HA.out, drop_cons ht, sizeTs, if_neg (by omega)])
          have HZ := hid (tySize t')
          have cI := ih t' wr (by omega) (by omega) hin'
          rw [Ty.val] at cI
          have CI := hid cI
          clear cI
          have HC := hid hx'
          clear hx hx' ht hin' ih
          generalize sizeT t' = q at *
          go_wp2_with (with_reducible refine wpList_load_at (o := ⟨some 26, _, _, _, _, _⟩) rfl _ _ rfl b (off + i * 4) rfl t'.cells _ HC.out Tryz.underlying45 rfl HZ.out ?_)
          with_reducible refine CI.out.mono ?_
          rintro e W2 ⟨rfl, hb2⟩
          have H2 := hid hb2
          clear hb2
          go_wp2_with fail
          go_roundg (gk - 1)
          case measure => omega
          case rel => exact ⟨i + 1, a + q, by go_num, by go_num, by omega, by omega, by omega, K, hid (HB.out.trans (H2.out.mono HB.out.size))⟩
        · have K : Hid (a = R) := hid (by
            rw [← HA.out]
            obtain ⟨t', ht⟩ : ∃ t', kids[i]? = some t' := ⟨kids[i]'(by rw [HL.out]; exact hlt), List.getElem?_eq_getElem _⟩
            rw [drop_cons ht, sizeTs, if_pos (by omega)])
          clear ih
          go_wp2_with fail
          go_ret
          exact ⟨ret_nat K.out, hbw.out⟩
      · obtain rfl : i = L := by omega
        have K : Hid (a = R) := hid (by rw [← HA.out, ← HL.out, List.drop_length, sizeTs])
        clear ih
        go_wp2_with fail
        go_ret
        exact ⟨ret_nat K.out, hbw.out⟩
set_option maxHeartbeats 4000000 in
set_option maxRecDepth 100000 in
theorem rsizeE_any : ∀ (n : Nat) (t : Ex) (w : World), wE t ≤ n → n ≤ 1048576 → t.In w → Calls Tryz.prog 34 #[t.val] w fun r w' => r = .returned (.int .i64 (sizeE t : Int)) ∧ Below w.heap.size w w' := by
  intro n
  induction n with
  | zero => intro t w h; obtain ⟨k, num, name, mt, v, kids⟩ := t; rw [wE] at h; omega
  | succ n ih =>
    intro t w hw hn hin
    obtain ⟨k, num, name, mt, v, kids⟩ := t
    have hsz := sizeE_le (.mk k num name mt v kids)
    rw [wE] at hw hsz
    rw [Ex.In] at hin
    obtain ⟨_, hin⟩ := hin
    obtain ⟨hl, hk⟩ := hin
    have hlen := wEs_len kids
    obtain ⟨R, hR⟩ : ∃ R, sizeE (.mk k num name mt v kids) = R := ⟨_, rfl⟩
    rw [hR] at hsz ⊢
    rw [sizeE] at hR
    have yk : (.mk k num name mt v kids : Ex).cells[4]? = some v := rfl
    have yn : (.mk k num name mt v kids : Ex).cells[2]? = some (.string name) := rfl
    rw [Ex.val]
    generalize (.mk k num name mt v kids : Ex).cells = cs at *
    have hl' := hl
    obtain ⟨p, cap, rfl, hcap, hx⟩ := hl
    rw [List.length_map] at *
    generalize hL : kids.length = L at *
    have hd : name.size / 100 ≤ name.size := Nat.div_le_self _ _
    have hdi : ((name.size : Int)) / 100 = ((name.size / 100 : Nat) : Int) := by omega
    generalize hD : name.size / 100 = D at *
    have HD := hid hdi
    have HS := hid hR
    have HL := hid hL
    have HK := hid hk
    have HX := hid hl'
    have YK := hid yk
    have YN := hid yn
    clear hx hk hL hl' hR yk yn hdi hD
    have B0 : Below w.heap.size w (w.alloc (.cells cs.toArray 51 (0, 0))) := (Below.refl _ _).alloc (Nat.le_refl _) _
    have X0 : BoxAt (w.alloc (.cells cs.toArray 51 (0, 0))) w.heap.size cs := BoxAt.new _ _ _
    have d1 := box_get X0 YN.out
    have X0 := hid X0
    have B0 := hid B0
    go_enter Tryz.func34, Tryz.ntmps34
    go_wp2_with fail
    have X0 := X0.out
    generalize w.alloc _ = W1 at *
    have X0 := hid X0
    go_loopg [3, 4] L (fun gf u v wx => ∃ i a : Nat, u = .int .i64 (a : Int) ∧ v = .int .i64 (i : Int) ∧ i ≤ L ∧ L ≤ i + gf ∧ a ≤ 2097152 ∧ Hid (sizeEs a (kids.drop i) = R) ∧ Hid (Below W1.heap.size W1 wx))
    case atStart => exact ⟨0, 1 + D, by rw [HD.out]; go_num, rfl, by omega, by omega, by omega, hid (by rw [List.drop_zero]; exact HS.out), hid (Below.refl _ _)⟩
    case round =>
      obtain ⟨i, a, rfl, rfl, hi, hg, ha, HA, HB⟩ := hrel
      have hbw := hid (B0.out.trans (HB.out.mono B0.out.size))
      have XR := hid (X0.out.later HB.out)
      have d3 := box_get XR.out YK.out
      clear d1
      by_cases hlt : i < L
      · by_cases h4 : a ≤ 400
        · obtain ⟨t', ht⟩ : ∃ t', kids[i]? = some t' := ⟨kids[i]'(by rw [HL.out]; exact hlt), List.getElem?_eq_getElem _⟩
          obtain ⟨b, off, cap', e, _, hx⟩ := Lies.at (HX.out.keep (Keeps.of_below hbw.out)) (i := i) (by rw [List.length_map, HL.out]; exact hlt)
          injection e with e1 e2 e3
          subst e1
          clear e2 e3
          have hx' : ∀ (j : Nat) (u : Value), t'.cells[j]? = some u → wr.cell? ⟨b, off + i * 5 + j, none⟩ = some u := hx i t'.cells (by rw [List.getElem?_map, ht]; rfl)
          have hin' : t'.In wr := Ex.In.keep (Keeps.of_below hbw.out) t' ((Ex.ins_iff w kids).1 HK.out t' (List.mem_of_getElem? ht))
          have hws := wEs_get kids i t' ht
          have hle := sizeE_le t'
          have K : Hid (sizeEs (a + sizeE t') (kids.drop (i + 1)) = R) := hid (by rw [← HA.out, drop_cons ht, sizeEs, if_neg (by omega)])
          have HZ := hid (exSize t')
          have cI := ih t' wr (by omega) (by omega) hin'
          rw [Ex.val] at cI
          have CI := hid cI
          clear cI
          have HC := hid hx'
          clear hx hx' ht hin' ih
          generalize sizeE t' = q at *
          go_wp2_with (with_reducible refine wpList_load_at (o := ⟨some 26, _, _, _, _, _⟩) rfl _ _ rfl b (off + i * 5) rfl t'.cells _ HC.out Tryz.underlying51 rfl HZ.out ?_)
          with_reducible refine CI.out.mono ?_
          rintro e W2 ⟨rfl, hb2⟩
          have H2 := hid hb2
          clear hb2
          go_wp2_with fail
          go_roundg (gk - 1)
          case measure => omega
          case rel => exact ⟨i + 1, a + q, by go_num, by go_num, by omega, by omega, by omega, K, hid (HB.out.trans (H2.out.mono HB.out.size))⟩
        · have K : Hid (a = R) := hid (by
            rw [← HA.out]
            obtain ⟨t', ht⟩ : ∃ t', kids[i]? = some t' := ⟨kids[i]'(by rw [HL.out]; exact hlt), List.getElem?_eq_getElem _⟩
            rw [drop_cons ht, sizeEs, if_pos (by omega)])
          clear ih
          go_wp2_with fail
          go_ret
          exact ⟨ret_nat K.out, hbw.out⟩
      · obtain rfl : i = L := by omega
        have K : Hid (a = R) := hid (by rw [← HA.out, ← HL.out, List.drop_length, sizeEs])
        clear ih
        go_wp2_with fail
        go_ret
        exact ⟨ret_nat K.out, hbw.out⟩
end Go.Proofs.YtjkdcladjjpmoaaGreatDoor.TreeC
/- Contract of lienbookref02.sizeStmts. -/
namespace Go.Proofs.YtjkdcladjjpmoaaGreatDoor.TreeC
open Go Go.RowKit Go.Lib Go.Sort Go.Proofs.YtjkdcladjjpmoaaGreatDoor.LexP Go.Proofs.YtjkdcladjjpmoaaGreatDoor.TreeP Go.Proofs.YtjkdcladjjpmoaaGreatDoor.LexC

mutual
theorem sizeS_le : ∀ s : St, sizeS s ≤ wS s
  | .mk k name place expr tv thn ev els => by
    have h1 := sizeSs_le 0 thn
    have h2 := sizeSs_le 0 els
    have h3 := sizeE_le place
    have h4 := sizeE_le expr
    have h5 : name.size / 100 ≤ name.size := Nat.div_le_self _ _
    rw [sizeS, wS]
    omega
theorem sizeSs_le : ∀ (n : Nat) (l : List St), sizeSs n l ≤ n + wSs l
  | n, [] => by simp [sizeSs]
  | n, t :: ts => by
    have h1 := sizeS_le t
    have h2 := sizeSs_le (n + sizeS t) ts
    rw [sizeSs, wSs]
    split <;> omega
end
set_option maxHeartbeats 4000000 in
set_option maxRecDepth 100000 in
theorem rsizeS_any : ∀ (n : Nat) (l : List St) (w : World) (v : Value), wSs l ≤ n → n ≤ 1048576 → Lies w 14 v (l.map St.cells) → St.Ins w l →
    Calls Tryz.prog 33 #[v] w fun r w' => r = .returned (.int .i64 (sizeSs 0 l : Int)) ∧ Below w.heap.size w w' := by
  intro n
  induction n using Nat.strongRecOn with
  | ind n ih =>
    intro l w v hw hn hl hin
    have hlen := wSs_len l
    obtain ⟨p, cap, rfl, hcap, hx⟩ := id hl
    rw [List.length_map] at *
    obtain ⟨R, hR⟩ : ∃ R, sizeSs 0 l = R := ⟨_, rfl⟩
    rw [hR]
    generalize hL : l.length = L at *
    have HR := hid hR
    have HL := hid hL
    have HX := hid hl
    have HI := hid hin
    clear hx hL hl hin hR
    go_enter Tryz.func33, Tryz.ntmps33
    go_wp2_with fail
    go_loopg [3, 4] L (fun gf u v wx => ∃ i a : Nat, u = .int .i64 (a : Int) ∧ v = .int .i64 (i : Int) ∧ i ≤ L ∧ L ≤ i + gf ∧ a ≤ 2097152 ∧ Hid (sizeSs a (l.drop i) = R) ∧ Hid (Below w.heap.size w wx))
    case atStart => exact ⟨0, 0, rfl, rfl, by omega, by omega, by omega, hid (by rw [List.drop_zero]; exact HR.out), hid (Below.refl _ _)⟩
    case round =>
      obtain ⟨i, a, rfl, rfl, hi, hg, ha, HA, HB⟩ := hrel
      by_cases hlt : i < L
      · by_cases h4 : a ≤ 400
        · obtain ⟨t', ht⟩ : ∃ t', l[i]? = some t' := ⟨l[i]'(by rw [HL.out]; exact hlt), List.getElem?_eq_getElem _⟩
          obtain ⟨b, off, cap', e, _, hx⟩ := Lies.at (HX.out.keep (Keeps.of_below HB.out)) (i := i) (by rw [List.length_map, HL.out]; exact hlt)
          injection e with e1 e2 e3
          subst e1
          clear e2 e3
          have hx' : ∀ (j : Nat) (u : Value), t'.cells[j]? = some u → wr.cell? ⟨b, off + i * 14 + j, none⟩ = some u := hx i t'.cells (by rw [List.getElem?_map, ht]; rfl)
          have hws := wSs_get l i t' ht
          have hle := sizeS_le t'
          have K : Hid (sizeSs (a + sizeS t') (l.drop (i + 1)) = R) := hid (by rw [← HA.out, drop_cons ht, sizeSs, if_neg (by omega)])
          have hin' := St.In.keep (Keeps.of_below HB.out) t' ((St.ins_iff w l).1 HI.out t' (List.mem_of_getElem? ht))
          obtain ⟨k, name, place, expr, tv, thn, ev, els⟩ := t'
          rw [sizeS] at hle K
          rw [wS] at hws hle
          rw [St.In] at hin'
          obtain ⟨hp, he, htl, hts, hel, hes⟩ := hin'
          have y1 : wr.cell? ⟨b, off + i * 14 + 1, none⟩ = some (.string name) := hx' 1 _ rfl
          have y12 : wr.cell? ⟨b, off + i * 14 + 12, none⟩ = some tv := hx' 12 _ (St.cells_tv ..)
          have y13 : wr.cell? ⟨b, off + i * 14 + 13, none⟩ = some ev := hx' 13 _ (St.cells_ev ..)
          have P1 := hid (reg_cells (St.at_place hx'))
          have P2 := hid (reg_cells (St.at_expr hx'))
          have Z1 := hid (exSize place)
          have Z2 := hid (exSize expr)
          have q1 := sizeE_le place
          have q2 := sizeE_le expr
          have q3 := sizeSs_le 0 thn
          have q4 := sizeSs_le 0 els
          have c1 := fun d os => Calls.regrown_of (rsizeE_any (wE place) place (grow (redrawn wr d) os) (Nat.le_refl _) (by omega) (Ex.In.keep (Keeps.of_below (below_regrown wr d os)) _ hp))
          have c2 := fun d os => Calls.regrown_of (rsizeE_any (wE expr) expr (grow (redrawn wr d) os) (Nat.le_refl _) (by omega) (Ex.In.keep (Keeps.of_below (below_regrown wr d os)) _ he))
          have c3 := fun d os => Calls.regrown_of (ih (wSs thn) (by omega) thn (grow (redrawn wr d) os) tv (Nat.le_refl _) (by omega) (htl.keep (Keeps.of_below (below_regrown wr d os))) (St.Ins.keep (Keeps.of_below (below_regrown wr d os)) thn hts))
          have c4 := fun d os => Calls.regrown_of (ih (wSs els) (by omega) els (grow (redrawn wr d) os) ev (Nat.le_refl _) (by omega) (hel.keep (Keeps.of_below (below_regrown wr d os))) (St.Ins.keep (Keeps.of_below (below_regrown wr d os)) els hes))
          simp only [Ex.val] at c1 c2
          have hdi : ((name.size : Int)) / 100 = ((name.size / 100 : Nat) : Int) := by omega
          have hd : name.size / 100 ≤ name.size := Nat.div_le_self _ _
          generalize hD : name.size / 100 = D at *
          generalize sizeE place = T1 at *
          generalize sizeE expr = T2 at *
          generalize sizeSs 0 thn = T3 at *
          generalize sizeSs 0 els = T4 at *
          have HD := hid hdi
          have k1 := cell_regrown y1
          have k12 := cell_regrown y12
          have k13 := cell_regrown y13
          have C1 := hid c1
          have C2 := hid c2
          have C3 := hid c3
          have C4 := hid c4
          clear hx hx' ht c1 c2 c3 c4 ih hp he htl hts hel hes y1 y12 y13 hdi hD
          go_wp2_with fail
          refine wp_region_quiet_below (by kernel_rfl) (by kernel_rfl) ?_
          repeat (first | ((with_reducible refine wpQuiet_load_at (o := ⟨some 29, _, _, _, _, _⟩) rfl _ _ rfl b (off + i * 14 + 2) rfl place.cells _ P1.out Tryz.underlying51 rfl Z1.out ?_); simp only [Act.put, List.setIfInBounds_toArray, List.set_cons_zero, List.set_cons_succ]) | ((with_reducible refine wpQuiet_load_at (o := ⟨some 36, _, _, _, _, _⟩) rfl _ _ rfl b (off + i * 14 + 7) rfl expr.cells _ P2.out Tryz.underlying51 rfl Z2.out ?_); simp only [Act.put, List.setIfInBounds_toArray, List.set_cons_zero, List.set_cons_succ]) | go_big_quiet_step (first | (with_reducible exact C1.out _ _) | (with_reducible exact C2.out _ _) | (with_reducible exact C3.out _ _) | (with_reducible exact C4.out _ _)))
          refine wpQuiet_nil ?_
          intro _ hw'
          obtain ⟨⟨dq, osq⟩, hw''⟩ := hw'
          subst hw''
          have HB1 := hid (HB.out.trans ((below_regrown wr dq osq).mono HB.out.size))
          go_wp2_with fail
          go_roundg (gk - 1)
          case measure => omega
          case rel => exact ⟨i + 1, a + (1 + D + T1 + T2 + T3 + T4), by rw [HD.out]; go_num, by go_num, by omega, by omega, by omega, K, HB1⟩
        · have K : Hid (a = R) := hid (by
            rw [← HA.out]
            obtain ⟨t', ht⟩ : ∃ t', l[i]? = some t' := ⟨l[i]'(by rw [HL.out]; exact hlt), List.getElem?_eq_getElem _⟩
            rw [drop_cons ht, sizeSs, if_pos (by omega)])
          clear ih
          go_wp2_with fail
          go_ret
          exact ⟨ret_nat K.out, HB.out⟩
      · obtain rfl : i = L := by omega
        have K : Hid (a = R) := hid (by rw [← HA.out, ← HL.out, List.drop_length, sizeSs])
        clear ih
        go_wp2_with fail
        go_ret
        exact ⟨ret_nat K.out, HB.out⟩
end Go.Proofs.YtjkdcladjjpmoaaGreatDoor.TreeC
/- Contracts of lienbookref02's depths of types, of what stands in parentheses, of expressions. -/
namespace Go.Proofs.YtjkdcladjjpmoaaGreatDoor.TreeC
open Go Go.RowKit Go.Lib Go.Sort Go.Proofs.YtjkdcladjjpmoaaGreatDoor.LexP Go.Proofs.YtjkdcladjjpmoaaGreatDoor.TreeP Go.Proofs.YtjkdcladjjpmoaaGreatDoor.LexC

theorem deepTs_snoc (l : List Ty) (i : Nat) (t : Ty) (h : l[i]? = some t) : deepTs (l.take (i + 1)) = max (deepTs (l.take i)) (deepT t) := by
  induction l generalizing i with
  | nil => simp at h
  | cons x l ih =>
    cases i with
    | zero => simp at h; subst h; simp [deepTs]
    | succ i => rw [List.take_succ_cons, List.take_succ_cons, deepTs, deepTs, ih i (by simpa using h)]; omega
theorem deepTs_take (l : List Ty) (i : Nat) : deepTs (l.take i) ≤ deepTs l := by
  induction l generalizing i with
  | nil => simp
  | cons x l ih =>
    cases i with
    | zero => simp [deepTs]
    | succ i => rw [List.take_succ_cons, deepTs, deepTs]; have := ih i; omega
mutual
theorem deepT_le : ∀ t : Ty, deepT t ≤ wT t
  | .mk k life mt v kids => by
    have := deepTs_le kids
    rw [deepT, wT]
    split <;> omega
theorem deepTs_le : ∀ l : List Ty, deepTs l ≤ wTs l
  | [] => by simp [deepTs]
  | t :: ts => by
    have h1 := deepT_le t
    have h2 := deepTs_le ts
    rw [deepTs, wTs]
    omega
end
set_option maxHeartbeats 4000000 in
set_option maxRecDepth 100000 in
theorem rdeepT_any : ∀ (n : Nat) (t : Ty) (w : World), wT t ≤ n → n ≤ 1048576 → t.In w → Calls Tryz.prog 40 #[t.val] w fun r w' => r = .returned (.int .i64 (deepT t : Int)) ∧ Below w.heap.size w w' := by
  intro n
  induction n with
  | zero => intro t w h; obtain ⟨k, life, mt, v, kids⟩ := t; rw [wT] at h; omega
  | succ n ih =>
    intro t w hw hn hin
    obtain ⟨k, life, mt, v, kids⟩ := t
    have hdk := deepTs_le kids
    rw [wT] at hw
    rw [Ty.In] at hin
    obtain ⟨hl, hk⟩ := hin
    have hlen := wTs_len kids
    obtain ⟨R, hR⟩ : ∃ R, deepT (.mk k life mt v kids) = R := ⟨_, rfl⟩
    rw [hR]
    rw [deepT] at hR
    have yk : (Ty.mk k life mt v kids).cells[3]? = some v := rfl
    have y0 : (Ty.mk k life mt v kids).cells[0]? = some (.int .i64 k) := rfl
    rw [Ty.val]
    generalize (Ty.mk k life mt v kids).cells = cs at *
    have hl' := hl
    obtain ⟨p, cap, rfl, hcap, hx⟩ := hl
    rw [List.length_map] at *
    generalize hL : kids.length = L at *
    have HS := hid hR
    have HL := hid hL
    have HK := hid hk
    have HX := hid hl'
    have YK := hid yk
    clear hx hk hL hl' hR yk
    have B0 : Below w.heap.size w (w.alloc (.cells cs.toArray 45 (0, 0))) := (Below.refl _ _).alloc (Nat.le_refl _) _
    have X0 : BoxAt (w.alloc (.cells cs.toArray 45 (0, 0))) w.heap.size cs := BoxAt.new _ _ _
    have d0 := box_get X0 y0
    have Y0 := hid y0
    have X0 := hid X0
    have B0 := hid B0
    clear y0
    by_cases hk2 : k < 2
    · clear ih
      go_enter Tryz.func40, Tryz.ntmps40
      go_wp2_with fail
      go_ret
      exact ⟨ret_int (by rw [← HS.out, if_pos (.inl hk2)]; rfl), B0.out⟩
    by_cases hk4 : 4 < k
    · clear ih
      go_enter Tryz.func40, Tryz.ntmps40
      go_wp2_with fail
      go_ret
      exact ⟨ret_int (by rw [← HS.out, if_pos (.inr hk4)]; rfl), B0.out⟩
    have HR : Hid (deepTs kids + 1 = R) := hid (by rw [← HS.out, if_neg (by omega)])
    clear HS
    go_enter Tryz.func40, Tryz.ntmps40
    go_wp2_with fail
    have X0 := X0.out
    generalize w.alloc _ = W1 at *
    have X0 := hid X0
    go_loopg [3, 4] L (fun gf u v wx => ∃ i a : Nat, u = .int .i64 (a : Int) ∧ v = .int .i64 (i : Int) ∧ i ≤ L ∧ L ≤ i + gf ∧ a ≤ 1048576 ∧ Hid (deepTs (kids.take i) = a) ∧ Hid (Below W1.heap.size W1 wx))
    case atStart => exact ⟨0, 0, rfl, rfl, by omega, by omega, by omega, hid (by simp [deepTs]), hid (Below.refl _ _)⟩
    case round =>
      obtain ⟨i, a, rfl, rfl, hi, hg, ha, HA, HB⟩ := hrel
      have hbw := hid (B0.out.trans (HB.out.mono B0.out.size))
      have XR := hid (X0.out.later HB.out)
      have d3 := box_get XR.out YK.out
      clear d0
      by_cases hlt : i < L
      · obtain ⟨t', ht⟩ : ∃ t', kids[i]? = some t' := ⟨kids[i]'(by rw [HL.out]; exact hlt), List.getElem?_eq_getElem _⟩
        obtain ⟨b, off, cap', e, _, hx⟩ := Lies.at (HX.out.keep (Keeps.of_below hbw.out)) (i := i) (by rw [List.length_map, HL.out]; exact hlt)
        injection e with e1 e2 e3
        subst e1
        clear e2 e3
        have hx' : ∀ (j : Nat) (u : Value), t'.cells[j]? = some u → wr.cell? ⟨b, off + i * 4 + j, none⟩ = some u := hx i t'.cells (by rw [List.getElem?_map, ht]; rfl)
        have hin' : t'.In wr := Ty.In.keep (Keeps.of_below hbw.out) t' ((Ty.ins_iff w kids).1 HK.out t' (List.mem_of_getElem? ht))
        have hws := wTs_get kids i t' ht
        have hle := deepT_le t'
        have K : Hid (deepTs (kids.take (i + 1)) = max a (deepT t')) := hid (by rw [deepTs_snoc kids i t' ht, HA.out])
        have HZ := hid (tySize t')
        have cI := ih t' wr (by omega) (by omega) hin'
        rw [Ty.val] at cI
        have CI := hid cI
        have HC := hid hx'
        clear hx hx' ht hin' ih cI
        generalize deepT t' = q at *
        have CM := hid (fun W => rmore_any a q W)
        go_wp2_with (with_reducible refine wpList_load_at (o := ⟨some 25, _, _, _, _, _⟩) rfl _ _ rfl b (off + i * 4) rfl t'.cells _ HC.out Tryz.underlying45 rfl HZ.out ?_)
        with_reducible refine CI.out.mono ?_
        rintro e W2 ⟨rfl, hb2⟩
        have H2 := hid hb2
        clear hb2
        go_wp2_with fail
        with_reducible refine (CM.out _).mono ?_
        rintro e W3 ⟨rfl, rfl⟩
        go_wp2_with fail
        go_roundg (gk - 1)
        case measure => omega
        case rel => exact ⟨i + 1, max a q, rfl, by go_num, by omega, by omega, by omega, K, hid (HB.out.trans (H2.out.mono HB.out.size))⟩
      · obtain rfl : i = L := by omega
        have K : Hid (a + 1 = R) := hid (by rw [← HR.out, ← HA.out, ← HL.out, List.take_length])
        clear ih
        go_wp2_with fail
        go_ret
        exact ⟨ret_int (by rw [← K.out]; rfl), hbw.out⟩

theorem aside_eq (e : Ex) (j : Nat) (t : Ex) : asideB e.str t.str j = (if e.str = 1 then t.str == 1 else decide (t.str < e.str) || (j == 1 && t.str == e.str)) := rfl
set_option maxHeartbeats 4000000 in
set_option maxRecDepth 100000 in
theorem raside_any (e : Ex) (w : World) (j : Nat) (t : Ex) (hin : e.In w) (ht : e.kids[j]? = some t) (hw : wE e ≤ 1048576) : Calls Tryz.prog 89 #[e.val, .int .i64 (j : Int)] w fun r w' => r = .returned (.bool (asideB e.str t.str j)) ∧ Below w.heap.size w w' := by
  have hj : j < e.kids.length := (List.getElem?_eq_some_iff.1 ht).1
  have hlen := wEs_len e.kids
  have hwk : wEs e.kids ≤ wE e := by obtain ⟨k, num, name, mt, v, kids⟩ := e; rw [wE]; simp only [Ex.kids]; omega
  have hl : Lies w 5 e.v (e.kids.map Ex.cells) := by obtain ⟨k, num, name, mt, v, kids⟩ := e; rw [Ex.In] at hin; exact hin.2.1
  have yv : e.cells[4]? = some e.v := by obtain ⟨k, num, name, mt, v, kids⟩ := e; rfl
  have ce := fun W => rStr_any e W
  have ct := fun W => rStr_any t W
  have ez := exSize e
  have tz := exSize t
  obtain ⟨R, hR⟩ : ∃ R, asideB e.str t.str j = R := ⟨_, rfl⟩
  rw [hR]
  rw [aside_eq] at hR
  unfold Ex.val at *
  generalize e.str = s at *
  generalize t.str = u at *
  generalize hcs : e.cells = cs at *
  clear hcs
  generalize e.v = v at *
  generalize hL : e.kids.length = L at *
  obtain ⟨b, off, cap, rfl, hcap, hx⟩ := hl.at (i := j) (by rw [List.length_map]; omega)
  rw [List.length_map, hL] at *
  have hx' : ∀ (i : Nat) (u : Value), t.cells[i]? = some u → w.cell? ⟨b, off + j * 5 + i, none⟩ = some u := hx j t.cells (by rw [List.getElem?_map, ht]; rfl)
  generalize hct : t.cells = ts at *
  clear hct ht hx hl hL hin
  have B0 : Below w.heap.size w (w.alloc (.cells cs.toArray 51 (0, 0))) := (Below.refl _ _).alloc (Nat.le_refl _) _
  have X0 : BoxAt (w.alloc (.cells cs.toArray 51 (0, 0))) w.heap.size cs := BoxAt.new _ _ _
  have hx0 : ∀ (i : Nat) (u : Value), ts[i]? = some u → (w.alloc (.cells cs.toArray 51 (0, 0))).cell? ⟨b, off + j * 5 + i, none⟩ = some u := fun i u h => later B0 (hx' i u h)
  have d4 := box_get X0 yv
  have HT0 := hid hx0
  have HS := hid hR
  have CE := hid ce
  have CT := hid ct
  have EZ := hid ez
  have TZ := hid tz
  have X0 := hid X0
  have B0 := hid B0
  clear hx' hx0 hR ce ct ez tz yv
  go_enter Tryz.func89, Tryz.ntmps89
  go_wp2_with (with_reducible refine wpList_load_at (o := ⟨some 10, _, _, _, _, _⟩) rfl _ _ rfl b (off + j * 5) rfl ts _ HT0.out Tryz.underlying51 rfl TZ.out ?_)
  with_reducible refine (CT.out _).mono ?_
  rintro e W1 ⟨rfl, hb1⟩
  have X1 := hid (X0.out.later hb1)
  have B1 := hid (B0.out.trans (hb1.mono B0.out.size))
  have XE : ∀ (i : Nat) (u : Value), cs[i]? = some u → W1.cell? ⟨w.heap.size, 0 + i, none⟩ = some u := fun i u h => by rw [Nat.zero_add]; exact X1.out i u h
  have XE1 := hid XE
  clear XE hb1
  go_wp2_with (with_reducible refine wpList_load_at (o := ⟨some 12, _, _, _, _, _⟩) rfl _ _ rfl w.heap.size 0 rfl cs _ XE1.out Tryz.underlying51 rfl EZ.out ?_)
  with_reducible refine (CE.out _).mono ?_
  rintro e W2 ⟨rfl, hb2⟩
  have X2 := hid (X1.out.later hb2)
  have B2 := hid (B1.out.trans (hb2.mono B1.out.size))
  have XE : ∀ (i : Nat) (u : Value), cs[i]? = some u → W2.cell? ⟨w.heap.size, 0 + i, none⟩ = some u := fun i u h => by rw [Nat.zero_add]; exact X2.out i u h
  have XE2 := hid XE
  clear XE hb2 d4
  by_cases hs : s = 1
  · subst hs
    go_wp2_with fail
    go_ret
    exact ⟨ret_bool (by rw [← HS.out, Bool.eq_iff_iff]; simp; omega), B2.out⟩
  · have hs1 : ((s : Int) == 1) = false := by simp; omega
    go_wp2_with (with_reducible refine wpList_load_at (o := ⟨some 18, _, _, _, _, _⟩) rfl _ _ rfl w.heap.size 0 rfl cs _ XE2.out Tryz.underlying51 rfl EZ.out ?_)
    with_reducible refine (CE.out _).mono ?_
    rintro e W3 ⟨rfl, hb3⟩
    have X3 := hid (X2.out.later hb3)
    have B3 := hid (B2.out.trans (hb3.mono B2.out.size))
    have XE : ∀ (i : Nat) (u : Value), cs[i]? = some u → W3.cell? ⟨w.heap.size, 0 + i, none⟩ = some u := fun i u h => by rw [Nat.zero_add]; exact X3.out i u h
    have XE3 := hid XE
    clear XE hb3 hs1
    by_cases h1 : u < s
    · go_wp2_with fail
      go_ret
      exact ⟨ret_bool (by rw [← HS.out, if_neg hs]; simp [h1]), B3.out⟩
    · by_cases h2 : j = 1
      · subst h2
        go_wp2_with (with_reducible refine wpList_load_at (o := ⟨some 26, _, _, _, _, _⟩) rfl _ _ rfl w.heap.size 0 rfl cs _ XE3.out Tryz.underlying51 rfl EZ.out ?_)
        with_reducible refine (CE.out _).mono ?_
        rintro e W4 ⟨rfl, hb4⟩
        go_wp2_with fail
        go_ret
        exact ⟨ret_bool (by rw [← HS.out, if_neg hs, Bool.eq_iff_iff]; simp [h1]; omega), B3.out.trans (hb4.mono B3.out.size)⟩
      · have h2' : ((j : Int) == 1) = false := by simp; omega
        go_wp2_with fail
        go_ret
        exact ⟨ret_bool (by rw [← HS.out, if_neg hs]; simp [h1, h2]), B3.out⟩
end Go.Proofs.YtjkdcladjjpmoaaGreatDoor.TreeC

/- Texts joined: EnvZQ0, EnvJI, EnvZQ, ErrF, ErrAs, ErrAw, ErrCode. -/
import Derived.Test.YtannfhbocfghkaaDoorJ14
import Derived.Test.YtannfhbocfghkaaDoorJ06
import Derived.Test.YtannfhbocfghkaaDoorJ15
import Derived.Test.YtannfhbocfghkaaDoorJ11
import Derived.Test.YtannfhbocfghkaaDoorProg
import Derived.WalkKit
import Derived.LaidEql
import Derived.Stop.Asserts
import Derived.RowKitTokens
/- The join of environments in memory: its roots, how it begins, what it is at the end. No program. -/
namespace Go.Proofs.YtannfhbocfghkaaDoor.EnvC
open Go Go.RowKit Go.Shelf Go.Lib Go.Sort Go.Proofs.YtannfhbocfghkaaDoor.EnvP

theorem bd_len (l : List Bd) : ∀ c ∈ l.map Bd.cells, c.length = 6 := by
  intro c hc; obtain ⟨⟨_, t⟩, _, rfl⟩ := List.mem_map.1 hc; cases t; rfl
theorem bd_ones' {w : World} {l : List Bd} (h : ∀ b ∈ l, b.ty.In w) : ∀ c ∈ l.map Bd.cells, ∀ u ∈ c, u.oneCell' = true := by
  intro c hc u hu
  obtain ⟨x, hx, rfl⟩ := List.mem_map.1 hc
  exact ones_of (bd_ones (h x hx)) u hu
def root (ob bb bo : Nat) (i : Nat) (p : Bd × Bd) : Pr := ⟨ob, i * 6 + 1, p.1.ty, bb, bo + i * 6 + 1, p.2.ty⟩
def roots (a b : List Bd) (ob bb bo : Nat) : List Pr := (a.zip b).mapIdx (root ob bb bo)
/-- each name is where it was, each type has been joined -/
def JoinG (a b : List Bd) (ob bb bo : Nat) (W : World) : Prop := ∀ (i : Nat) (x y : Bd), a[i]? = some x → b[i]? = some y → W.cell? ⟨ob, i * 6, none⟩ = some (.string x.name) ∧ Done W (root ob bb bo i (x, y))
theorem roots_at {a b : List Bd} {ob bb bo i : Nat} {x y : Bd} (hx : a[i]? = some x) (hy : b[i]? = some y) : (roots a b ob bb bo)[i]? = some (root ob bb bo i (x, y)) := by
  unfold roots
  have e : (a.zip b)[i]? = some (x, y) := by rw [List.getElem?_zip_eq_some]; exact ⟨hx, hy⟩
  rw [List.getElem?_mapIdx, e]; rfl
theorem mem_roots {a b : List Bd} {ob bb bo : Nat} {z : Pr} (h : z ∈ roots a b ob bb bo) : ∃ i x y, a[i]? = some x ∧ b[i]? = some y ∧ z = root ob bb bo i (x, y) := by
  unfold roots at h
  obtain ⟨i, hi, rfl⟩ := List.mem_mapIdx.1 h
  rw [List.length_zip] at hi
  exact ⟨i, a[i]'(by omega), b[i]'(by omega), List.getElem?_eq_getElem _, List.getElem?_eq_getElem _, by rw [List.getElem_zip]⟩
theorem wand_nil (w0 W : World) (b : List Bd) (ob bb bo : Nat) : Wand w0 (JoinG [] b ob bb bo) (roots [] b ob bb bo) W :=
  ⟨fun x hx => by simp [roots] at hx, by simp [roots], fun _ _ _ i x y hx _ => by simp at hx⟩
theorem wand_start {a b : List Bd} {v : Value} {ob bb bo n co m cb : Nat} {w0 W : World} (ha : EnvIn w0 v a) (hb : EnvIn w0 (.slice (some ⟨bb, bo, none⟩) m cb) b)
    (hs : ∀ (i : Nat) (x y : Bd), a[i]? = some x → b[i]? = some y → wT x.ty + wT y.ty ≤ 1048576 ∧ fitsT x.ty y.ty = true)
    (ho : W.ownsRow w0.heap.size 33 6 (.slice (some ⟨ob, 0, none⟩) n co) n (a.map Bd.cells).flatten) : Wand w0 (JoinG a b ob bb bo) (roots a b ob bb bo) W := by
  obtain ⟨hlen, ⟨e, _⟩ | ⟨g, cap, cs, e, hB, hh, hn, hc, hcs, htake⟩⟩ := id ho
  · cases e
  injection e with e1 _ e3
  injection e1 with e1
  injection e1 with e1
  subst e1 e3
  have hnl : a.length * 6 = n * 6 := by rw [← hlen, flatten_len (bd_len a), List.length_map]
  have hcell : ∀ (i : Nat) (x : Bd), a[i]? = some x → ∀ (j : Nat) (u : Value), x.cells[j]? = some u → cs[i * 6 + j]? = some u := fun i x hx j u hj => by
    have h9 := flatten_at (bd_len a) i x.cells (by rw [List.getElem?_map, hx]; rfl) j u hj
    rw [← htake] at h9
    have hlt := (List.getElem?_eq_some_iff.1 h9).1
    rw [List.length_take] at hlt
    rw [List.getElem?_take, if_pos (by omega)] at h9
    simpa using h9
  refine ⟨fun z hz => ?_, List.pairwise_iff_getElem.2 fun i j hi hj hij => ?_, fun W' ag hd i x y hx hy => ⟨?_, hd _ (List.mem_of_getElem? (roots_at hx hy))⟩⟩
  · obtain ⟨i, x, y, hx, hy, rfl⟩ := mem_roots hz
    obtain ⟨h1, h2⟩ := hs i x y hx hy
    obtain ⟨b1, o1, c1, e, _, hp, _⟩ := bd_at hb hy (by unfold Small; omega)
    injection e with e1 _ _
    injection e1 with e1
    injection e1 with e1 e2 _
    subst e1 e2
    exact { here := ⟨_, cs, .inr rfl, hh, fun j u hj => by
              change x.ty.cells[j]? = some u at hj
              have := hcell i x hx (1 + j) u (by unfold Bd.cells; rw [List.getElem?_append_right (by simp)]; simpa using hj)
              show cs[i * 6 + 1 + j]? = _
              rw [Nat.add_assoc]; exact this⟩,
            base := hB, left := ha.2 x (List.mem_of_getElem? hx), right := hp.1, small := h1, fit := h2 }
  · refine .inr (.inl ?_)
    have e : ∀ (i : Nat) (hi : i < (roots a b ob bb bo).length), ((roots a b ob bb bo)[i]).o = i * 6 + 1 := fun i hi => by
      obtain ⟨x, y, h1, h2⟩ : ∃ x y, a[i]? = some x ∧ b[i]? = some y := by
        unfold roots at hi
        rw [List.length_mapIdx, List.length_zip] at hi
        exact ⟨a[i]'(by omega), b[i]'(by omega), List.getElem?_eq_getElem _, List.getElem?_eq_getElem _⟩
      have := roots_at (ob := ob) (bb := bb) (bo := bo) h1 h2
      rw [List.getElem?_eq_getElem hi] at this
      injection this with this
      rw [this]; rfl
    rw [e, e]; omega
  · refine ag.cells ob cs _ (i * 6) _ hh (.inr rfl) (hcell i x hx 0 _ rfl) fun z hz => ?_
    obtain ⟨j, _, _, _, _, rfl⟩ := mem_roots hz
    intro hoff
    have h1 := hoff.2.1
    have h2 := hoff.2.2
    change j * 6 + 1 ≤ i * 6 at h1
    change i * 6 < j * 6 + 1 + 5 at h2
    omega
theorem bds_of {P : Nat → Bd → Prop} : ∀ (n : Nat), (∀ i, i < n → ∃ j, P i j) → ∃ l : List Bd, l.length = n ∧ ∀ (i : Nat) j, l[i]? = some j → P i j
  | 0, _ => ⟨[], rfl, fun i j h => by simp at h⟩
  | n + 1, h => by
    obtain ⟨l, h1, h2⟩ := bds_of n (fun i hi => h i (by omega))
    obtain ⟨j, hj⟩ := h n (by omega)
    refine ⟨l ++ [j], by simp [h1], fun i x hx => ?_⟩
    by_cases hi : i < n
    · rw [List.getElem?_append_left (by omega)] at hx; exact h2 i x hx
    · have : i = n := by have := (List.getElem?_eq_some_iff.1 hx).1; simp at this; omega
      subst this
      rw [List.getElem?_append_right (by omega), h1, Nat.sub_self] at hx
      cases hx; exact hj
theorem joinsE_of : ∀ (a b j : List Bd), a.length = b.length → j.length = a.length → (∀ (i : Nat) x y z, a[i]? = some x → b[i]? = some y → j[i]? = some z → bs z.name = bs x.name ∧ Joins x.ty y.ty z.ty) → JoinsE a b j
  | [], [], [], _, _, _ => by simp [JoinsE]
  | x :: a, y :: b, z :: j, h1, h2, h => by
    rw [JoinsE]
    have h3 := h 0 x y z rfl rfl rfl
    exact ⟨h3.1, h3.2, joinsE_of a b j (by simpa using h1) (by simpa using h2) fun i x y z hx hy hz => h (i + 1) x y z (by simpa using hx) (by simpa using hy) (by simpa using hz)⟩
  | [], [], _ :: _, _, h2, _ => by simp at h2
  | [], _ :: _, _, h1, _, _ => by simp at h1
  | _ :: _, [], _, h1, _, _ => by simp at h1
  | _ :: _, _ :: _, [], _, h2, _ => by simp at h2
/-- what has been joined root by root is an environment, and the join -/
theorem join_end {a b : List Bd} {ob bb bo co : Nat} {po : Option Addr} {W : World} (hlen : a.length = b.length) (hco : a.length ≤ co) (hpo : a ≠ [] → po = some ⟨ob, 0, none⟩) (h : JoinG a b ob bb bo W) : ∃ j, EnvIn W (.slice po a.length co) j ∧ JoinsE a b j := by
  obtain ⟨j, hj1, hj2⟩ := bds_of (P := fun i z => ∀ x y, a[i]? = some x → b[i]? = some y → (∀ (k : Nat) (u : Value), z.cells[k]? = some u → W.cell? ⟨ob, i * 6 + k, none⟩ = some u) ∧ z.ty.In W ∧ z.name = x.name ∧ Joins x.ty y.ty z.ty) a.length (fun i hi => by
    obtain ⟨h1, t, h2, h3⟩ := h i _ _ (List.getElem?_eq_getElem hi) (List.getElem?_eq_getElem (by omega))
    refine ⟨⟨(a[i]).name, t⟩, fun x y hx hy => ?_⟩
    rw [List.getElem?_eq_getElem hi] at hx
    rw [List.getElem?_eq_getElem (by omega)] at hy
    cases hx; cases hy
    refine ⟨fun k u hk => ?_, h2.2, rfl, h3⟩
    match k, hk with
    | 0, hk => cases hk; exact h1
    | k + 1, hk =>
      have hk2 : t.cells[k]? = some u := by
        unfold Bd.cells at hk
        rw [List.getElem?_append_right (by simp)] at hk
        simpa using hk
      have := h2.1 k u hk2
      change W.cell? ⟨ob, i * 6 + 1 + k, none⟩ = _ at this
      rw [show i * 6 + (k + 1) = i * 6 + 1 + k by omega]; exact this)
  have hall : ∀ (i : Nat) (z : Bd), j[i]? = some z → ∃ x y, a[i]? = some x ∧ b[i]? = some y ∧ (∀ (k : Nat) (u : Value), z.cells[k]? = some u → W.cell? ⟨ob, i * 6 + k, none⟩ = some u) ∧ z.ty.In W ∧ z.name = x.name ∧ Joins x.ty y.ty z.ty := fun i z hz => by
    have hi := (List.getElem?_eq_some_iff.1 hz).1
    have h1 : a[i]? = some (a[i]'(by omega)) := List.getElem?_eq_getElem _
    have h2 : b[i]? = some (b[i]'(by omega)) := List.getElem?_eq_getElem _
    exact ⟨_, _, h1, h2, hj2 i z hz _ _ h1 h2⟩
  refine ⟨j, ⟨⟨po, co, by rw [List.length_map, hj1], by rw [List.length_map, hj1]; exact hco, fun hne => ⟨ob, 0, ?_, fun i c hc k u hk => ?_⟩⟩, fun z hz => ?_⟩, joinsE_of a b j hlen hj1 fun i x y z hx hy hz => ?_⟩
  · refine hpo fun e => hne ?_
    rw [e] at hj1
    rw [List.length_eq_zero_iff.1 hj1]; rfl
  · rw [List.getElem?_map] at hc
    obtain ⟨z, hz, rfl⟩ := Option.map_eq_some_iff.1 hc
    obtain ⟨_, _, _, _, h3, _⟩ := hall i z hz
    rw [Nat.zero_add]; exact h3 k u hk
  · obtain ⟨i, hi⟩ := List.getElem?_of_mem hz
    obtain ⟨_, _, _, _, _, h3, _⟩ := hall i z hi
    exact h3
  · obtain ⟨_, _, h3, h4⟩ := hj2 i z hz x y hx hy
    exact ⟨by rw [h3], h4⟩
end Go.Proofs.YtannfhbocfghkaaDoor.EnvC
/- The document's Join (lienbookref05). -/
namespace Go.Proofs.YtannfhbocfghkaaDoor.EnvC
open Go Go.RowKit Go.Shelf Go.Lib Go.Sort Go.Proofs.YtannfhbocfghkaaDoor.EnvP

theorem Kept.snoc0 {w0 wr W3 w1 : World} {base g n cap : Nat} {v : Value} {l : List ETy} {j : ETy} {row : Option Nat} (h : Kept w0 wr base row l) (hb3 : Below wr.heap.size wr W3) (hj : HeldIn w0 W3 wr.heap.size W3.heap.size j) (hbase : base ≤ wr.heap.size)
    (hrw : ∀ r, row = some r → r < wr.heap.size) (Z : Obj) (hg : (W3.alloc Z).grownBy w1 row) (hat : row = some g ∨ g = W3.heap.size + 1) (hv : v = .slice (some ⟨g, 0, none⟩) n cap) : Kept w0 w1 base v.ownBlock (l ++ [j]) := by
  subst hv
  have hsz : W3.heap.size + 1 ≤ w1.heap.size := by have := hg.size; rwa [World.size_alloc] at this
  have hz3 := hb3.size
  have hall : ∀ k, row ≠ some k → k < W3.heap.size → w1.heap[k]? = W3.heap[k]? := fun k hr hlt =>
    (hg.block k (by rw [World.size_alloc]; omega) (fun e => hr e.symm)).trans (Below.heap_alloc W3 Z k hlt)
  intro y hy
  rcases List.mem_append.1 hy with hy | hy
  · obtain ⟨B, E, h1, h2, h3, h4⟩ := h y hy
    refine ⟨B, E, h1.step fun i hB hE => (hall i (fun e => by have := h4 i e; omega) (by omega)).trans (hb3.block i (by omega)), h2, by omega, fun g' hg' => ?_⟩
    simp only [Value.ownBlock, Option.some.injEq] at hg'
    subst hg'
    rcases hat with e | e
    · exact h4 _ e
    · right; omega
  · obtain rfl := List.mem_singleton.1 hy
    refine ⟨wr.heap.size, W3.heap.size, hj.step fun i hB hE => hall i (fun e => by have := hrw i e; omega) hE, hbase, by omega, fun g' hg' => ?_⟩
    simp only [Value.ownBlock, Option.some.injEq] at hg'
    subst hg'
    rcases hat with e | e
    · left; exact hrw _ e
    · right; omega
theorem right_mem {a : List Bd} (h : right a = true) {x : Bd} (hx : x ∈ a) : rightT x.ty = true := by
  unfold right at h
  rw [List.all_eq_true] at h
  exact h x hx

set_option maxHeartbeats 8000000 in
set_option maxRecDepth 100000 in
theorem rJoin_any (a b : List Bd) (v u : Value) (w : World) (ha : EnvIn w v a) (hb : EnvIn w u b) (hsa : ∀ x ∈ a, Small x.ty) (hsb : ∀ x ∈ b, Small x.ty) (hla : a.length ≤ 1048576) (hbt : both a b = true)
    (hss : ∀ (i : Nat) (x y : Bd), a[i]? = some x → b[i]? = some y → wT x.ty + wT y.ty ≤ 1048576) :
    Calls Tryd.prog 16 #[v, u] w fun r w' => ∃ v' j, r = .returned v' ∧ EnvIn w' v' j ∧ JoinsE a b j ∧ Below w.heap.size w w' := by
  obtain ⟨p, cap, hcap, rfl⟩ := lies_slice ha.1
  obtain ⟨p', cap', hcap', rfl⟩ := lies_slice hb.1
  have hlen := len_both hbt
  have hrr : right a = true ∧ right b = true := by
    have h := hbt
    rw [both_parts] at h
    simp only [Bool.and_eq_true] at h
    exact ⟨h.1.1.1, h.1.1.2⟩
  have cj := fun (i : Nat) (x y : Bd) (hx : a[i]? = some x) (hy : b[i]? = some y) (W : World) (q : Below w.heap.size w W) => rJoinT_any 1048576 x.ty y.ty w W (hsa x (List.mem_of_getElem? hx)) (Nat.le_refl _) (hss i x y hx hy) q (ha.2 x (List.mem_of_getElem? hx)) (hb.2 y (List.mem_of_getElem? hy)) (fits_both hbt hx hy) (right_mem hrr.1 (List.mem_of_getElem? hx)) (right_mem hrr.2 (List.mem_of_getElem? hy))
  obtain ⟨i0, hinf, hz0, hz1, hz2⟩ := info_parts bind_info
  generalize hN : a.length = N at *
  generalize hN2 : b.length = N2 at *
  obtain rfl : N = N2 := hlen
  have HE := hid (And.intro ha hb)
  have HN := hid (And.intro hN hN2)
  have HCJ := hid cj
  clear ha hb hsa hsb hbt hss hrr cj hN hN2
  go_enter Tryd.func16, Tryd.ntmps16
  go_wp2_with fail
  go_loopg [5, 6] N (fun gf t u wx => ∃ (i : Nat) (jb : List Bd) (vo : Value), t = vo ∧ u = .int .i64 (i : Int) ∧ i ≤ N ∧ N ≤ i + gf ∧ Hid (jb.length = i) ∧ Hid (wx.ownsRow w.heap.size 33 6 vo jb.length (jb.map Bd.cells).flatten) ∧ Hid (Kept w wx w.heap.size vo.ownBlock (jb.map Bd.ty)) ∧ Hid (∀ (q : Nat) x y z, a[q]? = some x → b[q]? = some y → jb[q]? = some z → bs z.name = bs x.name ∧ Joins x.ty y.ty z.ty) ∧ Hid (Below w.heap.size w wx))
  case atStart => exact ⟨0, [], _, rfl, rfl, by omega, by omega, hid rfl, hid (World.ownsRow_nil _ _ _ _), hid (fun j hj => by cases hj), hid (fun q x y z _ _ h => by simp at h), hid (Below.refl _ _)⟩
  case round =>
    obtain ⟨i, jb, vo, rfl, rfl, hi, hg, HJL, HO, HKP, HJN, HB⟩ := hrel
    obtain ⟨pv, cv, rfl⟩ := own_slice HO.out
    by_cases hlt : i < N
    · obtain ⟨x, hx⟩ : ∃ x, a[i]? = some x := ⟨a[i]'(by rw [HN.out.1]; exact hlt), List.getElem?_eq_getElem _⟩
      obtain ⟨y, hy⟩ : ∃ y, b[i]? = some y := ⟨b[i]'(by rw [HN.out.2]; exact hlt), List.getElem?_eq_getElem _⟩
      have hbw := HB.out
      obtain ⟨b1, off, c0, e, _, hxx⟩ := Lies.at (HE.out.1.1.keep (Keeps.of_below hbw)) (i := i) (by rw [List.length_map, HN.out.1]; exact hlt)
      obtain ⟨b2, off2, c02, e', _, hyy⟩ := Lies.at (HE.out.2.1.keep (Keeps.of_below hbw)) (i := i) (by rw [List.length_map, HN.out.2]; exact hlt)
      injection e with e1 e2 e3
      injection e' with e4 e5 e6
      subst e1 e4
      clear e2 e3 e5 e6
      have hxc := hxx i x.cells (by rw [List.getElem?_map, hx]; rfl)
      have hyc := hyy i y.cells (by rw [List.getElem?_map, hy]; rfl)
      have CJ : Calls Tryd.prog 32 #[x.ty.val, y.ty.val] wr.drew fun r w' => ∃ jk jm jg p1 c1 jls p2 c2 jks, r = .returned (.agg #[.int .i64 jk, .bool jm, .bool jg, .slice p1 jls.length c1, .slice p2 jks.length c2]) ∧ HeldIn w w' wr.heap.size w'.heap.size (.mk jk jm jg (.slice p1 jls.length c1) jls (.slice p2 jks.length c2) jks) ∧ Joins x.ty y.ty (.mk jk jm jg (.slice p1 jls.length c1) jls (.slice p2 jks.length c2) jks) ∧ Below wr.heap.size wr w' := (HCJ.out i x y hx hy wr.drew hbw.drew).mono fun r w' ⟨j, hr, hh, hj, hb⟩ => by
        have hin := hh w' (Keeps.of_below (hbw.drew.trans (hb.mono hbw.size))) (fun _ _ _ _ _ h => h)
        obtain ⟨jk, jm, jg, jlv, jls, jkv, jks⟩ := j
        rw [ETy.In] at hin
        obtain ⟨p1, c1, _, rfl⟩ := lies_slice hin.1
        obtain ⟨p2, c2, _, rfl⟩ := lies_slice hin.2.2.1
        exact ⟨jk, jm, jg, p1, c1, jls, p2, c2, jks, hr, hh, hj, ⟨hb.os, hb.tape, hb.output, hb.size, hb.block⟩⟩
      have HCC := hid CJ
      have HXY := hid (And.intro hx hy)
      obtain ⟨nm, ⟨xk, xm, xg, xlv, xls, xkv, xks⟩⟩ := x
      obtain ⟨ym0, ⟨yk, ym, yg, ylv, yls, ykv, yks⟩⟩ := y
      change Hid (Calls _ _ #[.agg #[.int .i64 xk, .bool xm, .bool xg, xlv, xkv], .agg #[.int .i64 yk, .bool ym, .bool yg, ylv, ykv]] _ _) at HCC
      have x0 : wr.cell? ⟨b1, off + i * 6, none⟩ = some (.string nm) := hxc 0 _ rfl
      have x1 : wr.cell? ⟨b1, off + i * 6 + 1, none⟩ = some (.int .i64 xk) := hxc 1 _ rfl
      have x2 : wr.cell? ⟨b1, off + i * 6 + 1 + 1, none⟩ = some (.bool xm) := hxc 2 _ rfl
      have x3 : wr.cell? ⟨b1, off + i * 6 + 1 + 2, none⟩ = some (.bool xg) := (by have := hxc 3 _ rfl; rwa [show off + i * 6 + 3 = off + i * 6 + 1 + 2 from rfl] at this)
      have x4 : wr.cell? ⟨b1, off + i * 6 + 1 + 3, none⟩ = some xlv := (by have := hxc 4 _ rfl; rwa [show off + i * 6 + 4 = off + i * 6 + 1 + 3 from rfl] at this)
      have x5 : wr.cell? ⟨b1, off + i * 6 + 1 + 4, none⟩ = some xkv := (by have := hxc 5 _ rfl; rwa [show off + i * 6 + 5 = off + i * 6 + 1 + 4 from rfl] at this)
      have y1 : wr.cell? ⟨b2, off2 + i * 6 + 1, none⟩ = some (.int .i64 yk) := hyc 1 _ rfl
      have y2 : wr.cell? ⟨b2, off2 + i * 6 + 1 + 1, none⟩ = some (.bool ym) := hyc 2 _ rfl
      have y3 : wr.cell? ⟨b2, off2 + i * 6 + 1 + 2, none⟩ = some (.bool yg) := (by have := hyc 3 _ rfl; rwa [show off2 + i * 6 + 3 = off2 + i * 6 + 1 + 2 from rfl] at this)
      have y4 : wr.cell? ⟨b2, off2 + i * 6 + 1 + 3, none⟩ = some ylv := (by have := hyc 4 _ rfl; rwa [show off2 + i * 6 + 4 = off2 + i * 6 + 1 + 3 from rfl] at this)
      have y5 : wr.cell? ⟨b2, off2 + i * 6 + 1 + 4, none⟩ = some ykv := (by have := hyc 5 _ rfl; rwa [show off2 + i * 6 + 5 = off2 + i * 6 + 1 + 4 from rfl] at this)
      have i1 : (i : Int) < (N : Int) := by omega
      have i0' : (0 : Int) ≤ (i : Int) := by omega
      have hjb : jb.length ≤ 1048576 := by have := HJL.out; omega
      clear hx hy hbw hxx hyy hxc hyc CJ
      go_wp2_with fail
      go_region_law (first
        | (go_simp; go_at_call 32; (refine HCC.out.mono ?_); rintro e W3 ⟨jk, jm, jg, p1, c1, jls, p2, c2, jks, rfl, hh, hjn, hb3⟩; have OK := hid (own_below (own_below HO.out hb3) ((Below.refl W3.heap.size W3).alloc (Nat.le_refl _) (.cells ([.string nm, .int .i64 jk, .bool jm, .bool jg, .slice p1 jls.length c1, .slice p2 jks.length c2] : List Value).toArray 33))); have KA := hid (fun (j : Nat) (u : Value) (h : ([.string nm, .int .i64 jk, .bool jm, .bool jg, .slice p1 jls.length c1, .slice p2 jks.length c2] : List Value)[j]? = some u) => show (W3.alloc (.cells ([.string nm, .int .i64 jk, .bool jm, .bool jg, .slice p1 jls.length c1, .slice p2 jks.length c2] : List Value).toArray 33)).cell? ((⟨W3.heap.size, 0, none⟩ : Addr).add j) = some u by rw [Addr.add_lit, Nat.zero_add]; exact box_cell W3 [.string nm, .int .i64 jk, .bool jm, .bool jg, .slice p1 jls.length c1, .slice p2 jks.length c2] _ j u h); have B3 := hid hb3; have HH := hid hh; have HJNN := hid hjn; have n3 := Keeps.of_below hb3 _ _ _ x0)
        | ((refine step_append_lies _ (by rfl) _ _ 22 (by rfl) w.heap.size 33 i0 _ 6 80 Tryd.underlying22 hinf hz0 hz1 hz2 rfl (by decide) (.slice pv jb.length cv) jb.length ((jb.map Bd.cells).flatten) (by rfl) OK.out ⟨W3.heap.size, 0, none⟩ 1 1 [.string nm, .int .i64 jk, .bool jm, .bool jg, .slice p1 jls.length c1, .slice p2 jks.length c2] (by rfl) (by rfl) KA.out (by simp [Value.oneCell']) (by decide) (by unfold maxLen; omega) (by omega) (by have := HB.out.size; have := B3.out.size; rw [World.size_alloc]; omega) (W3.heap.size + 1) (by rw [World.size_alloc]) ?_); intro g cap w1 hown hgrow hat hlt; have HG1 := hid hgrow; have HOW := hid hown; have HAT := hid hat))
      all_goals
        have K1 := hid (Kept.snoc0 (v := .slice (some ⟨g, 0, none⟩) (jb.length + 1) cap) HKP.out B3.out HH.out HB.out.size (fun r hr => (HO.out.lt r hr).2) _ HG1.out HAT.out rfl)
        have JL' : Hid ((jb ++ [(⟨nm, .mk jk jm jg (.slice p1 jls.length c1) jls (.slice p2 jks.length c2) jks⟩ : Bd)]).length = i + 1) := hid (by rw [List.length_append, HJL.out]; rfl)
        have JN' : Hid (∀ (q : Nat) x y z, a[q]? = some x → b[q]? = some y → (jb ++ [(⟨nm, .mk jk jm jg (.slice p1 jls.length c1) jls (.slice p2 jks.length c2) jks⟩ : Bd)])[q]? = some z → bs z.name = bs x.name ∧ Joins x.ty y.ty z.ty) := hid (fun q x y z h1 h2 h3 => by
          have hjl := HJL.out
          by_cases hp : q < jb.length
          · rw [List.getElem?_append_left hp] at h3
            exact HJN.out q x y z h1 h2 h3
          · have hpi : q = i := by have := (List.getElem?_eq_some_iff.1 h3).1; simp at this; omega
            subst hpi
            rw [List.getElem?_append_right (by omega), hjl, Nat.sub_self] at h3
            cases h3
            rw [HXY.out.1] at h1
            rw [HXY.out.2] at h2
            cases h1; cases h2
            exact ⟨rfl, HJNN.out⟩)
        have OW' : Hid (w1.ownsRow w.heap.size 33 6 (.slice (some ⟨g, 0, none⟩) (jb.length + 1) cap) (jb ++ [(⟨nm, .mk jk jm jg (.slice p1 jls.length c1) jls (.slice p2 jks.length c2) jks⟩ : Bd)]).length ((jb ++ [(⟨nm, .mk jk jm jg (.slice p1 jls.length c1) jls (.slice p2 jks.length c2) jks⟩ : Bd)]).map Bd.cells).flatten) := hid (by have h := HOW.out; rw [List.length_append, List.map_append, List.flatten_append, List.map_cons, List.map_nil, List.flatten_cons, List.flatten_nil, List.append_nil]; exact h)
        have KP' : Hid (Kept w w1 w.heap.size (Value.slice (some ⟨g, 0, none⟩) (jb.length + 1) cap).ownBlock ((jb ++ [(⟨nm, .mk jk jm jg (.slice p1 jls.length c1) jls (.slice p2 jks.length c2) jks⟩ : Bd)]).map Bd.ty)) := hid (by rw [List.map_append]; exact K1.out)
        have BB' : Hid (Below w.heap.size w w1) := hid (((HB.out.trans (B3.out.mono HB.out.size)).alloc (Nat.le_trans HB.out.size B3.out.size) _).grown HG1.out (by rw [World.size_alloc]; have := HB.out.size; have := B3.out.size; omega) (fun r hr => (HO.out.lt r hr).1))
        clear K1 HG1 HOW HAT HH B3 OK KA HO HKP HJN HJNN HCC HXY n3 x0 x1 x2 x3 x4 x5 y1 y2 y3 y4 y5 hh hjn hb3 hown hgrow hat hlt HB
        go_wp2_with fail
        go_roundg (gk - 1)
        case measure => omega
        case rel =>
          refine ⟨i + 1, _, _, rfl, ?_, by omega, by omega, JL', OW', KP', JN', BB'⟩
          first | rfl | go_num | (rw [show wrap64 ((i : Int) + 1) = ((i + 1 : Nat) : Int) by unfold wrap64; omega])
    · obtain rfl : N = i := by omega
      have hbw := HB.out
      go_wp2_with fail
      go_ret
      refine ⟨_, jb, rfl, ⟨own_lies (bd_len jb) (by rw [List.length_map]; exact HO.out), fun z hz => ?_⟩, joinsE_of a b jb (HN.out.1.trans HN.out.2.symm) (HJL.out.trans HN.out.1.symm) HJN.out, hbw⟩
      obtain ⟨B, E, h1, _⟩ := HKP.out z.ty (List.mem_map.2 ⟨z, hz, rfl⟩)
      exact h1 _ (Keeps.of_below hbw) fun _ _ _ _ _ h => h
end Go.Proofs.YtannfhbocfghkaaDoor.EnvC
/- Contract of env.Join. -/
namespace Go.Proofs.YtannfhbocfghkaaDoor.EnvC
open Go Go.RowKit Go.Shelf Go.Lib Go.Sort Go.Proofs.YtannfhbocfghkaaDoor.EnvP
attribute [local go_sem] Oper.semAt_some

theorem Built.of_below {A B : World} (h : Below A.heap.size A B) : Built A B := ⟨RowKept.of_below h, RowKept.of_below h, RowKept.of_below h, RowKept.of_below h⟩
theorem Built.of_soft {B : Nat} {x y : World} (h : Soft 59 B x y) : Built x y := by
  refine ⟨fun k cs f e => h.same k _ e (.inr ⟨rfl, ?_⟩), fun k cs f e => h.same k _ e (.inr ⟨rfl, ?_⟩), fun k cs f e => h.same k _ e (.inr ⟨rfl, ?_⟩), fun k cs f e => h.same k _ e (.inr ⟨rfl, ?_⟩)⟩ <;>
  · intro cs f e
    injection e with _ e _
    exact absurd e (by decide)

theorem JoinG.keep {a b : List Bd} {ob bb bo : Nat} {W W' : World} (h : JoinG a b ob bb bo W) (k : Keeps W W') : JoinG a b ob bb bo W' := fun i x y hx hy => by
  obtain ⟨h1, j, h2, h3⟩ := h i x y hx hy
  exact ⟨k _ _ _ h1, j, h2.keep k, h3⟩
theorem Built.of_cells {A B : World} (h : CellsSame A B) : Built A B := ⟨fun k _cs _f e => h k _ e rfl, fun k _cs _f e => h k _ e rfl, fun k _cs _f e => h k _ e rfl, fun k _cs _f e => h k _ e rfl⟩
theorem Built.trans {A B C : World} (h : Built A B) (k : Built B C) : Built A C := ⟨h.loans.trans k.loans, h.ints.trans k.ints, h.types.trans k.types, h.binds.trans k.binds⟩
theorem Joined.row {w0 W W2 : World} {b o : Nat} {T : TypeId} {cur : Array Value} {t u : ETy} (h : Joined w0 W b o T cur t u W2) (hb : W.heap[b]? = some (.cells cur T (0, 0))) {X : TypeId} (hX : T ≠ X) : RowKept X W W2 := fun i cs f e => by
  have hne : i ≠ b := fun ei => by subst ei; rw [hb] at e; injection e with e; injection e with _ e _; exact hX e
  exact (h.same i (Array.getElem?_eq_some_iff.1 e).1 hne).trans e
theorem Joined.other {w0 W W2 : World} {b o : Nat} {T : TypeId} {cur : Array Value} {t u : ETy} (h : Joined w0 W b o T cur t u W2) (hb : W.heap[b]? = some (.cells cur T (0, 0))) (k : Nat) (ob : Obj) (hk : W.heap[k]? = some ob) (hc : ob.isCells = false) : W2.heap[k]? = some ob := by
  have hne : k ≠ b := fun ei => by subst ei; rw [hb] at hk; cases hk; cases hc
  exact (h.same k (Array.getElem?_eq_some_iff.1 hk).1 hne).trans hk

set_option maxHeartbeats 8000000 in
set_option maxRecDepth 100000 in
theorem joinEnv_any (a b : List Bd) (v u : Value) (w : World) (ha : EnvIn w v a) (hb : EnvIn w u b) (hsa : ∀ x ∈ a, Small x.ty) (hsb : ∀ x ∈ b, Small x.ty) (hla : a.length ≤ 1048576) (hlb : b.length ≤ 1048576)
    (hss : ∀ (i : Nat) (x y : Bd), a[i]? = some x → b[i]? = some y → wT x.ty + wT y.ty ≤ 1048576) :
    Calls Tryd.prog 12 #[v, u] w fun r w' => Below w.heap.size w w' ∧
      ((both a b = true ∧ ∃ vo j, r = .returned (.tuple #[vo, .nilIface]) ∧ EnvIn w' vo j ∧ JoinsE a b j) ∨ (both a b = false ∧ r = .returned (.tuple #[.slice none 0 0, .iface 60 (.int .i64 5)]))) := by
  have c0 := fun (W : World) (h : Below w.heap.size w W) => match_any a b v u W (ha.keep (Keeps.of_below h)) (hb.keep (Keeps.of_below h)) hsa hsb hla hlb
  have c1 := fun (W : World) (h : Below w.heap.size w W) => clone_bind v (a.map Bd.cells) W (bd_len a) (bd_ones' ha.2) (ha.1.keep (Keeps.of_below h)) (by rw [List.length_map]; omega)
  obtain ⟨p, cap, hcap, rfl⟩ := lies_slice ha.1
  obtain ⟨p', cap', hcap', rfl⟩ := lies_slice hb.1
  have hboth : both a b = true → a.length = b.length ∧ ∀ (i : Nat) (x y : Bd), a[i]? = some x → b[i]? = some y → fitsT x.ty y.ty = true := by
    intro h
    rw [both_eq] at h
    simp only [Bool.and_eq_true, beq_iff_eq] at h
    refine ⟨h.2.1, fun i x y hx hy => ?_⟩
    have h3 := h.2.2
    unfold allB at h3
    rw [List.all_eq_true] at h3
    have := h3 (x, y) (List.mem_of_getElem? (i := i) (by rw [List.getElem?_zip_eq_some]; exact ⟨hx, hy⟩))
    unfold fitB at this
    rw [Bool.and_eq_true] at this
    exact this.2
  have C0 := hid (callsIn_wide (n := 11) |>.2 (c0 w (Below.refl _ _)))
  have C1 := hid c1
  have HE := hid (And.intro ha hb)
  have HS := hid (And.intro hsa hsb)
  have HSS := hid hss
  have HBT := hid hboth
  generalize both a b = bt at *
  clear c0 c1 ha hb hsa hsb hss hboth
  refine callsIn_wide (n := 12) |>.1 (callsIn_of_wp_marks Tryd.func12 rfl trivial ?_ rfl)
  simp only [Tryd.ntmps12, List.size_toArray, List.length_cons, List.length_nil, Nat.reduceAdd, Nat.reduceSub, Array.replicate_succ, Array.replicate_zero, List.push_toArray, List.append_toArray, List.nil_append, List.cons_append]
  gi_wp2
  refine ⟨trivial, C0.out.mono ?_⟩
  rintro e W2 ⟨rfl, hb2⟩
  have HB2 := hid hb2
  clear hb2 C0
  cases bt
  · gi_wp2
    exact leaves_marks (b := w.heap.size) (by intro e; cases e) [] _ trivial fun w' hb hc => ⟨_, results_tmp2 rfl _ _ _, HB2.out.trans (hb.mono (Nat.le_refl _)), rfl⟩
  · obtain ⟨hlen, hfit⟩ := HBT.out rfl
    have HLF := hid (And.intro hlen hfit)
    clear hlen hfit HBT
    gi_wp2
    have D1 := hid (callsIn_wide (n := 11) |>.2 (C1.out W2 HB2.out))
    refine ⟨trivial, D1.out.mono ?_⟩
    rintro e W3 ⟨vo, rfl, hown, hb3⟩
    rw [List.length_map] at hown
    obtain ⟨po, co, rfl⟩ := own_slice hown
    obtain ⟨hlen, hfit⟩ := HLF.out
    have HB3 := hid (HB2.out.trans (hb3.mono HB2.out.size))
    have hlo := own_lower hown HB2.out.size
    have hpo : a ≠ [] → ∃ ob bb bo, po = some ⟨ob, 0, none⟩ ∧ p' = some ⟨bb, bo, none⟩ := fun hne => by
      obtain ⟨g, c, e, _⟩ := own_ptr hown (List.length_pos_iff.2 hne)
      injection e with e _ _
      have hbl : 0 < b.length := by rw [← hlen]; exact List.length_pos_iff.2 hne
      obtain ⟨b1, o1, c1, e1, _⟩ := bd_at HE.out.2 (List.getElem?_eq_getElem hbl) (HS.out.2 _ (List.getElem_mem hbl))
      injection e1 with e1 _ _
      exact ⟨g, b1, o1, e, e1⟩
    have hco : a.length ≤ co := by
      obtain ⟨_, ⟨e, h0⟩ | ⟨g, c, cur, e, _, _, hn, _⟩⟩ := id hown
      · omega
      · injection e with _ _ e; omega
    have hw0 : ∃ ob bb bo, (a ≠ [] → po = some ⟨ob, 0, none⟩ ∧ p' = some ⟨bb, bo, none⟩) ∧ Wand w (JoinG a b ob bb bo) (roots a b ob bb bo) W3 := by
      by_cases hne : a = []
      · subst hne
        exact ⟨0, 0, 0, fun h => absurd rfl h, wand_nil _ _ _ _ _ _⟩
      · obtain ⟨ob, bb, bo, rfl, rfl⟩ := hpo hne
        exact ⟨ob, bb, bo, fun _ => ⟨rfl, rfl⟩, wand_start HE.out.1 HE.out.2 (fun i x y hx hy => ⟨HSS.out i x y hx hy, hfit i x y hx hy⟩) hlo⟩
    obtain ⟨ob, bb, bo, hpp, hwand⟩ := hw0
    generalize hN : a.length = N at *
    have HN := hid (And.intro hN hlen)
    have HPP := hid hpp
    have HW3 : Hid (Wand w (JoinG a b ob bb bo) ((roots a b ob bb bo).drop 0) W3) := hid hwand
    have HCO := hid hco
    clear hb3 hown D1 hlo hpo hco hpp hwand hfit hlen HLF hN C1
    gi_wp2
    refine wpIn_loop_ghost_k (fun gf act wr => ∃ (i : Nat) (ds : List Deferred) (u7 u8 u19 u20 u21 u22 u23 u24 u25 u26 u27 u28 u29 u30 u31 u32 u33 : Value), act = { tmps := #[.slice p N cap, .slice p' b.length cap', undef, undef, .slice none 0 0, .nilIface, .slice po N co, u7, u8, .slice p N cap, .slice p' b.length cap', .bool true, .bool false, undef, .slice p N cap, .slice po N co, .slice po N co, .int .i64 (N : Int), .int .i64 (i : Int), u19, u20, u21, u22, u23, u24, u25, u26, u27, u28, u29, u30, u31, u32, u33, undef], defers := ds } ∧
      i ≤ N ∧ N ≤ i + gf ∧ Hid (Marks w.heap.size wr ds) ∧ Hid (Below w.heap.size w wr) ∧ Hid (Wand w (JoinG a b ob bb bo) ((roots a b ob bb bo).drop i) wr)) N ⟨0, [], _, _, _, _, _, _, _, _, _, _, _, _, _, _, _, _, _, rfl, by omega, by omega, hid trivial, HB3, HW3⟩ ?_
    rintro gk act wr ⟨i, ds, u7, u8, u19, u20, u21, u22, u23, u24, u25, u26, u27, u28, u29, u30, u31, u32, u33, rfl, hi, hg, HM, HB, HW⟩ J K hJ hK
    clear HB3 HW3
    dsimp only at hJ ⊢
    by_cases hlt : i < N
    · obtain ⟨x, hx⟩ : ∃ x, a[i]? = some x := ⟨a[i]'(by rw [HN.out.1]; exact hlt), List.getElem?_eq_getElem _⟩
      obtain ⟨y, hy⟩ : ∃ y, b[i]? = some y := ⟨b[i]'(by rw [← HN.out.2]; exact hlt), List.getElem?_eq_getElem _⟩
      obtain ⟨rfl, rfl⟩ := HPP.out (fun e => by rw [e] at hx; simp at hx)
      have hr := roots_at (ob := ob) (bb := bb) (bo := bo) hx hy
      have hbn : b.length = N := HN.out.2.symm
      have hW2 := HW.out
      rw [drop_cons hr] at hW2
      have HA := hid (fun W => all_Pr (root ob bb bo i (x, y)) W)
      have hnt : nT x.ty ≤ 1048576 := Nat.le_trans (nT_le _) (HS.out.1 x (List.mem_of_getElem? hx))
      have HW2 : Hid (Wand w (JoinG a b ob bb bo) (root ob bb bo i (x, y) :: (roots a b ob bb bo).drop (i + 1)) wr) := hid hW2
      have HX := hid (And.intro hx hy)
      have ilt : (i : Int) < (N : Int) := by omega
      have i0 : (0 : Int) ≤ (i : Int) := by omega
      have ilb : (i : Int) < (b.length : Int) := by omega
      clear hx hy hr HW hW2 hbn
      generalize hrest : (roots a b ob bb bo).drop (i + 1) = rest at *
      have HREST := hid hrest
      clear hrest
      gi_wp2
      refine wpIn_wide.2 ?_
      go_region_held3 (fun w' => True) (first | trivial) (first | (go_at_call 24; refine (HA.out _).mono ?_; rintro e W2 ⟨rfl, hb2, h1, h2, hsz⟩))
      have hb2' : Below wr.heap.size wr W2 := ((Below.refl wr.heap.size wr).drew).trans hb2
      have h1' : W2.heap[wr.heap.size]? = some (.cells (Pr.cells (root ob bb bo i (x, y))).toArray 59 (0, 0)) := h1
      have h2' : Boxed W2 (wr.heap.size + 1) 74 (.func (.func 43) #[] #[]) := h2
      have HB2 := hid (HB.out.trans (hb2'.mono HB.out.size))
      have HM2 := hid (HM.out.later hb2')
      have HW3 := hid (HW2.out.built (Built.of_below hb2'))
      have HD : Hid (∀ D, { target := .collected D, args := #[] } ∈ ds → D < W2.heap.size) := hid (fun D hm => HM2.out.lt D hm)
      clear hb2 hb2' h1 h2 hsz HA HB HM HW2
      simp only [Exit.then]
      gi_wp2
      refine range_of (n := 12) rfl (by omega) (gf := 59) rfl trivial (enters_of Tryd.func59 (by kernel_rfl) rfl)
        (walksJ 11 (by omega) (root ob bb bo i (x, y)) wr.heap.size (wr.heap.size + 1) W2 h1' h2' hnt) (Below.refl _ _) rfl (fun A B x ks h hc => h.keep hc.keeps)
        (fun st W => Below w.heap.size w W ∧ W2.heap.size ≤ W.heap.size ∧ Marks w.heap.size W ds ∧ Wand w (JoinG a b ob bb bo) (st ++ rest) W)
        (fun W => False)
        (fun st A B h k => ⟨h.1.trans ((k.below h.2.1).mono HB2.out.size), Nat.le_trans h.2.1 k.size, k.marks h.2.2.1 HD.out, h.2.2.2.built (Built.of_soft k)⟩)
        (fun A B h k => h)
        ⟨HB2.out, Nat.le_refl _, HM2.out, HW3.out⟩ ?round ?done ?stop
      case round =>
        rintro l z r W ⟨hB, hsz, hm, hw⟩
        have pz := hw.pend z List.mem_cons_self
        rw [show z.cells.toArray = #[.pointer (some ⟨z.b, z.o, none⟩), .pointer (some ⟨z.c, z.q, none⟩)] from rfl]
        have hbx : Below W.heap.size W (W.alloc (.cells #[.pointer (some ⟨z.b, z.o, none⟩), .pointer (some ⟨z.c, z.q, none⟩)] 59 (0, 0))) := (Below.refl _ _).alloc (Nat.le_refl _) _
        have hnew := World.alloc_heap_new W (.cells #[.pointer (some ⟨z.b, z.o, none⟩), .pointer (some ⟨z.c, z.q, none⟩)] 59 (0, 0))
        have HBX := hid hbx
        have HNEW := hid hnew
        have HBW := hid (And.intro hB (And.intro hsz hm))
        have HW4 := hid hw
        have HPZ := hid pz
        clear hbx hnew hB hsz hm hw pz h1' h2' hnt
        gi_wp2
        refine ⟨Below.keepsFrom HBX.out _, (Below.cellsSame HBX.out).types, fun W4 hb4 hc4 => ?_⟩
        have hn4 := hc4 _ _ HNEW.out rfl
        have d0 : W4.cell? ⟨W.heap.size, 0, none⟩ = some (.pointer (some ⟨z.b, z.o, none⟩)) := by rw [Lib.cell_of_heap hn4]; rfl
        have d1 : W4.cell? ⟨W.heap.size, 1, none⟩ = some (.pointer (some ⟨z.c, z.q, none⟩)) := by rw [Lib.cell_of_heap hn4]; rfl
        have hbu : Built W W4 := (Built.of_below HBX.out).trans (Built.of_cells hc4)
        have hw4 : Wand w (JoinG a b ob bb bo) (z :: (r ++ rest)) W4 := HW4.out.built hbu
        have hb4' : Below W2.heap.size W W4 := (HBX.out.mono HBW.out.2.1).trans hb4
        have hbw : Below w.heap.size w W4 := HBW.out.1.trans (hb4'.mono HB2.out.size)
        have hm4 : Marks w.heap.size W4 ds := HBW.out.2.2.below hb4' HD.out
        have hz4 : W2.heap.size ≤ W4.heap.size := Nat.le_trans HBW.out.2.1 hb4'.size
        obtain ⟨T', cur, hT', hcur, hcells⟩ := (hw4.pend z List.mem_cons_self).here
        have hsm := HPZ.out.small
        have HC := hid (CallsIn.inRound l (callsIn_wide (n := 9) |>.2 (join_any z.b z.o z.c z.q w W4 T' hT' cur z.t z.u hbw HPZ.out.base hcur hcells HPZ.out.left HPZ.out.right (by unfold Small; omega) (by unfold Small; omega))))
        have H4 := hid (And.intro hw4 (And.intro hbw (And.intro hm4 hz4)))
        have HT := hid (And.intro hT' hcur)
        clear HBX HNEW HBW hb4 hc4 hn4 hbu hw4 hb4' hbw hm4 hz4 HW4 HPZ hT' hcur hcells hsm
        gi_wp2
        refine ⟨trivial, HC.out.mono ?_⟩
        rintro e5 W5 ⟨rfl, hj⟩
        have HJ := hid hj
        clear HC hj d0 d1
        gi_wp2
        obtain ⟨ks, hk, hw5⟩ := Wand.step H4.out.1 H4.out.2.1 HT.out.1 HT.out.2 HJ.out
        have hTP : T' ≠ 59 ∧ T' ≠ 74 := by rcases HT.out.1 with rfl | rfl <;> exact ⟨by decide, by decide⟩
        refine ⟨⟨HJ.out.size, fun k o _ hk hc => HJ.out.other HT.out.2 k o hk hc⟩, fun k cs f => ⟨HJ.out.row HT.out.2 hTP.1 k cs f, HJ.out.row HT.out.2 hTP.2 k cs f⟩, ks, hk, HJ.out.below, Nat.le_trans H4.out.2.2.2 HJ.out.size, H4.out.2.2.1.keep fun D _ e => HJ.out.other HT.out.2 D _ e rfl, by rw [List.append_assoc]; exact hw5⟩
      case done =>
        rintro D W hD ⟨hB, hsz, hm, hw⟩ hdef
        have HM3 := hid (Marks.push hm HD.out hD (Nat.le_trans HB2.out.size hD) hdef)
        have HB3 := hid hB
        have HW4 : Hid (Wand w (JoinG a b ob bb bo) ((roots a b ob bb bo).drop (i + 1)) W) := hid (by rw [HREST.out]; exact hw)
        clear hB hsz hm hw hdef HB2 HM2 HW3 h1' h2' hnt
        gi_wp2
        exact Handed.intro (gk - 1) (by omega) (hJ _ _ _ ⟨i + 1, _, _, _, _, _, _, _, _, _, _, _, _, _, _, _, _, _, _, rfl, by omega, by omega, HM3, HB3, HW4⟩)
      case stop =>
        rintro D W hD h hdef
        exact h.elim
    · obtain rfl : i = N := by omega
      have hd : (roots a b ob bb bo).drop i = [] := List.drop_eq_nil_of_le (by unfold roots; rw [List.length_mapIdx, List.length_zip]; have := HN.out.1; omega)
      have hW := HW.out
      rw [hd] at hW
      have HG := hid (hW.done HB.out)
      clear hd hW HW
      gi_wp2
      refine leaves_marks (b := w.heap.size) (by intro e; cases e) _ _ HM.out fun w' hb hc => ⟨_, results_tmp2 rfl _ _ _, HB.out.trans hb, ?_⟩
      obtain ⟨j, h1, h2⟩ := join_end (co := co) (HN.out.1.trans HN.out.2) (by rw [HN.out.1]; exact HCO.out) (fun h => (HPP.out h).1) (HG.out.keep hc.keeps)
      rw [HN.out.1] at h1
      exact ⟨_, rfl, j, h1, h2⟩
end Go.Proofs.YtannfhbocfghkaaDoor.EnvC
/- Closed facts on reflectlite at the program's types, for errors.As at its two targets: a code (*api.Code) and a fault (**api.Fault); the error a code, or a fault that wraps a code. -/
namespace Go.Proofs.YtannfhbocfghkaaDoor.ErrAs
open Go Go.RowKit Go.Extern.Stop Go.Stop Go.Extern

/-- reflectlite's handle of a type -/
abbrev hd (t : Nat) : Value := .pointer (some ⟨2, t, none⟩)
/-- a Value of a type, at an address -/
abbrev rv (t : Nat) (p : Addr) (fl : Int) : Value := .agg #[hd t, .pointer (some p), .int .u64 fl]

theorem unpackPC (t : Addr) (w : World) : (ReflectliteValue.unpack (.iface 63 (.pointer (some t)))).run Tryd.prog w = .ok (rv 63 ⟨w.heap.size, 0, none⟩ 150) (w.alloc (.cells #[.pointer (some t)] 63)) := by kernel_rfl
theorem typePC (a : Addr) (w : World) : (ReflectliteValue.methodAny (ReflectliteValue.valueError "reflectlite.Value.Type" 0) (fun t _ _ _ => ReflectliteType.toType t) #[rv 63 a 150]).run Tryd.prog w = .ok (.iface 112 (.agg #[hd 63])) w := by kernel_rfl
theorem mKind (h : Value) (w : World) : (Go.method 259 112 (.agg #[h]) "Kind").run Tryd.prog w = .ok (90, h) w := by kernel_rfl
theorem mElem (h : Value) (w : World) : (Go.method 259 112 (.agg #[h]) "Elem").run Tryd.prog w = .ok (100, .agg #[h]) w := by kernel_rfl
theorem mImpl (h : Value) (w : World) : (Go.method 259 112 (.agg #[h]) "Implements").run Tryd.prog w = .ok (101, .agg #[h]) w := by kernel_rfl
theorem mAssign (h : Value) (w : World) : (Go.method 259 112 (.agg #[h]) "AssignableTo").run Tryd.prog w = .ok (98, .agg #[h]) w := by kernel_rfl
theorem kindPC (w : World) : ((ReflectliteType.abiMethod fun t => (fun a : Nat => Value.int IntKind.u8 (a : Int)) <$> Rtype.kind t) #[hd 63]).run Tryd.prog w = .ok (.int .u8 22) w := by kernel_rfl
theorem kindC (w : World) : ((ReflectliteType.abiMethod fun t => (fun a : Nat => Value.int IntKind.u8 (a : Int)) <$> Rtype.kind t) #[hd 60]).run Tryd.prog w = .ok (.int .u8 2) w := by kernel_rfl
theorem elemPC (w : World) : (ReflectliteType.method ReflectliteType.elem #[.agg #[hd 63]]).run Tryd.prog w = .ok (.iface 112 (.agg #[hd 60])) w := by kernel_rfl
theorem implC (w : World) : (ReflectliteType.relation "Implements" ReflectliteType.implements_ #[.agg #[hd 60], .iface 112 (.agg #[hd 35])]).run Tryd.prog w = .ok (.bool true) w := by kernel_rfl
theorem typeOfC (v : Value) (w : World) : (ReflectliteType.typeOf #[.iface 60 v]).run Tryd.prog w = .ok (.iface 112 (.agg #[hd 60])) w := by kernel_rfl
theorem assignCC (w : World) : (ReflectliteType.relation "AssignableTo" ReflectliteType.assignableTo #[.agg #[hd 60], .iface 112 (.agg #[hd 60])]).run Tryd.prog w = .ok (.bool true) w := by kernel_rfl
theorem unpackC (n : Int) (w : World) : (ReflectliteValue.unpack (.iface 60 (.int .i64 n))).run Tryd.prog w = .ok (rv 60 ⟨w.heap.size, 0, none⟩ 130) (w.alloc (.cells #[.int .i64 n] 60)) := by kernel_rfl
theorem elemQPC (w : World) : (Rtype.elem? 63).run Tryd.prog w = .ok (some 60) w := by kernel_rfl
theorem mkC (p : Addr) (w : World) : (ReflectliteValue.mk 60 p ReflectliteValue.flagAddr).run Tryd.prog w = .ok (rv 60 p 386) w := by kernel_rfl
theorem partsPC (a : Addr) (w : World) : (ReflectliteValue.parts (rv 63 a 150)).run Tryd.prog w = .ok (some (63, a, 150)) w := by kernel_rfl
theorem partsC (a : Addr) (w : World) : (ReflectliteValue.parts (rv 60 a 386)).run Tryd.prog w = .ok (some (60, a, 386)) w := by kernel_rfl
theorem partsC' (a : Addr) (w : World) : (ReflectliteValue.parts (rv 60 a 130)).run Tryd.prog w = .ok (some (60, a, 130)) w := by kernel_rfl
theorem directC (w : World) : (Rtype.directlyAssignable 60 60).run Tryd.prog w = .ok true w := by kernel_rfl

theorem method_eq (z : Sem Value) (f : TypeId → Addr → Nat → Nat → Sem Value) (v : Value) :
    ReflectliteValue.method z f #[v] = (do match ← ReflectliteValue.parts v with | none => z | some (t, a, fl) => f t a fl (fl % 32)) := rfl
theorem isNilPC (a p : Addr) (W : World) (ha : W.cell? a = some (.pointer (some p))) :
    (ReflectliteValue.method (ReflectliteValue.valueError "reflectlite.Value.IsNil" 0) ReflectliteValue.isNil #[rv 63 a 150]).run Tryd.prog W = .ok (.bool false) W := by
  rw [method_eq]
  simp only [Sem.run_bind, partsPC, Result.andThen]
  simp [ReflectliteValue.isNil, loadVar, isAgg, underlying, Tryd.underlying63, ha, Result.andThen]
theorem elemVPC (a p : Addr) (W : World) (ha : W.cell? a = some (.pointer (some p))) :
    (ReflectliteValue.method (ReflectliteValue.valueError "reflectlite.Value.Elem" 0) ReflectliteValue.elem #[rv 63 a 150]).run Tryd.prog W = .ok (rv 60 p 386) W := by
  rw [method_eq]
  simp only [Sem.run_bind, partsPC, Result.andThen]
  simp [ReflectliteValue.elem, loadVar, isAgg, underlying, Tryd.underlying63, ha, Result.andThen, elemQPC, mkC]
theorem setC (ta b : Addr) (n : Int) (old : Value) (W : World) (hb : W.cell? b = some (.int .i64 n)) (ht : W.cell? ta = some old) (hf : W.frozen? ta = false) :
    (ReflectliteValue.set #[rv 60 ta 386, rv 60 b 130]).run Tryd.prog W = .ok (.tuple #[]) (W.setCell ta (.int .i64 n)) := by
  rw [show ReflectliteValue.set #[rv 60 ta 386, rv 60 b 130] = (ReflectliteValue.parts (rv 60 ta 386) >>= fun p => ReflectliteValue.parts (rv 60 b 130) >>= _) from rfl]
  simp only [Sem.run_bind, partsC, partsC', Result.andThen]
  simp [ReflectliteValue.flagAddr, loadVar, isAgg, underlying, Tryd.underlying60, hb, Result.andThen, directC, storeVar, Value.cells, storeCells, Addr.add]
  rw [run_store Tryd.prog W ta _ _ (by rfl)]
  simp [ht, hf]


/-! The target **api.Fault; the error *api.Fault -/
end Go.Proofs.YtannfhbocfghkaaDoor.ErrAs
/- errors.As at the program's two targets: a code (*api.Code) and a fault (**api.Fault); the error a code, or a fault that wraps a code. -/
namespace Go.Proofs.YtannfhbocfghkaaDoor.ErrAs
open Go Go.RowKit Go.Extern.Stop Go.Stop Go.Extern

/-- the memory behind errors.As: reflectlite's copies -/
abbrev behind (w : World) (T E : Nat) (t : Addr) (v : Value) : World :=
  (((w.alloc (.cells #[.pointer (some t)] T)).alloc (.cells #[hd T, .pointer (some ⟨w.heap.size, 0, none⟩), .int .u64 150] 86)).alloc (.cells #[hd T, .pointer (some ⟨w.heap.size, 0, none⟩), .int .u64 150] 86)).alloc (.cells #[v] E)

theorem as_nil (t : Value) (w : World) : Calls Tryd.prog 30 #[.nilIface, t] w fun e w' => e = .returned (.bool false) ∧ w = w' := by
  go_enter Tryd.func30, Tryd.ntmps30
  go_wp2
  go_ret
  exact ⟨rfl, rfl⟩
set_option maxHeartbeats 4000000 in
theorem as_code (n : Int) (t : Addr) (old : Value) (w : World) (hg : w.cell? ⟨0, 0, none⟩ = some (.iface 112 (.agg #[hd 35]))) (ht0 : w.cell? t = some old) (hf0 : w.frozen? t = false) :
    Calls Tryd.prog 30 #[.iface 60 (.int .i64 n), .iface 63 (.pointer (some t))] w fun ev w' => ev = .returned (.bool true) ∧ w' = (behind w 63 60 t (.int .i64 n)).setCell t (.int .i64 n) := by
  have h1 := @run_callFunc_extern Tryd.prog 50 _ (fun args => ReflectliteValue.unpack (args.getD 0 (.tuple #[]))) Tryd.func50 (by kernel_rfl) (by kernel_rfl) (by kernel_rfl) (by kernel_rfl)
  have h2 := @run_callFunc_extern Tryd.prog 51 _ (ReflectliteValue.methodAny (ReflectliteValue.valueError "reflectlite.Value.Type" 0) (fun t _ _ _ => ReflectliteType.toType t)) Tryd.func51 (by kernel_rfl) (by kernel_rfl) (by kernel_rfl) (by kernel_rfl)
  have h3 := @run_callFunc_extern Tryd.prog 52 _ (ReflectliteValue.method (ReflectliteValue.valueError "reflectlite.Value.IsNil" 0) ReflectliteValue.isNil) Tryd.func52 (by kernel_rfl) (by kernel_rfl) (by kernel_rfl) (by kernel_rfl)
  have h4 := @run_callFunc_extern Tryd.prog 90 _ (ReflectliteType.abiMethod fun t => do pure (.int .u8 (← Rtype.kind t))) Tryd.func90 (by kernel_rfl) (by kernel_rfl) (by kernel_rfl) (by kernel_rfl)
  have h5 := @run_callFunc_extern Tryd.prog 100 _ (ReflectliteType.method ReflectliteType.elem) Tryd.func100 (by kernel_rfl) (by kernel_rfl) (by kernel_rfl) (by kernel_rfl)
  have h6 := @run_callFunc_extern Tryd.prog 101 _ (ReflectliteType.relation "Implements" ReflectliteType.implements_) Tryd.func101 (by kernel_rfl) (by kernel_rfl) (by kernel_rfl) (by kernel_rfl)
  have h7 := @run_callFunc_extern Tryd.prog 68 _ ReflectliteType.typeOf Tryd.func68 (by kernel_rfl) (by kernel_rfl) (by kernel_rfl) (by kernel_rfl)
  have h8 := @run_callFunc_extern Tryd.prog 98 _ (ReflectliteType.relation "AssignableTo" ReflectliteType.assignableTo) Tryd.func98 (by kernel_rfl) (by kernel_rfl) (by kernel_rfl) (by kernel_rfl)
  have h9 := @run_callFunc_extern Tryd.prog 69 _ (ReflectliteValue.method (ReflectliteValue.valueError "reflectlite.Value.Elem" 0) ReflectliteValue.elem) Tryd.func69 (by kernel_rfl) (by kernel_rfl) (by kernel_rfl) (by kernel_rfl)
  have h10 := @run_callFunc_extern Tryd.prog 70 _ ReflectliteValue.set Tryd.func70 (by kernel_rfl) (by kernel_rfl) (by kernel_rfl) (by kernel_rfl)
  have q1 := unpackPC
  have q2 := typePC
  have q3 := mKind
  have q4 := mElem
  have q5 := mImpl
  have q6 := mAssign
  have q7 := kindPC
  have q8 := kindC
  have q9 := elemPC
  have q10 := implC
  have q11 := typeOfC
  have q12 := assignCC
  have q13 := unpackC
  have n8 := isNilPC ⟨w.heap.size, 0, none⟩ t ((w.alloc (.cells #[.pointer (some t)] 63)).alloc (.cells #[hd 63, .pointer (some ⟨w.heap.size, 0, none⟩), .int .u64 150] 86)) (by simp)
  have hlt : 0 < w.heap.size := World.block_lt_of_cell? w _ hg
  have hg2 : ((w.alloc (.cells #[.pointer (some t)] 63)).alloc (.cells #[hd 63, .pointer (some ⟨w.heap.size, 0, none⟩), .int .u64 150] 86)).cell? ⟨0, 0, none⟩ = some (.iface 112 (.agg #[hd 35])) := by
    rw [World.cell?_alloc_lt _ _ ⟨0, 0, none⟩ (by simp <;> omega), World.cell?_alloc_lt _ _ ⟨0, 0, none⟩ hlt]; exact hg
  have htl : t.block < w.heap.size := World.block_lt_of_cell? w _ ht0
  have el := elemVPC ⟨w.heap.size, 0, none⟩ t (((w.alloc (.cells #[.pointer (some t)] 63)).alloc (.cells #[hd 63, .pointer (some ⟨w.heap.size, 0, none⟩), .int .u64 150] 86)).alloc (.cells #[hd 63, .pointer (some ⟨w.heap.size, 0, none⟩), .int .u64 150] 86)) (by rw [World.cell?_alloc_lt _ _ ⟨w.heap.size, 0, none⟩ (by simp; omega)]; simp)
  have st := setC t ⟨w.heap.size + 1 + 1 + 1, 0, none⟩ n old (behind w 63 60 t (.int .i64 n))
    (by rw [World.cell?_alloc_at _ _ _ _ (by simp)]; rfl)
    (by rw [World.cell?_alloc_lt _ _ t (by simp; omega), World.cell?_alloc_lt _ _ t (by simp; omega), World.cell?_alloc_lt _ _ t (by simp; omega), World.cell?_alloc_lt _ _ t htl]; exact ht0)
    (by rw [World.frozen?_alloc_old _ _ t (by simp; omega), World.frozen?_alloc_old _ _ t (by simp; omega), World.frozen?_alloc_old _ _ t (by simp; omega), World.frozen?_alloc_old _ _ t (Nat.ne_of_lt htl)]; exact hf0)
  go_enter Tryd.func30, Tryd.ntmps30
  go_wp2
  refine wp_loop_rounds 1 ?_
  rw [rounds_succ]
  go_wp2
  go_ret
  exact ⟨rfl, rfl⟩
end Go.Proofs.YtannfhbocfghkaaDoor.ErrAs
/- errors.As at a fault that wraps a code, the target a code: the chain is walked. -/
namespace Go.Proofs.YtannfhbocfghkaaDoor.ErrAs
open Go Go.RowKit Go.Extern.Stop Go.Stop Go.Extern

end Go.Proofs.YtannfhbocfghkaaDoor.ErrAs
/- The contracts of the statements' Code and Fault: which code an error has, and at which place it is. -/
namespace Go.Proofs.YtannfhbocfghkaaDoor.ErrAs
open Go Go.RowKit

theorem hid {p : Prop} (h : p) : Hid p := h
/-- the variable errors.errorType holds the handle of the type error -/
def ErrVar (w : World) : Prop := w.cell? ⟨0, 0, none⟩ = some (.iface 112 (.agg #[hd 35]))
theorem ErrVar.lt {w : World} (h : ErrVar w) : 0 < w.heap.size := World.block_lt_of_cell? w _ h
theorem ErrVar.below {w w' : World} (h : ErrVar w) (hb : Below w.heap.size w w') : ErrVar w' := (hb.cell (p := ⟨0, 0, none⟩) h.lt).trans h

/-- what errors.As leaves: the target's variable is set, all that lies below it is as it was -/
theorem after_below (w : World) (T E : Nat) (t : Addr) (v : Value) (ht : t.block ≤ w.heap.size) : Below t.block w ((behind w T E t v).setCell t v) :=
  (((((Below.refl _ w).alloc ht _).alloc (by simp; omega) _).alloc (by simp; omega) _).alloc (by simp; omega) _).setCell (Nat.le_refl _) _
theorem after_cell (w : World) (T E : Nat) (t : Addr) (v old : Value) (h : w.cell? t = some old) : ((behind w T E t v).setCell t v).cell? t = some v := by
  have ht := World.block_lt_of_cell? w _ h
  have h2 : (behind w T E t v).cell? t = some old := by
    rw [World.cell?_alloc_lt _ _ t (by simp <;> omega), World.cell?_alloc_lt _ _ t (by simp <;> omega), World.cell?_alloc_lt _ _ t (by simp <;> omega), World.cell?_alloc_lt _ _ t ht]
    exact h
  exact World.cell?_setCell_same (behind w T E t v) t v h2

set_option maxHeartbeats 1000000 in
theorem code_nil (w : World) : Calls Tryd.prog 14 #[.nilIface] w fun e w' => e = .returned (.int .i64 0) ∧ w = w' := by
  go_enter Tryd.func14, Tryd.ntmps14
  go_wp2
  go_ret
  exact ⟨rfl, rfl⟩
set_option maxHeartbeats 1000000 in
theorem code_code (n : Int) (w : World) (hn : 0 < n) (hv : ErrVar w) : Calls Tryd.prog 14 #[.iface 60 (.int .i64 n)] w fun e w' => e = .returned (.int .i64 n) ∧ Below w.heap.size w w' := by
  have hB : Below w.heap.size w (w.alloc (.cells #[.int .i64 0] 60)) := (Below.refl _ w).alloc (Nat.le_refl _) _
  have hc : (w.alloc (.cells #[.int .i64 0] 60)).cell? ⟨w.heap.size, 0, none⟩ = some (.int .i64 0) := by rw [World.cell?_alloc_at _ _ _ _ (by simp)]; rfl
  have c1 := as_code n ⟨w.heap.size, 0, none⟩ (.int .i64 0) (w.alloc (.cells #[.int .i64 0] 60)) (hv.below hB) hc (by simp)
  have B2 := hB.trans (after_below (w.alloc (.cells #[.int .i64 0] 60)) 63 60 ⟨w.heap.size, 0, none⟩ (.int .i64 n) (by simp))
  have k2 := after_cell (w.alloc (.cells #[.int .i64 0] 60)) 63 60 ⟨w.heap.size, 0, none⟩ (.int .i64 n) _ hc
  have C1 := hid c1
  have H2 := hid B2
  have K2 := hid k2
  clear c1 B2 k2 hB hc hv
  go_enter Tryd.func14, Tryd.ntmps14
  go_wp2_with fail
  refine C1.out.mono ?_
  rintro e W2 ⟨rfl, hW2⟩
  have k3 := K2.out
  have B3 := hid H2.out
  rw [← hW2] at k3 B3
  clear C1 H2 K2 hW2
  go_wp2_with fail
  go_ret
  exact ⟨rfl, B3.out⟩
end Go.Proofs.YtannfhbocfghkaaDoor.ErrAs

/- Texts joined: ShelfFmt, PageO, PageP, PageQ, ErrF, ErrAs, ErrAw. -/
import Derived.Test.YtjkdcladjjpmoaaGreatDoorJ02
import Derived.Shelf.Strings.Builder1
import Derived.Shelf.Small.Utf8
import Derived.Shelf.Small.Strs
import Derived.Shelf.Small.Wraps
import Derived.Shelf.Strings.BuilderF
import Derived.Shelf.Strings.BuilderK
import Derived.Shelf.Strconv.Itoa0
import Derived.Shelf.Strconv.Itoa1
import Derived.Shelf.LaysM
import Derived.Shelf.Strconv.Itoa2
import Derived.Shelf.Strconv.Itoa3
import Derived.Shelf.Strconv.Itoa4
import Derived.Shelf.Strconv.ParseIntEmpty
import Derived.Shelf.Strconv.Clone
import Derived.Shelf.Strconv.SyntaxError
import Derived.Shelf.LaysC
import Derived.Shelf.Strconv.ToError
import Derived.Shelf.Strconv.Lower
import Derived.Shelf.Strconv.ParseUint10
import Derived.Shelf.Strconv.ParseUint10Empty
import Derived.Shelf.Strconv.ParseUint10Any
import Derived.Shelf.Strconv.ParseInt10
import Derived.Shelf.Strconv.RangeError
import Derived.Shelf.Strconv.ToErrorRange
import Derived.Shelf.Strconv.ParseUintEmpty
import Derived.Shelf.Strconv.ParseUint10b64
import Derived.Shelf.Strconv.ParseUint10b32
import Derived.Shelf.Strconv.ParseUint10b16
import Derived.Shelf.Strconv.ParseUint10b8
import Derived.Shelf.Strconv.ParseUint10At
import Derived.Shelf.Strconv.ParseInt10At64
import Derived.Shelf.Strconv.ParseInt10At32
import Derived.Shelf.Strconv.ParseInt10At16
import Derived.Shelf.Strconv.ParseInt10At8
import Derived.Shelf.Strconv.ParseInt10All
import Derived.Shelf.Strconv.ParseIntPublic10
import Derived.Shelf.Strconv.ErrVarParseInt
import Derived.Shelf.Strings.Search1
import Derived.Shelf.Strings.Prefix
import Derived.Shelf.Strings.Runes
import Derived.Shelf.Unicode.DecodeSlow
import Derived.Shelf.Unicode.DecodeAny
import Derived.Shelf.Slices.Turned
import Derived.Test.YtjkdcladjjpmoaaGreatDoorProg
import Derived.Test.YtjkdcladjjpmoaaGreatDoorJ20
import Derived.Lib.AppendIntMem
import Derived.RangeFuncNested
import Derived.RangeFuncBound
import Derived.RangeFuncCalls
import Derived.RangeFuncLeaves
import Derived.Shelf.Abstract
import Derived.Shelf.RegionOpen
import Derived.WalkKit
import Derived.OwnWalkIn
import Derived.TacticsInMore
import Derived.LoopNIn
import Derived.LoopIn
import Derived.Maps.AppendAt
import Derived.Sort.QuietTacIn
import Derived.RangeFuncBox
import Derived.Test.YtjkdcladjjpmoaaGreatDoorJ25
import Derived.LaidEql
import Derived.Stop.Asserts
import Derived.RowKitTokens
/- More of the library's contracts at this dump, in plain words. -/
namespace Go.Proofs
open Go.Shelf
end Go.Proofs
/- Numbers put into digits: out of the library's contract of strconv.FormatInt. -/
namespace Go.Proofs.YtjkdcladjjpmoaaGreatDoor.PageC
open Go Go.RowKit Go.Lib Go.Sort Go.Proofs.YtjkdcladjjpmoaaGreatDoor.LexP Go.Proofs.YtjkdcladjjpmoaaGreatDoor.TreeP Go.Proofs.YtjkdcladjjpmoaaGreatDoor.LexC Go.Proofs.YtjkdcladjjpmoaaGreatDoor.TreeC

theorem decB_digits : ∀ (f n : Nat) (acc : List UInt8), 0 < f → n < 10 ^ f → decB f n acc = decDigits n ++ acc
  | 0, n, acc, h, _ => absurd h (by omega)
  | f + 1, n, acc, _, h => by
    rw [decB, decDigits]
    by_cases hn : n < 10
    · rw [if_pos (by omega), dif_pos hn, show n % 10 = n by omega]
      rfl
    · rw [if_neg (by omega), dif_neg hn]
      have hf : 0 < f := by
        rcases Nat.eq_zero_or_pos f with e | e
        · subst e; simp at h; omega
        · exact e
      rw [decB_digits f (n / 10) _ hf (by rw [Nat.pow_succ] at h; omega), List.append_assoc]
      rfl
theorem dec_digits (n : Nat) (h : n ≤ 999999999999999999) : dec n = decDigits n := by
  unfold dec
  have h20 : n < 10 ^ 20 := by
    have : (10 : Nat) ^ 20 = 100000000000000000000 := by decide
    omega
  rw [decB_digits 20 n [] (by decide) h20, List.append_nil]
theorem below_grown (w : World) (k : Nat) (os : Array Obj) : Below w.heap.size w (grow (w.drewN k) os) :=
  ⟨rfl, rfl, rfl, by simp [grow], fun i hi => by
    show ((w.heap ++ os)[i]?) = _
    rw [Array.getElem?_append_left hi]⟩
theorem fmt_of (w0 : World) (ht : Lib.TabIs Tryz.prog w0 "internal/strconv.uint64pow10" .u64 Lib.pow10Tab) : Fmt w0 := fun W hb n h0 h1 =>
  (Tryz.strconv_FormatInt_10 n (by omega) (by omega) W (tabBelow_of_tabIs ht W hb)).mono fun e w' ⟨h2, k, os, h3⟩ => by
    refine ⟨?_, by rw [h3]; exact below_grown W k os⟩
    rw [h2, dec_digits n.toNat (by omega)]
    unfold Lib.itoa
    rw [if_neg (by omega)]
end Go.Proofs.YtjkdcladjjpmoaaGreatDoor.PageC
/- slices.Chunk at slices of strings by two: the iterator's contract (a range over a function). -/
namespace Go.Proofs.YtjkdcladjjpmoaaGreatDoor.PageC
open Go Go.RowKit Go.Shelf Go.Lib Go.Sort Go.Proofs.YtjkdcladjjpmoaaGreatDoor.LexP Go.Proofs.YtjkdcladjjpmoaaGreatDoor.TreeP Go.Proofs.YtjkdcladjjpmoaaGreatDoor.LexC Go.Proofs.YtjkdcladjjpmoaaGreatDoor.TreeC
attribute [local go_sem] Oper.semAt_some

/-- slices.Chunk(s, 2): a closure over two boxes -/
theorem chunk_made (pa : Option Addr) (n cap : Nat) (W : World) :
    Calls Tryz.prog 98 #[.slice pa n cap, .int .i64 2] W fun e W1 => e = .returned (.func (.func 150) #[] #[.pointer (some ⟨W.heap.size, 0, none⟩), .pointer (some ⟨W.heap.size + 1, 0, none⟩)]) ∧ Below W.heap.size W W1 ∧ W1.cell? ⟨W.heap.size, 0, none⟩ = some (.slice pa n cap) ∧ W1.cell? ⟨W.heap.size + 1, 0, none⟩ = some (.int .i64 2) ∧ W1.heap.size = W.heap.size + 2 := by
  go_enter Tryz.func98, Tryz.ntmps98
  go_wp2_with fail
  go_ret
  refine ⟨rfl, ((Below.refl _ W).alloc (Nat.le_refl _) _).alloc (by simp) _, ?_, ?_, by simp⟩
  · exact (cell_alloc_old _ _ (by simp)).trans (cell_one_new W (.slice pa n cap) 46 0 _ rfl)
  · have : ((W.alloc (.cells #[.slice pa n cap] 46)).alloc (.cells #[.int .i64 2] 3)).cell? ⟨(W.alloc (.cells #[.slice pa n cap] 46)).heap.size, 0, none⟩ = some (.int .i64 2) := cell_one_new _ _ _ 0 _ rfl
    rwa [World.size_alloc] at this

set_option maxHeartbeats 2000000 in
set_option maxRecDepth 100000 in
theorem chunk_stops (F : Fence) (n : Nat) (hf : F.fn 150) (hro : F.round = none) (hn : 1 ≤ n) (b off cap M B1 B2 : Nat) (hM : 2 * M ≤ 1048576) (hc : 2 * M ≤ cap) (n₀ : Nat) (w : World) (hn₀ : n₀ ≤ w.heap.size) (h1 : B1 < n₀) (h2 : B2 < n₀)
    (c1 : w.cell? ⟨B1, 0, none⟩ = some (.slice (some ⟨b, off, none⟩) (2 * M) cap)) (c2 : w.cell? ⟨B2, 0, none⟩ = some (.int .i64 2)) :
    SeqStopsK F n Tryz.prog 150 #[.pointer (some ⟨B1, 0, none⟩), .pointer (some ⟨B2, 0, none⟩)] (fun i : Nat => #[.slice (some ⟨b, off + 2 * i, none⟩) 2 2]) (Below n₀) (fun xs => xs = List.range M) (fun _ => True) M w := fun l J Jx W hW hJ hJx hY h0 => by
  refine callsIn_of_wp Tryz.func150 rfl hf ?_ hro
  simp only [Tryz.ntmps150, List.size_toArray, List.length_cons, List.length_nil, Nat.reduceAdd, Nat.reduceSub, Array.replicate_succ, Array.replicate_zero, List.push_toArray, List.append_toArray, List.nil_append, List.cons_append]
  have c1W := hid ((hW.cell (p := ⟨B1, 0, none⟩) (Nat.lt_of_lt_of_le h1 hn₀)).trans c1)
  have c2W := hid ((hW.cell (p := ⟨B2, 0, none⟩) (Nat.lt_of_lt_of_le h2 hn₀)).trans c2)
  obtain ⟨Q, hQ⟩ : ∃ Q, Q = 2 * M := ⟨_, rfl⟩
  rw [← hQ] at c1W hM hc
  have HQ := hid hQ
  clear hQ c1 c2
  have hB1 : B1 < W.heap.size := Nat.lt_of_lt_of_le (Nat.lt_of_lt_of_le h1 hn₀) hW.size
  have hB2 : B2 < W.heap.size := Nat.lt_of_lt_of_le (Nat.lt_of_lt_of_le h2 hn₀) hW.size
  gi_wp2
  gi_loopw [4] (fun i wr => ∃ k k2 : Nat, i = .int .i64 (k2 : Int) ∧ Hid (k2 = 2 * k) ∧ k2 ≤ Q ∧ J (List.range k) wr ∧ Hid (Below n₀ W wr))
    (fun i _ => Q - (intOf i).toNat)
  case atStart => exact ⟨0, 0, rfl, hid rfl, Nat.zero_le _, h0, hid (Below.refl _ _)⟩
  case round =>
    obtain ⟨k, k2, rfl, HK, hk, hJs, HB⟩ := hrel
    have d1 : wr.cell? ⟨B1, 0, none⟩ = some (.slice (some ⟨b, off, none⟩) Q cap) := (HB.out.cell (p := ⟨B1, 0, none⟩) h1).trans c1W.out
    have d2 : wr.cell? ⟨B2, 0, none⟩ = some (.int .i64 2) := (HB.out.cell (p := ⟨B2, 0, none⟩) h2).trans c2W.out
    by_cases hlt : k2 < Q
    · have hlt2 : k2 + 2 ≤ Q := by have := HK.out; have := HQ.out; omega
      have q0 : (0 : Int) ≤ (k2 : Int) := Int.natCast_nonneg _
      gi_wp2
      refine wpIn_region_quiet_lit hro (by kernel_rfl) (by kernel_rfl) ?_
      repeat (quiet_step_in (fail))
      refine wpQuietIn_nil ?_
      intro _ hw'
      obtain ⟨nq, hw''⟩ := hw'
      subst hw''
      have hmin : min (2 : Int) ((Q - k2 : Nat) : Int) = 2 := by omega
      rw [hmin]
      clear hmin
      generalize Value.slice (if cap = k2 then _ else _) (Q - k2) (cap - k2) = v16
      have hJ2 : J (List.range k) (wr.drewN nq) := hJ _ wr _ none hJs ⟨rfl, rfl, rfl, Nat.le_refl _, fun _ _ _ => rfl⟩ (fun r e => by cases e)
      have HB2 := hid (HB.out.trans (show Below n₀ wr (wr.drewN nq) from ⟨rfl, rfl, rfl, Nat.le_refl _, fun _ _ => rfl⟩))
      have e1 : (wr.drewN nq).cell? ⟨B1, 0, none⟩ = some (.slice (some ⟨b, off, none⟩) Q cap) := d1
      have e2 : (wr.drewN nq).cell? ⟨B2, 0, none⟩ = some (.int .i64 2) := d2
      generalize wr.drewN nq = wd at *
      obtain ⟨fn, tmps, assign, body, hy, hR⟩ := hY (List.range k) k wd hJ2 (by rw [List.length_range]; have := HK.out; have := HQ.out; omega)
      rw [← HK.out] at hy
      have q1 : (k2 : Int) + 2 ≤ (Q : Int) := by omega
      have q2 : ((k2 : Int) + 2).toNat = k2 + 2 := by omega
      clear hY hJ hJx
      gi_wp2
      refine hR.mono ?_
      rintro e W3 (⟨rfl, hJ3, hk3⟩ | ⟨rfl, hJx3⟩)
      · have e3 : W3.cell? ⟨B2, 0, none⟩ = some (.int .i64 2) := (hk3.cell (p := ⟨B2, 0, none⟩) h2).trans e2
        clear q2
        gi_wp2
        go_roundw
        case rel => exact ⟨k + 1, k2 + 2, by go_num, hid (by have := HK.out; omega), hlt2, by rw [List.range_succ]; exact hJ3, hid (HB2.out.trans hk3)⟩
        case measure => simp [intOf]; omega
      · gi_wp2
        refine bodyPost_ret (results_none rfl _ _ _) rfl ?_
        exact ⟨⟨_, rfl⟩, .inr ⟨_, trivial, hJx3⟩⟩
    · obtain rfl : k2 = Q := by omega
      have hkM : k = M := by have := HK.out; have := HQ.out; omega
      subst hkM
      gi_wp2
      go_end0
      exact ⟨⟨_, rfl⟩, .inl ⟨_, rfl, hJs⟩⟩
end Go.Proofs.YtjkdcladjjpmoaaGreatDoor.PageC
/- slices.Collect of slices.Chunk by two. -/
namespace Go.Proofs.YtjkdcladjjpmoaaGreatDoor.PageC
open Go Go.RowKit Go.Shelf Go.Lib Go.Sort Go.Proofs.YtjkdcladjjpmoaaGreatDoor.LexP Go.Proofs.YtjkdcladjjpmoaaGreatDoor.TreeP Go.Proofs.YtjkdcladjjpmoaaGreatDoor.LexC Go.Proofs.YtjkdcladjjpmoaaGreatDoor.TreeC
attribute [local go_sem] Oper.semAt_some

theorem strs_info : (Tryz.prog.info? 46).map (fun i => (i.zero, i.size, i.bytes)) = some (some (.slice none 0 0), 1, 24) := by kernel_rfl
/-- two of a slice's elements -/
def two (b off : Nat) (i : Nat) : Value := .slice (some ⟨b, off + 2 * i, none⟩) 2 2

set_option maxHeartbeats 2000000 in
set_option maxRecDepth 100000 in
theorem append_in (F : Fence) (n : Nat) (h1 : F.fn 149) (hf : F.fn 150) (hro : F.round = none) (hn : 3 ≤ n) (b off N : Nat) (lb : Array Value) (hN : N ≤ 1048576) (S : List Nat → Prop) (w : World)
    (hseq : ∀ w', Below w.heap.size w w' → SeqStopsK F (n - 1) Tryz.prog 150 lb (fun i : Nat => #[two b off i]) (Below w.heap.size) S (fun _ => True) N w') :
    CallsIn F n Tryz.prog 149 #[.slice none 0 0, .func (.func 150) #[] lb] w fun e W' => ∃ v xs, e = .returned v ∧ S xs ∧ W'.ownsRow w.heap.size 46 1 v xs.length (xs.map (two b off)) ∧ Below w.heap.size w W' := by
  have hn1 : 1 ≤ n := by omega
  obtain ⟨i0, hi, hz0, hz1, hz2⟩ := info_parts strs_info
  refine callsIn_of_wp_marks Tryz.func149 rfl h1 ?_ hro
  simp only [Tryz.ntmps149, List.size_toArray, List.length_cons, List.length_nil, Nat.reduceAdd, Nat.reduceSub, Array.replicate_succ, Array.replicate_zero, List.push_toArray, List.append_toArray, List.nil_append, List.cons_append]
  gi_wp2
  have bO := Boxed.new w 142 (.slice none 0 0)
  have hB0 : Below w.heap.size w (w.alloc (.cells #[.slice none 0 0] 142)) := (Below.refl _ w).alloc (Nat.le_refl _) _
  refine wpIn_rangeFunc_ownG hro hn1 (gf := 150) (lb := lb) rfl hf (enters_of Tryz.func150 (by kernel_rfl) rfl)
    (hseq _ hB0) belowK_t (belowK_b (by simp)) (Below.refl _ _) (fun _ => rfl)
    (fun pre W => (∃ v, Boxed W w.heap.size 142 v ∧ W.ownsRow w.heap.size 46 1 v pre.length (pre.map (two b off)) ∧ True) ∧ Below w.heap.size w W)
    (fun _ _ _ => False)
    (OwnFrom.and (Own.from (holdsRow_own w.heap.size w.heap.size 142 46 1 (fun pre : List Nat => pre.length) (fun pre => pre.map (two b off)) (fun _ _ => True)) _) (ownFrom_below (Nat.le_refl _) (by simp)))
    (fun _ _ _ _ _ hs _ _ => hs)
    ⟨⟨_, bO, World.ownsRow_nil _ _ _ _, trivial⟩, hB0⟩
    (fun x => { tmps := #[.slice none 0 0, .func (.func 150) #[] lb, .pointer (some ⟨w.heap.size, 0, none⟩), undef, .slice none 0 0, two b off x, .func (.func 150) #[] lb, two b off x, undef, undef, undef, undef, undef], defers := [] }) ?assign ?body ?done ?stop
  case assign =>
    intro l x W K hK
    gi_wp2
    exact hK
  case body =>
    rintro l pre x W ⟨⟨v, hv, hrow, _⟩, hB⟩ hlt
    have hc := hv.cell
    unfold two
    gi_wp2_with (gi_at_builtin; refine wpListIn_append_own _ rfl _ _ 142 rfl w.heap.size 46 i0 (.slice none 0 0) 1 24 Tryz.underlying142 hi hz0 hz1 hz2 rfl (by decide) _ _ _ rfl (hrow.alloc _) ⟨W.heap.size, 0, none⟩ 1 1 [two b off x] rfl rfl (cell_one_new _ _ _) (by simp [Value.oneCell', two]) (by unfold maxLen; omega) (by omega) (by have := hB.size; simp; omega) ?_; intro v' w1 hown' hgrow _; obtain ⟨g', cap', rfl⟩ := ownsRow_succ hown'; obtain ⟨hv1, hv2, hr2, hk2, hb2⟩ := hv.appended (by decide) hrow hB.size (Nat.le_refl _) hown' hgrow; have hc1 := hv1.cell; have hf1 := hv1.frozen)
    exact ⟨hk2.from _, hb2, ⟨_, hv2, by rw [List.map_append, List.length_append]; exact hr2, trivial⟩, hB.trans hb2⟩
  case done =>
    rintro D ys W hD hS ⟨⟨v, hv, hrow, _⟩, hB⟩ hK
    have hc := hv.cell
    gi_wp2
    refine ⟨by simp, .inl ⟨_, _, rfl, run_takeDeferred hK, ?_⟩⟩
    exact ⟨_, results_tmp rfl _ _ _, v, ys, rfl, hS, ownsRow_putObj hrow _ hK rfl, hB.trans (belowK_b (w := w) (Nat.le_refl _) W D _ _ (by simp at hD; omega) hK rfl rfl)⟩
  case stop =>
    rintro D c pre W _ _ h _
    exact h.elim

/-- elements of one cell each in a row of one's own, seen where older blocks are hidden -/
theorem owns_vals {w : World} {base : Nat} {e : TypeId} {v : Value} {l : List Value} (h : w.ownsRow base e 1 v l.length l) (pb : Nat) (r : Option Nat) (h1 : pb < base) (h2 : ∀ g, r = some g → g < base) : Lies (hush2 pb r w) 1 v (l.map fun x => [x]) := by
  obtain ⟨_, ⟨rfl, h3⟩ | ⟨g, cap, cur, rfl, h3, h4, h5, h6, h7, h8⟩⟩ := id h
  · have : l = [] := List.eq_nil_of_length_eq_zero h3
    subst this
    exact lies_none
  · refine ⟨some ⟨g, 0, none⟩, cap, by rw [List.length_map], by rw [List.length_map]; exact h5, fun _ => ⟨g, 0, rfl, fun i c hi j u hj => ?_⟩⟩
    rw [List.getElem?_map] at hi
    obtain ⟨x, hx, rfl⟩ := Option.map_eq_some_iff.1 hi
    match j, hj with
    | 0, hj =>
      simp at hj; subst hj
      rw [Nat.zero_add, Nat.mul_one, Nat.add_zero]
      exact hush2_in (owns_cell h hx) (by omega) (fun e => by have := h2 g e.symm; omega)
    | j + 1, hj => simp at hj

set_option maxHeartbeats 2000000 in
theorem collect_in (F : Fence) (n : Nat) (h0 : F.fn 97) (h1 : F.fn 149) (hf : F.fn 150) (hro : F.round = none) (hn : 4 ≤ n) (b off N : Nat) (lb : Array Value) (hN : N ≤ 1048576) (S : List Nat → Prop) (w : World)
    (hseq : ∀ w', Below w.heap.size w w' → SeqStopsK F (n - 1 - 1) Tryz.prog 150 lb (fun i : Nat => #[two b off i]) (Below w.heap.size) S (fun _ => True) N w') :
    CallsIn F n Tryz.prog 97 #[.func (.func 150) #[] lb] w fun e W' => ∃ v xs, e = .returned v ∧ S xs ∧ W'.ownsRow w.heap.size 46 1 v xs.length (xs.map (two b off)) ∧ Below w.heap.size w W' := by
  refine callsIn_of_wp Tryz.func97 rfl h0 ?_ hro
  simp only [Tryz.ntmps97, List.size_toArray, List.length_cons, List.length_nil, Nat.reduceAdd, Nat.reduceSub, Array.replicate_succ, Array.replicate_zero, List.push_toArray, List.append_toArray, List.nil_append, List.cons_append]
  gi_wp2_with (refine ⟨fun _ => by omega, ?_⟩; gi_at_call 149; refine (append_in F (n - 1) h1 hf hro (by omega) b off N lb hN S _ hseq).mono ?_; rintro e W' ⟨v, xs, rfl, hS, hrow, hb⟩)
  go_ret
  exact ⟨v, xs, rfl, hS, hrow, hb⟩

theorem collects (w0 : World) : Collects w0 := by
  intro outs v W hl he h30 hpos hB
  obtain ⟨p, cap, rfl, hc, hx⟩ := id hl
  obtain ⟨b, off, rfl, _⟩ := hx (by intro e; rw [List.map_eq_nil_iff] at e; rw [e] at hpos; simp at hpos)
  rw [List.length_map] at *
  refine (chunk_made _ _ _ W).mono ?_
  rintro e W1 ⟨rfl, hb, c1, c2, hs⟩
  refine ⟨_, rfl, hb, ?_⟩
  obtain ⟨M, hM⟩ : ∃ M, outs.length = 2 * M := ⟨outs.length / 2, by omega⟩
  rw [hM] at c1 hc ⊢
  refine callsIn_wide (n := 10) |>.1 ((collect_in Fence.wide 10 trivial trivial trivial rfl (by omega) b off M _ (by omega) (fun xs => xs = List.range M) W1 fun w' hb' => ?_).mono ?_)
  · exact chunk_stops Fence.wide (10 - 1 - 1) trivial rfl (by omega) b off cap M W.heap.size (W.heap.size + 1) (by omega) hc W1.heap.size w' hb'.size (by omega) (by omega) ((hb'.cell (p := ⟨W.heap.size, 0, none⟩) (by simp; omega)).trans c1) ((hb'.cell (p := ⟨W.heap.size + 1, 0, none⟩) (by simp; omega)).trans c2)
  · rintro e W2 ⟨u, xs, rfl, rfl, hrow, hb2⟩
    refine ⟨u, rfl, hb2, fun pb r h1 h2 => ?_⟩
    have := owns_vals (l := (List.range M).map (two b off)) (by rw [List.length_map]; exact hrow) pb r h1 h2
    rw [show pairsV (.slice (some ⟨b, off, none⟩) (2 * M) cap) (2 * M) = (List.range M).map (two b off) by unfold pairsV two; rw [Nat.mul_div_cancel_left _ (by omega)]]
    exact this
end Go.Proofs.YtjkdcladjjpmoaaGreatDoor.PageC
/- Closed facts on reflectlite at the program's types, for errors.As at its two targets: a code (*api.Code) and a fault (**api.Fault); the error a code, or a fault that wraps a code. -/
namespace Go.Proofs.YtjkdcladjjpmoaaGreatDoor.ErrAs
open Go Go.RowKit Go.Extern.Stop Go.Stop Go.Extern

/-- reflectlite's handle of a type -/
abbrev hd (t : Nat) : Value := .pointer (some ⟨9, t, none⟩)
/-- a Value of a type, at an address -/
abbrev rv (t : Nat) (p : Addr) (fl : Int) : Value := .agg #[hd t, .pointer (some p), .int .u64 fl]

theorem unpackPC (t : Addr) (w : World) : (ReflectliteValue.unpack (.iface 77 (.pointer (some t)))).run Tryz.prog w = .ok (rv 77 ⟨w.heap.size, 0, none⟩ 150) (w.alloc (.cells #[.pointer (some t)] 77)) := by kernel_rfl
theorem typePC (a : Addr) (w : World) : (ReflectliteValue.methodAny (ReflectliteValue.valueError "reflectlite.Value.Type" 0) (fun t _ _ _ => ReflectliteType.toType t) #[rv 77 a 150]).run Tryz.prog w = .ok (.iface 227 (.agg #[hd 77])) w := by kernel_rfl
theorem mKind (h : Value) (w : World) : (Go.method 451 227 (.agg #[h]) "Kind").run Tryz.prog w = .ok (309, h) w := by kernel_rfl
theorem mElem (h : Value) (w : World) : (Go.method 451 227 (.agg #[h]) "Elem").run Tryz.prog w = .ok (322, .agg #[h]) w := by kernel_rfl
theorem mImpl (h : Value) (w : World) : (Go.method 451 227 (.agg #[h]) "Implements").run Tryz.prog w = .ok (323, .agg #[h]) w := by kernel_rfl
theorem mAssign (h : Value) (w : World) : (Go.method 451 227 (.agg #[h]) "AssignableTo").run Tryz.prog w = .ok (320, .agg #[h]) w := by kernel_rfl
theorem kindPC (w : World) : ((ReflectliteType.abiMethod fun t => (fun a : Nat => Value.int IntKind.u8 (a : Int)) <$> Rtype.kind t) #[hd 77]).run Tryz.prog w = .ok (.int .u8 22) w := by kernel_rfl
theorem kindC (w : World) : ((ReflectliteType.abiMethod fun t => (fun a : Nat => Value.int IntKind.u8 (a : Int)) <$> Rtype.kind t) #[hd 67]).run Tryz.prog w = .ok (.int .u8 2) w := by kernel_rfl
theorem elemPC (w : World) : (ReflectliteType.method ReflectliteType.elem #[.agg #[hd 77]]).run Tryz.prog w = .ok (.iface 227 (.agg #[hd 67])) w := by kernel_rfl
theorem implC (w : World) : (ReflectliteType.relation "Implements" ReflectliteType.implements_ #[.agg #[hd 67], .iface 227 (.agg #[hd 27])]).run Tryz.prog w = .ok (.bool true) w := by kernel_rfl
theorem typeOfC (v : Value) (w : World) : (ReflectliteType.typeOf #[.iface 67 v]).run Tryz.prog w = .ok (.iface 227 (.agg #[hd 67])) w := by kernel_rfl
theorem assignCC (w : World) : (ReflectliteType.relation "AssignableTo" ReflectliteType.assignableTo #[.agg #[hd 67], .iface 227 (.agg #[hd 67])]).run Tryz.prog w = .ok (.bool true) w := by kernel_rfl
theorem unpackC (n : Int) (w : World) : (ReflectliteValue.unpack (.iface 67 (.int .i64 n))).run Tryz.prog w = .ok (rv 67 ⟨w.heap.size, 0, none⟩ 130) (w.alloc (.cells #[.int .i64 n] 67)) := by kernel_rfl
theorem elemQPC (w : World) : (Rtype.elem? 77).run Tryz.prog w = .ok (some 67) w := by kernel_rfl
theorem mkC (p : Addr) (w : World) : (ReflectliteValue.mk 67 p ReflectliteValue.flagAddr).run Tryz.prog w = .ok (rv 67 p 386) w := by kernel_rfl
theorem partsPC (a : Addr) (w : World) : (ReflectliteValue.parts (rv 77 a 150)).run Tryz.prog w = .ok (some (77, a, 150)) w := by kernel_rfl
theorem partsC (a : Addr) (w : World) : (ReflectliteValue.parts (rv 67 a 386)).run Tryz.prog w = .ok (some (67, a, 386)) w := by kernel_rfl
theorem partsC' (a : Addr) (w : World) : (ReflectliteValue.parts (rv 67 a 130)).run Tryz.prog w = .ok (some (67, a, 130)) w := by kernel_rfl
theorem directC (w : World) : (Rtype.directlyAssignable 67 67).run Tryz.prog w = .ok true w := by kernel_rfl

theorem method_eq (z : Sem Value) (f : TypeId → Addr → Nat → Nat → Sem Value) (v : Value) :
    ReflectliteValue.method z f #[v] = (do match ← ReflectliteValue.parts v with | none => z | some (t, a, fl) => f t a fl (fl % 32)) := rfl
theorem isNilPC (a p : Addr) (W : World) (ha : W.cell? a = some (.pointer (some p))) :
    (ReflectliteValue.method (ReflectliteValue.valueError "reflectlite.Value.IsNil" 0) ReflectliteValue.isNil #[rv 77 a 150]).run Tryz.prog W = .ok (.bool false) W := by
  rw [method_eq]
  simp only [Sem.run_bind, partsPC, Result.andThen]
  simp [ReflectliteValue.isNil, loadVar, isAgg, underlying, Tryz.underlying77, ha, Result.andThen]
theorem elemVPC (a p : Addr) (W : World) (ha : W.cell? a = some (.pointer (some p))) :
    (ReflectliteValue.method (ReflectliteValue.valueError "reflectlite.Value.Elem" 0) ReflectliteValue.elem #[rv 77 a 150]).run Tryz.prog W = .ok (rv 67 p 386) W := by
  rw [method_eq]
  simp only [Sem.run_bind, partsPC, Result.andThen]
  simp [ReflectliteValue.elem, loadVar, isAgg, underlying, Tryz.underlying77, ha, Result.andThen, elemQPC, mkC]
theorem setC (ta b : Addr) (n : Int) (old : Value) (W : World) (hb : W.cell? b = some (.int .i64 n)) (ht : W.cell? ta = some old) (hf : W.frozen? ta = false) :
    (ReflectliteValue.set #[rv 67 ta 386, rv 67 b 130]).run Tryz.prog W = .ok (.tuple #[]) (W.setCell ta (.int .i64 n)) := by
  rw [show ReflectliteValue.set #[rv 67 ta 386, rv 67 b 130] = (ReflectliteValue.parts (rv 67 ta 386) >>= fun p => ReflectliteValue.parts (rv 67 b 130) >>= _) from rfl]
  simp only [Sem.run_bind, partsC, partsC', Result.andThen]
  simp [ReflectliteValue.flagAddr, loadVar, isAgg, underlying, Tryz.underlying67, hb, Result.andThen, directC, storeVar, Value.cells, storeCells, Addr.add]
  rw [run_store Tryz.prog W ta _ _ (by rfl)]
  simp [ht, hf]


/-! The target **api.Fault; the error *api.Fault -/
theorem unpackPPF (t : Addr) (w : World) : (ReflectliteValue.unpack (.iface 167 (.pointer (some t)))).run Tryz.prog w = .ok (rv 167 ⟨w.heap.size, 0, none⟩ 150) (w.alloc (.cells #[.pointer (some t)] 167)) := by kernel_rfl
theorem typePPF (a : Addr) (w : World) : (ReflectliteValue.methodAny (ReflectliteValue.valueError "reflectlite.Value.Type" 0) (fun t _ _ _ => ReflectliteType.toType t) #[rv 167 a 150]).run Tryz.prog w = .ok (.iface 227 (.agg #[hd 167])) w := by kernel_rfl
theorem kindPPF (w : World) : ((ReflectliteType.abiMethod fun t => (fun a : Nat => Value.int IntKind.u8 (a : Int)) <$> Rtype.kind t) #[hd 167]).run Tryz.prog w = .ok (.int .u8 22) w := by kernel_rfl
theorem kindPF (w : World) : ((ReflectliteType.abiMethod fun t => (fun a : Nat => Value.int IntKind.u8 (a : Int)) <$> Rtype.kind t) #[hd 101]).run Tryz.prog w = .ok (.int .u8 22) w := by kernel_rfl
theorem elemPPF (w : World) : (ReflectliteType.method ReflectliteType.elem #[.agg #[hd 167]]).run Tryz.prog w = .ok (.iface 227 (.agg #[hd 101])) w := by kernel_rfl
theorem implPF (w : World) : (ReflectliteType.relation "Implements" ReflectliteType.implements_ #[.agg #[hd 101], .iface 227 (.agg #[hd 27])]).run Tryz.prog w = .ok (.bool true) w := by kernel_rfl
theorem typeOfPF (v : Value) (w : World) : (ReflectliteType.typeOf #[.iface 101 v]).run Tryz.prog w = .ok (.iface 227 (.agg #[hd 101])) w := by kernel_rfl
theorem assignFF (w : World) : (ReflectliteType.relation "AssignableTo" ReflectliteType.assignableTo #[.agg #[hd 101], .iface 227 (.agg #[hd 101])]).run Tryz.prog w = .ok (.bool true) w := by kernel_rfl
theorem assignFC (w : World) : (ReflectliteType.relation "AssignableTo" ReflectliteType.assignableTo #[.agg #[hd 101], .iface 227 (.agg #[hd 67])]).run Tryz.prog w = .ok (.bool false) w := by kernel_rfl
theorem unpackPF (p : Addr) (w : World) : (ReflectliteValue.unpack (.iface 101 (.pointer (some p)))).run Tryz.prog w = .ok (rv 101 ⟨w.heap.size, 0, none⟩ 150) (w.alloc (.cells #[.pointer (some p)] 101)) := by kernel_rfl
theorem elemQPPF (w : World) : (Rtype.elem? 167).run Tryz.prog w = .ok (some 101) w := by kernel_rfl
theorem mkPF (p : Addr) (w : World) : (ReflectliteValue.mk 101 p ReflectliteValue.flagAddr).run Tryz.prog w = .ok (rv 101 p 406) w := by kernel_rfl
theorem partsPPF (a : Addr) (w : World) : (ReflectliteValue.parts (rv 167 a 150)).run Tryz.prog w = .ok (some (167, a, 150)) w := by kernel_rfl
theorem partsPF (a : Addr) (w : World) : (ReflectliteValue.parts (rv 101 a 406)).run Tryz.prog w = .ok (some (101, a, 406)) w := by kernel_rfl
theorem partsPF' (a : Addr) (w : World) : (ReflectliteValue.parts (rv 101 a 150)).run Tryz.prog w = .ok (some (101, a, 150)) w := by kernel_rfl
theorem directPF (w : World) : (Rtype.directlyAssignable 101 101).run Tryz.prog w = .ok true w := by kernel_rfl
theorem isNilPPF (a p : Addr) (W : World) (ha : W.cell? a = some (.pointer (some p))) :
    (ReflectliteValue.method (ReflectliteValue.valueError "reflectlite.Value.IsNil" 0) ReflectliteValue.isNil #[rv 167 a 150]).run Tryz.prog W = .ok (.bool false) W := by
  rw [method_eq]
  simp only [Sem.run_bind, partsPPF, Result.andThen]
  simp [ReflectliteValue.isNil, loadVar, isAgg, underlying, Tryz.underlying167, ha, Result.andThen]
theorem elemVPPF (a p : Addr) (W : World) (ha : W.cell? a = some (.pointer (some p))) :
    (ReflectliteValue.method (ReflectliteValue.valueError "reflectlite.Value.Elem" 0) ReflectliteValue.elem #[rv 167 a 150]).run Tryz.prog W = .ok (rv 101 p 406) W := by
  rw [method_eq]
  simp only [Sem.run_bind, partsPPF, Result.andThen]
  simp [ReflectliteValue.elem, loadVar, isAgg, underlying, Tryz.underlying167, ha, Result.andThen, elemQPPF, mkPF]
theorem setPF (ta b e : Addr) (old : Value) (W : World) (hb : W.cell? b = some (.pointer (some e))) (ht : W.cell? ta = some old) (hf : W.frozen? ta = false) :
    (ReflectliteValue.set #[rv 101 ta 406, rv 101 b 150]).run Tryz.prog W = .ok (.tuple #[]) (W.setCell ta (.pointer (some e))) := by
  rw [show ReflectliteValue.set #[rv 101 ta 406, rv 101 b 150] = (ReflectliteValue.parts (rv 101 ta 406) >>= fun p => ReflectliteValue.parts (rv 101 b 150) >>= _) from rfl]
  simp only [Sem.run_bind, partsPF, partsPF', Result.andThen]
  simp [ReflectliteValue.flagAddr, loadVar, isAgg, underlying, Tryz.underlying101, hb, Result.andThen, directPF, storeVar, Value.cells, storeCells, Addr.add]
  rw [run_store Tryz.prog W ta _ _ (by rfl)]
  simp [ht, hf]
theorem unwrapAhead (a : Addr) (w : World) : (nilAhead 451 101 (.pointer (some a)) "Unwrap").run Tryz.prog w = .ok (some false) w := by kernel_rfl
theorem unwrapIs (a : Addr) (w : World) : (Go.method 451 101 (.pointer (some a)) "Unwrap").run Tryz.prog w = .ok (315, .pointer (some a)) w := by kernel_rfl
end Go.Proofs.YtjkdcladjjpmoaaGreatDoor.ErrAs
/- errors.As at the program's two targets: a code (*api.Code) and a fault (**api.Fault); the error a code, or a fault that wraps a code. -/
namespace Go.Proofs.YtjkdcladjjpmoaaGreatDoor.ErrAs
open Go Go.RowKit Go.Extern.Stop Go.Stop Go.Extern

/-- the memory behind errors.As: reflectlite's copies -/
abbrev behind (w : World) (T E : Nat) (t : Addr) (v : Value) : World :=
  (((w.alloc (.cells #[.pointer (some t)] T)).alloc (.cells #[hd T, .pointer (some ⟨w.heap.size, 0, none⟩), .int .u64 150] 155)).alloc (.cells #[hd T, .pointer (some ⟨w.heap.size, 0, none⟩), .int .u64 150] 155)).alloc (.cells #[v] E)

theorem as_nil (t : Value) (w : World) : Calls Tryz.prog 46 #[.nilIface, t] w fun e w' => e = .returned (.bool false) ∧ w = w' := by
  go_enter Tryz.func46, Tryz.ntmps46
  go_wp2
  go_ret
  exact ⟨rfl, rfl⟩
set_option maxHeartbeats 4000000 in
theorem as_code (n : Int) (t : Addr) (old : Value) (w : World) (hg : w.cell? ⟨0, 0, none⟩ = some (.iface 227 (.agg #[hd 27]))) (ht0 : w.cell? t = some old) (hf0 : w.frozen? t = false) :
    Calls Tryz.prog 46 #[.iface 67 (.int .i64 n), .iface 77 (.pointer (some t))] w fun ev w' => ev = .returned (.bool true) ∧ w' = (behind w 77 67 t (.int .i64 n)).setCell t (.int .i64 n) := by
  have h1 := @run_callFunc_extern Tryz.prog 103 _ (fun args => ReflectliteValue.unpack (args.getD 0 (.tuple #[]))) Tryz.func103 (by kernel_rfl) (by kernel_rfl) (by kernel_rfl) (by kernel_rfl)
  have h2 := @run_callFunc_extern Tryz.prog 104 _ (ReflectliteValue.methodAny (ReflectliteValue.valueError "reflectlite.Value.Type" 0) (fun t _ _ _ => ReflectliteType.toType t)) Tryz.func104 (by kernel_rfl) (by kernel_rfl) (by kernel_rfl) (by kernel_rfl)
  have h3 := @run_callFunc_extern Tryz.prog 105 _ (ReflectliteValue.method (ReflectliteValue.valueError "reflectlite.Value.IsNil" 0) ReflectliteValue.isNil) Tryz.func105 (by kernel_rfl) (by kernel_rfl) (by kernel_rfl) (by kernel_rfl)
  have h4 := @run_callFunc_extern Tryz.prog 309 _ (ReflectliteType.abiMethod fun t => do pure (.int .u8 (← Rtype.kind t))) Tryz.func309 (by kernel_rfl) (by kernel_rfl) (by kernel_rfl) (by kernel_rfl)
  have h5 := @run_callFunc_extern Tryz.prog 322 _ (ReflectliteType.method ReflectliteType.elem) Tryz.func322 (by kernel_rfl) (by kernel_rfl) (by kernel_rfl) (by kernel_rfl)
  have h6 := @run_callFunc_extern Tryz.prog 323 _ (ReflectliteType.relation "Implements" ReflectliteType.implements_) Tryz.func323 (by kernel_rfl) (by kernel_rfl) (by kernel_rfl) (by kernel_rfl)
  have h7 := @run_callFunc_extern Tryz.prog 155 _ ReflectliteType.typeOf Tryz.func155 (by kernel_rfl) (by kernel_rfl) (by kernel_rfl) (by kernel_rfl)
  have h8 := @run_callFunc_extern Tryz.prog 320 _ (ReflectliteType.relation "AssignableTo" ReflectliteType.assignableTo) Tryz.func320 (by kernel_rfl) (by kernel_rfl) (by kernel_rfl) (by kernel_rfl)
  have h9 := @run_callFunc_extern Tryz.prog 156 _ (ReflectliteValue.method (ReflectliteValue.valueError "reflectlite.Value.Elem" 0) ReflectliteValue.elem) Tryz.func156 (by kernel_rfl) (by kernel_rfl) (by kernel_rfl) (by kernel_rfl)
  have h10 := @run_callFunc_extern Tryz.prog 157 _ ReflectliteValue.set Tryz.func157 (by kernel_rfl) (by kernel_rfl) (by kernel_rfl) (by kernel_rfl)
  have q1 := unpackPC
  have q2 := typePC
  have q3 := mKind
  have q4 := mElem
  have q5 := mImpl
  have q6 := mAssign
  have q7 := kindPC
  have q8 := kindC
  have q9 := elemPC
  have q10 := implC
  have q11 := typeOfC
  have q12 := assignCC
  have q13 := unpackC
  have n8 := isNilPC ⟨w.heap.size, 0, none⟩ t ((w.alloc (.cells #[.pointer (some t)] 77)).alloc (.cells #[hd 77, .pointer (some ⟨w.heap.size, 0, none⟩), .int .u64 150] 155)) (by simp)
  have hlt : 0 < w.heap.size := World.block_lt_of_cell? w _ hg
  have hg2 : ((w.alloc (.cells #[.pointer (some t)] 77)).alloc (.cells #[hd 77, .pointer (some ⟨w.heap.size, 0, none⟩), .int .u64 150] 155)).cell? ⟨0, 0, none⟩ = some (.iface 227 (.agg #[hd 27])) := by
    rw [World.cell?_alloc_lt _ _ ⟨0, 0, none⟩ (by simp <;> omega), World.cell?_alloc_lt _ _ ⟨0, 0, none⟩ hlt]; exact hg
  have htl : t.block < w.heap.size := World.block_lt_of_cell? w _ ht0
  have el := elemVPC ⟨w.heap.size, 0, none⟩ t (((w.alloc (.cells #[.pointer (some t)] 77)).alloc (.cells #[hd 77, .pointer (some ⟨w.heap.size, 0, none⟩), .int .u64 150] 155)).alloc (.cells #[hd 77, .pointer (some ⟨w.heap.size, 0, none⟩), .int .u64 150] 155)) (by rw [World.cell?_alloc_lt _ _ ⟨w.heap.size, 0, none⟩ (by simp; omega)]; simp)
  have st := setC t ⟨w.heap.size + 1 + 1 + 1, 0, none⟩ n old (behind w 77 67 t (.int .i64 n))
    (by rw [World.cell?_alloc_at _ _ _ _ (by simp)]; rfl)
    (by rw [World.cell?_alloc_lt _ _ t (by simp; omega), World.cell?_alloc_lt _ _ t (by simp; omega), World.cell?_alloc_lt _ _ t (by simp; omega), World.cell?_alloc_lt _ _ t htl]; exact ht0)
    (by rw [World.frozen?_alloc_old _ _ t (by simp; omega), World.frozen?_alloc_old _ _ t (by simp; omega), World.frozen?_alloc_old _ _ t (by simp; omega), World.frozen?_alloc_old _ _ t (Nat.ne_of_lt htl)]; exact hf0)
  go_enter Tryz.func46, Tryz.ntmps46
  go_wp2
  refine wp_loop_rounds 1 ?_
  rw [rounds_succ]
  go_wp2
  go_ret
  exact ⟨rfl, rfl⟩
set_option maxHeartbeats 4000000 in
theorem as_fault (e t : Addr) (old : Value) (w : World) (hg : w.cell? ⟨0, 0, none⟩ = some (.iface 227 (.agg #[hd 27]))) (ht0 : w.cell? t = some old) (hf0 : w.frozen? t = false) :
    Calls Tryz.prog 46 #[.iface 101 (.pointer (some e)), .iface 167 (.pointer (some t))] w fun ev w' => ev = .returned (.bool true) ∧ w' = (behind w 167 101 t (.pointer (some e))).setCell t (.pointer (some e)) := by
  have h1 := @run_callFunc_extern Tryz.prog 103 _ (fun args => ReflectliteValue.unpack (args.getD 0 (.tuple #[]))) Tryz.func103 (by kernel_rfl) (by kernel_rfl) (by kernel_rfl) (by kernel_rfl)
  have h2 := @run_callFunc_extern Tryz.prog 104 _ (ReflectliteValue.methodAny (ReflectliteValue.valueError "reflectlite.Value.Type" 0) (fun t _ _ _ => ReflectliteType.toType t)) Tryz.func104 (by kernel_rfl) (by kernel_rfl) (by kernel_rfl) (by kernel_rfl)
  have h3 := @run_callFunc_extern Tryz.prog 105 _ (ReflectliteValue.method (ReflectliteValue.valueError "reflectlite.Value.IsNil" 0) ReflectliteValue.isNil) Tryz.func105 (by kernel_rfl) (by kernel_rfl) (by kernel_rfl) (by kernel_rfl)
  have h4 := @run_callFunc_extern Tryz.prog 309 _ (ReflectliteType.abiMethod fun t => do pure (.int .u8 (← Rtype.kind t))) Tryz.func309 (by kernel_rfl) (by kernel_rfl) (by kernel_rfl) (by kernel_rfl)
  have h5 := @run_callFunc_extern Tryz.prog 322 _ (ReflectliteType.method ReflectliteType.elem) Tryz.func322 (by kernel_rfl) (by kernel_rfl) (by kernel_rfl) (by kernel_rfl)
  have h6 := @run_callFunc_extern Tryz.prog 323 _ (ReflectliteType.relation "Implements" ReflectliteType.implements_) Tryz.func323 (by kernel_rfl) (by kernel_rfl) (by kernel_rfl) (by kernel_rfl)
  have h7 := @run_callFunc_extern Tryz.prog 155 _ ReflectliteType.typeOf Tryz.func155 (by kernel_rfl) (by kernel_rfl) (by kernel_rfl) (by kernel_rfl)
  have h8 := @run_callFunc_extern Tryz.prog 320 _ (ReflectliteType.relation "AssignableTo" ReflectliteType.assignableTo) Tryz.func320 (by kernel_rfl) (by kernel_rfl) (by kernel_rfl) (by kernel_rfl)
  have h9 := @run_callFunc_extern Tryz.prog 156 _ (ReflectliteValue.method (ReflectliteValue.valueError "reflectlite.Value.Elem" 0) ReflectliteValue.elem) Tryz.func156 (by kernel_rfl) (by kernel_rfl) (by kernel_rfl) (by kernel_rfl)
  have h10 := @run_callFunc_extern Tryz.prog 157 _ ReflectliteValue.set Tryz.func157 (by kernel_rfl) (by kernel_rfl) (by kernel_rfl) (by kernel_rfl)
  have q1 := unpackPPF
  have q2 := typePPF
  have q3 := mKind
  have q4 := mElem
  have q5 := mImpl
  have q6 := mAssign
  have q7 := kindPPF
  have q8 := kindPF
  have q9 := elemPPF
  have q10 := implPF
  have q11 := typeOfPF
  have q12 := assignFF
  have q13 := unpackPF
  have n8 := isNilPPF ⟨w.heap.size, 0, none⟩ t ((w.alloc (.cells #[.pointer (some t)] 167)).alloc (.cells #[hd 167, .pointer (some ⟨w.heap.size, 0, none⟩), .int .u64 150] 155)) (by simp)
  have hlt : 0 < w.heap.size := World.block_lt_of_cell? w _ hg
  have hg2 : ((w.alloc (.cells #[.pointer (some t)] 167)).alloc (.cells #[hd 167, .pointer (some ⟨w.heap.size, 0, none⟩), .int .u64 150] 155)).cell? ⟨0, 0, none⟩ = some (.iface 227 (.agg #[hd 27])) := by
    rw [World.cell?_alloc_lt _ _ ⟨0, 0, none⟩ (by simp <;> omega), World.cell?_alloc_lt _ _ ⟨0, 0, none⟩ hlt]; exact hg
  have htl : t.block < w.heap.size := World.block_lt_of_cell? w _ ht0
  have el := elemVPPF ⟨w.heap.size, 0, none⟩ t (((w.alloc (.cells #[.pointer (some t)] 167)).alloc (.cells #[hd 167, .pointer (some ⟨w.heap.size, 0, none⟩), .int .u64 150] 155)).alloc (.cells #[hd 167, .pointer (some ⟨w.heap.size, 0, none⟩), .int .u64 150] 155)) (by rw [World.cell?_alloc_lt _ _ ⟨w.heap.size, 0, none⟩ (by simp; omega)]; simp)
  have st := setPF t ⟨w.heap.size + 1 + 1 + 1, 0, none⟩ e old (behind w 167 101 t (.pointer (some e)))
    (by rw [World.cell?_alloc_at _ _ _ _ (by simp)]; rfl)
    (by rw [World.cell?_alloc_lt _ _ t (by simp; omega), World.cell?_alloc_lt _ _ t (by simp; omega), World.cell?_alloc_lt _ _ t (by simp; omega), World.cell?_alloc_lt _ _ t htl]; exact ht0)
    (by rw [World.frozen?_alloc_old _ _ t (by simp; omega), World.frozen?_alloc_old _ _ t (by simp; omega), World.frozen?_alloc_old _ _ t (by simp; omega), World.frozen?_alloc_old _ _ t (Nat.ne_of_lt htl)]; exact hf0)
  go_enter Tryz.func46, Tryz.ntmps46
  go_wp2
  refine wp_loop_rounds 1 ?_
  rw [rounds_succ]
  go_wp2
  go_ret
  exact ⟨rfl, rfl⟩
end Go.Proofs.YtjkdcladjjpmoaaGreatDoor.ErrAs
/- errors.As at a fault that wraps a code, the target a code: the chain is walked. -/
namespace Go.Proofs.YtjkdcladjjpmoaaGreatDoor.ErrAs
open Go Go.RowKit Go.Extern.Stop Go.Stop Go.Extern

theorem noAs (v : Value) (xT : TypeId) (w : World) : (Instr.typeAssert (.iface 101 v) xT 232 true).run Tryz.prog w = .ok (.tuple #[.nilIface, .bool false]) w := run_typeAssert_lacksB Tryz.underlying232 (by kernel_rfl) (by kernel_rfl) v xT w
theorem hasUnwrap (v : Value) (xT : TypeId) (w : World) : (Instr.typeAssert (.iface 101 v) xT 235 true).run Tryz.prog w = .ok (.tuple #[.iface 101 v, .bool true]) w := run_typeAssert_hasB Tryz.underlying235 (by kernel_rfl) v xT w
set_option maxRecDepth 100000 in
set_option maxHeartbeats 4000000 in
theorem as_code_fault (n : Int) (b : Nat) (t : Addr) (old : Value) (w : World) (hg : w.cell? ⟨0, 0, none⟩ = some (.iface 227 (.agg #[hd 27]))) (ht0 : w.cell? t = some old) (hf0 : w.frozen? t = false)
    (he1 : w.cell? ⟨b, 1, none⟩ = some (.iface 67 (.int .i64 n))) :
    Calls Tryz.prog 46 #[.iface 101 (.pointer (some ⟨b, 0, none⟩)), .iface 77 (.pointer (some t))] w fun ev w' => ev = .returned (.bool true) ∧ w' = (behind w 77 67 t (.int .i64 n)).setCell t (.int .i64 n) := by
  have h1 := @run_callFunc_extern Tryz.prog 103 _ (fun args => ReflectliteValue.unpack (args.getD 0 (.tuple #[]))) Tryz.func103 (by kernel_rfl) (by kernel_rfl) (by kernel_rfl) (by kernel_rfl)
  have h2 := @run_callFunc_extern Tryz.prog 104 _ (ReflectliteValue.methodAny (ReflectliteValue.valueError "reflectlite.Value.Type" 0) (fun t _ _ _ => ReflectliteType.toType t)) Tryz.func104 (by kernel_rfl) (by kernel_rfl) (by kernel_rfl) (by kernel_rfl)
  have h3 := @run_callFunc_extern Tryz.prog 105 _ (ReflectliteValue.method (ReflectliteValue.valueError "reflectlite.Value.IsNil" 0) ReflectliteValue.isNil) Tryz.func105 (by kernel_rfl) (by kernel_rfl) (by kernel_rfl) (by kernel_rfl)
  have h4 := @run_callFunc_extern Tryz.prog 309 _ (ReflectliteType.abiMethod fun t => do pure (.int .u8 (← Rtype.kind t))) Tryz.func309 (by kernel_rfl) (by kernel_rfl) (by kernel_rfl) (by kernel_rfl)
  have h5 := @run_callFunc_extern Tryz.prog 322 _ (ReflectliteType.method ReflectliteType.elem) Tryz.func322 (by kernel_rfl) (by kernel_rfl) (by kernel_rfl) (by kernel_rfl)
  have h6 := @run_callFunc_extern Tryz.prog 323 _ (ReflectliteType.relation "Implements" ReflectliteType.implements_) Tryz.func323 (by kernel_rfl) (by kernel_rfl) (by kernel_rfl) (by kernel_rfl)
  have h7 := @run_callFunc_extern Tryz.prog 155 _ ReflectliteType.typeOf Tryz.func155 (by kernel_rfl) (by kernel_rfl) (by kernel_rfl) (by kernel_rfl)
  have h8 := @run_callFunc_extern Tryz.prog 320 _ (ReflectliteType.relation "AssignableTo" ReflectliteType.assignableTo) Tryz.func320 (by kernel_rfl) (by kernel_rfl) (by kernel_rfl) (by kernel_rfl)
  have h9 := @run_callFunc_extern Tryz.prog 156 _ (ReflectliteValue.method (ReflectliteValue.valueError "reflectlite.Value.Elem" 0) ReflectliteValue.elem) Tryz.func156 (by kernel_rfl) (by kernel_rfl) (by kernel_rfl) (by kernel_rfl)
  have h10 := @run_callFunc_extern Tryz.prog 157 _ ReflectliteValue.set Tryz.func157 (by kernel_rfl) (by kernel_rfl) (by kernel_rfl) (by kernel_rfl)
  have q1 := unpackPC
  have q2 := typePC
  have q3 := mKind
  have q4 := mElem
  have q5 := mImpl
  have q6 := mAssign
  have q7 := kindPC
  have q8 := kindC
  have q9 := elemPC
  have q10 := implC
  have q11 := typeOfC
  have q12 := assignCC
  have q13 := unpackC
  have q14 := typeOfPF
  have q15 := assignFC
  have q16 := unwrapAhead
  have q17 := unwrapIs
  have q18 := noAs
  have q19 := hasUnwrap
  have n8 := isNilPC ⟨w.heap.size, 0, none⟩ t ((w.alloc (.cells #[.pointer (some t)] 77)).alloc (.cells #[hd 77, .pointer (some ⟨w.heap.size, 0, none⟩), .int .u64 150] 155)) (by simp)
  have hlt : 0 < w.heap.size := World.block_lt_of_cell? w _ hg
  have hg2 : ((w.alloc (.cells #[.pointer (some t)] 77)).alloc (.cells #[hd 77, .pointer (some ⟨w.heap.size, 0, none⟩), .int .u64 150] 155)).cell? ⟨0, 0, none⟩ = some (.iface 227 (.agg #[hd 27])) := by
    rw [World.cell?_alloc_lt _ _ ⟨0, 0, none⟩ (by simp <;> omega), World.cell?_alloc_lt _ _ ⟨0, 0, none⟩ hlt]; exact hg
  have htl : t.block < w.heap.size := World.block_lt_of_cell? w _ ht0
  have hbl : b < w.heap.size := World.block_lt_of_cell? w _ he1
  have hx : (((w.alloc (.cells #[.pointer (some t)] 77)).alloc (.cells #[hd 77, .pointer (some ⟨w.heap.size, 0, none⟩), .int .u64 150] 155)).alloc (.cells #[hd 77, .pointer (some ⟨w.heap.size, 0, none⟩), .int .u64 150] 155)).cell? ⟨b, 1, none⟩ = some (.iface 67 (.int .i64 n)) := by
    rw [World.cell?_alloc_lt _ _ ⟨b, 1, none⟩ (by simp <;> omega), World.cell?_alloc_lt _ _ ⟨b, 1, none⟩ (by simp <;> omega), World.cell?_alloc_lt _ _ ⟨b, 1, none⟩ hbl]; exact he1
  have el := elemVPC ⟨w.heap.size, 0, none⟩ t (((w.alloc (.cells #[.pointer (some t)] 77)).alloc (.cells #[hd 77, .pointer (some ⟨w.heap.size, 0, none⟩), .int .u64 150] 155)).alloc (.cells #[hd 77, .pointer (some ⟨w.heap.size, 0, none⟩), .int .u64 150] 155)) (by rw [World.cell?_alloc_lt _ _ ⟨w.heap.size, 0, none⟩ (by simp; omega)]; simp)
  have st := setC t ⟨w.heap.size + 1 + 1 + 1, 0, none⟩ n old (behind w 77 67 t (.int .i64 n))
    (by rw [World.cell?_alloc_at _ _ _ _ (by simp)]; rfl)
    (by rw [World.cell?_alloc_lt _ _ t (by simp; omega), World.cell?_alloc_lt _ _ t (by simp; omega), World.cell?_alloc_lt _ _ t (by simp; omega), World.cell?_alloc_lt _ _ t htl]; exact ht0)
    (by rw [World.frozen?_alloc_old _ _ t (by simp; omega), World.frozen?_alloc_old _ _ t (by simp; omega), World.frozen?_alloc_old _ _ t (by simp; omega), World.frozen?_alloc_old _ _ t (Nat.ne_of_lt htl)]; exact hf0)
  go_enter Tryz.func46, Tryz.ntmps46
  go_wp2
  refine wp_loop_rounds 2 ?_
  rw [rounds_succ]
  go_wp2
  rw [rounds_succ]
  go_wp2
  go_ret
  exact ⟨rfl, rfl⟩
end Go.Proofs.YtjkdcladjjpmoaaGreatDoor.ErrAs

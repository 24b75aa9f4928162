/- Texts joined: ParY, ParZ, ParFa. -/
import Derived.Test.YtemflcojebanlaaGreatDoorJ32
/- The document's own parser: statements of all kinds. -/
namespace Go.Proofs.YtemflcojebanlaaGreatDoor.ParC
open Go Go.RowKit Go.Lib Go.Sort LexP TreeP LexC TreeC PageC TextC ParP

theorem must_wr {s : S} (h : s.wr = true) (x : List UInt8) : mustS x s = s.bad := by unfold mustS; rw [next_wr h, if_neg (by simp)]
theorem must_wr2 {s : S} (h : s.wr = true) (x : List UInt8) : (mustS x s).wr = true := by rw [must_wr h]; rfl
theorem name_wr2 {s : S} (h : s.wr = true) : (nameS s).2.wr = true := by unfold nameS nameOk; rw [if_neg (by simp [h])]; rfl
theorem ex_wr2 (N : Nat) {s : S} (h : s.wr = true) : (exS N s).2.wr = true := expr_wr (one_wr2 N (N + 1)) N s h
theorem parts_wr (m : Nat) (e : PE) {s : S} (h : s.wr = true) : partsS m e s = (e, s) := parts_end m e s (next_wr h _)
theorem place_prog (N n : Nat) (s : S) (h : s.wr = false) : (placeS N (n + 1) s).2.wr = true ∨ (placeS N (n + 1) s).2.rest.length < s.rest.length := by
 cases h1 : nextB s mStar with
 | true =>
  obtain ⟨hp, _⟩ := next_pass h1 (by decide)
  right
  rw [show placeS N (n + 1) s = (.mk 4 0 [] false [(placeS N n s.pass).1], (placeS N n s.pass).2) by rw [placeS, if_neg (by simp [h]), if_pos h1]]
  have := place_le N n s.pass
  simp only
  omega
 | false =>
  cases h2 : nextB s mOpen with
  | true =>
   obtain ⟨hp, _⟩ := next_pass h2 (by decide)
   right
   rw [show placeS N (n + 1) s = partsS N (placeS N n s.pass).1 (mustS mShut (placeS N n s.pass).2) by rw [placeS, if_neg (by simp [h]), if_neg (by simp [h1]), if_pos h2]]
   have h3 := parts_le N (placeS N n s.pass).1 (mustS mShut (placeS N n s.pass).2)
   have h4 := must_le mShut (placeS N n s.pass).2
   have h5 := place_le N n s.pass
   omega
  | false =>
   rw [show placeS N (n + 1) s = partsS N (.mk 2 0 (nameS s).1 false []) (nameS s).2 by rw [placeS, if_neg (by simp [h]), if_neg (by simp [h1]), if_neg (by simp [h2])]]
   unfold nameS
   cases hn : nameOk s with
   | false =>
    left
    simp only [Bool.false_eq_true, if_false]
    rw [parts_wr _ _ (by rfl)]
    rfl
   | true =>
    right
    simp only [if_true]
    have hne : s.rest ≠ [] := txt_ne (k := 1) (by intro e; unfold nameOk at hn; rw [e] at hn; revert hn; simp; intro; decide)
    have h3 := parts_le N (.mk 2 0 (txt 1 s) false []) s.pass
    have h4 : s.pass.rest.length + 1 = s.rest.length := by
     cases hr : s.rest with
     | nil => exact absurd hr hne
     | cons t r => simp [S.pass, hr]
    omega
theorem stmt_prog (N n : Nat) (s : S) (h : s.wr = false) (hn : s.rest.length < n) : (stmtS N n s).2.wr = true ∨ (stmtS N n s).2.rest.length < s.rest.length := by
 cases n with
 | zero => omega
 | succ n =>
  have hs := fun x m s => stmts_le (stmt_le N n) x m s
  rw [stmtS]
  cases h1 : nextB s kIf with
  | true =>
   obtain ⟨hp, _⟩ := next_pass h1 (by decide)
   right
   rw [if_pos rfl]
   have a := ex_le N s.pass
   have b := must_le mBegin (exS N s.pass).2
   have c := hs mEnd (N + 2) (mustS mBegin (exS N s.pass).2)
   have d := must_le kElse (stmtsS (stmtS N n) mEnd (N + 2) (mustS mBegin (exS N s.pass).2)).2
   have e := must_le mBegin (mustS kElse (stmtsS (stmtS N n) mEnd (N + 2) (mustS mBegin (exS N s.pass).2)).2)
   have f := hs mEnd (N + 2) (mustS mBegin (mustS kElse (stmtsS (stmtS N n) mEnd (N + 2) (mustS mBegin (exS N s.pass).2)).2))
   simp only
   omega
  | false =>
   rw [if_neg (by simp)]
   cases h2 : nextB s kRepeat with
   | true =>
    obtain ⟨hp, _⟩ := next_pass h2 (by decide)
    right
    rw [if_pos rfl]
    have a := ex_le N s.pass
    have b := must_le mBegin (exS N s.pass).2
    have c := hs mEnd (N + 2) (mustS mBegin (exS N s.pass).2)
    simp only
    omega
   | false =>
    rw [if_neg (by simp)]
    cases h3 : nextB s kLet with
    | true =>
     obtain ⟨hp, _⟩ := next_pass h3 (by decide)
     right
     rw [if_pos rfl]
     have a := name_le s.pass
     have b := must_le mIs (nameS s.pass).2
     have c := ex_le N (mustS mIs (nameS s.pass).2)
     have d := must_le mSemi (exS N (mustS mIs (nameS s.pass).2)).2
     simp only
     omega
    | false =>
     rw [if_neg (by simp)]
     simp only
     rcases place_prog N N s h with hw | hl
     ·left
      exact must_wr2 (ex_wr2 N (must_wr2 hw _)) _
     ·right
      have b := must_le mIs (placeS N (N + 1) s).2
      have c := ex_le N (mustS mIs (placeS N (N + 1) s).2)
      have d := must_le mSemi (exS N (mustS mIs (placeS N (N + 1) s).2)).2
      omega

theorem good_stmt (pb : Nat) (lv : Value) (ts : List Tok) (N : Nat) (hN20 : N ≤ 1048576) (hT : ToksOk ts) : ∀ n : Nat, GoodS pb lv ts N n (stmtS N n) := by
 intro n
 induction n with
 | zero => intro w s X hA h hN hL; omega
 | succ n ih =>
  intro w s X hA h hN hL
  have hex := fun W s X1 a b c => good_ex pb lv ts N hN20 hT W s X1 a b c
  have hbl := fun W s X1 a b c d => block_any pb lv ts N n hN20 hT (stmtS N n) (stmt_le N n) (fun s h1 h2 => stmt_prog N n s h1 h2) ih W s X1 a b c d
  cases h1 : nextB s kIf with
  | true =>
   obtain ⟨hp, _⟩ := next_pass h1 (by decide)
   have a := ex_le N s.pass
   have b := must_le mBegin (exS N s.pass).2
   have c := stmts_le (stmt_le N n) mEnd (N + 2) (mustS mBegin (exS N s.pass).2)
   have d := must_le kElse (stmtsS (stmtS N n) mEnd (N + 2) (mustS mBegin (exS N s.pass).2)).2
   rw [show stmtS N (n + 1) s = (.mk 3 [] eNone (exS N s.pass).1 (stmtsS (stmtS N n) mEnd (N + 2) (mustS mBegin (exS N s.pass).2)).1 (stmtsS (stmtS N n) mEnd (N + 2) (mustS mBegin (mustS kElse (stmtsS (stmtS N n) mEnd (N + 2) (mustS mBegin (exS N s.pass).2)).2))).1, (stmtsS (stmtS N n) mEnd (N + 2) (mustS mBegin (mustS kElse (stmtsS (stmtS N n) mEnd (N + 2) (mustS mBegin (exS N s.pass).2)).2))).2) by rw [stmtS, if_pos h1]]
   exact stmt_if pb lv ts N hT w s X hA h h1 _ (fun W X1 p q => hex W s.pass X1 p q (by omega)) _ (fun W X1 p q => hbl W _ X1 p q (by omega) (.inr (by omega))) _ (fun W X1 p q => hbl W _ X1 p q (by omega) (.inr (by omega)))
  | false =>
   cases h2 : nextB s kRepeat with
   | true =>
    obtain ⟨hp, _⟩ := next_pass h2 (by decide)
    have a := ex_le N s.pass
    rw [show stmtS N (n + 1) s = (.mk 4 [] eNone (exS N s.pass).1 (stmtsS (stmtS N n) mEnd (N + 2) (mustS mBegin (exS N s.pass).2)).1 [], (stmtsS (stmtS N n) mEnd (N + 2) (mustS mBegin (exS N s.pass).2)).2) by rw [stmtS, if_neg (by simp [h1]), if_pos h2]]
    exact stmt_repeat pb lv ts N hT w s X hA h h1 h2 _ (fun W X1 p q => hex W s.pass X1 p q (by omega)) _ (fun W X1 p q => hbl W _ X1 p q (by omega) (.inr (by omega)))
   | false =>
    cases h3 : nextB s kLet with
    | true =>
     obtain ⟨hp, _⟩ := next_pass h3 (by decide)
     have a := name_le s.pass
     have b := must_le mIs (nameS s.pass).2
     rw [show stmtS N (n + 1) s = (.mk 1 (nameS s.pass).1 eNone (exS N (mustS mIs (nameS s.pass).2)).1 [] [], mustS mSemi (exS N (mustS mIs (nameS s.pass).2)).2) by rw [stmtS, if_neg (by simp [h1]), if_neg (by simp [h2]), if_pos h3]]
     exact stmt_let pb lv ts N hT w s X hA h h1 h2 h3 _ (fun W X1 p q => hex W _ X1 p q (by omega))
    | false =>
     have a := place_le N (N + 1) s
     have b := must_le mIs (placeS N (N + 1) s).2
     rw [show stmtS N (n + 1) s = (.mk 2 [] (placeS N (N + 1) s).1 (exS N (mustS mIs (placeS N (N + 1) s).2)).1 [] [], mustS mSemi (exS N (mustS mIs (placeS N (N + 1) s).2)).2) by rw [stmtS, if_neg (by simp [h1]), if_neg (by simp [h2]), if_neg (by simp [h3])]]
     exact stmt_set pb lv ts N hT w s X hA h h1 h2 h3 _ (fun W X1 p q => place_any pb lv ts N hT (N + 1) W s X1 p q hN (.inr (by omega))) _ (fun W X1 p q => hex W _ X1 p q (by omega))
/-- THE CONTRACT of statements up to a word or a mark -/
theorem good_stmts (pb : Nat) (lv : Value) (ts : List Tok) (N : Nat) (hN20 : N ≤ 1048576) (hT : ToksOk ts) (stop : List UInt8) (hst : stop ≠ []) (w : World) (s : S) (X : List Nat) (hA : Away w pb X) (h : PIn w pb lv ts s) (hN : s.rest.length ≤ N) :
  Calls Tryz.prog 85 #[.pointer (some ⟨pb, 0, none⟩), .string (Sb stop)] w (RetL stK erS w pb lv ts X (stmtsS (stmtS N (N + 1)) stop (N + 2) s)) :=
 stmts_any pb lv ts N (N + 1) hN20 hT stop hst (stmtS N (N + 1)) (stmt_le N (N + 1)) (fun s h1 h2 => stmt_prog N (N + 1) s h1 h2) (good_stmt pb lv ts N hN20 hT (N + 1)) w s X hA h hN (.inr (by omega))
/- The document's own parser, towards fn: lists of names and of parameters; several behind a list at once. -/

theorem nmOk : KdOk nmK 35 (.string ⟨#[]⟩) 16 := ⟨Tryz.underlying35, by kernel_rfl, rfl, by decide⟩
def paZ : Array Value := #[.string ⟨#[]⟩, .int .i64 0, .string ⟨#[]⟩, .bool false, .slice none 0 0]
theorem paOk : KdOk paK 36 (.agg paZ) 72 := ⟨Tryz.underlying36, by kernel_rfl, rfl, by decide⟩
variable {α : Type} {K : Kd α} {base : Nat} {w w' : World} {Y : List Nat} {v : Value} {l : List α}
/-- several more behind -/
theorem ListIn.many {v' : Value} (h : ListIn K base w Y v l) (m : List α) (hm : ∀ a ∈ m, K.InP (hushL (blk v ++ Y) w) a) (hown : w'.ownsRow base K.type K.size v' (l.length + m.length) (rowsK K l ++ rowsK K m)) (hg : w.grownBy w' v.ownBlock) (hat : v'.ownBlock = v.ownBlock ∨ v'.ownBlock = some w.heap.size) :
  ListIn K base w' Y v' (l ++ m) := by
 have hk : ∀ b : α, K.InP (hushL (blk v ++ Y) w) b → K.InP (hushL (blk v' ++ Y) w') b := fun b hb => by
  refine K.keep _ (Keeps.trans (b := hushL (blk v' ++ (blk v ++ Y)) w) ?_ (Keeps.trans (b := hushL (blk v' ++ (blk v ++ Y)) w') (keepsL fun k h1 h2 => ?_) (keepsL_sub _ fun b hb => by simp at hb ⊢; rcases hb with h | h <;> simp [h]))) hb
  ·rcases hat with e | e
   ·have e2 : blk v' = blk v := by simp [blk, e]
    rw [e2]
    exact keepsL_sub _ fun c hc => by simp at hc ⊢; exact hc
   ·rw [blk_of e]
    exact keepsL_add w (Nat.le_refl _)
  ·exact hg.block k h1 (fun e => h2 (by simp [blk, ← e]))
 refine ⟨by rw [show rowsK K (l ++ m) = rowsK K l ++ rowsK K m by simp [rowsK], List.length_append]; exact hown, fun b hb => ?_⟩
 rcases List.mem_append.1 hb with h1 | h1
 ·exact hk b (h.ins b h1)
 ·exact hk b (hm b h1)
theorem wpList_append_kds {sl : TypeId} {z : Value} {bytes : Nat} (ok : KdOk K sl z bytes) {ops : Array Oper} {rest : List Oper} {o : Oper} {a : Act} {Q : Exit → Act → World → Prop} {W : World} (hgd : o.guard = none) (s x : Operand)
  (ho : o.op = .call { callee := .builtin .append, args := #[s, x], argTypes := #[sl, sl] })
  (base : Nat) (v : Value) (l : List α) (hs : a.eval s = v) (hL : ListIn K base W Y v l) (b : Nat) (m : List α) (c : Nat) (hx : a.eval x = .slice (some ⟨b, 0, none⟩) m.length c)
  (hb : W.heap[b]? = some (.cells (rowsK K m).toArray K.type (0, 0))) (ht : ∀ t ∈ m, K.InP (hushL (blk v ++ Y) W) t) (h1 : ∀ u ∈ rowsK K m, u.oneCell' = true) (hn : l.length ≤ 2097152) (hm : m.length ≤ 2) (hbase : base ≤ W.heap.size)
  (h : ∀ v' w', ListIn K base w' Y v' (l ++ m) → W.grownBy w' v.ownBlock → wpList Tryz.prog ops Q rest (a.put o.dst v') w') : wpList Tryz.prog ops Q (o :: rest) a W := by
 obtain ⟨i0, hi, hz0, hz1, hz2⟩ := info_parts ok.info
 refine wpList_append_own_at W hgd s x sl ho base K.type i0 z K.size bytes ok.und hi hz0 hz1 hz2 ok.zs K.pos v l.length (rowsK K l) hs hL.own ⟨b, 0, none⟩ m.length c (rowsK K m) hx (rowsK_len K m) ?_ h1 (by unfold maxLen; omega) ?_ hbase ?_
 ·intro j u hj
  rw [show (⟨b, 0, none⟩ : Addr).add j = ⟨b, j, none⟩ by unfold Addr.add; split <;> simp_all, Lib.cell_of_heap hb, List.getElem?_toArray]
  exact hj
 ·have := ok.small
  have h2 : (l.length + m.length) * bytes ≤ 2097154 * 1000 := Nat.mul_le_mul (by omega) this
  omega
 ·intro v' w' h2 h3 _ h5
  exact h v' w' (hL.many m ht h2 h3 h5) h3
/-- a list of names, and a parameter -/
theorem nm_all (x : ByteArray) : ∀ u ∈ nmCells x, u.oneCell' = true := fun u hu => by
 have e : u = .string x := by simpa [nmCells] using hu
 subst e
 rfl
theorem nm_all2 (x y : ByteArray) : ∀ u ∈ rowsK nmK [x, y], u.oneCell' = true := fun u hu => by
 have e : u = .string x ∨ u = .string y := by simpa [rowsK, nmK, nmCells] using hu
 rcases e with rfl | rfl <;> rfl
theorem pa_all (x : ByteArray) (k : Int) (s : ByteArray) (m : Bool) (p : Option Addr) (l c : Nat) : ∀ u ∈ ([.string x, .int .i64 k, .string s, .bool m, .slice p l c] : List Value), u.oneCell' = true := by
 intro u hu
 simp at hu
 rcases hu with rfl | rfl | rfl | rfl | rfl <;> rfl
theorem rows2 (x y : ByteArray) : rowsK nmK [x, y] = [.string x, .string y] := by simp [rowsK, nmK, nmCells]
/-- old blocks outside some stay as they were, since a world -/
structure Stay (W0 W : World) (Y : List Nat) : Prop where
 size : W0.heap.size ≤ W.heap.size
 block : ∀ k, k < W0.heap.size → k ∉ Y → W.heap[k]? = W0.heap[k]?
variable {W0 W W' : World} {pb : Nat}
theorem Stay.refl (W0 : World) (Y : List Nat) : Stay W0 W0 Y := ⟨Nat.le_refl _, fun _ _ _ => rfl⟩
theorem Stay.call (h : Stay W0 W Y) (st : Step pb none W none W') (hp : pb ∈ Y) : Stay W0 W' Y :=
 ⟨Nat.le_trans h.size st.size, fun k h1 h2 => (st.block k (Nat.lt_of_lt_of_le h1 h.size) (fun e => h2 (e ▸ hp)) (by simp)).trans (h.block k h1 h2)⟩
theorem Stay.below (h : Stay W0 W Y) (hb : Below W.heap.size W W') : Stay W0 W' Y :=
 ⟨Nat.le_trans h.size hb.size, fun k h1 h2 => (hb.block k (Nat.lt_of_lt_of_le h1 h.size)).trans (h.block k h1 h2)⟩
theorem Stay.cell (h : Stay W0 W Y) {b : Nat} (hb : b ∈ Y) (o : Nat) (u : Value) : Stay W0 (W.setCell ⟨b, o, none⟩ u) Y :=
 ⟨by simpa using h.size, fun k h1 h2 => (Below.heap_setCell W ⟨b, o, none⟩ u k fun e => h2 (by rw [show k = b from e]; exact hb)).trans (h.block k h1 h2)⟩
theorem Stay.cells (h : Stay W0 W Y) {b : Nat} (hb : b ∈ Y) (o : Nat) (vs : List Value) : Stay W0 (W.setCells b o vs) Y :=
 ⟨by rw [cells_size]; exact h.size, fun k h1 h2 => (cells_other (fun e => h2 (by rw [e]; exact hb)) vs o W).trans (h.block k h1 h2)⟩
theorem Stay.row (h : Stay W0 W Y) {b : Nat} (hb : b ∈ Y) (cs : Array Value) : Stay W0 (W.setRow b cs) Y :=
 ⟨by simpa using h.size, fun k h1 h2 => (setRow_other _ _ _ _ fun e => h2 (by rw [e]; exact hb)).trans (h.block k h1 h2)⟩
theorem Stay.grown (h : Stay W0 W Y) {row : Option Nat} (hr : ∀ g, row = some g → W0.heap.size ≤ g) (hg : W.grownBy W' row) : Stay W0 W' Y :=
 ⟨Nat.le_trans h.size hg.size, fun k h1 h2 => (hg.block k (Nat.lt_of_lt_of_le h1 h.size) (fun e => by have := hr k e.symm; omega)).trans (h.block k h1 h2)⟩
theorem Stay.keeps (h : Stay W0 W Y) : Keeps (hushL Y W0) (hushL Y W) := keepsL fun k h1 h2 => h.block k h1 h2
/- The document's own parser: fn. What holds between its parts. -/

def RetF (w : World) (pb : Nat) (lv : Value) (ts : List Tok) (X : List Nat) (r : PF × S) (e : Ending) (w' : World) : Prop := ∃ F : TreeP.Fn, e = .returned F.val ∧ F.In (hushL X w') ∧ erF F = r.1 ∧ PIn w' pb lv ts r.2 ∧ Step pb none w none w'
theorem fn_sz : (Tryz.prog.info? 42).map (·.size) = some 14 := by kernel_rfl
def fnZ : Array Value := #[.string ⟨#[]⟩, .slice none 0 0, .slice none 0 0, .int .i64 0, .string ⟨#[]⟩, .bool false, .slice none 0 0, .slice none 0 0, .slice none 0 0, .int .i64 0, .int .i64 0, .string ⟨#[]⟩, .bool false, .slice none 0 0]
/-- between two parts of fn: the reader, the result's block, the function's own (b) -/
structure FnAt (w : World) (pb : Nat) (lv : Value) (ts : List Tok) (s : S) (X : List Nat) (b : Nat) (W : World) (s1 : S) (cs : Array Value) : Prop where
 at1 : At w pb lv ts s W s1
 lt : w.heap.size < b
 old : ∀ x ∈ X, x < w.heap.size
 mem : pb ∈ X
 ret : W.heap[w.heap.size]? = some (.cells fnZ 42 (0, 0))
 own : W.heap[b]? = some (.cells cs 42 (0, 0))
variable {w W W' : World} {pb b : Nat} {lv : Value} {ts : List Tok} {s s1 s2 : S} {X : List Nat} {cs : Array Value}
theorem FnAt.away (h : FnAt w pb lv ts s X b W s1 cs) : Away W pb (b :: w.heap.size :: X) :=
 ⟨by simp [h.mem], fun c hc => by
  have := heap_lt h.own
  have := h.lt
  rcases List.mem_cons.1 hc with rfl | hc
  ·assumption
  ·rcases List.mem_cons.1 hc with rfl | hc
   ·omega
   ·have := h.old c hc
    omega⟩
theorem FnAt.pb_lt (h : FnAt w pb lv ts s X b W s1 cs) : pb < w.heap.size := h.old pb h.mem
theorem FnAt.call (h : FnAt w pb lv ts s X b W s1 cs) (hp : PIn W' pb lv ts s2) (st : Step pb none W none W') : FnAt w pb lv ts s X b W' s2 cs := by
 have h1 := h.pb_lt
 have h2 := h.lt
 exact ⟨h.at1.call hp st, h.lt, h.old, h.mem, heap_step st h.ret (by omega), heap_step st h.own (by omega)⟩
theorem FnAt.below (h : FnAt w pb lv ts s X b W s1 cs) (hb : Below W.heap.size W W') : FnAt w pb lv ts s X b W' s1 cs :=
 ⟨h.at1.below hb, h.lt, h.old, h.mem, heap_below hb h.ret, heap_below hb h.own⟩
theorem FnAt.grown (h : FnAt w pb lv ts s X b W s1 cs) {row : Option Nat} (hr : ∀ g, row = some g → b < g) (hg : W.grownBy W' row) : FnAt w pb lv ts s X b W' s1 cs := by
 have h2 := h.lt
 exact ⟨h.at1.grown (fun g e => by have := hr g e; omega) hg, h.lt, h.old, h.mem,
  (hg.block _ (heap_lt h.ret) (fun e => by have := hr _ e.symm; omega)).trans h.ret, (hg.block _ (heap_lt h.own) (fun e => by have := hr _ e.symm; omega)).trans h.own⟩
theorem FnAt.cell (h : FnAt w pb lv ts s X b W s1 cs) (o : Nat) (v : Value) : FnAt w pb lv ts s X b (W.setCell ⟨b, o, none⟩ v) s1 (cs.setIfInBounds o v) := by
 have h2 := h.lt
 exact ⟨h.at1.cell (by omega) o v, h.lt, h.old, h.mem, (Below.heap_setCell W ⟨b, o, none⟩ v w.heap.size (by simp; omega)).trans h.ret, heap_setCell_same _ _ o _ _ v h.own⟩
theorem FnAt.cells (h : FnAt w pb lv ts s X b W s1 cs) (o : Nat) (vs : List Value) {cs' : Array Value} (ho : (W.setCells b o vs).heap[b]? = some (.cells cs' 42 (0, 0))) : FnAt w pb lv ts s X b (W.setCells b o vs) s1 cs' := by
 have h2 := h.lt
 exact ⟨h.at1.cells (by omega) vs o W, h.lt, h.old, h.mem, (cells_other (by omega) vs o W).trans h.ret, ho⟩
theorem cells_at3 {w : World} {b : Nat} {t : TypeId} {x0 x1 x2 x3 x4 x5 x6 x7 x8 x9 xa xb xc xd a0 a1 a2 a3 : Value} (h : w.heap[b]? = some (.cells #[x0, x1, x2, x3, x4, x5, x6, x7, x8, x9, xa, xb, xc, xd] t (0, 0))) :
  (w.setCells b 3 [a0, a1, a2, a3]).heap[b]? = some (.cells #[x0, x1, x2, a0, a1, a2, a3, x7, x8, x9, xa, xb, xc, xd] t (0, 0)) := by
 have h1 := heap_setCell_same _ _ 3 _ _ a0 h
 have h2 := heap_setCell_same _ _ 4 _ _ a1 h1
 have h3 := heap_setCell_same _ _ 5 _ _ a2 h2
 exact heap_setCell_same _ _ 6 _ _ a3 h3
theorem cells_at9 {w : World} {b : Nat} {t : TypeId} {x0 x1 x2 x3 x4 x5 x6 x7 x8 x9 xa xb xc xd a0 a1 a2 a3 a4 : Value} (h : w.heap[b]? = some (.cells #[x0, x1, x2, x3, x4, x5, x6, x7, x8, x9, xa, xb, xc, xd] t (0, 0))) :
  (w.setCells b 9 [a0, a1, a2, a3, a4]).heap[b]? = some (.cells #[x0, x1, x2, x3, x4, x5, x6, x7, x8, a0, a1, a2, a3, a4] t (0, 0)) := by
 have h1 := heap_setCell_same _ _ 9 _ _ a0 h
 have h2 := heap_setCell_same _ _ 10 _ _ a1 h1
 have h3 := heap_setCell_same _ _ 11 _ _ a2 h2
 have h4 := heap_setCell_same _ _ 12 _ _ a3 h3
 exact heap_setCell_same _ _ 13 _ _ a4 h4
theorem there_of4 {w : World} {b o : Nat} {cs : Array Value} {t : TypeId} (h : w.heap[b]? = some (.cells cs t (0, 0))) (ho : o + 4 ≤ cs.size) : w.there b o 4 := fun j hj => by
 refine ⟨?_, frozen_of h _⟩
 rw [Lib.cell_of_heap h]
 simp
 omega
theorem flat2_snoc : ∀ (l : List (List UInt8 × List UInt8)) (x y : List UInt8), flat2 (l ++ [(x, y)]) = flat2 l ++ [x, y]
 | [], _, _ => rfl
 | (a, b) :: l, x, y => by rw [List.cons_append, flat2, flat2, flat2_snoc l x y]; rfl
theorem flat2_len : ∀ (l : List (List UInt8 × List UInt8)), (flat2 l).length = 2 * l.length
 | [] => rfl
 | (a, b) :: l => by rw [flat2, List.length_cons, List.length_cons, flat2_len l, List.length_cons]; omega
end Go.Proofs.YtemflcojebanlaaGreatDoor.ParC

/- Texts joined: NmY, NmFn, NmZp, NmZ, TreeO, NmRow, NmMoreFact. -/
import Derived.Test.YtemflcojebanlaaGreatDoorJ35
import Derived.Test.YtemflcojebanlaaGreatDoorJ23
import Derived.Laws.AppendOwn
import Derived.Laws.OwnMore
import Derived.Test.YtemflcojebanlaaGreatDoorJ24
import Derived.Test.YtemflcojebanlaaGreatDoorJ00
import Derived.Test.YtemflcojebanlaaGreatDoorRows
import Derived.OpenShut
import Derived.Deep.Slices
import Derived.WideShapes
import Derived.Test.YtemflcojebanlaaGreatDoorCards
import Derived.Test.YtemflcojebanlaaGreatDoorTie
import Derived.ProofKit
import Derived.Deep.DeepHandedRow
import Derived.Lib.LaidTab
import Derived.Lib.LaidU8
import Derived.LaidHandle
import Derived.LaidLaws
/- The contracts of the statements NamesChecks and NamesWhole: they return true, whatever the program, or the type (of weight at most 1048576). -/
namespace Go.Proofs.YtemflcojebanlaaGreatDoor.NmC
open Go Go.RowKit Go.Lib Go.Sort Go.Maps Go.Proofs.YtemflcojebanlaaGreatDoor.LexP Go.Proofs.YtemflcojebanlaaGreatDoor.TreeP Go.Proofs.YtemflcojebanlaaGreatDoor.LexC Go.Proofs.YtemflcojebanlaaGreatDoor.TreeC Go.Proofs.YtemflcojebanlaaGreatDoor.NmP Go.Proofs.YtemflcojebanlaaGreatDoor.ErrAs

/-- what is asked of the library's variables -/
structure NLists (w : World) : Prop where
  tabs : Tabs w
  err : ErrVar w
theorem lies_nil {w : World} {size : Nat} : Lies w size (.slice none 0 0) [] := ⟨none, 0, rfl, by simp, fun h => absurd rfl h⟩
end Go.Proofs.YtemflcojebanlaaGreatDoor.NmC
/- A list of functions, as cells; a program behind a row that a call owns: the append. (As law2's, without what that imports.) -/
namespace Go.Proofs.YtemflcojebanlaaGreatDoor.NmC
open Go Go.RowKit Go.Lib Go.Sort Go.Proofs.YtemflcojebanlaaGreatDoor.LexP Go.Proofs.YtemflcojebanlaaGreatDoor.TreeP Go.Proofs.YtemflcojebanlaaGreatDoor.LexC Go.Proofs.YtemflcojebanlaaGreatDoor.TreeC Go.Proofs.YtemflcojebanlaaGreatDoor.ErrAs

/-! ### Rows of equal length, end to end -/
theorem flat_length {α : Type} (n : Nat) : ∀ L : List (List α), (∀ c ∈ L, c.length = n) → L.flatten.length = L.length * n
  | [], _ => by simp
  | c :: L, h => by
    rw [List.flatten_cons, List.length_append, flat_length n L (fun d hd => h d (by simp [hd])), h c (by simp), List.length_cons, Nat.add_mul]
    omega
theorem flat_get {α : Type} (n : Nat) : ∀ (L : List (List α)), (∀ c ∈ L, c.length = n) → ∀ (i : Nat) (c : List α), L[i]? = some c → ∀ (j : Nat) (u : α), c[j]? = some u → L.flatten[i * n + j]? = some u
  | [], _, i, c, h, _, _, _ => by simp at h
  | d :: L, hl, 0, c, h, j, u, hj => by
    simp at h
    subst h
    have hlt : j < d.length := (List.getElem?_eq_some_iff.1 hj).1
    rw [List.flatten_cons, Nat.zero_mul, Nat.zero_add, List.getElem?_append_left hlt]
    exact hj
  | d :: L, hl, i + 1, c, h, j, u, hj => by
    have hd := hl d (by simp)
    rw [List.flatten_cons, List.getElem?_append_right (by rw [hd, Nat.add_mul]; omega), hd, show (i + 1) * n + j - n = i * n + j by rw [Nat.add_mul]; omega]
    exact flat_get n L (fun d hd => hl d (by simp [hd])) i c (by simpa using h) j u hj
theorem flat_inv {α : Type} (n : Nat) : ∀ (L : List (List α)), (∀ c ∈ L, c.length = n) → ∀ (k : Nat) (u : α), L.flatten[k]? = some u → ∃ i j c, L[i]? = some c ∧ c[j]? = some u ∧ k = i * n + j
  | [], _, k, u, h => by simp at h
  | d :: L, hl, k, u, h => by
    have hd := hl d (by simp)
    by_cases hk : k < d.length
    · rw [List.flatten_cons, List.getElem?_append_left hk] at h
      exact ⟨0, k, d, rfl, h, by omega⟩
    · rw [List.flatten_cons, List.getElem?_append_right (by omega)] at h
      obtain ⟨i, j, c, h1, h2, h3⟩ := flat_inv n L (fun d hd => hl d (by simp [hd])) _ u h
      exact ⟨i + 1, j, c, by simpa using h1, h2, by rw [Nat.add_mul]; omega⟩

/-! ### A list of functions, as cells -/
def fnRow (l : List TreeP.Fn) : List Value := (l.map TreeP.Fn.cells).flatten
theorem fn_len (f : TreeP.Fn) : f.cells.length = 14 := by
  obtain ⟨n, lv, l, pv, p, ⟨gk, gs, gm, gv, gl⟩, ov, o, bv, b, ⟨ek, en, es, em, ev, el⟩⟩ := f
  rfl
theorem fns_len (l : List TreeP.Fn) : ∀ c ∈ l.map TreeP.Fn.cells, c.length = 14 := by
  intro c hc
  obtain ⟨f, _, rfl⟩ := List.mem_map.1 hc
  exact fn_len f
theorem fnRow_length (l : List TreeP.Fn) : (fnRow l).length = l.length * 14 := by rw [fnRow, flat_length 14 _ (fns_len l), List.length_map]
theorem fnRow_app (l m : List TreeP.Fn) : fnRow (l ++ m) = fnRow l ++ fnRow m := by simp [fnRow]
theorem lies_one {w : World} {n : Nat} {v : Value} {xs : List (List Value)} (h : Lies w n v xs) : v.oneCell' = true := by
  obtain ⟨p, cap, rfl, _, _⟩ := h
  rfl
theorem fn_one {w : World} {f : TreeP.Fn} (h : f.In w) : ∀ u ∈ f.cells, u.oneCell' = true := by
  obtain ⟨n, lv, l, pv, p, ⟨gk, gs, gm, gv, gl⟩, ov, o, bv, b, ⟨ek, en, es, em, ev, el⟩⟩ := f
  obtain ⟨h1, ⟨h2, _⟩, h3, h4, ⟨h5, _⟩, h6⟩ := h
  rw [Ty.In] at h3
  rw [Ex.In] at h6
  have k1 := lies_one h1
  have k2 := lies_one h2
  have k3 := lies_one h3.1
  have k4 := lies_one h4
  have k5 := lies_one h5
  have k6 := lies_one h6.2.1
  intro u hu
  simp only [TreeP.Fn.cells, Ty.cells, Ex.cells, List.cons_append, List.nil_append, List.mem_cons, List.mem_nil_iff, or_false] at hu
  rcases hu with rfl | rfl | rfl | rfl | rfl | rfl | rfl | rfl | rfl | rfl | rfl | rfl | rfl | rfl <;> first | assumption | rfl
theorem fnRow_one {w : World} {l : List TreeP.Fn} (h : ∀ f ∈ l, f.In w) : ∀ u ∈ fnRow l, u.oneCell' = true := by
  intro u hu
  simp only [fnRow, List.mem_flatten, List.mem_map] at hu
  obtain ⟨c, ⟨f, hf, rfl⟩, hu⟩ := hu
  exact fn_one (h f hf) u hu
theorem owns_fns {w : World} {base : Nat} {v : Value} {l : List TreeP.Fn} (h : w.ownsRow base 42 14 v l.length (fnRow l)) : Lies w 14 v (l.map TreeP.Fn.cells) := by
  obtain ⟨h1, ⟨rfl, h2⟩ | ⟨g, cap, cur, rfl, h3, h4, h5, h6, h7, h8⟩⟩ := id h
  · cases l with
    | nil => exact lies_none
    | cons s ss => simp at h2
  · refine ⟨some ⟨g, 0, none⟩, cap, by rw [List.length_map], by rw [List.length_map]; exact h5, fun _ => ⟨g, 0, rfl, fun i c hi j u hj => ?_⟩⟩
    rw [Nat.zero_add]
    exact owns_cell h (flat_get 14 _ (fns_len l) i c hi j u hj)

/-! ### The append -/
theorem fn_info : (Tryz.prog.info? 42).map (fun i => (i.zero, i.size, i.bytes)) = some (some (.agg #[.string ⟨#[]⟩, .slice none 0 0, .slice none 0 0, .int .i64 0, .string ⟨#[]⟩, .bool false, .slice none 0 0, .slice none 0 0, .slice none 0 0, .int .i64 0, .int .i64 0, .string ⟨#[]⟩, .bool false, .slice none 0 0]), 14, 232) := by kernel_rfl
theorem wpList_append_fns {ops : Array Oper} {rest : List Oper} {o : Oper} {a : Act} {Q : Exit → Act → World → Prop} {W : World} (hw : Region.wanted o (yielded ops a.tmps) = true) (s x : Operand)
    (ho : o.op = .call { callee := .builtin .append, args := #[s, x], argTypes := #[22, 22] })
    (base : Nat) (v : Value) (n : Nat) (xs : List Value) (hs : a.eval s = v) (hown : W.ownsRow base 42 14 v n xs)
    (xv : Value) (l : List TreeP.Fn) (hx : a.eval x = xv) (hxo : ProgIn W xv l) (hno : ∀ m c, xv = .slice none m c → m = 0 ∧ c = 0) (hn : n + l.length ≤ 4194304) (hb : base ≤ W.heap.size)
    (h : ∀ v' w', w'.ownsRow base 42 14 v' (n + l.length) (xs ++ fnRow l) → W.grownBy w' v.ownBlock → wpList Tryz.prog ops Q rest (a.put o.dst v') w') : wpList Tryz.prog ops Q (o :: rest) a W := by
  obtain ⟨i0, hi, hz0, hz1, hz2⟩ := info_parts fn_info
  obtain ⟨⟨p, cap, hv, hc, hcell⟩, hall⟩ := id hxo
  rw [List.length_map] at hv hc
  cases p with
  | none =>
    obtain ⟨h0, h00⟩ := hno _ _ hv
    have e : l = [] := List.eq_nil_of_length_eq_zero h0
    subst e
    subst h00
    subst hv
    refine wpList_step fun K hK => ?_
    rw [if_pos hw]
    have hrun := run_append_owned_none (P := Tryz.prog) (w := W) base 22 o.type 42 i0 14 Tryz.underlying22 hi v n xs hown
    unfold Oper.wp
    simp [execOp, ho, resolve, invoke, builtin, hs, hx, hrun, Result.andThen]
    exact hK _ _ (h v W (by simpa [fnRow] using hown) (World.grownBy.refl W _))
  | some ad =>
    refine wpList_step fun K hK => ?_
    rw [if_pos hw]
    refine wp_append_own W s x _ ho base 42 i0 _ 14 232 Tryz.underlying22 hi hz0 hz1 hz2 rfl (by decide) v n xs hs hown ad l.length cap (fnRow l) (hx.trans hv) (fnRow_length l) ?_ (fnRow_one hall) (by unfold maxLen; omega) (by omega) hb ?_
    · intro j u hj
      obtain ⟨i, k, c, h1, h2, rfl⟩ := flat_inv 14 _ (fns_len l) j u hj
      have hne : l.map TreeP.Fn.cells ≠ [] := by intro e; rw [e] at h1; simp at h1
      obtain ⟨b, off, h3, h4⟩ := hcell hne
      cases h3
      rw [show ∀ i, (⟨b, off, none⟩ : Addr).add i = ⟨b, off + i, none⟩ from fun i => by unfold Addr.add; split <;> simp_all]
      have := h4 i c h1 k u h2
      rwa [Nat.add_assoc] at this
    · intro v' w' h1 h2 _
      exact hK _ _ (h v' w' h1 h2)

end Go.Proofs.YtemflcojebanlaaGreatDoor.NmC
/- The plain half of NamesMore: a program that is formed stays so with a function more ahead of all; a program of few parts weighs little. No program is imported. -/
namespace Go.Proofs.YtemflcojebanlaaGreatDoor.NmP
open Go Go.RowKit Go.Proofs.YtemflcojebanlaaGreatDoor.LexP Go.Proofs.YtemflcojebanlaaGreatDoor.TreeP

/-! ### few parts weigh little -/
mutual
theorem wT_size : ∀ t, sizeT t ≤ 400 → wT t + 101 ≤ 210 * sizeT t
  | .mk k life m v kids, h => by
    rw [sizeT] at h ⊢
    have := wTs_size kids (1 + life.size / 100) h
    have := Nat.div_add_mod life.size 100
    have := Nat.mod_lt life.size (show 0 < 100 by omega)
    rw [wT]
    omega
theorem wTs_size : ∀ (l : List Ty) (n : Nat), sizeTs n l ≤ 400 → wTs l + 210 * n ≤ 210 * sizeTs n l
  | [], n, h => by rw [sizeTs] at h ⊢; rw [wTs]; omega
  | t :: ts, n, h => by
    rw [sizeTs] at h ⊢
    split at h
    · omega
    · rename_i h0
      rw [if_neg h0]
      have h1 := wTs_size ts (n + sizeT t) h
      have h2 := wT_size t (by omega)
      rw [wTs]
      omega
end
mutual
theorem wE_size : ∀ t, sizeE t ≤ 400 → wE t + 101 ≤ 210 * sizeE t
  | .mk k num name m v kids, h => by
    rw [sizeE] at h ⊢
    have := wEs_size kids (1 + name.size / 100) h
    have := Nat.div_add_mod name.size 100
    have := Nat.mod_lt name.size (show 0 < 100 by omega)
    rw [wE]
    omega
theorem wEs_size : ∀ (l : List Ex) (n : Nat), sizeEs n l ≤ 400 → wEs l + 210 * n ≤ 210 * sizeEs n l
  | [], n, h => by rw [sizeEs] at h ⊢; rw [wEs]; omega
  | t :: ts, n, h => by
    rw [sizeEs] at h ⊢
    split at h
    · omega
    · rename_i h0
      rw [if_neg h0]
      have h1 := wEs_size ts (n + sizeE t) h
      have h2 := wE_size t (by omega)
      rw [wEs]
      omega
end
mutual
theorem wS_size : ∀ t, sizeS t ≤ 400 → wS t ≤ 210 * sizeS t
  | .mk k name p e tv thn ev els, h => by
    rw [sizeS] at h ⊢
    have h1 := wE_size p (by omega)
    have h2 := wE_size e (by omega)
    have h3 := wSs_size thn 0 (by omega)
    have h4 := wSs_size els 0 (by omega)
    have := Nat.div_add_mod name.size 100
    have := Nat.mod_lt name.size (show 0 < 100 by omega)
    rw [wS]
    omega
theorem wSs_size : ∀ (l : List St) (n : Nat), sizeSs n l ≤ 400 → wSs l + 210 * n ≤ 210 * sizeSs n l
  | [], n, h => by rw [sizeSs] at h ⊢; rw [wSs]; omega
  | t :: ts, n, h => by
    rw [sizeSs] at h ⊢
    split at h
    · omega
    · rename_i h0
      rw [if_neg h0]
      have h1 := wSs_size ts (n + sizeS t) h
      have h2 := wS_size t (by omega)
      rw [wSs]
      omega
end
theorem wPas_size : ∀ (l : List Pa) (n : Nat), sizePas n l ≤ 400 → wPas l + 210 * n ≤ 210 * sizePas n l
  | [], n, h => by rw [sizePas] at h ⊢; rw [wPas]; omega
  | p :: ps, n, h => by
    rw [sizePas] at h ⊢
    split at h
    · omega
    · rename_i h0
      rw [if_neg h0]
      have h1 := wPas_size ps _ h
      have h2 := wT_size p.type (by omega)
      have := Nat.div_add_mod p.name.size 100
      have := Nat.mod_lt p.name.size (show 0 < 100 by omega)
      rw [wPas, wPa]
      omega
theorem wNs_size : ∀ (l : List ByteArray) (n : Nat), sizeNs n l ≤ 400 → wNs l + 210 * n ≤ 210 * sizeNs n l + 100 * l.length
  | [], n, h => by rw [sizeNs] at h ⊢; rw [wNs]; simp
  | s :: l, n, h => by
    rw [sizeNs] at h ⊢
    split at h
    · omega
    · rename_i h0
      rw [if_neg h0]
      have h1 := wNs_size l _ h
      have := Nat.div_add_mod s.size 100
      have := Nat.mod_lt s.size (show 0 < 100 by omega)
      rw [wNs, List.length_cons]
      omega
theorem sizeNs_ge : ∀ (l : List ByteArray) (n : Nat), n ≤ sizeNs n l
  | [], n => by rw [sizeNs]; omega
  | s :: l, n => by rw [sizeNs]; split; omega; have := sizeNs_ge l (n + s.size / 100); omega
theorem sizePas_ge : ∀ (l : List Pa) (n : Nat), n ≤ sizePas n l
  | [], n => by rw [sizePas]; omega
  | p :: l, n => by rw [sizePas]; split; omega; have := sizePas_ge l (n + (p.name.size / 100 + sizeT p.type)); omega
theorem wF_size (n : Nat) (f : TreeP.Fn) (h : sizeF n f ≤ 400) : wF f + 210 * n ≤ 210 * sizeF n f := by
  unfold sizeF at h ⊢
  generalize hX : n + (1 + f.name.size / 100 + f.lives.length + f.outs.length + sizeT f.gives + sizeSs 0 f.body + sizeE f.value) = X at *
  have g1 := sizeNs_ge f.outs (sizeNs (sizePas X f.pars) f.lives)
  have g2 := sizeNs_ge f.lives (sizePas X f.pars)
  have g3 := sizePas_ge f.pars X
  have h1 := wNs_size f.outs _ h
  have h2 := wNs_size f.lives (sizePas X f.pars) (by omega)
  have h3 := wPas_size f.pars X (by omega)
  have h4 := wT_size f.gives (by omega)
  have h5 := wE_size f.value (by omega)
  have h6 := wSs_size f.body 0 (by omega)
  have := Nat.div_add_mod f.name.size 100
  have := Nat.mod_lt f.name.size (show 0 < 100 by omega)
  unfold wF
  omega
theorem sizeF_ge (n : Nat) (f : TreeP.Fn) : n ≤ sizeF n f := by
  unfold sizeF
  generalize hX : n + (1 + f.name.size / 100 + f.lives.length + f.outs.length + sizeT f.gives + sizeSs 0 f.body + sizeE f.value) = X at *
  have g1 := sizeNs_ge f.outs (sizeNs (sizePas X f.pars) f.lives)
  have g2 := sizeNs_ge f.lives (sizePas X f.pars)
  have g3 := sizePas_ge f.pars X
  omega
theorem sizeFs_ge : ∀ (l : List TreeP.Fn) (n : Nat), n ≤ sizeFs n l
  | [], n => by rw [sizeFs]; omega
  | f :: l, n => by rw [sizeFs]; split; omega; have := sizeF_ge n f; have := sizeFs_ge l (sizeF n f); omega
theorem wFs_size : ∀ (l : List TreeP.Fn) (n : Nat), sizeFs n l ≤ 400 → wFs l + 210 * n ≤ 210 * sizeFs n l
  | [], n, h => by rw [sizeFs] at h ⊢; rw [wFs]; omega
  | f :: l, n, h => by
    rw [sizeFs] at h ⊢
    split at h
    · omega
    · rename_i h0
      rw [if_neg h0]
      have g := sizeFs_ge l (sizeF n f)
      have h1 := wFs_size l (sizeF n f) h
      have h2 := wF_size n f (by omega)
      rw [wFs]
      omega

/-! ### a function more ahead of all -/
/-- so many q -/
def qs (k : Nat) : ByteArray := ⟨(List.replicate k 113).toArray⟩
/-- the function that gives back a number -/
def oneF (k : Nat) (n : Int) : TreeP.Fn := ⟨qs k, .slice none 0 0, [], .slice none 0 0, [], .mk 1 ⟨#[]⟩ false (.slice none 0 0) [], .slice none 0 0, [], .slice none 0 0, [], .mk 1 n ⟨#[]⟩ false (.slice none 0 0) []⟩
theorem qs_name : ∀ k : Fin 31, 0 < k.val → nameB (bs (qs k.val)) = true := by decide +kernel
theorem parsN_mem {s : Nm} : ∀ {l : List TreeP.Fn}, parsN s l = none → ∀ f ∈ l, bs f.name ≠ s
  | [], _, f, hf => by cases hf
  | g :: l, h, f, hf => by
    rw [parsN] at h
    split at h
    · cases h
    · rename_i hg
      rcases List.mem_cons.1 hf with rfl | hf
      · exact fun e => hg (by simp [e])
      · exact parsN_mem h f hf
theorem parsN_cons_ne {s : Nm} {F : TreeP.Fn} {a : List TreeP.Fn} (h : bs F.name ≠ s) : parsN s (F :: a) = parsN s a := by
  rw [parsN, if_neg (by simpa using h)]
section
variable {F : TreeP.Fn} {a : List TreeP.Fn}
theorem ownE_more (hq : parsN (bs F.name) a = none) {k : Int} {s : Nm} {n : Nat} {sc : List Nm} (h : ownE k s n sc a = true) : ownE k s n sc (F :: a) = true := by
  unfold ownE at h ⊢
  split
  · rename_i h2; rw [if_pos h2] at h; exact h
  · rename_i h2
    rw [if_neg h2] at h
    split
    · rename_i h9
      rw [if_pos h9] at h
      by_cases e : bs F.name = s
      · rw [← e, hq] at h; cases h
      · rw [parsN_cons_ne e]; exact h
    · rfl
mutual
theorem exprN_more (hq : parsN (bs F.name) a = none) {sc : List Nm} : ∀ e : Ex, exprN sc a e = true → exprN sc (F :: a) e = true
  | .mk k n s m v kids, h => by
    rw [exprN, Bool.and_eq_true] at h ⊢
    exact ⟨exprNs_more hq kids h.1, ownE_more hq h.2⟩
theorem exprNs_more (hq : parsN (bs F.name) a = none) {sc : List Nm} : ∀ l : List Ex, exprNs sc a l = true → exprNs sc (F :: a) l = true
  | [], _ => by rw [exprNs]
  | e :: es, h => by
    rw [exprNs, Bool.and_eq_true] at h ⊢
    exact ⟨exprN_more hq e h.1, exprNs_more hq es h.2⟩
end
mutual
theorem stmtN_more (hq : parsN (bs F.name) a = none) : ∀ (s : St) (sc : List Nm), stmtN sc a s = true → stmtN sc (F :: a) s = true
  | .mk k n p e tv th ev el, sc, h => by
    rw [stmtN] at h ⊢
    simp only [Bool.and_eq_true] at h ⊢
    exact ⟨⟨⟨⟨exprN_more hq e h.1.1.1.1, exprN_more hq p h.1.1.1.2⟩, stmtsN_more hq th sc h.1.1.2⟩, stmtsN_more hq el sc h.1.2⟩, h.2⟩
theorem stmtsN_more (hq : parsN (bs F.name) a = none) : ∀ (l : List St) (sc : List Nm), stmtsN sc a l = true → stmtsN sc (F :: a) l = true
  | [], _, _ => by rw [stmtsN]
  | .mk k n p e tv th ev el :: ss, sc, h => by
    rw [stmtsN, Bool.and_eq_true] at h ⊢
    exact ⟨stmtN_more hq _ sc h.1, stmtsN_more hq ss _ h.2⟩
end
theorem formedN_more (hq : parsN (bs F.name) a = none) {f : TreeP.Fn} (hf : bs f.name ≠ bs F.name) (h : formedN f a = 0) : formedN f (F :: a) = 0 := by
  unfold formedN at h ⊢
  have h1 : headOk f a = true := by
    cases hh : headOk f a with
    | true => rfl
    | false => rw [hh] at h; cases h
  have h2 : wholeF f = true := by
    cases hh : wholeF f with
    | true => rfl
    | false => rw [h1, hh] at h; cases h
  have h3 : bodyOk f a = true := by
    cases hh : bodyOk f a with
    | true => rfl
    | false => rw [h1, h2, hh] at h; cases h
  have h1' : headOk f (F :: a) = true := by
    unfold headOk at h1 ⊢
    rw [parsN_cons_ne (fun e => hf e.symm)]
    exact h1
  have h3' : bodyOk f (F :: a) = true := by
    unfold bodyOk at h3 ⊢
    rw [Bool.and_eq_true] at h3 ⊢
    exact ⟨stmtsN_more hq _ _ h3.1, exprN_more hq _ h3.2⟩
  rw [h1', h2, h3']
  rfl
end
theorem goN_more {F : TreeP.Fn} : ∀ (l a : List TreeP.Fn), parsN (bs F.name) (a ++ l) = none → goN a l = (0, -1) → goN (F :: a) l = (0, -1)
  | [], a, _, h => by
    rw [goN] at h ⊢
    cases a with
    | nil => cases h
    | cons g b => rw [List.getLast?_cons_cons]; revert h; cases (g :: b).getLast? with
      | none => intro h; cases h
      | some f =>
        simp only
        intro h
        have h1 : mainB f = true := by
          cases hh : mainB f with
          | true => rfl
          | false => rw [hh] at h; cases h
        have h2 : bareB f = true := by
          cases hh : bareB f with
          | true => rfl
          | false => rw [h1, hh] at h; cases h
        rw [h1, h2]
        rfl
  | f :: fs, a, hn, h => by
    rw [goN] at h ⊢
    have hf0 : formedN f a = 0 := by
      rcases (show formedN f a = 0 ∨ formedN f a ≠ 0 by omega) with h0 | h0
      · exact h0
      · rw [if_neg h0] at h
        injection h
    rw [if_pos hf0] at h
    have hne := parsN_mem hn f (by simp)
    have hna : parsN (bs F.name) a = none := by
      cases hp : parsN (bs F.name) a with
      | none => rfl
      | some x =>
        exfalso
        have hm := parsN_mem hn
        clear h hf0 hn
        induction a with
        | nil => cases hp
        | cons g b ih =>
          rw [parsN] at hp
          split at hp
          · rename_i hg
            exact hm g (by simp) (by simpa using hg)
          · exact ih hp (fun f' hf' => hm f' (by
              rcases List.mem_append.1 hf' with h | h
              · simp [h]
              · simp [h]))
    rw [if_pos (formedN_more hna hne hf0)]
    have := goN_more (F := F) fs (a ++ [f]) (by rw [List.append_assoc]; exact hn) h
    exact this
theorem oneF_right (k : Nat) (n : Int) (h1 : 0 < k) (h2 : k ≤ 30) (hn0 : 0 ≤ n) (hn1 : n ≤ 65535) : rightF (oneF k n) = true := by
  have hq := qs_name ⟨k, by omega⟩ h1
  have hq' : nameB (bs (qs k)) = true := hq
  unfold rightF oneF
  simp only [hq']
  have h3 : rightE (.mk 1 n ⟨#[]⟩ false (.slice none 0 0) []) = true := by
    rw [rightE]
    simp only [rightEs, askE]
    have a1 : decide (0 ≤ n) = true := by simpa using hn0
    have a2 : decide (n ≤ 999999999999999999) = true := by simp; omega
    simp only [a1, a2]
    rfl
  rw [h3]
  rfl
theorem checkN_more (k : Nat) (n : Int) (l : List TreeP.Fn) (h1 : 0 < k) (h2 : k ≤ 30) (hn0 : 0 ≤ n) (hn1 : n ≤ 65535) (hl : l.length ≤ 29) (hp : parsN (bs (qs k)) l = none) (h : checkN l = (0, -1)) : checkN (oneF k n :: l) = (0, -1) := by
  unfold checkN at h ⊢
  cases hr : rightP l with
  | false => rw [hr] at h; cases h
  | true =>
    rw [hr, if_pos rfl] at h
    have hr' : rightP (oneF k n :: l) = true := by
      unfold rightP at hr ⊢
      simp only [Bool.and_eq_true, decide_eq_true_eq] at hr ⊢
      refine ⟨⟨by rw [List.all_cons, oneF_right k n h1 h2 hn0 hn1]; exact hr.1.1, by rw [List.length_cons]; omega⟩, ?_⟩
      have : deepF (oneF k n) = 0 := by unfold deepF oneF; simp [deepT, deepSs, deepE, deepPs]
      rw [deepFs, this]
      have := hr.2
      omega
    rw [hr', if_pos rfl, goN]
    have hf : formedN (oneF k n) [] = 0 := by
      unfold formedN headOk wholeF bodyOk oneF
      simp [parsN, livesT, livesTs, parsOk, wholeT, wholeTs, stmtsN, exprN, exprNs, ownE]
    rw [if_pos hf]
    exact goN_more (F := oneF k n) l [] hp h
theorem rightP_names {l : List TreeP.Fn} (h : checkN l = (0, -1)) : ∀ f ∈ l, nameB (bs f.name) = true := by
  unfold checkN at h
  cases hr : rightP l with
  | false => rw [hr] at h; cases h
  | true =>
    intro f hf
    unfold rightP at hr
    simp only [Bool.and_eq_true, List.all_eq_true] at hr
    have := hr.1.1 f hf
    unfold rightF at this
    simp only [Bool.and_eq_true] at this
    first | exact this.1.1.1.1.1.1.1.1.2 | exact this.1.1.1.1.1.1.1.2 | exact this.1.1.1.1.1.1.2
theorem qs_len (k : Nat) : (bs (qs k)).length = k := by simp [qs, bs]
theorem qs_succ (k : Nat) : qs k ++ ⟨#[113]⟩ = qs (k + 1) := by
  apply ByteArray.ext
  rw [ByteArray.data_append]
  apply Array.ext'
  simp [qs, List.replicate_succ']
theorem parsN_some {s : Nm} : ∀ {l : List TreeP.Fn} {n : Nat}, parsN s l = some n → ∃ f ∈ l, bs f.name = s
  | [], _, h => by cases h
  | f :: fs, _, h => by
    rw [parsN] at h
    split at h
    · rename_i hf
      exact ⟨f, by simp, by simpa using hf⟩
    · obtain ⟨g, h1, h2⟩ := parsN_some h
      exact ⟨g, by simp [h1], h2⟩
theorem qs_found {l : List TreeP.Fn} {k : Nat} (hw : ∀ s, wordB s = true → s.length ≤ 30) (h : checkN l = (0, -1)) (hf : 0 ≤ findN (bs (qs k)) l 0) : k ≤ 30 := by
  rcases findN_parsN (bs (qs k)) l 0 (by omega) with ⟨h1, _⟩ | ⟨j, f, _, _, h1⟩
  · omega
  · obtain ⟨g, hg, he⟩ := parsN_some h1
    have hn := rightP_names h g hg
    unfold nameB at hn
    simp only [Bool.and_eq_true] at hn
    have := hw _ hn.2
    rw [he, qs_len] at this
    exact this
theorem qs_free {l : List TreeP.Fn} {k : Nat} (hf : ¬ 0 ≤ findN (bs (qs k)) l 0) : parsN (bs (qs k)) l = none := by
  rcases findN_parsN (bs (qs k)) l 0 (by omega) with ⟨_, h1⟩ | ⟨j, f, h1, _⟩
  · exact h1
  · omega
end Go.Proofs.YtemflcojebanlaaGreatDoor.NmP
/- The contract of NamesMore: it returns true, whatever the program (of weight at most 1048576) and the number. -/
namespace Go.Proofs.YtemflcojebanlaaGreatDoor.NmC
open Go Go.RowKit Go.Lib Go.Sort Go.Maps Go.Proofs.YtemflcojebanlaaGreatDoor.LexP Go.Proofs.YtemflcojebanlaaGreatDoor.TreeP Go.Proofs.YtemflcojebanlaaGreatDoor.LexC Go.Proofs.YtemflcojebanlaaGreatDoor.TreeC Go.Proofs.YtemflcojebanlaaGreatDoor.NmP Go.Proofs.YtemflcojebanlaaGreatDoor.ErrAs

theorem oneF_in {w : World} {k : Nat} {n : Int} (hn0 : 0 ≤ n) (hn1 : n ≤ 65535) : (oneF k n).In w :=
  ⟨lies_nil, ⟨lies_nil, fun p hp => by cases hp⟩, by rw [oneF, Ty.In]; exact ⟨lies_nil, trivial⟩, lies_nil, ⟨lies_nil, trivial⟩, by rw [oneF]; exact ⟨by omega, lies_nil, trivial⟩⟩
theorem qs_size (k : Nat) : (qs k).size = k := by
  have := qs_len k
  simpa [bs] using this
theorem qs_one : (⟨#[113]⟩ : ByteArray) = qs 1 := rfl
theorem owns_one (w : World) (e : TypeId) (size base : Nat) (cells : List Value) (hc : cells.length = size) (hb : base = w.heap.size) :
    (w.alloc (.cells cells.toArray e)).ownsRow base e size (.slice (some ⟨base, 0, none⟩) 1 1) 1 cells :=
  ⟨by simp [hc], .inr ⟨base, 1, cells.toArray, rfl, Nat.le_refl _, by rw [hb]; exact heap_alloc_new w _, Nat.le_refl _, by decide, by simp [hc], by rw [Nat.one_mul, ← hc]; simp⟩⟩
set_option maxHeartbeats 4000000 in
set_option maxRecDepth 100000 in
theorem namesMore_any (l : List TreeP.Fn) (n : Int) (w : World) (v : Value) (hn0 : 0 ≤ n) (hn1 : n ≤ 65535) (hw : wFs l ≤ 1048576) (hin : ProgIn w v l) (hno : ∀ m c, v = .slice none m c → m = 0 ∧ c = 0) (L : NLists w) :
    Calls Tryz.prog 5 #[v, .int .u16 n] w fun e w' => e = .returned (.bool true) ∧ Below w.heap.size w w' := by
  have hlen := wFs_len l
  have C0 := hid (awake4 w L.tabs L.err)
  have CS := hid (fun W (hb : Below w.heap.size w W) => rSize_any l W v hw (hin.keep (Keeps.of_below hb)))
  have CP := hid (fun W (hb : Below w.heap.size w W) => check_any l v W hw (hin.keep (Keeps.of_below hb)) (L.tabs.below hb))
  have CF := hid (fun (k : Nat) W (hb : Below w.heap.size w W) => rFind_any (qs k) l v W (by omega) (hin.keep (Keeps.of_below hb)).1)
  have HT := hid L.tabs
  have HI := hid hin
  have HN := hid hno
  obtain ⟨sz, hsz⟩ : ∃ sz, sizeFs 0 l = sz := ⟨_, rfl⟩
  have HSZ := hid hsz
  rw [hsz] at CS
  obtain ⟨p, cap, rfl, hcap, hx⟩ := id hin.1
  rw [List.length_map] at *
  have hll : (l.length : Int) ≤ 1048576 := by omega
  generalize hl : l.length = len at *
  have HL := hid hl
  have HK := hid (show (len ≤ cap ∧ (len : Int) ≤ 1048576) ∧ 0 ≤ n ∧ n ≤ 65535 from ⟨⟨hcap, hll⟩, hn0, hn1⟩)
  clear hl hx hsz hin hno L hw hlen hn0 hn1 hcap hll
  by_cases h400 : 400 < sz
  · clear CP
    go_enter Tryz.func5, Tryz.ntmps5
    go_wp2_with fail
    refine C0.out.mono ?_
    rintro e W1 ⟨rfl, hb1⟩
    go_wp2_with fail
    refine (CS.out _ hb1).mono ?_
    rintro e W2 ⟨rfl, hb2⟩
    have B2 := hb1.trans (hb2.mono hb1.size)
    go_wp2_with fail
    go_ret
    exact ⟨rfl, B2⟩
  by_cases h29 : 29 < len
  · clear CP
    go_enter Tryz.func5, Tryz.ntmps5
    go_wp2_with fail
    refine C0.out.mono ?_
    rintro e W1 ⟨rfl, hb1⟩
    go_wp2_with fail
    refine (CS.out _ hb1).mono ?_
    rintro e W2 ⟨rfl, hb2⟩
    have B2 := hb1.trans (hb2.mono hb1.size)
    go_wp2_with fail
    go_ret
    exact ⟨rfl, B2⟩
  go_enter Tryz.func5, Tryz.ntmps5
  go_wp2_with fail
  refine C0.out.mono ?_
  rintro e W1 ⟨rfl, hb1⟩
  go_wp2_with fail
  refine (CS.out _ hb1).mono ?_
  rintro e W2 ⟨rfl, hb2⟩
  have B2 := hid (hb1.trans (hb2.mono hb1.size))
  clear hb1 hb2 C0 CS
  go_wp2_with fail
  refine (CP.out _ B2.out).mono ?_
  rintro e W3 ⟨hb3, h3⟩
  have B3 := hid (B2.out.trans (hb3.mono B2.out.size))
  clear hb3 B2 CP
  rcases h3 with ⟨_, rfl⟩ | ⟨hck, rfl⟩ | ⟨_, _, b, rfl, _⟩
  · go_wp2_with fail
    go_ret
    exact ⟨rfl, B3.out⟩
  rotate_left
  · go_wp2_with fail
    go_ret
    exact ⟨rfl, B3.out⟩
  have HC := hid hck
  clear hck
  go_wp2_with fail
  go_loopg [5] 31 (fun gf u5 wx => ∃ k : Nat, u5 = .string (qs k) ∧ 1 ≤ k ∧ k ≤ 31 ∧ 31 ≤ k + gf ∧ wx = W3)
  case atStart => exact ⟨1, rfl, by omega, by omega, by omega, rfl⟩
  case round =>
    obtain ⟨k, rfl, hk1, hk2, hg, rfl⟩ := hrel
    go_wp2_with fail
    refine (CF.out k _ B3.out).mono ?_
    rintro e W4 ⟨rfl, rfl⟩
    have hz := qs_size k
    by_cases hf : 0 ≤ findN (bs (qs k)) l 0
    · have hk3 := qs_found (fun _ => word_len) HC.out hf
      generalize findN (bs (qs k)) l 0 = fi at *
      go_wp2_with fail
      go_roundg (gk - 1)
      case measure => omega
      case rel => exact ⟨k + 1, by rw [← qs_succ], by omega, by omega, by omega, rfl⟩
    · have hq := hid (qs_free hf)
      generalize findN (bs (qs k)) l 0 = fi at *
      by_cases h30 : 30 < k
      · go_wp2_with fail
        go_ret
        exact ⟨rfl, B3.out⟩
      have KK := hid (checkN_more k n l (by omega) (by omega) HK.out.2.1 HK.out.2.2 (by have := HL.out; omega) hq.out HC.out)
      have KI : Hid (∀ W : World, (oneF k n).In W) := hid (fun W => oneF_in HK.out.2.1 HK.out.2.2)
      have h64 : wrap64 n = n := by have := HK.out.2; unfold wrap64; omega
      clear CF HC
      have B4 := hid (B3.out.trans (((Below.refl _ wr).alloc (Nat.le_refl _) (.cells (oneF k n).cells.toArray 42)).mono B3.out.size))
      have B5 := hid (B4.out.trans (((Below.refl _ _).alloc (Nat.le_refl _) (.cells (oneF k n).cells.toArray 42)).mono B4.out.size))
      have HO := hid (owns_one (wr.alloc (.cells (oneF k n).cells.toArray 42)) 42 14 (wr.heap.size + 1) (oneF k n).cells rfl (by simp))
      have HP := hid (HI.out.keep (Keeps.of_below B5.out))
      go_wp2_with (first | (at_builtin; refine wpList_append_fns (W := (wr.alloc (.cells (oneF k n).cells.toArray 42)).alloc (.cells (oneF k n).cells.toArray 42)) rfl (.tmp 38) (.tmp 39) rfl (wr.heap.size + 1) _ 1 _ rfl HO.out _ l rfl HP.out HN.out ?cN1 ?cB1 ?_))
      case cN1 => have := HK.out; have := HL.out; omega
      case cB1 => simp
      intro v6 W6 hown6 hgrow6
      have b6 := B5.out.grown hgrow6 (by have := B5.out.size; have := B3.out.size; simp; omega) (fun j hj => by simp [Value.ownBlock] at hj; have := B3.out.size; omega)
      have hown6' : W6.ownsRow (wr.heap.size + 1) 42 14 v6 (oneF k n :: l).length (fnRow (oneF k n :: l)) := by
        rw [show (oneF k n :: l).length = 1 + l.length by simp; omega]
        exact hown6
      have hp6 : ProgIn W6 v6 (oneF k n :: l) := ⟨owns_fns hown6', fun f hf => by
        rcases List.mem_cons.1 hf with rfl | h
        · exact KI.out W6
        · exact (HI.out.2 f h).keep (Keeps.of_below b6)⟩
      have B6 := hid b6
      have hwm : wFs (oneF k n :: l) ≤ 1048576 := by
        have h1 := wFs_size l 0 (by rw [HSZ.out]; omega)
        rw [HSZ.out] at h1
        have he : (⟨#[]⟩ : ByteArray).size = 0 := rfl
        simp only [wFs, wF, oneF, wNs, wPas, wSs, wE, wEs, wT, wTs, he, qs_size]
        omega
      have C6 := hid (check_any (oneF k n :: l) v6 W6 hwm hp6 (HT.out.below b6))
      rw [KK.out] at C6
      clear hown6 hown6' hgrow6 b6 hp6 hwm HO HP B4 B5
      go_wp2_with fail
      refine C6.out.mono ?_
      rintro e W7 ⟨hb7, h7⟩
      have B7 := hid (B6.out.trans (hb7.mono B6.out.size))
      clear hb7
      rcases h7 with ⟨h, _⟩ | ⟨_, rfl⟩ | ⟨h, _⟩
      · cases h
      rotate_left
      · cases h
      go_wp2_with fail
      go_ret
      exact ⟨rfl, B7.out⟩
end Go.Proofs.YtemflcojebanlaaGreatDoor.NmC
/- An argument read as data: the tree of types, expressions, statements, functions that it is, how it lies in memory, and that it weighs at most the data's bulk. -/
namespace Go.Proofs.YtemflcojebanlaaGreatDoor.TreeO
open Go Go.RowKit Go.ChangeShapes Go.WideShapes Go.Proofs.YtemflcojebanlaaGreatDoor.LexP Go.Proofs.YtemflcojebanlaaGreatDoor.TreeP

theorem list_of {α : Type} {p : Nat → α → Prop} : ∀ n : Nat, (∀ i, i < n → ∃ x, p i x) → ∃ l : List α, l.length = n ∧ ∀ (i : Nat) (a : α), l[i]? = some a → p i a
  | 0, _ => ⟨[], rfl, fun i a h => by simp at h⟩
  | n + 1, h => by
    obtain ⟨l, hl, hp⟩ := list_of n fun i hi => h i (by omega)
    obtain ⟨x, hx⟩ := h n (by omega)
    refine ⟨l ++ [x], by simp [hl], fun i a hi => ?_⟩
    by_cases h1 : i < l.length
    · rw [List.getElem?_append_left h1] at hi
      exact hp i a hi
    · rw [List.getElem?_append_right (by omega)] at hi
      have hlt : i - l.length < [x].length := (List.getElem?_eq_some_iff.1 hi).1
      have e : i = n := by simp at hlt; omega
      subst e
      simp [hl] at hi
      subst hi
      exact hx
theorem sum_bulk {H α : Type} (wt : α → Nat) : ∀ (l : List α) (es : List (DataW H)), l.length = es.length → (∀ (i : Nat) (a : α) (y : DataW H), l[i]? = some a → es[i]? = some y → wt a ≤ Rows.uptoBulk y) → (l.map wt).sum ≤ Rows.uptoBulkAll es
  | [], [], _, _ => by simp
  | a :: l, y :: es, hl, h => by
    have h0 := h 0 a y rfl rfl
    have := sum_bulk wt l es (by simpa using hl) fun i b z hb hz => h (i + 1) b z (by simpa using hb) (by simpa using hz)
    simp only [List.map_cons, List.sum_cons, Rows.uptoBulkAll]
    omega
  | [], y :: es, hl, _ => by simp at hl
  | a :: l, [], hl, _ => by simp at hl

section
variable {H : Type} {enc : TypeId × Value → H} {w : World} {base : Nat} {sp : Nat → Bool} {hd : Bool}

theorem open_rows {α : Type} {P : Program} (cells : α → List Value) (Q : α → Prop) (wt : α → Nat) {t e : TypeId} {size n : Nat} {cs : List Value} {x : DataW H × List MemPlace}
    (ht : P.underlying t = some (.slice e)) (hc : P.cellsOf e = size) (hs : 0 < size)
    (ih : ∀ m, m < n → ∀ cs' y, DataW.trod enc P w base sp hd m e cs' = some y → ∃ a, cs' = cells a ∧ Q a ∧ wt a ≤ Rows.uptoBulk y.1)
    (h : DataW.trod enc P w base sp hd n t cs = some x) :
    ∃ (v : Value) (l : List α), cs = [v] ∧ Lies w size v (l.map cells) ∧ (∀ a ∈ l, Q a) ∧ 1 + (l.map wt).sum ≤ Rows.uptoBulk x.1 := by
  rcases DataW.trod_slice ht h with ⟨rfl, rfl⟩ | ⟨a, len, cap, elems, rest, m, rfl, rfl, rfl, hb, hl, hm, hlen, hel, _, _⟩
  · exact ⟨_, [], rfl, ⟨none, 0, rfl, by simp, fun h => absurd rfl h⟩, by simp, by simp [Rows.uptoBulk]⟩
  · have key : ∀ i, i < len → ∃ A : α, ∃ y, elems[i]? = some y ∧ w.cells? base (a.add (i * size)) size = some (cells A) ∧ Q A ∧ wt A ≤ Rows.uptoBulk y.1 := by
      intro i hi
      have h1 := hel i hi
      rw [hc, List.getElem?_eq_getElem (by omega)] at h1
      obtain ⟨cs', h2, h3⟩ := Option.bind_eq_some_iff.1 h1
      obtain ⟨A, rfl, hq, hw⟩ := ih m (by omega) cs' _ h3
      exact ⟨A, _, List.getElem?_eq_getElem _, h2, hq, hw⟩
    obtain ⟨l, hll, hp⟩ := list_of len key
    refine ⟨_, l, rfl, ⟨some a, cap, by simp [hll], by simp [hll]; omega, fun hne => ?_⟩, fun A hA => ?_, ?_⟩
    · obtain ⟨b, off, spot⟩ := a
      have hpos : 0 < l.length := by
        cases l with
        | nil => exact absurd rfl hne
        | cons _ _ => simp
      obtain ⟨A0, hA0⟩ : ∃ A0, l[0]? = some A0 := ⟨_, List.getElem?_eq_getElem hpos⟩
      obtain ⟨y, _, h2, _, _⟩ := hp 0 A0 hA0
      obtain ⟨_, hlen0, hcell⟩ := World.cells?_some h2
      have g0 := hcell 0 hs
      obtain ⟨c0, hc0⟩ : ∃ c0, (cells A0)[0]? = some c0 := ⟨_, List.getElem?_eq_getElem (by omega)⟩
      rw [hc0] at g0
      have hspot : spot = none := by simpa [Addr.add] using World.cell?_spot g0
      subst hspot
      refine ⟨b, off, rfl, fun i c hi j u hj => ?_⟩
      rw [List.getElem?_map] at hi
      obtain ⟨A, hA, rfl⟩ := Option.map_eq_some_iff.1 hi
      obtain ⟨y, _, h2, _, _⟩ := hp i A hA
      obtain ⟨_, hlenA, hcell⟩ := World.cells?_some h2
      have hjlt : j < size := by rw [← hlenA]; exact (List.getElem?_eq_some_iff.1 hj).1
      have := hcell j hjlt
      rw [WideShapes.add_plain, WideShapes.add_plain, hj] at this
      exact this
    · obtain ⟨i, hi, rfl⟩ := List.getElem_of_mem hA
      obtain ⟨y, _, _, hq, _⟩ := hp i _ (List.getElem?_eq_getElem hi)
      exact hq
    · have := sum_bulk (H := H) wt l (elems.map (·.1)) (by simp [hll, hlen]) fun i A y hA hy => by
        obtain ⟨z, hz, _, _, hwz⟩ := hp i A hA
        rw [List.getElem?_map, hz] at hy
        simp at hy
        subst hy
        exact hwz
      simp only [Rows.uptoBulk]
      omega

theorem wTs_sum : ∀ l : List Ty, wTs l = (l.map wT).sum
  | [] => by simp [wTs]
  | t :: ts => by simp [wTs, wTs_sum ts]
theorem wEs_sum : ∀ l : List Ex, wEs l = (l.map wE).sum
  | [] => by simp [wEs]
  | t :: ts => by simp [wEs, wEs_sum ts]
theorem wSs_sum : ∀ l : List St, wSs l = (l.map wS).sum
  | [] => by simp [wSs]
  | t :: ts => by simp [wSs, wSs_sum ts]
theorem wPas_sum : ∀ l : List Pa, wPas l = (l.map wPa).sum
  | [] => by simp [wPas]
  | t :: ts => by simp [wPas, wPas_sum ts]
theorem wNs_sum : ∀ l : List ByteArray, wNs l = (l.map fun s => 1 + s.size).sum
  | [] => by simp [wNs]
  | t :: ts => by simp [wNs, wNs_sum ts]
theorem wFs_sum : ∀ l : List TreeP.Fn, wFs l = (l.map wF).sum
  | [] => by simp [wFs]
  | t :: ts => by simp [wFs, wFs_sum ts]
theorem size_toList (s : ByteArray) : s.data.toList.length = s.size := by rw [Array.length_toList]; rfl

theorem field {P : Program} {m : Nat} {fs : Array Field} {cs : List Value} {xs : List (DataW H × List MemPlace)} (hf : ∀ (i : Nat) (f : Field), fs[i]? = some f → DataW.trod enc P w base sp hd m f.type ((cs.drop f.offset).take (P.cellsOf f.type)) = xs[i]?)
    (i t o n : Nat) (h : (fs[i]?).map (fun f => (f.type, f.offset)) = some (t, o)) (hc : P.cellsOf t = n) : DataW.trod enc P w base sp hd m t ((cs.drop o).take n) = xs[i]? := by
  obtain ⟨f, h1, h2⟩ := Option.map_eq_some_iff.1 h
  have := hf i f h1
  simp only [Prod.mk.injEq] at h2
  obtain ⟨rfl, rfl⟩ := h2
  rw [hc] at this
  exact this
theorem c_int : Tryz.prog.cellsOf 3 = 1 := by kernel_rfl
theorem c_int64 : Tryz.prog.cellsOf 2 = 1 := by kernel_rfl
theorem c_string : Tryz.prog.cellsOf 9 = 1 := by kernel_rfl
theorem c_bool : Tryz.prog.cellsOf 4 = 1 := by kernel_rfl
theorem c_type : Tryz.prog.cellsOf 34 = 4 := by kernel_rfl
theorem c_expr : Tryz.prog.cellsOf 40 = 5 := by kernel_rfl
theorem c_stmt : Tryz.prog.cellsOf 68 = 14 := by kernel_rfl
theorem c_param : Tryz.prog.cellsOf 52 = 5 := by kernel_rfl
theorem c_fn : Tryz.prog.cellsOf 42 = 14 := by kernel_rfl
theorem c_types : Tryz.prog.cellsOf 32 = 1 := by kernel_rfl
theorem c_exprs : Tryz.prog.cellsOf 38 = 1 := by kernel_rfl
theorem c_stmts : Tryz.prog.cellsOf 37 = 1 := by kernel_rfl
theorem c_params : Tryz.prog.cellsOf 36 = 1 := by kernel_rfl
theorem c_strings : Tryz.prog.cellsOf 35 = 1 := by kernel_rfl

theorem open_ty (n : Nat) : ∀ (cs : List Value) (x : DataW H × List MemPlace), DataW.trod enc Tryz.prog w base sp hd n 34 cs = some x → ∃ T : Ty, cs = T.cells ∧ T.In w ∧ wT T ≤ Rows.uptoBulk x.1 := by
  induction n using Nat.strongRecOn with
  | ind n ih =>
  intro cs x h
  obtain ⟨xs, m, rfl, rfl, hlen, hxs, hf⟩ := DataW.trod_struct Tryz.underlying34 h
  rw [c_type] at hlen
  have f0 := field hf 0 3 0 1 rfl c_int
  have f1 := field hf 1 9 1 1 rfl c_string
  have f2 := field hf 2 4 2 1 rfl c_bool
  have f3 := field hf 3 32 3 1 rfl c_types
  clear hf h
  obtain ⟨x0, x1, x2, x3, rfl⟩ : ∃ a b c d, xs = [a, b, c, d] := by
    match xs, hxs with
    | [a, b, c, d], _ => exact ⟨a, b, c, d, rfl⟩
  obtain ⟨c0, c1, c2, c3, rfl⟩ : ∃ a b c d, cs = [a, b, c, d] := by
    match cs, hlen with
    | [a, b, c, d], _ => exact ⟨a, b, c, d, rfl⟩
  obtain ⟨k, e0, r0, _⟩ := DataW.trod_int Tryz.underlying3 f0
  obtain ⟨s, e1, r1, _⟩ := DataW.trod_string Tryz.underlying9 f1
  obtain ⟨b, e2, r2⟩ := DataW.trod_bool Tryz.underlying4 f2
  obtain ⟨v, l, e3, hlies, hq, hw⟩ := open_rows Ty.cells (Ty.In w) wT Tryz.underlying32 c_type (by decide) (fun j hj => ih j (by omega)) f3
  simp at e0 e1 e2 e3
  subst e0; subst e1; subst e2; subst e3; subst r0; subst r1; subst r2
  refine ⟨.mk k s b c3 l, rfl, ?_, ?_⟩
  · rw [Ty.In, Ty.ins_iff]
    exact ⟨hlies, hq⟩
  · simp only [wT, wTs_sum, List.map_cons, List.map_nil, Rows.uptoBulk, Rows.uptoBulkAll, size_toList]
    omega

theorem open_ex (n : Nat) : ∀ (cs : List Value) (x : DataW H × List MemPlace), DataW.trod enc Tryz.prog w base sp hd n 40 cs = some x → ∃ T : Ex, cs = T.cells ∧ T.In w ∧ wE T ≤ Rows.uptoBulk x.1 := by
  induction n using Nat.strongRecOn with
  | ind n ih =>
  intro cs x h
  obtain ⟨xs, m, rfl, rfl, hlen, hxs, hf⟩ := DataW.trod_struct Tryz.underlying40 h
  rw [c_expr] at hlen
  have f0 := field hf 0 3 0 1 rfl c_int
  have f1 := field hf 1 2 1 1 rfl c_int64
  have f2 := field hf 2 9 2 1 rfl c_string
  have f3 := field hf 3 4 3 1 rfl c_bool
  have f4 := field hf 4 38 4 1 rfl c_exprs
  clear hf h
  obtain ⟨x0, x1, x2, x3, x4, rfl⟩ : ∃ a b c d e, xs = [a, b, c, d, e] := by
    match xs, hxs with
    | [a, b, c, d, e], _ => exact ⟨a, b, c, d, e, rfl⟩
  obtain ⟨c0, c1, c2, c3, c4, rfl⟩ : ∃ a b c d e, cs = [a, b, c, d, e] := by
    match cs, hlen with
    | [a, b, c, d, e], _ => exact ⟨a, b, c, d, e, rfl⟩
  obtain ⟨k, e0, r0, _⟩ := DataW.trod_int Tryz.underlying3 f0
  obtain ⟨z, e1, r1, hz⟩ := DataW.trod_int Tryz.underlying2 f1
  obtain ⟨s, e2, r2, _⟩ := DataW.trod_string Tryz.underlying9 f2
  obtain ⟨b, e3, r3⟩ := DataW.trod_bool Tryz.underlying4 f3
  obtain ⟨v, l, e4, hlies, hq, hw⟩ := open_rows Ex.cells (Ex.In w) wE Tryz.underlying38 c_expr (by decide) (fun j hj => ih j (by omega)) f4
  simp at e0 e1 e2 e3 e4
  subst e0; subst e1; subst e2; subst e3; subst e4; subst r0; subst r1; subst r2; subst r3
  refine ⟨.mk k z s b c4 l, rfl, ?_, ?_⟩
  · rw [Ex.In, Ex.ins_iff]
    exact ⟨bounds_i64 hz, hlies, hq⟩
  · simp only [wE, wEs_sum, List.map_cons, List.map_nil, Rows.uptoBulk, Rows.uptoBulkAll, size_toList]
    omega

theorem open_st (n : Nat) : ∀ (cs : List Value) (x : DataW H × List MemPlace), DataW.trod enc Tryz.prog w base sp hd n 68 cs = some x → ∃ T : St, cs = T.cells ∧ T.In w ∧ wS T ≤ Rows.uptoBulk x.1 := by
  induction n using Nat.strongRecOn with
  | ind n ih =>
  intro cs x h
  obtain ⟨xs, m, rfl, rfl, hlen, hxs, hf⟩ := DataW.trod_struct Tryz.underlying68 h
  rw [c_stmt] at hlen
  have f0 := field hf 0 3 0 1 rfl c_int
  have f1 := field hf 1 9 1 1 rfl c_string
  have f2 := field hf 2 40 2 5 rfl c_expr
  have f3 := field hf 3 40 7 5 rfl c_expr
  have f4 := field hf 4 37 12 1 rfl c_stmts
  have f5 := field hf 5 37 13 1 rfl c_stmts
  clear hf h
  obtain ⟨x0, x1, x2, x3, x4, x5, rfl⟩ : ∃ a b c d e f, xs = [a, b, c, d, e, f] := by
    match xs, hxs with
    | [a, b, c, d, e, f], _ => exact ⟨a, b, c, d, e, f, rfl⟩
  obtain ⟨c0, c1, c2, c3, c4, c5, c6, c7, c8, c9, ca, cb, cc, cd, rfl⟩ : ∃ c0 c1 c2 c3 c4 c5 c6 c7 c8 c9 ca cb cc cd, cs = [c0, c1, c2, c3, c4, c5, c6, c7, c8, c9, ca, cb, cc, cd] := by
    match cs, hlen with
    | [c0, c1, c2, c3, c4, c5, c6, c7, c8, c9, ca, cb, cc, cd], _ => exact ⟨c0, c1, c2, c3, c4, c5, c6, c7, c8, c9, ca, cb, cc, cd, rfl⟩
  obtain ⟨k, e0, r0, _⟩ := DataW.trod_int Tryz.underlying3 f0
  obtain ⟨s, e1, r1, _⟩ := DataW.trod_string Tryz.underlying9 f1
  obtain ⟨p, e2, hpin, hpw⟩ := open_ex _ _ _ f2
  obtain ⟨q, e3, hqin, hqw⟩ := open_ex _ _ _ f3
  obtain ⟨tv, tl, e4, hlies4, hq4, hw4⟩ := open_rows St.cells (St.In w) wS Tryz.underlying37 c_stmt (by decide) (fun j hj => ih j (by omega)) f4
  obtain ⟨ev, el, e5, hlies5, hq5, hw5⟩ := open_rows St.cells (St.In w) wS Tryz.underlying37 c_stmt (by decide) (fun j hj => ih j (by omega)) f5
  obtain ⟨pk, pn, ps, pm, pv, pl⟩ := p
  obtain ⟨qk, qn, qs, qm, qv, ql⟩ := q
  simp [Ex.cells] at e0 e1 e2 e3 e4 e5
  obtain ⟨rfl, rfl, rfl, rfl, rfl⟩ := e2
  obtain ⟨rfl, rfl, rfl, rfl, rfl⟩ := e3
  subst e0; subst e1; subst e4; subst e5; subst r0; subst r1
  refine ⟨.mk k s (.mk pk pn ps pm c6 pl) (.mk qk qn qs qm cb ql) cc tl cd el, rfl, ?_, ?_⟩
  · rw [St.In, St.ins_iff, St.ins_iff]
    exact ⟨hpin, hqin, hlies4, hq4, hlies5, hq5⟩
  · simp only [wS, wSs_sum, List.map_cons, List.map_nil, Rows.uptoBulk, Rows.uptoBulkAll, size_toList]
    omega

theorem open_pa (n : Nat) (cs : List Value) (x : DataW H × List MemPlace) (h : DataW.trod enc Tryz.prog w base sp hd n 52 cs = some x) : ∃ T : Pa, cs = T.cells ∧ T.In w ∧ wPa T ≤ Rows.uptoBulk x.1 := by
  obtain ⟨xs, m, rfl, rfl, hlen, hxs, hf⟩ := DataW.trod_struct Tryz.underlying52 h
  rw [c_param] at hlen
  have f0 := field hf 0 9 0 1 rfl c_string
  have f1 := field hf 1 34 1 4 rfl c_type
  clear hf h
  obtain ⟨x0, x1, rfl⟩ : ∃ a b, xs = [a, b] := by
    match xs, hxs with
    | [a, b], _ => exact ⟨a, b, rfl⟩
  obtain ⟨c0, c1, c2, c3, c4, rfl⟩ : ∃ a b c d e, cs = [a, b, c, d, e] := by
    match cs, hlen with
    | [a, b, c, d, e], _ => exact ⟨a, b, c, d, e, rfl⟩
  obtain ⟨s, e0, r0, _⟩ := DataW.trod_string Tryz.underlying9 f0
  obtain ⟨p, e1, hpin, hpw⟩ := open_ty _ _ _ f1
  obtain ⟨pk, ps, pm, pv, pl⟩ := p
  simp [Ty.cells] at e0 e1
  obtain ⟨rfl, rfl, rfl, rfl⟩ := e1
  subst e0; subst r0
  refine ⟨⟨s, .mk pk ps pm c4 pl⟩, rfl, hpin, ?_⟩
  simp only [wPa, List.map_cons, List.map_nil, Rows.uptoBulk, Rows.uptoBulkAll, size_toList]
  omega

theorem open_names {n : Nat} {cs : List Value} {x : DataW H × List MemPlace} (h : DataW.trod enc Tryz.prog w base sp hd n 35 cs = some x) : ∃ (v : Value) (l : List ByteArray), cs = [v] ∧ Lies w 1 v (l.map nmCells) ∧ 1 + wNs l ≤ Rows.uptoBulk x.1 := by
  obtain ⟨v, l, e, hlies, _, hw⟩ := open_rows (α := ByteArray) nmCells (fun _ => True) (fun s => 1 + s.size) Tryz.underlying35 c_string (by decide) (fun j _ cs' y hy => by
    obtain ⟨s, rfl, e, _⟩ := DataW.trod_string Tryz.underlying9 hy
    exact ⟨s, rfl, trivial, by rw [e]; simp only [Rows.uptoBulk, size_toList]; omega⟩) h
  exact ⟨v, l, e, hlies, by rw [wNs_sum]; exact hw⟩

theorem open_fn (n : Nat) (cs : List Value) (x : DataW H × List MemPlace) (h : DataW.trod enc Tryz.prog w base sp hd n 42 cs = some x) : ∃ T : TreeP.Fn, cs = T.cells ∧ T.In w ∧ wF T ≤ Rows.uptoBulk x.1 := by
  obtain ⟨xs, m, rfl, rfl, hlen, hxs, hf⟩ := DataW.trod_struct Tryz.underlying42 h
  rw [c_fn] at hlen
  have f0 := field hf 0 9 0 1 rfl c_string
  have f1 := field hf 1 35 1 1 rfl c_strings
  have f2 := field hf 2 36 2 1 rfl c_params
  have f3 := field hf 3 34 3 4 rfl c_type
  have f4 := field hf 4 35 7 1 rfl c_strings
  have f5 := field hf 5 37 8 1 rfl c_stmts
  have f6 := field hf 6 40 9 5 rfl c_expr
  clear hf h
  obtain ⟨x0, x1, x2, x3, x4, x5, x6, rfl⟩ : ∃ a b c d e f g, xs = [a, b, c, d, e, f, g] := by
    match xs, hxs with
    | [a, b, c, d, e, f, g], _ => exact ⟨a, b, c, d, e, f, g, rfl⟩
  obtain ⟨c0, c1, c2, c3, c4, c5, c6, c7, c8, c9, ca, cb, cc, cd, rfl⟩ : ∃ c0 c1 c2 c3 c4 c5 c6 c7 c8 c9 ca cb cc cd, cs = [c0, c1, c2, c3, c4, c5, c6, c7, c8, c9, ca, cb, cc, cd] := by
    match cs, hlen with
    | [c0, c1, c2, c3, c4, c5, c6, c7, c8, c9, ca, cb, cc, cd], _ => exact ⟨c0, c1, c2, c3, c4, c5, c6, c7, c8, c9, ca, cb, cc, cd, rfl⟩
  obtain ⟨s, e0, r0, _⟩ := DataW.trod_string Tryz.underlying9 f0
  obtain ⟨v1, l1, e1, hl1, hw1⟩ := open_names f1
  obtain ⟨v2, l2, e2, hl2, hq2, hw2⟩ := open_rows Pa.cells (Pa.In w) wPa Tryz.underlying36 c_param (by decide) (fun j _ => open_pa j) f2
  obtain ⟨p, e3, hpin, hpw⟩ := open_ty _ _ _ f3
  obtain ⟨v4, l4, e4, hl4, hw4⟩ := open_names f4
  obtain ⟨v5, l5, e5, hl5, hq5, hw5⟩ := open_rows St.cells (St.In w) wS Tryz.underlying37 c_stmt (by decide) (fun j _ => open_st j) f5
  obtain ⟨q, e6, hqin, hqw⟩ := open_ex _ _ _ f6
  obtain ⟨pk, ps, pm, pv, pl⟩ := p
  obtain ⟨qk, qn, qs, qm, qv, ql⟩ := q
  simp [Ex.cells, Ty.cells] at e0 e1 e2 e3 e4 e5 e6
  obtain ⟨rfl, rfl, rfl, rfl⟩ := e3
  obtain ⟨rfl, rfl, rfl, rfl, rfl⟩ := e6
  subst e0; subst e1; subst e2; subst e4; subst e5; subst r0
  refine ⟨⟨s, c1, l1, c2, l2, .mk pk ps pm c6 pl, c7, l4, c8, l5, .mk qk qn qs qm cd ql⟩, rfl, ⟨hl1, ⟨hl2, hq2⟩, hpin, hl4, ⟨hl5, (St.ins_iff _ _).2 hq5⟩, hqin⟩, ?_⟩
  simp only [wF, wSs_sum, wPas_sum, List.map_cons, List.map_nil, Rows.uptoBulk, Rows.uptoBulkAll, size_toList]
  omega

set_option maxRecDepth 100000 in
theorem prog_nil {v : Value} {d : DataW H} {ps : List MemPlace} (h : DataW.Trod enc Tryz.prog w base sp hd 22 v d ps) : ∀ m c, v = .slice none m c → m = 0 ∧ c = 0 := by
  rintro m c rfl
  obtain ⟨n, hn⟩ := h
  rcases DataW.trod_slice Tryz.underlying22 hn with ⟨h1, _⟩ | ⟨a, len, cap, elems, rest, m, _, h1, _⟩
  · simp [Value.cells] at h1
    exact h1
  · simp [Value.cells] at h1
set_option maxRecDepth 100000 in
theorem open_prog {r : Reach} {b0 : Nat} {v : Value} {d : DataW H} {ps : List MemPlace} (hval : Value.okWide Tryz.prog w r b0 22 v) (h : DataW.Trod enc Tryz.prog w base sp hd 22 v d ps) :
    ∃ p, ProgIn w v p ∧ 1 + wFs p ≤ Rows.uptoBulk d := by
  obtain ⟨a, len, cap, rfl⟩ := okWide_slice Tryz.underlying22 hval
  obtain ⟨n, hn⟩ := h
  obtain ⟨u, l, e, hlies, hq, hw⟩ := open_rows Fn.cells (Fn.In w) wF Tryz.underlying22 c_fn (by decide) (fun j _ => open_fn j) hn
  simp [Value.cells] at e
  subst e
  exact ⟨l, ⟨hlies, hq⟩, by rw [wFs_sum]; exact hw⟩
set_option maxRecDepth 100000 in
theorem open_type {r : Reach} {b0 : Nat} {v : Value} {d : DataW H} {ps : List MemPlace} (hval : Value.okWide Tryz.prog w r b0 34 v) (h : DataW.Trod enc Tryz.prog w base sp hd 34 v d ps) :
    ∃ t : Ty, v = t.val ∧ t.In w ∧ wT t ≤ Rows.uptoBulk d := by
  obtain ⟨cs, rfl, _⟩ := okWide_struct Tryz.underlying34 hval
  obtain ⟨n, hn⟩ := h
  obtain ⟨T, e, hin, hw⟩ := open_ty n _ _ hn
  simp [Value.cells] at e
  exact ⟨T, by rw [Ty.val, ← e], hin, hw⟩
end
end Go.Proofs.YtemflcojebanlaaGreatDoor.TreeO
/- What the rows' list of library variables gives, and a world that meets it (the witness). -/
namespace Go.Proofs.YtemflcojebanlaaGreatDoor.NmR
open Go Go.RowKit Go.Lib Go.Proofs.YtemflcojebanlaaGreatDoor.LexP Go.Proofs.YtemflcojebanlaaGreatDoor.ErrAs Go.Proofs.YtemflcojebanlaaGreatDoor.LexC Go.Proofs.YtemflcojebanlaaGreatDoor.NmC

theorem laidOut : laidOutB Tryz.prog = true := by kernel_rfl
theorem own : ownKnob Tryz.prog.godebug = none := by kernel_rfl
theorem gEt : Tryz.prog.globalNamed "errors.errorType" = some 0 := by kernel_rfl
theorem rtNum : (Tryz.prog.cutTypes.find? (·.1 == "internal/reflectlite.rtype")).map (·.2) = some 145 := by kernel_rfl
theorem oneRow : ((List.range 247).filter fun t => Tryz.prog.rowNamed t [101, 114, 114, 111, 114]) = [29] := by kernel_rfl
theorem typesSize : Tryz.prog.types.size = 247 := by kernel_rfl
theorem firstIs : Go.Pinned.utf8First = Lib.firstData := by kernel_rfl
theorem acceptIs : (Rows.laid_unicode_utf8_acceptRanges : DataW Unit) = Lib.acceptData := by kernel_rfl
theorem u8 : Go.Proofs.U8Extra Tryz.prog Tryz.lays260_ren := { n3 := by kernel_rfl, n4 := by kernel_rfl, y3 := by kernel_rfl, y4 := by kernel_rfl, c5 := by kernel_rfl, c119 := by kernel_rfl, c138 := by kernel_rfl }

/-- the list, as the three rows have it -/
def theLaid : List (String × DataW Unit) := [("unicode/utf8.acceptRanges", Rows.laid_unicode_utf8_acceptRanges), ("errors.errorType", Rows.laid_errors_errorType), ("unicode/utf8.first", Rows.laid_unicode_utf8_first)]
theorem lists_of {W : World} (h : laidMetH Tryz.prog theLaid W) : NLists W := by
  have h' : laidMet Tryz.prog [("unicode/utf8.acceptRanges", Rows.laid_unicode_utf8_acceptRanges), ("unicode/utf8.first", Rows.laid_unicode_utf8_first)] W ∧ handlesMet Tryz.prog [("errors.errorType", Rows.laid_errors_errorType)] W := h
  constructor
  · have r1 := laidMet.reads h'.1 (n := "unicode/utf8.first") (d := Rows.laid_unicode_utf8_first) (by simp)
    have r2 := laidMet.reads h'.1 (n := "unicode/utf8.acceptRanges") (d := Rows.laid_unicode_utf8_acceptRanges) (by simp)
    rw [show Rows.laid_unicode_utf8_first = Lib.firstData from firstIs] at r1
    rw [acceptIs] at r2
    exact Go.Proofs.utf8Tabs_of_reads Tryz.lays260 u8 r1 r2
  · obtain ⟨name, u, ty, e1, e2, e3, e4, e5⟩ := h'.2 _ (List.mem_singleton.2 rfl)
    have en : name = [101, 114, 114, 111, 114] := (Option.some.inj e1).symm
    subst en
    obtain rfl := Option.some.inj (rtNum.symm.trans e2)
    have hm : ty ∈ (List.range 247).filter fun t => Tryz.prog.rowNamed t [101, 114, 114, 111, 114] := List.mem_filter.2 ⟨List.mem_range.2 (by rw [← typesSize]; exact e3), e4⟩
    rw [oneRow] at hm
    obtain rfl := List.mem_singleton.1 hm
    have hh : typeHandle Tryz.prog 29 = .pointer (some ⟨4, 29, none⟩) := by kernel_rfl
    rw [hh] at e5
    have := World.var?_cell gEt e5 0
    simpa [ErrVar] using this

/-- A world for the witness: the settled one, with the three variables laid. -/
noncomputable def laidWorld (os : Os) : World :=
  let w0 := World.holding Tryz.prog os ⟨#[], #[], []⟩
  { w0 with heap := ((w0.heap.modify 0 fun
      | .cells _ t frozen => .cells #[.iface 145 (.agg #[.pointer (some ⟨4, 29, none⟩)])] t frozen
      | o => o).modify 1 fun
      | .cells _ t frozen => .cells ((Array.range 256).map fun c => Value.int .u8 (Lib.firstT c)) t frozen
      | o => o).modify 2 fun
      | .cells _ t frozen => .cells ((Array.range 32).map fun c => Value.int .u8 (if c % 2 = 0 then Lib.accLo (c / 2) else Lib.accHi (c / 2))) t frozen
      | o => o }
theorem laid_met (os : Os) (args : Array Value) : laidMetH Tryz.prog theLaid ((laidWorld os).forCall (fun _ _ => 0) ⟨#[], args, []⟩).memory :=
  laidMetH_of_parts (laidMet_of_run' 8 (by kernel_rfl) (by kernel_rfl)) (by kernel_rfl)
end Go.Proofs.YtemflcojebanlaaGreatDoor.NmR
/- The closed facts of the row of namesMore, one by one, and all of them. -/
namespace Go.Proofs.YtemflcojebanlaaGreatDoor.namesMore
open Go.ChangeShapes Go.WideShapes Go.ChangeAt Go.RowKit
set_option maxRecDepth 100000 in
theorem fact0 : (Rows.namesMoreUptoRow.wf (OpenSpec.ofChange (Rows.OpenSpec.upto Rows.namesMoreSpec).bare)) = true := by kernel_rfl
set_option maxRecDepth 100000 in
theorem fact1 : (laidOutB Tryz.pinned.checked.prog) = true := by kernel_rfl
set_option maxRecDepth 100000 in
theorem fact2 : (mapsRowed Tryz.pinned.checked.prog) = true := by kernel_rfl
set_option maxRecDepth 100000 in
theorem fact3 : (Tryz.f5.params.all (Tryz.pinned.checked.prog.readableRec ·)) = true := by kernel_rfl
set_option maxRecDepth 100000 in
theorem fact4 : (namedTie Tryz.pinned.checked.prog Rows.namesMoreUptoRow.named (Rows.OpenSpec.upto Rows.namesMoreSpec).bare.vars) = true := by kernel_rfl
set_option maxRecDepth 100000 in
theorem fact5 : ((Rows.namesMoreUptoRow.stops == [])) = true := by kernel_rfl
set_option maxRecDepth 100000 in
theorem fact6 : ((Tryz.pinned.checked.prog.stops == [])) = true := by kernel_rfl
set_option maxRecDepth 100000 in
theorem fact7 : ((Rows.namesMoreUptoRow.knobs == [])) = true := by kernel_rfl
set_option maxRecDepth 100000 in
theorem fact8 : ((Tryz.pinned.checked.prog.stopKnobs == [])) = true := by kernel_rfl
set_option maxRecDepth 100000 in
theorem fact9 : ((Rows.namesMoreUptoRow.inPlace == Tryz.pinned.checked.prog.inPlace 5)) = true := by kernel_rfl
set_option maxRecDepth 100000 in
theorem fact10 : ((Rows.namesMoreUptoRow.unfollowed == Tryz.pinned.checked.prog.unfollowed 5)) = true := by kernel_rfl
set_option maxRecDepth 100000 in
theorem fact11 : ((Rows.namesMoreUptoRow.recurses == Tryz.pinned.checked.prog.recurses 5)) = true := by kernel_rfl
set_option maxRecDepth 100000 in
theorem fact12 : ((Rows.namesMoreUptoRow.named == Tryz.pinned.checked.prog.varsNamed 5)) = true := by kernel_rfl
set_option maxRecDepth 100000 in
theorem fact13 : ((Rows.namesMoreUptoRow.maps == (Tryz.f5.params.toList ++ (Rows.OpenSpec.upto Rows.namesMoreSpec).bare.plain.varTypes Tryz.pinned.checked.prog).any (Tryz.pinned.checked.prog.mapsRec ·))) = true := by kernel_rfl
set_option maxRecDepth 100000 in
theorem fact14 : ((Rows.namesMoreUptoRow.ifaces == (Tryz.f5.params.toList ++ (Rows.OpenSpec.upto Rows.namesMoreSpec).bare.plain.varTypes Tryz.pinned.checked.prog).any (Tryz.pinned.checked.prog.ifacesRec ·))) = true := by kernel_rfl
set_option maxRecDepth 100000 in
theorem fact15 : ((Rows.namesMoreUptoRow.mapsOut == Tryz.pinned.checked.prog.mapsAmong Tryz.f5.resultTypes.toList)) = true := by kernel_rfl
set_option maxRecDepth 100000 in
theorem fact16 : ((Rows.namesMoreUptoRow.loops == (Tryz.f5.params.toList ++ (Rows.OpenSpec.upto Rows.namesMoreSpec).bare.plain.varTypes Tryz.pinned.checked.prog).any (Tryz.pinned.checked.prog.loopsFrom ·))) = true := by kernel_rfl
set_option maxRecDepth 100000 in
theorem fact17 : ((Rows.namesMoreUptoRow.wideKeys == (Tryz.f5.params.toList ++ (Rows.OpenSpec.upto Rows.namesMoreSpec).bare.plain.varTypes Tryz.pinned.checked.prog ++ Tryz.f5.resultTypes.toList).any (Tryz.pinned.checked.prog.wideKeysFrom ·))) = true := by kernel_rfl
set_option maxRecDepth 100000 in
theorem fact18 : ((Rows.OpenSpec.upto Rows.namesMoreSpec).bare.vars.all (Tryz.pinned.checked.prog.varReadable ·)) = true := by kernel_rfl
set_option maxRecDepth 100000 in
theorem fact19 : (Tryz.f5.resultTypes.all (fun t => Tryz.pinned.checked.prog.readableRec t && decide (t < Tryz.pinned.checked.prog.types.size))) = true := by kernel_rfl
set_option maxRecDepth 100000 in
theorem fact20 : ((Rows.namesMoreUptoRow.ifacesOut == Tryz.f5.resultTypes.toList.any (Tryz.pinned.checked.prog.ifacesRec ·))) = true := by kernel_rfl
set_option maxRecDepth 100000 in
theorem fact21 : ((Rows.namesMoreUptoRow.loopsOut == Tryz.f5.resultTypes.toList.any (Tryz.pinned.checked.prog.loopsFrom ·))) = true := by kernel_rfl
set_option maxRecDepth 100000 in
theorem fact22 : ((Rows.namesMoreUptoRow.plainKeys == Tryz.pinned.checked.prog.plainKeys)) = true := by kernel_rfl
set_option maxRecDepth 100000 in
theorem fact23 : (Rows.namesMoreUptoRow.shortTexts.isNone) = true := by kernel_rfl
set_option maxRecDepth 100000 in
theorem fact24 : (Tryz.pinned.checked.prog.stopsHeard) = true := by kernel_rfl
set_option maxRecDepth 100000 in
theorem fact25 : (Tryz.pinned.checked.prog.mayEnter) = true := by kernel_rfl
set_option maxRecDepth 100000 in
theorem fact26 : ((Rows.namesMoreUptoRow.lifted == Tryz.pinned.checked.prog.liftsFinal)) = true := by kernel_rfl
set_option maxRecDepth 100000 in
theorem fact27 : ((Tryz.pinned.checked.prog.make == some Rows.namesMoreUptoRow.make)) = true := by kernel_rfl
set_option maxRecDepth 100000 in
theorem fact28 : ((Rows.namesMoreUptoRow.kinds == (if Rows.namesMoreUptoRow.domain.isEmpty then [] else Tryz.f5.params.toList.map fun t => match Tryz.pinned.checked.prog.underlying t with | some (.int k) => some k | _ => none))) = true := by kernel_rfl
set_option maxRecDepth 100000 in
theorem fact29 : ((Rows.namesMoreUptoRow.pinned == Rows.namesMoreUptoRow.pinnedBy)) = true := by kernel_rfl
set_option maxRecDepth 100000 in
theorem fact30 : ((Rows.namesMoreUptoRow.veiled == (Tryz.f5.params.toList ++ (Rows.OpenSpec.upto Rows.namesMoreSpec).bare.plain.varTypes Tryz.pinned.checked.prog ++ Tryz.f5.resultTypes.toList).any (Tryz.pinned.checked.prog.veiledRec ·))) = true := by kernel_rfl
set_option maxRecDepth 100000 in
theorem fact31 : (Rows.namesMoreUptoRow.veiledFits Tryz.pinned.checked.prog Tryz.f5.params.toList (Tryz.f5.params.toList ++ (Rows.OpenSpec.upto Rows.namesMoreSpec).bare.plain.varTypes Tryz.pinned.checked.prog ++ Tryz.f5.resultTypes.toList)) = true := by kernel_rfl
set_option maxRecDepth 100000 in
theorem closed : joinedFacts Tryz.pinned.checked.prog 5 Tryz.f5 (Rows.OpenSpec.upto Rows.namesMoreSpec).bare Rows.namesMoreUptoRow = true := by
  unfold joinedFacts
  simp only [Bool.and_eq_true]
  refine ⟨?_, fact31⟩
  refine ⟨?_, fact30⟩
  refine ⟨?_, fact29⟩
  refine ⟨?_, fact28⟩
  refine ⟨?_, fact27⟩
  refine ⟨?_, fact26⟩
  refine ⟨?_, fact25⟩
  refine ⟨?_, fact24⟩
  refine ⟨?_, fact23⟩
  refine ⟨?_, fact22⟩
  refine ⟨?_, fact21⟩
  refine ⟨?_, fact20⟩
  refine ⟨?_, fact19⟩
  refine ⟨?_, fact18⟩
  refine ⟨?_, fact17⟩
  refine ⟨?_, fact16⟩
  refine ⟨?_, fact15⟩
  refine ⟨?_, fact14⟩
  refine ⟨?_, fact13⟩
  refine ⟨?_, fact12⟩
  refine ⟨?_, fact11⟩
  refine ⟨?_, fact10⟩
  refine ⟨?_, fact9⟩
  refine ⟨?_, fact8⟩
  refine ⟨?_, fact7⟩
  refine ⟨?_, fact6⟩
  refine ⟨?_, fact5⟩
  refine ⟨?_, fact4⟩
  refine ⟨?_, fact3⟩
  refine ⟨?_, fact2⟩
  refine ⟨?_, fact1⟩
  exact fact0
end Go.Proofs.YtemflcojebanlaaGreatDoor.namesMore

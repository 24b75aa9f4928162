/- Texts joined: NmZp, NmFn, NmZ. -/
import Derived.Test.YtemflcojebanlaaGreatDoorJ24
import Derived.Test.YtemflcojebanlaaGreatDoorJ23
import Derived.Laws.AppendOwn
import Derived.Laws.OwnMore
import Derived.Test.YtemflcojebanlaaGreatDoorJ37
/- The plain half of NamesMore: a program that is formed stays so with a function more ahead of all; a program of few parts weighs little. No program is imported. -/
namespace Go.Proofs.YtemflcojebanlaaGreatDoor.NmP
open Go Go.RowKit LexP TreeP

/-! ### few parts weigh little -/
mutual
theorem wT_size : ∀ t, sizeT t ≤ 400 → wT t + 101 ≤ 210 * sizeT t
 | .mk k life m v kids, h => by
  rw [sizeT] at h ⊢
  have := wTs_size kids (1 + life.size / 100) h
  have := Nat.div_add_mod life.size 100
  have := Nat.mod_lt life.size (show 0 < 100 by omega)
  rw [wT]
  omega
theorem wTs_size : ∀ (l : List Ty) (n : Nat), sizeTs n l ≤ 400 → wTs l + 210 * n ≤ 210 * sizeTs n l
 | [], n, h => by rw [sizeTs] at h ⊢; rw [wTs]; omega
 | t :: ts, n, h => by
  rw [sizeTs] at h ⊢
  split at h
  ·omega
  ·rename_i h0
   rw [if_neg h0]
   have h1 := wTs_size ts (n + sizeT t) h
   have h2 := wT_size t (by omega)
   rw [wTs]
   omega
end
mutual
theorem wE_size : ∀ t, sizeE t ≤ 400 → wE t + 101 ≤ 210 * sizeE t
 | .mk k num name m v kids, h => by
  rw [sizeE] at h ⊢
  have := wEs_size kids (1 + name.size / 100) h
  have := Nat.div_add_mod name.size 100
  have := Nat.mod_lt name.size (show 0 < 100 by omega)
  rw [wE]
  omega
theorem wEs_size : ∀ (l : List Ex) (n : Nat), sizeEs n l ≤ 400 → wEs l + 210 * n ≤ 210 * sizeEs n l
 | [], n, h => by rw [sizeEs] at h ⊢; rw [wEs]; omega
 | t :: ts, n, h => by
  rw [sizeEs] at h ⊢
  split at h
  ·omega
  ·rename_i h0
   rw [if_neg h0]
   have h1 := wEs_size ts (n + sizeE t) h
   have h2 := wE_size t (by omega)
   rw [wEs]
   omega
end
mutual
theorem wS_size : ∀ t, sizeS t ≤ 400 → wS t ≤ 210 * sizeS t
 | .mk k name p e tv thn ev els, h => by
  rw [sizeS] at h ⊢
  have h1 := wE_size p (by omega)
  have h2 := wE_size e (by omega)
  have h3 := wSs_size thn 0 (by omega)
  have h4 := wSs_size els 0 (by omega)
  have := Nat.div_add_mod name.size 100
  have := Nat.mod_lt name.size (show 0 < 100 by omega)
  rw [wS]
  omega
theorem wSs_size : ∀ (l : List St) (n : Nat), sizeSs n l ≤ 400 → wSs l + 210 * n ≤ 210 * sizeSs n l
 | [], n, h => by rw [sizeSs] at h ⊢; rw [wSs]; omega
 | t :: ts, n, h => by
  rw [sizeSs] at h ⊢
  split at h
  ·omega
  ·rename_i h0
   rw [if_neg h0]
   have h1 := wSs_size ts (n + sizeS t) h
   have h2 := wS_size t (by omega)
   rw [wSs]
   omega
end
theorem wPas_size : ∀ (l : List Pa) (n : Nat), sizePas n l ≤ 400 → wPas l + 210 * n ≤ 210 * sizePas n l
 | [], n, h => by rw [sizePas] at h ⊢; rw [wPas]; omega
 | p :: ps, n, h => by
  rw [sizePas] at h ⊢
  split at h
  ·omega
  ·rename_i h0
   rw [if_neg h0]
   have h1 := wPas_size ps _ h
   have h2 := wT_size p.type (by omega)
   have := Nat.div_add_mod p.name.size 100
   have := Nat.mod_lt p.name.size (show 0 < 100 by omega)
   rw [wPas, wPa]
   omega
theorem wNs_size : ∀ (l : List ByteArray) (n : Nat), sizeNs n l ≤ 400 → wNs l + 210 * n ≤ 210 * sizeNs n l + 100 * l.length
 | [], n, h => by rw [sizeNs] at h ⊢; rw [wNs]; simp
 | s :: l, n, h => by
  rw [sizeNs] at h ⊢
  split at h
  ·omega
  ·rename_i h0
   rw [if_neg h0]
   have h1 := wNs_size l _ h
   have := Nat.div_add_mod s.size 100
   have := Nat.mod_lt s.size (show 0 < 100 by omega)
   rw [wNs, List.length_cons]
   omega
theorem sizeNs_ge : ∀ (l : List ByteArray) (n : Nat), n ≤ sizeNs n l
 | [], n => by rw [sizeNs]; omega
 | s :: l, n => by rw [sizeNs]; split; omega; have := sizeNs_ge l (n + s.size / 100); omega
theorem sizePas_ge : ∀ (l : List Pa) (n : Nat), n ≤ sizePas n l
 | [], n => by rw [sizePas]; omega
 | p :: l, n => by rw [sizePas]; split; omega; have := sizePas_ge l (n + (p.name.size / 100 + sizeT p.type)); omega
theorem wF_size (n : Nat) (f : TreeP.Fn) (h : sizeF n f ≤ 400) : wF f + 210 * n ≤ 210 * sizeF n f := by
 unfold sizeF at h ⊢
 generalize hX : n + (1 + f.name.size / 100 + f.lives.length + f.outs.length + sizeT f.gives + sizeSs 0 f.body + sizeE f.value) = X at *
 have g1 := sizeNs_ge f.outs (sizeNs (sizePas X f.pars) f.lives)
 have g2 := sizeNs_ge f.lives (sizePas X f.pars)
 have g3 := sizePas_ge f.pars X
 have h1 := wNs_size f.outs _ h
 have h2 := wNs_size f.lives (sizePas X f.pars) (by omega)
 have h3 := wPas_size f.pars X (by omega)
 have h4 := wT_size f.gives (by omega)
 have h5 := wE_size f.value (by omega)
 have h6 := wSs_size f.body 0 (by omega)
 have := Nat.div_add_mod f.name.size 100
 have := Nat.mod_lt f.name.size (show 0 < 100 by omega)
 unfold wF
 omega
theorem sizeF_ge (n : Nat) (f : TreeP.Fn) : n ≤ sizeF n f := by
 unfold sizeF
 generalize hX : n + (1 + f.name.size / 100 + f.lives.length + f.outs.length + sizeT f.gives + sizeSs 0 f.body + sizeE f.value) = X at *
 have g1 := sizeNs_ge f.outs (sizeNs (sizePas X f.pars) f.lives)
 have g2 := sizeNs_ge f.lives (sizePas X f.pars)
 have g3 := sizePas_ge f.pars X
 omega
theorem sizeFs_ge : ∀ (l : List TreeP.Fn) (n : Nat), n ≤ sizeFs n l
 | [], n => by rw [sizeFs]; omega
 | f :: l, n => by rw [sizeFs]; split; omega; have := sizeF_ge n f; have := sizeFs_ge l (sizeF n f); omega
theorem wFs_size : ∀ (l : List TreeP.Fn) (n : Nat), sizeFs n l ≤ 400 → wFs l + 210 * n ≤ 210 * sizeFs n l
 | [], n, h => by rw [sizeFs] at h ⊢; rw [wFs]; omega
 | f :: l, n, h => by
  rw [sizeFs] at h ⊢
  split at h
  ·omega
  ·rename_i h0
   rw [if_neg h0]
   have g := sizeFs_ge l (sizeF n f)
   have h1 := wFs_size l (sizeF n f) h
   have h2 := wF_size n f (by omega)
   rw [wFs]
   omega

/-! ### a function more ahead of all -/
/-- so many q -/
def qs (k : Nat) : ByteArray := ⟨(List.replicate k 113).toArray⟩
/-- the function that gives back a number -/
def oneF (k : Nat) (n : Int) : TreeP.Fn := ⟨qs k, .slice none 0 0, [], .slice none 0 0, [], .mk 1 ⟨#[]⟩ false (.slice none 0 0) [], .slice none 0 0, [], .slice none 0 0, [], .mk 1 n ⟨#[]⟩ false (.slice none 0 0) []⟩
theorem qs_name : ∀ k : Fin 31, 0 < k.val → nameB (bs (qs k.val)) = true := by decide +kernel
theorem parsN_mem {s : Nm} : ∀ {l : List TreeP.Fn}, parsN s l = none → ∀ f ∈ l, bs f.name ≠ s
 | [], _, f, hf => by cases hf
 | g :: l, h, f, hf => by
  rw [parsN] at h
  split at h
  ·cases h
  ·rename_i hg
   rcases List.mem_cons.1 hf with rfl | hf
   ·exact fun e => hg (by simp [e])
   ·exact parsN_mem h f hf
theorem parsN_cons_ne {s : Nm} {F : TreeP.Fn} {a : List TreeP.Fn} (h : bs F.name ≠ s) : parsN s (F :: a) = parsN s a := by
 rw [parsN, if_neg (by simpa using h)]
section
variable {F : TreeP.Fn} {a : List TreeP.Fn}
theorem ownE_more (hq : parsN (bs F.name) a = none) {k : Int} {s : Nm} {n : Nat} {sc : List Nm} (h : ownE k s n sc a = true) : ownE k s n sc (F :: a) = true := by
 unfold ownE at h ⊢
 split
 ·rename_i h2; rw [if_pos h2] at h; exact h
 ·rename_i h2
  rw [if_neg h2] at h
  split
  ·rename_i h9
   rw [if_pos h9] at h
   by_cases e : bs F.name = s
   ·rw [← e, hq] at h; cases h
   ·rw [parsN_cons_ne e]; exact h
  ·rfl
mutual
theorem exprN_more (hq : parsN (bs F.name) a = none) {sc : List Nm} : ∀ e : Ex, exprN sc a e = true → exprN sc (F :: a) e = true
 | .mk k n s m v kids, h => by
  rw [exprN, Bool.and_eq_true] at h ⊢
  exact ⟨exprNs_more hq kids h.1, ownE_more hq h.2⟩
theorem exprNs_more (hq : parsN (bs F.name) a = none) {sc : List Nm} : ∀ l : List Ex, exprNs sc a l = true → exprNs sc (F :: a) l = true
 | [], _ => by rw [exprNs]
 | e :: es, h => by
  rw [exprNs, Bool.and_eq_true] at h ⊢
  exact ⟨exprN_more hq e h.1, exprNs_more hq es h.2⟩
end
mutual
theorem stmtN_more (hq : parsN (bs F.name) a = none) : ∀ (s : St) (sc : List Nm), stmtN sc a s = true → stmtN sc (F :: a) s = true
 | .mk k n p e tv th ev el, sc, h => by
  rw [stmtN] at h ⊢
  simp only [Bool.and_eq_true] at h ⊢
  exact ⟨⟨⟨⟨exprN_more hq e h.1.1.1.1, exprN_more hq p h.1.1.1.2⟩, stmtsN_more hq th sc h.1.1.2⟩, stmtsN_more hq el sc h.1.2⟩, h.2⟩
theorem stmtsN_more (hq : parsN (bs F.name) a = none) : ∀ (l : List St) (sc : List Nm), stmtsN sc a l = true → stmtsN sc (F :: a) l = true
 | [], _, _ => by rw [stmtsN]
 | .mk k n p e tv th ev el :: ss, sc, h => by
  rw [stmtsN, Bool.and_eq_true] at h ⊢
  exact ⟨stmtN_more hq _ sc h.1, stmtsN_more hq ss _ h.2⟩
end
theorem formedN_more (hq : parsN (bs F.name) a = none) {f : TreeP.Fn} (hf : bs f.name ≠ bs F.name) (h : formedN f a = 0) : formedN f (F :: a) = 0 := by
 unfold formedN at h ⊢
 have h1 : headOk f a = true := by
  cases hh : headOk f a with
  | true => rfl
  | false => rw [hh] at h; cases h
 have h2 : wholeF f = true := by
  cases hh : wholeF f with
  | true => rfl
  | false => rw [h1, hh] at h; cases h
 have h3 : bodyOk f a = true := by
  cases hh : bodyOk f a with
  | true => rfl
  | false => rw [h1, h2, hh] at h; cases h
 have h1' : headOk f (F :: a) = true := by
  unfold headOk at h1 ⊢
  rw [parsN_cons_ne (fun e => hf e.symm)]
  exact h1
 have h3' : bodyOk f (F :: a) = true := by
  unfold bodyOk at h3 ⊢
  rw [Bool.and_eq_true] at h3 ⊢
  exact ⟨stmtsN_more hq _ _ h3.1, exprN_more hq _ h3.2⟩
 rw [h1', h2, h3']
 rfl
end
theorem goN_more {F : TreeP.Fn} : ∀ (l a : List TreeP.Fn), parsN (bs F.name) (a ++ l) = none → goN a l = (0, -1) → goN (F :: a) l = (0, -1)
 | [], a, _, h => by
  rw [goN] at h ⊢
  cases a with
  | nil => cases h
  | cons g b => rw [List.getLast?_cons_cons]; revert h; cases (g :: b).getLast? with
   | none => intro h; cases h
   | some f =>
    simp only
    intro h
    have h1 : mainB f = true := by
     cases hh : mainB f with
     | true => rfl
     | false => rw [hh] at h; cases h
    have h2 : bareB f = true := by
     cases hh : bareB f with
     | true => rfl
     | false => rw [h1, hh] at h; cases h
    rw [h1, h2]
    rfl
 | f :: fs, a, hn, h => by
  rw [goN] at h ⊢
  have hf0 : formedN f a = 0 := by
   rcases (show formedN f a = 0 ∨ formedN f a ≠ 0 by omega) with h0 | h0
   ·exact h0
   ·rw [if_neg h0] at h
    injection h
  rw [if_pos hf0] at h
  have hne := parsN_mem hn f (by simp)
  have hna : parsN (bs F.name) a = none := by
   cases hp : parsN (bs F.name) a with
   | none => rfl
   | some x =>
    exfalso
    have hm := parsN_mem hn
    clear h hf0 hn
    induction a with
    | nil => cases hp
    | cons g b ih =>
     rw [parsN] at hp
     split at hp
     ·rename_i hg
      exact hm g (by simp) (by simpa using hg)
     ·exact ih hp (fun f' hf' => hm f' (by
       rcases List.mem_append.1 hf' with h | h
       ·simp [h]
       ·simp [h]))
  rw [if_pos (formedN_more hna hne hf0)]
  have := goN_more (F := F) fs (a ++ [f]) (by rw [List.append_assoc]; exact hn) h
  exact this
theorem oneF_right (k : Nat) (n : Int) (h1 : 0 < k) (h2 : k ≤ 30) (hn0 : 0 ≤ n) (hn1 : n ≤ 65535) : rightF (oneF k n) = true := by
 have hq := qs_name ⟨k, by omega⟩ h1
 have hq' : nameB (bs (qs k)) = true := hq
 unfold rightF oneF
 simp only [hq']
 have h3 : rightE (.mk 1 n ⟨#[]⟩ false (.slice none 0 0) []) = true := by
  rw [rightE]
  simp only [rightEs, askE]
  have a1 : decide (0 ≤ n) = true := by simpa using hn0
  have a2 : decide (n ≤ 999999999999999999) = true := by simp; omega
  simp only [a1, a2]
  rfl
 rw [h3]
 rfl
theorem checkN_more (k : Nat) (n : Int) (l : List TreeP.Fn) (h1 : 0 < k) (h2 : k ≤ 30) (hn0 : 0 ≤ n) (hn1 : n ≤ 65535) (hl : l.length ≤ 29) (hp : parsN (bs (qs k)) l = none) (h : checkN l = (0, -1)) : checkN (oneF k n :: l) = (0, -1) := by
 unfold checkN at h ⊢
 cases hr : rightP l with
 | false => rw [hr] at h; cases h
 | true =>
  rw [hr, if_pos rfl] at h
  have hr' : rightP (oneF k n :: l) = true := by
   unfold rightP at hr ⊢
   simp only [Bool.and_eq_true, decide_eq_true_eq] at hr ⊢
   refine ⟨⟨by rw [List.all_cons, oneF_right k n h1 h2 hn0 hn1]; exact hr.1.1, by rw [List.length_cons]; omega⟩, ?_⟩
   have : deepF (oneF k n) = 0 := by unfold deepF oneF; simp [deepT, deepSs, deepE, deepPs]
   rw [deepFs, this]
   have := hr.2
   omega
  rw [hr', if_pos rfl, goN]
  have hf : formedN (oneF k n) [] = 0 := by
   unfold formedN headOk wholeF bodyOk oneF
   simp [parsN, livesT, livesTs, parsOk, wholeT, wholeTs, stmtsN, exprN, exprNs, ownE]
  rw [if_pos hf]
  exact goN_more (F := oneF k n) l [] hp h
theorem rightP_names {l : List TreeP.Fn} (h : checkN l = (0, -1)) : ∀ f ∈ l, nameB (bs f.name) = true := by
 unfold checkN at h
 cases hr : rightP l with
 | false => rw [hr] at h; cases h
 | true =>
  intro f hf
  unfold rightP at hr
  simp only [Bool.and_eq_true, List.all_eq_true] at hr
  have := hr.1.1 f hf
  unfold rightF at this
  simp only [Bool.and_eq_true] at this
  first | exact this.1.1.1.1.1.1.1.1.2 | exact this.1.1.1.1.1.1.1.2 | exact this.1.1.1.1.1.1.2
theorem qs_len (k : Nat) : (bs (qs k)).length = k := by simp [qs, bs]
theorem qs_succ (k : Nat) : qs k ++ ⟨#[113]⟩ = qs (k + 1) := by
 apply ByteArray.ext
 rw [ByteArray.data_append]
 apply Array.ext'
 simp [qs, List.replicate_succ']
theorem parsN_some {s : Nm} : ∀ {l : List TreeP.Fn} {n : Nat}, parsN s l = some n → ∃ f ∈ l, bs f.name = s
 | [], _, h => by cases h
 | f :: fs, _, h => by
  rw [parsN] at h
  split at h
  ·rename_i hf
   exact ⟨f, by simp, by simpa using hf⟩
  ·obtain ⟨g, h1, h2⟩ := parsN_some h
   exact ⟨g, by simp [h1], h2⟩
theorem qs_found {l : List TreeP.Fn} {k : Nat} (hw : ∀ s, wordB s = true → s.length ≤ 30) (h : checkN l = (0, -1)) (hf : 0 ≤ findN (bs (qs k)) l 0) : k ≤ 30 := by
 rcases findN_parsN (bs (qs k)) l 0 (by omega) with ⟨h1, _⟩ | ⟨j, f, _, _, h1⟩
 ·omega
 ·obtain ⟨g, hg, he⟩ := parsN_some h1
  have hn := rightP_names h g hg
  unfold nameB at hn
  simp only [Bool.and_eq_true] at hn
  have := hw _ hn.2
  rw [he, qs_len] at this
  exact this
theorem qs_free {l : List TreeP.Fn} {k : Nat} (hf : ¬ 0 ≤ findN (bs (qs k)) l 0) : parsN (bs (qs k)) l = none := by
 rcases findN_parsN (bs (qs k)) l 0 (by omega) with ⟨_, h1⟩ | ⟨j, f, h1, _⟩
 ·exact h1
 ·omega
end Go.Proofs.YtemflcojebanlaaGreatDoor.NmP
/- A list of functions, as cells; a program behind a row that a call owns: the append. (As law2's, without what that imports.) -/
namespace Go.Proofs.YtemflcojebanlaaGreatDoor.NmC
open Go Go.RowKit Go.Lib Go.Sort LexP TreeP LexC TreeC ErrAs

/-! ### Rows of equal length, end to end -/
theorem flat_length {α : Type} (n : Nat) : ∀ L : List (List α), (∀ c ∈ L, c.length = n) → L.flatten.length = L.length * n
 | [], _ => by simp
 | c :: L, h => by
  rw [List.flatten_cons, List.length_append, flat_length n L (fun d hd => h d (by simp [hd])), h c (by simp), List.length_cons, Nat.add_mul]
  omega
theorem flat_get {α : Type} (n : Nat) : ∀ (L : List (List α)), (∀ c ∈ L, c.length = n) → ∀ (i : Nat) (c : List α), L[i]? = some c → ∀ (j : Nat) (u : α), c[j]? = some u → L.flatten[i * n + j]? = some u
 | [], _, i, c, h, _, _, _ => by simp at h
 | d :: L, hl, 0, c, h, j, u, hj => by
  simp at h
  subst h
  have hlt : j < d.length := (List.getElem?_eq_some_iff.1 hj).1
  rw [List.flatten_cons, Nat.zero_mul, Nat.zero_add, List.getElem?_append_left hlt]
  exact hj
 | d :: L, hl, i + 1, c, h, j, u, hj => by
  have hd := hl d (by simp)
  rw [List.flatten_cons, List.getElem?_append_right (by rw [hd, Nat.add_mul]; omega), hd, show (i + 1) * n + j - n = i * n + j by rw [Nat.add_mul]; omega]
  exact flat_get n L (fun d hd => hl d (by simp [hd])) i c (by simpa using h) j u hj
theorem flat_inv {α : Type} (n : Nat) : ∀ (L : List (List α)), (∀ c ∈ L, c.length = n) → ∀ (k : Nat) (u : α), L.flatten[k]? = some u → ∃ i j c, L[i]? = some c ∧ c[j]? = some u ∧ k = i * n + j
 | [], _, k, u, h => by simp at h
 | d :: L, hl, k, u, h => by
  have hd := hl d (by simp)
  by_cases hk : k < d.length
  ·rw [List.flatten_cons, List.getElem?_append_left hk] at h
   exact ⟨0, k, d, rfl, h, by omega⟩
  ·rw [List.flatten_cons, List.getElem?_append_right (by omega)] at h
   obtain ⟨i, j, c, h1, h2, h3⟩ := flat_inv n L (fun d hd => hl d (by simp [hd])) _ u h
   exact ⟨i + 1, j, c, by simpa using h1, h2, by rw [Nat.add_mul]; omega⟩

/-! ### A list of functions, as cells -/
def fnRow (l : List TreeP.Fn) : List Value := (l.map TreeP.Fn.cells).flatten
theorem fn_len (f : TreeP.Fn) : f.cells.length = 14 := by
 obtain ⟨n, lv, l, pv, p, ⟨gk, gs, gm, gv, gl⟩, ov, o, bv, b, ⟨ek, en, es, em, ev, el⟩⟩ := f
 rfl
theorem fns_len (l : List TreeP.Fn) : ∀ c ∈ l.map TreeP.Fn.cells, c.length = 14 := by
 intro c hc
 obtain ⟨f, _, rfl⟩ := List.mem_map.1 hc
 exact fn_len f
theorem fnRow_length (l : List TreeP.Fn) : (fnRow l).length = l.length * 14 := by rw [fnRow, flat_length 14 _ (fns_len l), List.length_map]
theorem lies_one {w : World} {n : Nat} {v : Value} {xs : List (List Value)} (h : Lies w n v xs) : v.oneCell' = true := by
 obtain ⟨p, cap, rfl, _, _⟩ := h
 rfl
theorem fn_one {w : World} {f : TreeP.Fn} (h : f.In w) : ∀ u ∈ f.cells, u.oneCell' = true := by
 obtain ⟨n, lv, l, pv, p, ⟨gk, gs, gm, gv, gl⟩, ov, o, bv, b, ⟨ek, en, es, em, ev, el⟩⟩ := f
 obtain ⟨h1, ⟨h2, _⟩, h3, h4, ⟨h5, _⟩, h6⟩ := h
 rw [Ty.In] at h3
 rw [Ex.In] at h6
 have k1 := lies_one h1
 have k2 := lies_one h2
 have k3 := lies_one h3.1
 have k4 := lies_one h4
 have k5 := lies_one h5
 have k6 := lies_one h6.2.1
 intro u hu
 simp only [TreeP.Fn.cells, Ty.cells, Ex.cells, List.cons_append, List.nil_append, List.mem_cons, List.mem_nil_iff, or_false] at hu
 rcases hu with rfl | rfl | rfl | rfl | rfl | rfl | rfl | rfl | rfl | rfl | rfl | rfl | rfl | rfl <;> first | assumption | rfl
theorem fnRow_one {w : World} {l : List TreeP.Fn} (h : ∀ f ∈ l, f.In w) : ∀ u ∈ fnRow l, u.oneCell' = true := by
 intro u hu
 simp only [fnRow, List.mem_flatten, List.mem_map] at hu
 obtain ⟨c, ⟨f, hf, rfl⟩, hu⟩ := hu
 exact fn_one (h f hf) u hu
theorem owns_fns {w : World} {base : Nat} {v : Value} {l : List TreeP.Fn} (h : w.ownsRow base 42 14 v l.length (fnRow l)) : Lies w 14 v (l.map TreeP.Fn.cells) := by
 obtain ⟨h1, ⟨rfl, h2⟩ | ⟨g, cap, cur, rfl, h3, h4, h5, h6, h7, h8⟩⟩ := id h
 ·cases l with
  | nil => exact lies_none
  | cons s ss => simp at h2
 ·refine ⟨some ⟨g, 0, none⟩, cap, by rw [List.length_map], by rw [List.length_map]; exact h5, fun _ => ⟨g, 0, rfl, fun i c hi j u hj => ?_⟩⟩
  rw [Nat.zero_add]
  exact owns_cell h (flat_get 14 _ (fns_len l) i c hi j u hj)

/-! ### The append -/
theorem fn_info : (Tryz.prog.info? 42).map (fun i => (i.zero, i.size, i.bytes)) = some (some (.agg #[.string ⟨#[]⟩, .slice none 0 0, .slice none 0 0, .int .i64 0, .string ⟨#[]⟩, .bool false, .slice none 0 0, .slice none 0 0, .slice none 0 0, .int .i64 0, .int .i64 0, .string ⟨#[]⟩, .bool false, .slice none 0 0]), 14, 232) := by kernel_rfl
theorem wpList_append_fns {ops : Array Oper} {rest : List Oper} {o : Oper} {a : Act} {Q : Exit → Act → World → Prop} {W : World} (hw : Region.wanted o (yielded ops a.tmps) = true) (s x : Operand)
  (ho : o.op = .call { callee := .builtin .append, args := #[s, x], argTypes := #[22, 22] })
  (base : Nat) (v : Value) (n : Nat) (xs : List Value) (hs : a.eval s = v) (hown : W.ownsRow base 42 14 v n xs)
  (xv : Value) (l : List TreeP.Fn) (hx : a.eval x = xv) (hxo : ProgIn W xv l) (hno : ∀ m c, xv = .slice none m c → m = 0 ∧ c = 0) (hn : n + l.length ≤ 4194304) (hb : base ≤ W.heap.size)
  (h : ∀ v' w', w'.ownsRow base 42 14 v' (n + l.length) (xs ++ fnRow l) → W.grownBy w' v.ownBlock → wpList Tryz.prog ops Q rest (a.put o.dst v') w') : wpList Tryz.prog ops Q (o :: rest) a W := by
 obtain ⟨i0, hi, hz0, hz1, hz2⟩ := info_parts fn_info
 obtain ⟨⟨p, cap, hv, hc, hcell⟩, hall⟩ := id hxo
 rw [List.length_map] at hv hc
 cases p with
 | none =>
  obtain ⟨h0, h00⟩ := hno _ _ hv
  have e : l = [] := List.eq_nil_of_length_eq_zero h0
  subst e
  subst h00
  subst hv
  refine wpList_step fun K hK => ?_
  rw [if_pos hw]
  have hrun := run_append_owned_none (P := Tryz.prog) (w := W) base 22 o.type 42 i0 14 Tryz.underlying22 hi v n xs hown
  unfold Oper.wp
  simp [execOp, ho, resolve, invoke, builtin, hs, hx, hrun, Result.andThen]
  exact hK _ _ (h v W (by simpa [fnRow] using hown) (World.grownBy.refl W _))
 | some ad =>
  refine wpList_step fun K hK => ?_
  rw [if_pos hw]
  refine wp_append_own W s x _ ho base 42 i0 _ 14 232 Tryz.underlying22 hi hz0 hz1 hz2 rfl (by decide) v n xs hs hown ad l.length cap (fnRow l) (hx.trans hv) (fnRow_length l) ?_ (fnRow_one hall) (by unfold maxLen; omega) (by omega) hb ?_
  ·intro j u hj
   obtain ⟨i, k, c, h1, h2, rfl⟩ := flat_inv 14 _ (fns_len l) j u hj
   have hne : l.map TreeP.Fn.cells ≠ [] := by intro e; rw [e] at h1; simp at h1
   obtain ⟨b, off, h3, h4⟩ := hcell hne
   cases h3
   rw [show ∀ i, (⟨b, off, none⟩ : Addr).add i = ⟨b, off + i, none⟩ from fun i => by unfold Addr.add; split <;> simp_all]
   have := h4 i c h1 k u h2
   rwa [Nat.add_assoc] at this
  ·intro v' w' h1 h2 _
   exact hK _ _ (h v' w' h1 h2)

end Go.Proofs.YtemflcojebanlaaGreatDoor.NmC
/- The contract of NamesMore: it returns true, whatever the program (of weight at most 1048576) and the number. -/
namespace Go.Proofs.YtemflcojebanlaaGreatDoor.NmC
open Go Go.RowKit Go.Lib Go.Sort Go.Maps LexP TreeP LexC TreeC NmP ErrAs

theorem oneF_in {w : World} {k : Nat} {n : Int} (hn0 : 0 ≤ n) (hn1 : n ≤ 65535) : (oneF k n).In w :=
 ⟨lies_nil, ⟨lies_nil, fun p hp => by cases hp⟩, by rw [oneF, Ty.In]; exact ⟨lies_nil, trivial⟩, lies_nil, ⟨lies_nil, trivial⟩, by rw [oneF]; exact ⟨by omega, lies_nil, trivial⟩⟩
theorem qs_size (k : Nat) : (qs k).size = k := by
 have := qs_len k
 simpa [bs] using this
theorem owns_one (w : World) (e : TypeId) (size base : Nat) (cells : List Value) (hc : cells.length = size) (hb : base = w.heap.size) :
  (w.alloc (.cells cells.toArray e)).ownsRow base e size (.slice (some ⟨base, 0, none⟩) 1 1) 1 cells :=
 ⟨by simp [hc], .inr ⟨base, 1, cells.toArray, rfl, Nat.le_refl _, by rw [hb]; exact heap_alloc_new w _, Nat.le_refl _, by decide, by simp [hc], by rw [Nat.one_mul, ← hc]; simp⟩⟩
set_option maxHeartbeats 4000000 in
set_option maxRecDepth 100000 in
theorem namesMore_any (l : List TreeP.Fn) (n : Int) (w : World) (v : Value) (hn0 : 0 ≤ n) (hn1 : n ≤ 65535) (hw : wFs l ≤ 1048576) (hin : ProgIn w v l) (hno : ∀ m c, v = .slice none m c → m = 0 ∧ c = 0) (L : NLists w) :
  Calls Tryz.prog 5 #[v, .int .u16 n] w fun e w' => e = .returned (.bool true) ∧ Below w.heap.size w w' := by
 have hlen := wFs_len l
 have C0 := hid (awake4 w L.tabs L.err)
 have CS := hid (fun W (hb : Below w.heap.size w W) => rSize_any l W v hw (hin.keep (Keeps.of_below hb)))
 have CP := hid (fun W (hb : Below w.heap.size w W) => check_any l v W hw (hin.keep (Keeps.of_below hb)) (L.tabs.below hb))
 have CF := hid (fun (k : Nat) W (hb : Below w.heap.size w W) => rFind_any (qs k) l v W (by omega) (hin.keep (Keeps.of_below hb)).1)
 have HT := hid L.tabs
 have HI := hid hin
 have HN := hid hno
 obtain ⟨sz, hsz⟩ : ∃ sz, sizeFs 0 l = sz := ⟨_, rfl⟩
 have HSZ := hid hsz
 rw [hsz] at CS
 obtain ⟨p, cap, rfl, hcap, hx⟩ := id hin.1
 rw [List.length_map] at *
 have hll : (l.length : Int) ≤ 1048576 := by omega
 generalize hl : l.length = len at *
 have HL := hid hl
 have HK := hid (show (len ≤ cap ∧ (len : Int) ≤ 1048576) ∧ 0 ≤ n ∧ n ≤ 65535 from ⟨⟨hcap, hll⟩, hn0, hn1⟩)
 clear hl hx hsz hin hno L hw hlen hn0 hn1 hcap hll
 by_cases h400 : 400 < sz
 ·clear CP
  go_enter Tryz.func5, Tryz.ntmps5
  go_wp2_with fail
  refine C0.out.mono ?_
  rintro e W1 ⟨rfl, hb1⟩
  go_wp2_with fail
  refine (CS.out _ hb1).mono ?_
  rintro e W2 ⟨rfl, hb2⟩
  have B2 := hb1.trans (hb2.mono hb1.size)
  go_wp2_with fail
  go_ret
  exact ⟨rfl, B2⟩
 by_cases h29 : 29 < len
 ·clear CP
  go_enter Tryz.func5, Tryz.ntmps5
  go_wp2_with fail
  refine C0.out.mono ?_
  rintro e W1 ⟨rfl, hb1⟩
  go_wp2_with fail
  refine (CS.out _ hb1).mono ?_
  rintro e W2 ⟨rfl, hb2⟩
  have B2 := hb1.trans (hb2.mono hb1.size)
  go_wp2_with fail
  go_ret
  exact ⟨rfl, B2⟩
 go_enter Tryz.func5, Tryz.ntmps5
 go_wp2_with fail
 refine C0.out.mono ?_
 rintro e W1 ⟨rfl, hb1⟩
 go_wp2_with fail
 refine (CS.out _ hb1).mono ?_
 rintro e W2 ⟨rfl, hb2⟩
 have B2 := hid (hb1.trans (hb2.mono hb1.size))
 clear hb1 hb2 C0 CS
 go_wp2_with fail
 refine (CP.out _ B2.out).mono ?_
 rintro e W3 ⟨hb3, h3⟩
 have B3 := hid (B2.out.trans (hb3.mono B2.out.size))
 clear hb3 B2 CP
 rcases h3 with ⟨_, rfl⟩ | ⟨hck, rfl⟩ | ⟨_, _, b, rfl, _⟩
 ·go_wp2_with fail
  go_ret
  exact ⟨rfl, B3.out⟩
 rotate_left
 ·go_wp2_with fail
  go_ret
  exact ⟨rfl, B3.out⟩
 have HC := hid hck
 clear hck
 go_wp2_with fail
 go_loopg [5] 31 (fun gf u5 wx => ∃ k : Nat, u5 = .string (qs k) ∧ 1 ≤ k ∧ k ≤ 31 ∧ 31 ≤ k + gf ∧ wx = W3)
 case atStart => exact ⟨1, rfl, by omega, by omega, by omega, rfl⟩
 case round =>
  obtain ⟨k, rfl, hk1, hk2, hg, rfl⟩ := hrel
  go_wp2_with fail
  refine (CF.out k _ B3.out).mono ?_
  rintro e W4 ⟨rfl, rfl⟩
  have hz := qs_size k
  by_cases hf : 0 ≤ findN (bs (qs k)) l 0
  ·have hk3 := qs_found (fun _ => word_len) HC.out hf
   generalize findN (bs (qs k)) l 0 = fi at *
   go_wp2_with fail
   go_roundg (gk - 1)
   case measure => omega
   case rel => exact ⟨k + 1, by rw [← qs_succ], by omega, by omega, by omega, rfl⟩
  ·have hq := hid (qs_free hf)
   generalize findN (bs (qs k)) l 0 = fi at *
   by_cases h30 : 30 < k
   ·go_wp2_with fail
    go_ret
    exact ⟨rfl, B3.out⟩
   have KK := hid (checkN_more k n l (by omega) (by omega) HK.out.2.1 HK.out.2.2 (by have := HL.out; omega) hq.out HC.out)
   have KI : Hid (∀ W : World, (oneF k n).In W) := hid (fun W => oneF_in HK.out.2.1 HK.out.2.2)
   have h64 : wrap64 n = n := by have := HK.out.2; unfold wrap64; omega
   clear CF HC
   have B4 := hid (B3.out.trans (((Below.refl _ wr).alloc (Nat.le_refl _) (.cells (oneF k n).cells.toArray 42)).mono B3.out.size))
   have B5 := hid (B4.out.trans (((Below.refl _ _).alloc (Nat.le_refl _) (.cells (oneF k n).cells.toArray 42)).mono B4.out.size))
   have HO := hid (owns_one (wr.alloc (.cells (oneF k n).cells.toArray 42)) 42 14 (wr.heap.size + 1) (oneF k n).cells rfl (by simp))
   have HP := hid (HI.out.keep (Keeps.of_below B5.out))
   go_wp2_with (first | (at_builtin; refine wpList_append_fns (W := (wr.alloc (.cells (oneF k n).cells.toArray 42)).alloc (.cells (oneF k n).cells.toArray 42)) rfl (.tmp 38) (.tmp 39) rfl (wr.heap.size + 1) _ 1 _ rfl HO.out _ l rfl HP.out HN.out ?cN1 ?cB1 ?_))
   case cN1 => have := HK.out; have := HL.out; omega
   case cB1 => simp
   intro v6 W6 hown6 hgrow6
   have b6 := B5.out.grown hgrow6 (by have := B5.out.size; have := B3.out.size; simp; omega) (fun j hj => by simp [Value.ownBlock] at hj; have := B3.out.size; omega)
   have hown6' : W6.ownsRow (wr.heap.size + 1) 42 14 v6 (oneF k n :: l).length (fnRow (oneF k n :: l)) := by
    rw [show (oneF k n :: l).length = 1 + l.length by simp; omega]
    exact hown6
   have hp6 : ProgIn W6 v6 (oneF k n :: l) := ⟨owns_fns hown6', fun f hf => by
    rcases List.mem_cons.1 hf with rfl | h
    ·exact KI.out W6
    ·exact (HI.out.2 f h).keep (Keeps.of_below b6)⟩
   have B6 := hid b6
   have hwm : wFs (oneF k n :: l) ≤ 1048576 := by
    have h1 := wFs_size l 0 (by rw [HSZ.out]; omega)
    rw [HSZ.out] at h1
    have he : (⟨#[]⟩ : ByteArray).size = 0 := rfl
    simp only [wFs, wF, oneF, wNs, wPas, wSs, wE, wEs, wT, wTs, he, qs_size]
    omega
   have C6 := hid (check_any (oneF k n :: l) v6 W6 hwm hp6 (HT.out.below b6))
   rw [KK.out] at C6
   clear hown6 hown6' hgrow6 b6 hp6 hwm HO HP B4 B5
   go_wp2_with fail
   refine C6.out.mono ?_
   rintro e W7 ⟨hb7, h7⟩
   have B7 := hid (B6.out.trans (hb7.mono B6.out.size))
   clear hb7
   rcases h7 with ⟨h, _⟩ | ⟨_, rfl⟩ | ⟨h, _⟩
   ·cases h
   rotate_left
   ·cases h
   go_wp2_with fail
   go_ret
   exact ⟨rfl, B7.out⟩
end Go.Proofs.YtemflcojebanlaaGreatDoor.NmC

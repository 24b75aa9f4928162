/- Texts joined: EnvZI, EnvZQ0, EnvZQ, EnvZJ. -/
import Derived.Test.YtannfhbocfghkaaJ06
import Derived.Test.YtannfhbocfghkaaJ09
import Derived.Test.YtannfhbocfghkaaJ01
/- The join of environments, as a relation: it is right, both are at most it, it is the least that both are at most, what is hit in it is hit in one of both; it is the same from either side. -/
namespace Go.Proofs.Ytannfhbocfghkaa.EnvC
open Go Go.RowKit Go.Shelf Go.Lib Go.Sort Go.Proofs.Ytannfhbocfghkaa.EnvP

theorem alikes_nil {l : List Ln} (h : alikes l [] = true) : l = [] := by cases l with | nil => rfl | cons a l => cases h
theorem ask_join {k : Int} {m g g' : Bool} {ls ls' ls2 : List Ln} {n n' : Nat} {r r' l l' : Bool} (hn : n = n') (h1 : askT k m g ls n r l = true) (h2 : askT k m g' ls' n' r' l' = true) (h4 : alikes ls2 (mergeL ls ls') = true) : askT k m (g || g') ls2 n r (l || l') = true := by
  subst hn
  unfold askT at *
  by_cases c : k = 4
  · rw [if_pos c] at *
    simp only [Bool.and_eq_true] at h1 h2
    rw [rightLns_join h4 h1.1 h2.1]
    obtain ⟨_, ⟨⟨a1, a2⟩, a3⟩, a4⟩ := h1
    obtain ⟨_, ⟨⟨b1, b2⟩, b3⟩, b4⟩ := h2
    rw [a1, a2]
    cases m <;> cases g <;> cases g' <;> cases l <;> cases l' <;> simp_all
  · rw [if_neg c] at *
    simp only [Bool.and_eq_true, beq_iff_eq] at h1 h2
    obtain ⟨⟨a1, a2⟩, a3⟩ := h1
    obtain ⟨⟨b1, b2⟩, b3⟩ := h2
    obtain rfl := List.length_eq_zero_iff.1 a2
    obtain rfl := List.length_eq_zero_iff.1 b2
    rw [merge_end (.inl rfl)] at h4
    obtain rfl := alikes_nil h4
    rw [a1]
    by_cases k1 : k = 1
    · rw [if_pos k1] at *
      cases g <;> cases g' <;> simp_all
    · rw [if_neg k1] at *
      by_cases k2 : k = 2
      · rw [if_pos k2] at *
        cases l <;> cases l' <;> simp_all
      · rw [if_neg k2] at *
        by_cases k3 : k = 3
        · rw [if_pos k3] at *
          cases g <;> cases g' <;> simp_all
        · rw [if_neg k3] at *; cases a3
mutual
theorem right_join : ∀ t u j : ETy, rightT t = true → rightT u = true → fitsT t u = true → Joins t u j → rightT j = true
  | .mk k m g _ ls _ ks, .mk k' m' g' _ ls' _ ks', .mk k2 m2 g2 _ ls2 _ ks2, h1, h2, hf, h => by
    rw [Joins] at h
    obtain ⟨rfl, rfl, rfl, h4, h5⟩ := h
    rw [fitsT] at hf
    simp only [Bool.and_eq_true, beq_iff_eq] at hf
    obtain ⟨⟨⟨rfl, rfl⟩, hl⟩, hfs⟩ := hf
    rw [rightT, Bool.and_eq_true] at h1 h2 ⊢
    refine ⟨rights_join ks ks' ks2 h1.1 h2.1 hfs h5, ?_⟩
    rw [refs_joins ks ks' ks2 h5, lost_joins ks ks' ks2 h5, (fits_joins ks ks' ks2 [] h5).2]
    exact ask_join hl h1.2 h2.2 h4
theorem rights_join : ∀ t u j : List ETy, rightTs t = true → rightTs u = true → fitsTs t u = true → JoinsL t u j → rightTs j = true
  | [], [], [], _, _, _, _ => rfl
  | t :: ts, u :: us, j :: js, h1, h2, hf, h => by
    rw [JoinsL] at h
    rw [fitsTs, Bool.and_eq_true] at hf
    rw [rightTs, Bool.and_eq_true] at h1 h2 ⊢
    exact ⟨right_join t u j h1.1 h2.1 hf.1 h.1, rights_join ts us js h1.2 h2.2 hf.2 h.2⟩
  | [], [], _ :: _, _, _, _, h => by simp [JoinsL] at h
  | [], _ :: _, _, _, _, _, h => by simp [JoinsL] at h
  | _ :: _, [], _, _, _, _, h => by simp [JoinsL] at h
  | _ :: _, _ :: _, [], _, _, _, h => by simp [JoinsL] at h
end

/-! ### Environments -/
def JoinsE : List Bd → List Bd → List Bd → Prop
  | a :: x, b :: y, j :: z => bs j.name = bs a.name ∧ Joins a.ty b.ty j.ty ∧ JoinsE x y z
  | [], [], [] => True
  | _, _, _ => False
def alikeB (p : Bd × Bd) : Bool := bs p.1.name == bs p.2.name && fitsT p.1.ty p.2.ty
def atMostB (p : Bd × Bd) : Bool := lessT p.1.ty p.2.ty
def sameE : List Bd → List Bd → Bool
  | [], [] => true
  | a :: x, b :: y => bs a.name == bs b.name && sameT a.ty b.ty && sameE x y
  | _, _ => false
theorem joinsE_cases {P : List Bd → List Bd → List Bd → Prop} (h0 : P [] [] []) (h1 : ∀ a x b y j z, bs j.name = bs a.name → Joins a.ty b.ty j.ty → JoinsE x y z → P x y z → P (a :: x) (b :: y) (j :: z)) : ∀ a b j, JoinsE a b j → P a b j
  | [], [], [], _ => h0
  | a :: x, b :: y, j :: z, h => h1 a x b y j z h.1 h.2.1 h.2.2 (joinsE_cases h0 h1 x y z h.2.2)
  | [], [], _ :: _, h => by simp [JoinsE] at h
  | [], _ :: _, _, h => by simp [JoinsE] at h
  | _ :: _, [], _, h => by simp [JoinsE] at h
  | _ :: _, _ :: _, [], h => by simp [JoinsE] at h
theorem zip_self : ∀ a : List Bd, (a.zip a).all alikeB = true
  | [] => rfl
  | a :: x => by rw [List.zip_cons_cons, List.all_cons, zip_self x]; unfold alikeB; rw [fits_refl]; simp
theorem zip_symm : ∀ a b : List Bd, (a.zip b).all alikeB = (b.zip a).all alikeB
  | [], [] => rfl
  | [], _ :: _ => rfl
  | _ :: _, [] => rfl
  | a :: x, b :: y => by
    rw [List.zip_cons_cons, List.zip_cons_cons, List.all_cons, List.all_cons, zip_symm x y]
    unfold alikeB
    rw [fits_symm a.ty b.ty, Bool.beq_comm (a := bs a.name)]
theorem zip_join : ∀ a b j : List Bd, JoinsE a b j → j.length = a.length ∧ ∀ c : List Bd, (j.zip c).all alikeB = (a.zip c).all alikeB :=
  joinsE_cases ⟨rfl, fun _ => rfl⟩ fun a x b y j z hn hj _ ih => ⟨by rw [List.length_cons, List.length_cons, ih.1], fun c => by
    cases c with
    | nil => rfl
    | cons c r =>
      rw [List.zip_cons_cons, List.zip_cons_cons, List.all_cons, List.all_cons, ih.2 r]
      unfold alikeB
      rw [hn, fits_join a.ty b.ty j.ty c.ty hj]⟩
theorem right_joinE : ∀ a b j : List Bd, JoinsE a b j → right a = true → right b = true → (a.zip b).all alikeB = true → right j = true :=
  joinsE_cases (fun _ _ _ => rfl) fun a x b y j z hn hj _ ih h1 h2 hf => by
    unfold right at *
    rw [List.all_cons, Bool.and_eq_true] at h1 h2 ⊢
    rw [List.zip_cons_cons, List.all_cons, Bool.and_eq_true] at hf
    have hf1 := hf.1
    unfold alikeB at hf1
    rw [Bool.and_eq_true] at hf1
    exact ⟨right_join _ _ _ h1.1 h2.1 hf1.2 hj, ih h1.2 h2.2 hf.2⟩
theorem most_left : ∀ a b j : List Bd, JoinsE a b j → (a.zip j).all atMostB = true :=
  joinsE_cases rfl fun a x b y j z _ hj _ ih => by
    rw [List.zip_cons_cons, List.all_cons, ih, Bool.and_true]; exact less_left _ _ _ hj
theorem most_right : ∀ a b j : List Bd, JoinsE a b j → (b.zip j).all atMostB = true :=
  joinsE_cases rfl fun a x b y j z _ hj _ ih => by
    rw [List.zip_cons_cons, List.all_cons, ih, Bool.and_true]; exact less_right _ _ _ hj
theorem most_least : ∀ a b j : List Bd, JoinsE a b j → ∀ c : List Bd, (a.zip c).all atMostB = true → (b.zip c).all atMostB = true → (j.zip c).all atMostB = true :=
  joinsE_cases (fun _ _ _ => rfl) fun a x b y j z _ hj _ ih c h1 h2 => by
    cases c with
    | nil => rfl
    | cons c r =>
      rw [List.zip_cons_cons, List.all_cons, Bool.and_eq_true] at h1 h2 ⊢
      exact ⟨least_T _ _ _ _ hj h1.1 h2.1, ih r h1.2 h2.2⟩
theorem hit_joinE (p : Pl) (w : Bool) : ∀ a b j : List Bd, JoinsE a b j → hit j p w = (hit a p w || hit b p w) :=
  joinsE_cases rfl fun a x b y j z _ hj _ ih => by
    unfold hit at *
    rw [List.any_cons, List.any_cons, List.any_cons, ih, hit_join p w _ _ _ hj]
    cases hitT p w a.ty <;> cases hitT p w b.ty <;> simp
theorem comm_joinE : ∀ a b j : List Bd, JoinsE a b j → ∀ i, JoinsE b a i → (a.zip b).all alikeB = true → sameE j i = true :=
  joinsE_cases (fun i h _ => by cases i with | nil => rfl | cons _ _ => simp [JoinsE] at h) fun a x b y j z hn hj _ ih i h hf => by
    cases i with
    | nil => simp [JoinsE] at h
    | cons i r =>
      rw [List.zip_cons_cons, List.all_cons, Bool.and_eq_true] at hf
      have hf1 := hf.1
      unfold alikeB at hf1
      rw [Bool.and_eq_true, beq_iff_eq] at hf1
      obtain ⟨e1, e2, e3⟩ := h
      have e : bs a.name = bs b.name := hf1.1
      rw [sameE, join_comm _ _ _ _ hf1.2 hj e2, ih r e3 hf.2, hn, e1, e]
      simp
theorem both_parts (a b : List Bd) : both a b = (right a && right b && a.length == b.length && (a.zip b).all alikeB) := rfl
theorem less_eq' (a b : List Bd) : less a b = (both a b && (a.zip b).all atMostB) := rfl
/-- THE LATTICE, of environments that have a join -/
theorem joinE_all {a b j : List Bd} (hj : JoinsE a b j) (hb : both a b = true) :
    right j = true ∧ less a j = true ∧ less b j = true ∧ (∀ c, less a c = true → less b c = true → less j c = true) ∧ (∀ p w, hit j p w = (hit a p w || hit b p w)) ∧ (∀ i, JoinsE b a i → sameE j i = true) := by
  rw [both_parts] at hb
  simp only [Bool.and_eq_true, beq_iff_eq] at hb
  obtain ⟨⟨⟨r1, r2⟩, hl⟩, hf⟩ := hb
  have hz := zip_join a b j hj
  have rj := right_joinE a b j hj r1 r2 hf
  refine ⟨rj, ?_, ?_, fun c h1 h2 => ?_, fun p w => hit_joinE p w a b j hj, fun i hi => comm_joinE a b j hj i hi hf⟩
  · rw [less_eq', both_parts, r1, rj, hz.1, zip_symm a j, hz.2 a, zip_self a, most_left a b j hj]; simp
  · rw [less_eq', both_parts, r2, rj, hz.1, hl, zip_symm b j, hz.2 b, hf, most_right a b j hj]; simp
  · rw [less_eq', both_parts] at h1 h2 ⊢
    simp only [Bool.and_eq_true, beq_iff_eq] at h1 h2 ⊢
    exact ⟨⟨⟨⟨rj, h1.1.1.1.2⟩, by rw [hz.1]; exact h1.1.1.2⟩, by rw [hz.2 c]; exact h1.1.2⟩, most_least a b j hj c h1.2 h2.2⟩
end Go.Proofs.Ytannfhbocfghkaa.EnvC
/- The join of environments in memory: its roots, how it begins, what it is at the end. No program. -/
namespace Go.Proofs.Ytannfhbocfghkaa.EnvC
open Go Go.RowKit Go.Shelf Go.Lib Go.Sort Go.Proofs.Ytannfhbocfghkaa.EnvP

theorem bd_len (l : List Bd) : ∀ c ∈ l.map Bd.cells, c.length = 6 := by
  intro c hc; obtain ⟨⟨_, t⟩, _, rfl⟩ := List.mem_map.1 hc; cases t; rfl
theorem bd_ones' {w : World} {l : List Bd} (h : ∀ b ∈ l, b.ty.In w) : ∀ c ∈ l.map Bd.cells, ∀ u ∈ c, u.oneCell' = true := by
  intro c hc u hu
  obtain ⟨x, hx, rfl⟩ := List.mem_map.1 hc
  exact ones_of (bd_ones (h x hx)) u hu
def root (ob bb bo : Nat) (i : Nat) (p : Bd × Bd) : Pr := ⟨ob, i * 6 + 1, p.1.ty, bb, bo + i * 6 + 1, p.2.ty⟩
def roots (a b : List Bd) (ob bb bo : Nat) : List Pr := (a.zip b).mapIdx (root ob bb bo)
/-- each name is where it was, each type has been joined -/
def JoinG (a b : List Bd) (ob bb bo : Nat) (W : World) : Prop := ∀ (i : Nat) (x y : Bd), a[i]? = some x → b[i]? = some y → W.cell? ⟨ob, i * 6, none⟩ = some (.string x.name) ∧ Done W (root ob bb bo i (x, y))
theorem roots_at {a b : List Bd} {ob bb bo i : Nat} {x y : Bd} (hx : a[i]? = some x) (hy : b[i]? = some y) : (roots a b ob bb bo)[i]? = some (root ob bb bo i (x, y)) := by
  unfold roots
  have e : (a.zip b)[i]? = some (x, y) := by rw [List.getElem?_zip_eq_some]; exact ⟨hx, hy⟩
  rw [List.getElem?_mapIdx, e]; rfl
theorem mem_roots {a b : List Bd} {ob bb bo : Nat} {z : Pr} (h : z ∈ roots a b ob bb bo) : ∃ i x y, a[i]? = some x ∧ b[i]? = some y ∧ z = root ob bb bo i (x, y) := by
  unfold roots at h
  obtain ⟨i, hi, rfl⟩ := List.mem_mapIdx.1 h
  rw [List.length_zip] at hi
  exact ⟨i, a[i]'(by omega), b[i]'(by omega), List.getElem?_eq_getElem _, List.getElem?_eq_getElem _, by rw [List.getElem_zip]⟩
theorem wand_nil (w0 W : World) (b : List Bd) (ob bb bo : Nat) : Wand w0 (JoinG [] b ob bb bo) (roots [] b ob bb bo) W :=
  ⟨fun x hx => by simp [roots] at hx, by simp [roots], fun _ _ _ i x y hx _ => by simp at hx⟩
theorem wand_start {a b : List Bd} {v : Value} {ob bb bo n co m cb : Nat} {w0 W : World} (ha : EnvIn w0 v a) (hb : EnvIn w0 (.slice (some ⟨bb, bo, none⟩) m cb) b)
    (hs : ∀ (i : Nat) (x y : Bd), a[i]? = some x → b[i]? = some y → wT x.ty + wT y.ty ≤ 1048576 ∧ fitsT x.ty y.ty = true)
    (ho : W.ownsRow w0.heap.size 45 6 (.slice (some ⟨ob, 0, none⟩) n co) n (a.map Bd.cells).flatten) : Wand w0 (JoinG a b ob bb bo) (roots a b ob bb bo) W := by
  obtain ⟨hlen, ⟨e, _⟩ | ⟨g, cap, cs, e, hB, hh, hn, hc, hcs, htake⟩⟩ := id ho
  · cases e
  injection e with e1 _ e3
  injection e1 with e1
  injection e1 with e1
  subst e1 e3
  have hnl : a.length * 6 = n * 6 := by rw [← hlen, flatten_len (bd_len a), List.length_map]
  have hcell : ∀ (i : Nat) (x : Bd), a[i]? = some x → ∀ (j : Nat) (u : Value), x.cells[j]? = some u → cs[i * 6 + j]? = some u := fun i x hx j u hj => by
    have h9 := flatten_at (bd_len a) i x.cells (by rw [List.getElem?_map, hx]; rfl) j u hj
    rw [← htake] at h9
    have hlt := (List.getElem?_eq_some_iff.1 h9).1
    rw [List.length_take] at hlt
    rw [List.getElem?_take, if_pos (by omega)] at h9
    simpa using h9
  refine ⟨fun z hz => ?_, List.pairwise_iff_getElem.2 fun i j hi hj hij => ?_, fun W' ag hd i x y hx hy => ⟨?_, hd _ (List.mem_of_getElem? (roots_at hx hy))⟩⟩
  · obtain ⟨i, x, y, hx, hy, rfl⟩ := mem_roots hz
    obtain ⟨h1, h2⟩ := hs i x y hx hy
    obtain ⟨b1, o1, c1, e, _, hp, _⟩ := bd_at hb hy (by unfold Small; omega)
    injection e with e1 _ _
    injection e1 with e1
    injection e1 with e1 e2 _
    subst e1 e2
    exact { here := ⟨_, cs, .inr rfl, hh, fun j u hj => by
              change x.ty.cells[j]? = some u at hj
              have := hcell i x hx (1 + j) u (by unfold Bd.cells; rw [List.getElem?_append_right (by simp)]; simpa using hj)
              show cs[i * 6 + 1 + j]? = _
              rw [Nat.add_assoc]; exact this⟩,
            base := hB, left := ha.2 x (List.mem_of_getElem? hx), right := hp.1, small := h1, fit := h2 }
  · refine .inr (.inl ?_)
    have e : ∀ (i : Nat) (hi : i < (roots a b ob bb bo).length), ((roots a b ob bb bo)[i]).o = i * 6 + 1 := fun i hi => by
      obtain ⟨x, y, h1, h2⟩ : ∃ x y, a[i]? = some x ∧ b[i]? = some y := by
        unfold roots at hi
        rw [List.length_mapIdx, List.length_zip] at hi
        exact ⟨a[i]'(by omega), b[i]'(by omega), List.getElem?_eq_getElem _, List.getElem?_eq_getElem _⟩
      have := roots_at (ob := ob) (bb := bb) (bo := bo) h1 h2
      rw [List.getElem?_eq_getElem hi] at this
      injection this with this
      rw [this]; rfl
    rw [e, e]; omega
  · refine ag.cells ob cs _ (i * 6) _ hh (.inr rfl) (hcell i x hx 0 _ rfl) fun z hz => ?_
    obtain ⟨j, _, _, _, _, rfl⟩ := mem_roots hz
    intro hoff
    have h1 := hoff.2.1
    have h2 := hoff.2.2
    change j * 6 + 1 ≤ i * 6 at h1
    change i * 6 < j * 6 + 1 + 5 at h2
    omega
theorem bds_of {P : Nat → Bd → Prop} : ∀ (n : Nat), (∀ i, i < n → ∃ j, P i j) → ∃ l : List Bd, l.length = n ∧ ∀ (i : Nat) j, l[i]? = some j → P i j
  | 0, _ => ⟨[], rfl, fun i j h => by simp at h⟩
  | n + 1, h => by
    obtain ⟨l, h1, h2⟩ := bds_of n (fun i hi => h i (by omega))
    obtain ⟨j, hj⟩ := h n (by omega)
    refine ⟨l ++ [j], by simp [h1], fun i x hx => ?_⟩
    by_cases hi : i < n
    · rw [List.getElem?_append_left (by omega)] at hx; exact h2 i x hx
    · have : i = n := by have := (List.getElem?_eq_some_iff.1 hx).1; simp at this; omega
      subst this
      rw [List.getElem?_append_right (by omega), h1, Nat.sub_self] at hx
      cases hx; exact hj
theorem joinsE_of : ∀ (a b j : List Bd), a.length = b.length → j.length = a.length → (∀ (i : Nat) x y z, a[i]? = some x → b[i]? = some y → j[i]? = some z → bs z.name = bs x.name ∧ Joins x.ty y.ty z.ty) → JoinsE a b j
  | [], [], [], _, _, _ => by simp [JoinsE]
  | x :: a, y :: b, z :: j, h1, h2, h => by
    rw [JoinsE]
    have h3 := h 0 x y z rfl rfl rfl
    exact ⟨h3.1, h3.2, joinsE_of a b j (by simpa using h1) (by simpa using h2) fun i x y z hx hy hz => h (i + 1) x y z (by simpa using hx) (by simpa using hy) (by simpa using hz)⟩
  | [], [], _ :: _, _, h2, _ => by simp at h2
  | [], _ :: _, _, h1, _, _ => by simp at h1
  | _ :: _, [], _, h1, _, _ => by simp at h1
  | _ :: _, _ :: _, [], _, h2, _ => by simp at h2
/-- what has been joined root by root is an environment, and the join -/
theorem join_end {a b : List Bd} {ob bb bo co : Nat} {po : Option Addr} {W : World} (hlen : a.length = b.length) (hco : a.length ≤ co) (hpo : a ≠ [] → po = some ⟨ob, 0, none⟩) (h : JoinG a b ob bb bo W) : ∃ j, EnvIn W (.slice po a.length co) j ∧ JoinsE a b j := by
  obtain ⟨j, hj1, hj2⟩ := bds_of (P := fun i z => ∀ x y, a[i]? = some x → b[i]? = some y → (∀ (k : Nat) (u : Value), z.cells[k]? = some u → W.cell? ⟨ob, i * 6 + k, none⟩ = some u) ∧ z.ty.In W ∧ z.name = x.name ∧ Joins x.ty y.ty z.ty) a.length (fun i hi => by
    obtain ⟨h1, t, h2, h3⟩ := h i _ _ (List.getElem?_eq_getElem hi) (List.getElem?_eq_getElem (by omega))
    refine ⟨⟨(a[i]).name, t⟩, fun x y hx hy => ?_⟩
    rw [List.getElem?_eq_getElem hi] at hx
    rw [List.getElem?_eq_getElem (by omega)] at hy
    cases hx; cases hy
    refine ⟨fun k u hk => ?_, h2.2, rfl, h3⟩
    match k, hk with
    | 0, hk => cases hk; exact h1
    | k + 1, hk =>
      have hk2 : t.cells[k]? = some u := by
        unfold Bd.cells at hk
        rw [List.getElem?_append_right (by simp)] at hk
        simpa using hk
      have := h2.1 k u hk2
      change W.cell? ⟨ob, i * 6 + 1 + k, none⟩ = _ at this
      rw [show i * 6 + (k + 1) = i * 6 + 1 + k by omega]; exact this)
  have hall : ∀ (i : Nat) (z : Bd), j[i]? = some z → ∃ x y, a[i]? = some x ∧ b[i]? = some y ∧ (∀ (k : Nat) (u : Value), z.cells[k]? = some u → W.cell? ⟨ob, i * 6 + k, none⟩ = some u) ∧ z.ty.In W ∧ z.name = x.name ∧ Joins x.ty y.ty z.ty := fun i z hz => by
    have hi := (List.getElem?_eq_some_iff.1 hz).1
    have h1 : a[i]? = some (a[i]'(by omega)) := List.getElem?_eq_getElem _
    have h2 : b[i]? = some (b[i]'(by omega)) := List.getElem?_eq_getElem _
    exact ⟨_, _, h1, h2, hj2 i z hz _ _ h1 h2⟩
  refine ⟨j, ⟨⟨po, co, by rw [List.length_map, hj1], by rw [List.length_map, hj1]; exact hco, fun hne => ⟨ob, 0, ?_, fun i c hc k u hk => ?_⟩⟩, fun z hz => ?_⟩, joinsE_of a b j hlen hj1 fun i x y z hx hy hz => ?_⟩
  · refine hpo fun e => hne ?_
    rw [e] at hj1
    rw [List.length_eq_zero_iff.1 hj1]; rfl
  · rw [List.getElem?_map] at hc
    obtain ⟨z, hz, rfl⟩ := Option.map_eq_some_iff.1 hc
    obtain ⟨_, _, _, _, h3, _⟩ := hall i z hz
    rw [Nat.zero_add]; exact h3 k u hk
  · obtain ⟨i, hi⟩ := List.getElem?_of_mem hz
    obtain ⟨_, _, _, _, _, h3, _⟩ := hall i z hi
    exact h3
  · obtain ⟨_, _, h3, h4⟩ := hj2 i z hz x y hx hy
    exact ⟨by rw [h3], h4⟩
end Go.Proofs.Ytannfhbocfghkaa.EnvC
/- Contract of env.Join. -/
namespace Go.Proofs.Ytannfhbocfghkaa.EnvC
open Go Go.RowKit Go.Shelf Go.Lib Go.Sort Go.Proofs.Ytannfhbocfghkaa.EnvP
attribute [local go_sem] Oper.semAt_some

theorem Built.of_below {A B : World} (h : Below A.heap.size A B) : Built A B := ⟨RowKept.of_below h, RowKept.of_below h, RowKept.of_below h, RowKept.of_below h⟩
theorem Built.of_soft {B : Nat} {x y : World} (h : Soft 68 B x y) : Built x y := by
  refine ⟨fun k cs f e => h.same k _ e (.inr ⟨rfl, ?_⟩), fun k cs f e => h.same k _ e (.inr ⟨rfl, ?_⟩), fun k cs f e => h.same k _ e (.inr ⟨rfl, ?_⟩), fun k cs f e => h.same k _ e (.inr ⟨rfl, ?_⟩)⟩ <;>
  · intro cs f e
    injection e with _ e _
    exact absurd e (by decide)

theorem JoinG.keep {a b : List Bd} {ob bb bo : Nat} {W W' : World} (h : JoinG a b ob bb bo W) (k : Keeps W W') : JoinG a b ob bb bo W' := fun i x y hx hy => by
  obtain ⟨h1, j, h2, h3⟩ := h i x y hx hy
  exact ⟨k _ _ _ h1, j, h2.keep k, h3⟩
theorem Built.of_cells {A B : World} (h : CellsSame A B) : Built A B := ⟨fun k _cs _f e => h k _ e rfl, fun k _cs _f e => h k _ e rfl, fun k _cs _f e => h k _ e rfl, fun k _cs _f e => h k _ e rfl⟩
theorem Built.trans {A B C : World} (h : Built A B) (k : Built B C) : Built A C := ⟨h.loans.trans k.loans, h.ints.trans k.ints, h.types.trans k.types, h.binds.trans k.binds⟩
theorem Joined.row {w0 W W2 : World} {b o : Nat} {T : TypeId} {cur : Array Value} {t u : ETy} (h : Joined w0 W b o T cur t u W2) (hb : W.heap[b]? = some (.cells cur T (0, 0))) {X : TypeId} (hX : T ≠ X) : RowKept X W W2 := fun i cs f e => by
  have hne : i ≠ b := fun ei => by subst ei; rw [hb] at e; injection e with e; injection e with _ e _; exact hX e
  exact (h.same i (Array.getElem?_eq_some_iff.1 e).1 hne).trans e
theorem Joined.other {w0 W W2 : World} {b o : Nat} {T : TypeId} {cur : Array Value} {t u : ETy} (h : Joined w0 W b o T cur t u W2) (hb : W.heap[b]? = some (.cells cur T (0, 0))) (k : Nat) (ob : Obj) (hk : W.heap[k]? = some ob) (hc : ob.isCells = false) : W2.heap[k]? = some ob := by
  have hne : k ≠ b := fun ei => by subst ei; rw [hb] at hk; cases hk; cases hc
  exact (h.same k (Array.getElem?_eq_some_iff.1 hk).1 hne).trans hk

set_option maxHeartbeats 8000000 in
set_option maxRecDepth 100000 in
theorem joinEnv_any (a b : List Bd) (v u : Value) (w : World) (ha : EnvIn w v a) (hb : EnvIn w u b) (hsa : ∀ x ∈ a, Small x.ty) (hsb : ∀ x ∈ b, Small x.ty) (hla : a.length ≤ 1048576) (hlb : b.length ≤ 1048576)
    (hss : ∀ (i : Nat) (x y : Bd), a[i]? = some x → b[i]? = some y → wT x.ty + wT y.ty ≤ 1048576) :
    Calls Try.prog 13 #[v, u] w fun r w' => Below w.heap.size w w' ∧
      ((both a b = true ∧ ∃ vo j, r = .returned (.tuple #[vo, .nilIface]) ∧ EnvIn w' vo j ∧ JoinsE a b j) ∨ (both a b = false ∧ r = .returned (.tuple #[.slice none 0 0, .iface 62 (.int .i64 5)]))) := by
  have c0 := fun (W : World) (h : Below w.heap.size w W) => match_any a b v u W (ha.keep (Keeps.of_below h)) (hb.keep (Keeps.of_below h)) hsa hsb hla hlb
  have c1 := fun (W : World) (h : Below w.heap.size w W) => clone_bind v (a.map Bd.cells) W (bd_len a) (bd_ones' ha.2) (ha.1.keep (Keeps.of_below h)) (by rw [List.length_map]; omega)
  obtain ⟨p, cap, hcap, rfl⟩ := lies_slice ha.1
  obtain ⟨p', cap', hcap', rfl⟩ := lies_slice hb.1
  have hboth : both a b = true → a.length = b.length ∧ ∀ (i : Nat) (x y : Bd), a[i]? = some x → b[i]? = some y → fitsT x.ty y.ty = true := by
    intro h
    rw [both_eq] at h
    simp only [Bool.and_eq_true, beq_iff_eq] at h
    refine ⟨h.2.1, fun i x y hx hy => ?_⟩
    have h3 := h.2.2
    unfold allB at h3
    rw [List.all_eq_true] at h3
    have := h3 (x, y) (List.mem_of_getElem? (i := i) (by rw [List.getElem?_zip_eq_some]; exact ⟨hx, hy⟩))
    unfold fitB at this
    rw [Bool.and_eq_true] at this
    exact this.2
  have C0 := hid (callsIn_wide (n := 11) |>.2 (c0 w (Below.refl _ _)))
  have C1 := hid c1
  have HE := hid (And.intro ha hb)
  have HS := hid (And.intro hsa hsb)
  have HSS := hid hss
  have HBT := hid hboth
  generalize both a b = bt at *
  clear c0 c1 ha hb hsa hsb hss hboth
  refine callsIn_wide (n := 12) |>.1 (callsIn_of_wp_marks Try.func13 rfl trivial ?_ rfl)
  simp only [Try.ntmps13, List.size_toArray, List.length_cons, List.length_nil, Nat.reduceAdd, Nat.reduceSub, Array.replicate_succ, Array.replicate_zero, List.push_toArray, List.append_toArray, List.nil_append, List.cons_append]
  gi_wp2
  refine ⟨trivial, C0.out.mono ?_⟩
  rintro e W2 ⟨rfl, hb2⟩
  have HB2 := hid hb2
  clear hb2 C0
  cases bt
  · gi_wp2
    exact leaves_marks (b := w.heap.size) (by intro e; cases e) [] _ trivial fun w' hb hc => ⟨_, results_tmp2 rfl _ _ _, HB2.out.trans (hb.mono (Nat.le_refl _)), rfl⟩
  · obtain ⟨hlen, hfit⟩ := HBT.out rfl
    have HLF := hid (And.intro hlen hfit)
    clear hlen hfit HBT
    gi_wp2
    have D1 := hid (callsIn_wide (n := 11) |>.2 (C1.out W2 HB2.out))
    refine ⟨trivial, D1.out.mono ?_⟩
    rintro e W3 ⟨vo, rfl, hown, hb3⟩
    rw [List.length_map] at hown
    obtain ⟨po, co, rfl⟩ := own_slice hown
    obtain ⟨hlen, hfit⟩ := HLF.out
    have HB3 := hid (HB2.out.trans (hb3.mono HB2.out.size))
    have hlo := own_lower hown HB2.out.size
    have hpo : a ≠ [] → ∃ ob bb bo, po = some ⟨ob, 0, none⟩ ∧ p' = some ⟨bb, bo, none⟩ := fun hne => by
      obtain ⟨g, c, e, _⟩ := own_ptr hown (List.length_pos_iff.2 hne)
      injection e with e _ _
      have hbl : 0 < b.length := by rw [← hlen]; exact List.length_pos_iff.2 hne
      obtain ⟨b1, o1, c1, e1, _⟩ := bd_at HE.out.2 (List.getElem?_eq_getElem hbl) (HS.out.2 _ (List.getElem_mem hbl))
      injection e1 with e1 _ _
      exact ⟨g, b1, o1, e, e1⟩
    have hco : a.length ≤ co := by
      obtain ⟨_, ⟨e, h0⟩ | ⟨g, c, cur, e, _, _, hn, _⟩⟩ := id hown
      · omega
      · injection e with _ _ e; omega
    have hw0 : ∃ ob bb bo, (a ≠ [] → po = some ⟨ob, 0, none⟩ ∧ p' = some ⟨bb, bo, none⟩) ∧ Wand w (JoinG a b ob bb bo) (roots a b ob bb bo) W3 := by
      by_cases hne : a = []
      · subst hne
        exact ⟨0, 0, 0, fun h => absurd rfl h, wand_nil _ _ _ _ _ _⟩
      · obtain ⟨ob, bb, bo, rfl, rfl⟩ := hpo hne
        exact ⟨ob, bb, bo, fun _ => ⟨rfl, rfl⟩, wand_start HE.out.1 HE.out.2 (fun i x y hx hy => ⟨HSS.out i x y hx hy, hfit i x y hx hy⟩) hlo⟩
    obtain ⟨ob, bb, bo, hpp, hwand⟩ := hw0
    generalize hN : a.length = N at *
    have HN := hid (And.intro hN hlen)
    have HPP := hid hpp
    have HW3 : Hid (Wand w (JoinG a b ob bb bo) ((roots a b ob bb bo).drop 0) W3) := hid hwand
    have HCO := hid hco
    clear hb3 hown D1 hlo hpo hco hpp hwand hfit hlen HLF hN C1
    gi_wp2
    refine wpIn_loop_ghost_k (fun gf act wr => ∃ (i : Nat) (ds : List Deferred) (u7 u8 u19 u20 u21 u22 u23 u24 u25 u26 u27 u28 u29 u30 u31 u32 u33 : Value), act = { tmps := #[.slice p N cap, .slice p' b.length cap', undef, undef, .slice none 0 0, .nilIface, .slice po N co, u7, u8, .slice p N cap, .slice p' b.length cap', .bool true, .bool false, undef, .slice p N cap, .slice po N co, .slice po N co, .int .i64 (N : Int), .int .i64 (i : Int), u19, u20, u21, u22, u23, u24, u25, u26, u27, u28, u29, u30, u31, u32, u33, undef], defers := ds } ∧
      i ≤ N ∧ N ≤ i + gf ∧ Hid (Marks w.heap.size wr ds) ∧ Hid (Below w.heap.size w wr) ∧ Hid (Wand w (JoinG a b ob bb bo) ((roots a b ob bb bo).drop i) wr)) N ⟨0, [], _, _, _, _, _, _, _, _, _, _, _, _, _, _, _, _, _, rfl, by omega, by omega, hid trivial, HB3, HW3⟩ ?_
    rintro gk act wr ⟨i, ds, u7, u8, u19, u20, u21, u22, u23, u24, u25, u26, u27, u28, u29, u30, u31, u32, u33, rfl, hi, hg, HM, HB, HW⟩ J K hJ hK
    clear HB3 HW3
    dsimp only at hJ ⊢
    by_cases hlt : i < N
    · obtain ⟨x, hx⟩ : ∃ x, a[i]? = some x := ⟨a[i]'(by rw [HN.out.1]; exact hlt), List.getElem?_eq_getElem _⟩
      obtain ⟨y, hy⟩ : ∃ y, b[i]? = some y := ⟨b[i]'(by rw [← HN.out.2]; exact hlt), List.getElem?_eq_getElem _⟩
      obtain ⟨rfl, rfl⟩ := HPP.out (fun e => by rw [e] at hx; simp at hx)
      have hr := roots_at (ob := ob) (bb := bb) (bo := bo) hx hy
      have hbn : b.length = N := HN.out.2.symm
      have hW2 := HW.out
      rw [drop_cons hr] at hW2
      have HA := hid (fun W => all_Pr (root ob bb bo i (x, y)) W)
      have hnt : nT x.ty ≤ 1048576 := Nat.le_trans (nT_le _) (HS.out.1 x (List.mem_of_getElem? hx))
      have HW2 : Hid (Wand w (JoinG a b ob bb bo) (root ob bb bo i (x, y) :: (roots a b ob bb bo).drop (i + 1)) wr) := hid hW2
      have HX := hid (And.intro hx hy)
      have ilt : (i : Int) < (N : Int) := by omega
      have i0 : (0 : Int) ≤ (i : Int) := by omega
      have ilb : (i : Int) < (b.length : Int) := by omega
      clear hx hy hr HW hW2 hbn
      generalize hrest : (roots a b ob bb bo).drop (i + 1) = rest at *
      have HREST := hid hrest
      clear hrest
      gi_wp2
      refine wpIn_wide.2 ?_
      go_region_held3 (fun w' => True) (first | trivial) (first | (go_at_call 30; refine (HA.out _).mono ?_; rintro e W2 ⟨rfl, hb2, h1, h2, hsz⟩))
      have hb2' : Below wr.heap.size wr W2 := ((Below.refl wr.heap.size wr).drew).trans hb2
      have h1' : W2.heap[wr.heap.size]? = some (.cells (Pr.cells (root ob bb bo i (x, y))).toArray 68 (0, 0)) := h1
      have h2' : Boxed W2 (wr.heap.size + 1) 77 (.func (.func 43) #[] #[]) := h2
      have HB2 := hid (HB.out.trans (hb2'.mono HB.out.size))
      have HM2 := hid (HM.out.later hb2')
      have HW3 := hid (HW2.out.built (Built.of_below hb2'))
      have HD : Hid (∀ D, { target := .collected D, args := #[] } ∈ ds → D < W2.heap.size) := hid (fun D hm => HM2.out.lt D hm)
      clear hb2 hb2' h1 h2 hsz HA HB HM HW2
      simp only [Exit.then]
      gi_wp2
      refine range_of (n := 12) rfl (by omega) (gf := 54) rfl trivial (enters_of Try.func54 (by kernel_rfl) rfl)
        (walksJ 11 (by omega) (root ob bb bo i (x, y)) wr.heap.size (wr.heap.size + 1) W2 h1' h2' hnt) (Below.refl _ _) rfl (fun A B x ks h hc => h.keep hc.keeps)
        (fun st W => Below w.heap.size w W ∧ W2.heap.size ≤ W.heap.size ∧ Marks w.heap.size W ds ∧ Wand w (JoinG a b ob bb bo) (st ++ rest) W)
        (fun W => False)
        (fun st A B h k => ⟨h.1.trans ((k.below h.2.1).mono HB2.out.size), Nat.le_trans h.2.1 k.size, k.marks h.2.2.1 HD.out, h.2.2.2.built (Built.of_soft k)⟩)
        (fun A B h k => h)
        ⟨HB2.out, Nat.le_refl _, HM2.out, HW3.out⟩ ?round ?done ?stop
      case round =>
        rintro l z r W ⟨hB, hsz, hm, hw⟩
        have pz := hw.pend z List.mem_cons_self
        rw [show z.cells.toArray = #[.pointer (some ⟨z.b, z.o, none⟩), .pointer (some ⟨z.c, z.q, none⟩)] from rfl]
        have hbx : Below W.heap.size W (W.alloc (.cells #[.pointer (some ⟨z.b, z.o, none⟩), .pointer (some ⟨z.c, z.q, none⟩)] 68 (0, 0))) := (Below.refl _ _).alloc (Nat.le_refl _) _
        have hnew := World.alloc_heap_new W (.cells #[.pointer (some ⟨z.b, z.o, none⟩), .pointer (some ⟨z.c, z.q, none⟩)] 68 (0, 0))
        have HBX := hid hbx
        have HNEW := hid hnew
        have HBW := hid (And.intro hB (And.intro hsz hm))
        have HW4 := hid hw
        have HPZ := hid pz
        clear hbx hnew hB hsz hm hw pz h1' h2' hnt
        gi_wp2
        refine ⟨Below.keepsFrom HBX.out _, (Below.cellsSame HBX.out).types, fun W4 hb4 hc4 => ?_⟩
        have hn4 := hc4 _ _ HNEW.out rfl
        have d0 : W4.cell? ⟨W.heap.size, 0, none⟩ = some (.pointer (some ⟨z.b, z.o, none⟩)) := by rw [Lib.cell_of_heap hn4]; rfl
        have d1 : W4.cell? ⟨W.heap.size, 1, none⟩ = some (.pointer (some ⟨z.c, z.q, none⟩)) := by rw [Lib.cell_of_heap hn4]; rfl
        have hbu : Built W W4 := (Built.of_below HBX.out).trans (Built.of_cells hc4)
        have hw4 : Wand w (JoinG a b ob bb bo) (z :: (r ++ rest)) W4 := HW4.out.built hbu
        have hb4' : Below W2.heap.size W W4 := (HBX.out.mono HBW.out.2.1).trans hb4
        have hbw : Below w.heap.size w W4 := HBW.out.1.trans (hb4'.mono HB2.out.size)
        have hm4 : Marks w.heap.size W4 ds := HBW.out.2.2.below hb4' HD.out
        have hz4 : W2.heap.size ≤ W4.heap.size := Nat.le_trans HBW.out.2.1 hb4'.size
        obtain ⟨T', cur, hT', hcur, hcells⟩ := (hw4.pend z List.mem_cons_self).here
        have hsm := HPZ.out.small
        have HC := hid (CallsIn.inRound l (callsIn_wide (n := 9) |>.2 (join_any z.b z.o z.c z.q w W4 T' hT' cur z.t z.u hbw HPZ.out.base hcur hcells HPZ.out.left HPZ.out.right (by unfold Small; omega) (by unfold Small; omega))))
        have H4 := hid (And.intro hw4 (And.intro hbw (And.intro hm4 hz4)))
        have HT := hid (And.intro hT' hcur)
        clear HBX HNEW HBW hb4 hc4 hn4 hbu hw4 hb4' hbw hm4 hz4 HW4 HPZ hT' hcur hcells hsm
        gi_wp2
        refine ⟨trivial, HC.out.mono ?_⟩
        rintro e5 W5 ⟨rfl, hj⟩
        have HJ := hid hj
        clear HC hj d0 d1
        gi_wp2
        obtain ⟨ks, hk, hw5⟩ := Wand.step H4.out.1 H4.out.2.1 HT.out.1 HT.out.2 HJ.out
        have hTP : T' ≠ 68 ∧ T' ≠ 77 := by rcases HT.out.1 with rfl | rfl <;> exact ⟨by decide, by decide⟩
        refine ⟨⟨HJ.out.size, fun k o _ hk hc => HJ.out.other HT.out.2 k o hk hc⟩, fun k cs f => ⟨HJ.out.row HT.out.2 hTP.1 k cs f, HJ.out.row HT.out.2 hTP.2 k cs f⟩, ks, hk, HJ.out.below, Nat.le_trans H4.out.2.2.2 HJ.out.size, H4.out.2.2.1.keep fun D _ e => HJ.out.other HT.out.2 D _ e rfl, by rw [List.append_assoc]; exact hw5⟩
      case done =>
        rintro D W hD ⟨hB, hsz, hm, hw⟩ hdef
        have HM3 := hid (Marks.push hm HD.out hD (Nat.le_trans HB2.out.size hD) hdef)
        have HB3 := hid hB
        have HW4 : Hid (Wand w (JoinG a b ob bb bo) ((roots a b ob bb bo).drop (i + 1)) W) := hid (by rw [HREST.out]; exact hw)
        clear hB hsz hm hw hdef HB2 HM2 HW3 h1' h2' hnt
        gi_wp2
        exact Handed.intro (gk - 1) (by omega) (hJ _ _ _ ⟨i + 1, _, _, _, _, _, _, _, _, _, _, _, _, _, _, _, _, _, _, rfl, by omega, by omega, HM3, HB3, HW4⟩)
      case stop =>
        rintro D W hD h hdef
        exact h.elim
    · obtain rfl : i = N := by omega
      have hd : (roots a b ob bb bo).drop i = [] := List.drop_eq_nil_of_le (by unfold roots; rw [List.length_mapIdx, List.length_zip]; have := HN.out.1; omega)
      have hW := HW.out
      rw [hd] at hW
      have HG := hid (hW.done HB.out)
      clear hd hW HW
      gi_wp2
      refine leaves_marks (b := w.heap.size) (by intro e; cases e) _ _ HM.out fun w' hb hc => ⟨_, results_tmp2 rfl _ _ _, HB.out.trans hb, ?_⟩
      obtain ⟨j, h1, h2⟩ := join_end (co := co) (HN.out.1.trans HN.out.2) (by rw [HN.out.1]; exact HCO.out) (fun h => (HPP.out h).1) (HG.out.keep hc.keeps)
      rw [HN.out.1] at h1
      exact ⟨_, rfl, j, h1, h2⟩
end Go.Proofs.Ytannfhbocfghkaa.EnvC
/- The document's SameLoan (lienbookref05). -/
namespace Go.Proofs.Ytannfhbocfghkaa.EnvC
open Go Go.RowKit Go.Lib Go.Sort Go.Proofs.Ytannfhbocfghkaa.EnvP

theorem prefix_eq : ∀ {a b : List Int}, a.length = b.length → a.isPrefixOf b = (a == b)
  | [], [], _ => rfl
  | x :: a, y :: b, h => by
    rw [List.isPrefixOf, prefix_eq (by simpa using h)]; rfl
  | [], _ :: _, h => by simp at h
  | _ :: _, [], h => by simp at h
theorem steps_ne {a b : List Int} (h : ¬ a.length = b.length) : (a == b) = false := by
  rw [beq_eq_false_iff_ne]; intro e; exact h (by rw [e])

set_option maxHeartbeats 4000000 in
set_option maxRecDepth 100000 in
theorem rSameLoan_any (a b : Ln) (w : World) (ha : a.pl.In w) (hb : b.pl.In w) (hla : a.pl.steps.length ≤ 1048576) (hlb : b.pl.steps.length ≤ 1048576) :
    Calls Try.prog 47 #[a.val, b.val] w fun r w' => r = .returned (.bool (sameLn a b)) ∧ Below w.heap.size w w' := by
  have c1 := fun (W : World) (h : Below w.heap.size w W) => begins_any a.pl.steps b.pl.steps a.pl.sv b.pl.sv W (Lies.keep ha (Keeps.of_below h)) (Lies.keep hb (Keeps.of_below h)) hla hlb
  obtain ⟨R, hR⟩ : ∃ R, sameLn a b = R := ⟨_, rfl⟩
  rw [hR]
  unfold sameLn at hR
  obtain ⟨la, ⟨va, sa, ta⟩, ma⟩ := a
  obtain ⟨lb, ⟨vb, sb, tb⟩, mb⟩ := b
  obtain ⟨pa, ka, hka, ea⟩ : ∃ pp pq, ta.length ≤ pq ∧ sa = .slice pp ta.length pq := lies_slice ha
  obtain ⟨pb, kb, hkb, eb⟩ : ∃ pp pq, tb.length ≤ pq ∧ sb = .slice pp tb.length pq := lies_slice hb
  unfold Ln.val Ln.cells
  dsimp only at c1 hR ea eb ha hb hla hlb ⊢
  subst ea eb
  have B0 : Below w.heap.size w ((w.alloc (.cells #[.string la, .string va, .slice pa ta.length ka, .bool ma] 27 (0, 0))).alloc (.cells #[.string lb, .string vb, .slice pb tb.length kb, .bool mb] 27 (0, 0))) := ((Below.refl _ _).alloc (Nat.le_refl _) _).alloc (by simp) _
  have C1 := hid (c1 _ B0)
  have HV : Hid (((la.toList == lb.toList) && (va.toList == vb.toList) && (ta == tb) && (ma == mb)) = R) := hid (by rw [← hR, Lib.toList_data, Lib.toList_data, Lib.toList_data, Lib.toList_data])
  have HP := hid (@prefix_eq ta tb)
  have HQ := hid (@steps_ne ta tb)
  have H0 := hid B0
  clear c1 B0 hR ha hb
  generalize ta.isPrefixOf tb = P at *
  generalize (ta == tb) = Q at *
  generalize hA : ta.length = A at *
  generalize hB : tb.length = B at *
  clear hA hB
  cases h1 : (la.toList == lb.toList)
  · have HN : Hid (R = false) := hid (by rw [← HV.out, h1]; rfl)
    clear HV HP HQ
    go_enter Try.func47, Try.ntmps47
    go_wp2_with fail
    go_ret
    exact ⟨ret_bool HN.out.symm, H0.out⟩
  · cases h2 : (ma == mb)
    · have HN : Hid (R = false) := hid (by rw [← HV.out, h2, Bool.and_false])
      clear HV HP HQ
      go_enter Try.func47, Try.ntmps47
      go_wp2_with fail
      go_ret
      exact ⟨ret_bool HN.out.symm, H0.out⟩
    · cases h3 : (va.toList == vb.toList)
      · have HN : Hid (R = false) := hid (by rw [← HV.out, h3]; simp)
        clear HV HP HQ
        go_enter Try.func47, Try.ntmps47
        go_wp2_with fail
        go_ret
        exact ⟨ret_bool HN.out.symm, H0.out⟩
      · by_cases h4 : A = B
        · have HN : Hid (R = P) := hid (by rw [← HV.out, h1, h2, h3, HP.out h4]; simp)
          subst h4
          clear HV HP HQ
          go_enter Try.func47, Try.ntmps47
          go_wp2_with fail
          with_reducible refine C1.out.mono ?_
          rintro e W ⟨rfl, hb1⟩
          go_wp2_with fail
          go_ret
          exact ⟨ret_bool HN.out.symm, H0.out.trans (hb1.mono H0.out.size)⟩
        · have HN : Hid (R = false) := hid (by rw [← HV.out, HQ.out h4]; simp)
          clear HV HP HQ
          have h5 : ¬ (A : Int) = B := by omega
          go_enter Try.func47, Try.ntmps47
          go_wp2_with fail
          go_ret
          exact ⟨ret_bool HN.out.symm, H0.out⟩
end Go.Proofs.Ytannfhbocfghkaa.EnvC

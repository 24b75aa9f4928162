/- A join of trees in memory, as it is made: what is yet to be joined, and what is so when all of it has been. No program. -/
import Derived.Test.YtannfhbocfghkaaDoorJ13
import Derived.Test.YtannfhbocfghkaaDoorJ10
namespace Go.Proofs.YtannfhbocfghkaaDoor.EnvC
open Go Go.RowKit Go.Shelf Go.Lib Go.Sort Go.Proofs.YtannfhbocfghkaaDoor.EnvP

/-! ### The weight of a join -/
theorem wLn_same {a b : Ln} (h : sameLn a b = true) : wLn a = wLn b := by
  unfold sameLn at h
  simp only [Bool.and_eq_true, beq_iff_eq] at h
  obtain ⟨⟨⟨h1, h2⟩, h3⟩, _⟩ := h
  have e1 : a.life.size = b.life.size := congrArg List.length h1
  have e2 : a.pl.var.size = b.pl.var.size := congrArg List.length h2
  unfold wLn wPl
  rw [e1, e2, h3]
theorem wLns_alikes : ∀ {l m : List Ln}, alikes l m = true → wLns l = wLns m
  | [], [], _ => rfl
  | a :: l, b :: m, h => by
    rw [alikes, Bool.and_eq_true] at h
    rw [wLns, wLns, wLn_same h.1, wLns_alikes h.2]
  | [], _ :: _, h => by cases h
  | _ :: _, [], h => by cases h
theorem wLns_merge : ∀ l m : List Ln, wLns (mergeL l m) ≤ wLns l + wLns m
  | [], m => by rw [merge_end (.inl rfl), List.nil_append]; omega
  | a :: l, [] => by rw [merge_end (.inr rfl), List.append_nil]; omega
  | a :: l, b :: m => by
    rw [mergeL]
    split
    · have := wLns_merge l (b :: m)
      have e : wLns (a :: l) = wLn a + wLns l := rfl
      rw [wLns, e]; omega
    · split
      · rw [wLns, wLns, wLns]; have := wLns_merge l m; omega
      · have := wLns_merge (a :: l) m
        have e : wLns (b :: m) = wLn b + wLns m := rfl
        rw [wLns, e]; omega
termination_by l m => l.length + m.length
mutual
theorem join_w : ∀ t u j : ETy, Joins t u j → wT j ≤ wT t + wT u
  | .mk k m g _ ls _ ks, .mk _ _ g' _ ls' _ ks', .mk k2 m2 g2 _ ls2 _ ks2, h => by
    rw [Joins] at h
    obtain ⟨_, _, _, h4, h5⟩ := h
    have h6 := wLns_alikes h4
    have h7 := wLns_merge ls ls'
    have h8 := join_ws ks ks' ks2 h5
    rw [wT, wT, wT]; omega
theorem join_ws : ∀ t u j : List ETy, JoinsL t u j → wTs j ≤ wTs t + wTs u
  | [], [], [], _ => Nat.zero_le _
  | t :: ts, u :: us, j :: js, h => by
    rw [JoinsL] at h
    have h1 := join_w t u j h.1
    have h2 := join_ws ts us js h.2
    rw [wTs, wTs, wTs]; omega
  | [], [], _ :: _, h => by simp [JoinsL] at h
  | [], _ :: _, _, h => by simp [JoinsL] at h
  | _ :: _, [], _, h => by simp [JoinsL] at h
  | _ :: _, _ :: _, [], h => by simp [JoinsL] at h
end

/-! ### What is yet to be joined -/
def Done (W : World) (x : Pr) : Prop := ∃ j, TyAt W x.b x.o j ∧ Joins x.t x.u j
structure Pend (w0 W : World) (x : Pr) : Prop where
  here : ∃ T cur, (T = 31 ∨ T = 33) ∧ W.heap[x.b]? = some (.cells cur T (0, 0)) ∧ ∀ (j : Nat) (v : Value), x.t.cells[j]? = some v → cur[x.o + j]? = some v
  base : w0.heap.size ≤ x.b
  left : x.t.In w0
  right : TyAt w0 x.c x.q x.u
  small : wT x.t + wT x.u ≤ 1048576
  fit : fitsT x.t x.u = true
def Off (x : Pr) (k o : Nat) : Prop := ¬ (x.b = k ∧ x.o ≤ o ∧ o < x.o + 5)
def Apart (x y : Pr) : Prop := x.b ≠ y.b ∨ x.o + 5 ≤ y.o ∨ y.o + 5 ≤ x.o
/-- the one world is as the other one, but at the places of these pairs -/
structure Agree (w0 : World) (S : List Pr) (W W' : World) : Prop where
  base : Keeps w0 W'
  loans : RowKept 44 W W'
  ints : RowKept 3 W W'
  cells : ∀ (k : Nat) (cs : Array Value) (T : TypeId) (o : Nat) (v : Value), W.heap[k]? = some (.cells cs T (0, 0)) → (T = 31 ∨ T = 33) → cs[o]? = some v → (∀ x ∈ S, Off x k o) → W'.cell? ⟨k, o, none⟩ = some v
/-- these pairs are yet to be joined; when they are, and all else is as it is, so is this -/
structure Wand (w0 : World) (G : World → Prop) (S : List Pr) (W : World) : Prop where
  pend : ∀ x ∈ S, Pend w0 W x
  apart : S.Pairwise Apart
  last : ∀ W', Agree w0 S W W' → (∀ x ∈ S, Done W' x) → G W'
/-- all that a join builds is as it was -/
structure Built (W W' : World) : Prop where
  loans : RowKept 44 W W'
  ints : RowKept 3 W W'
  types : RowKept 31 W W'
  binds : RowKept 33 W W'
theorem Built.row {W W' : World} (h : Built W W') {k : Nat} {cs : Array Value} {T : TypeId} (hT : T = 31 ∨ T = 33) (hk : W.heap[k]? = some (.cells cs T (0, 0))) : W'.heap[k]? = some (.cells cs T (0, 0)) := by
  rcases hT with rfl | rfl
  · exact h.types k cs _ hk
  · exact h.binds k cs _ hk
theorem Wand.built {w0 W W2 : World} {G : World → Prop} {S : List Pr} (h : Wand w0 G S W) (k : Built W W2) : Wand w0 G S W2 := by
  refine ⟨fun x hx => ?_, h.apart, fun W' a hd => h.last W' ⟨a.base, k.loans.trans a.loans, k.ints.trans a.ints, fun i cs T o v hi hT hv ho => a.cells i cs T o v (k.row hT hi) hT hv ho⟩ hd⟩
  have p := h.pend x hx
  obtain ⟨T, cur, hT, h1, h2⟩ := p.here
  exact { p with here := ⟨T, cur, hT, k.row hT h1, h2⟩ }
theorem Wand.done {w0 W : World} {G : World → Prop} (h : Wand w0 G [] W) (hb : Below w0.heap.size w0 W) : G W :=
  h.last W ⟨Keeps.of_below hb, RowKept.refl _ _, RowKept.refl _ _, fun k cs T o v hk _ hv _ => by rw [Lib.cell_of_heap hk]; exact hv⟩ fun x hx => absurd hx (by simp)

/-! ### One pair joined -/
/-- what lies where a pair has been joined, as long as its kids are the old ones -/
def Pr.got (x : Pr) (lv kv : Value) (L : List Ln) : Pr := ⟨x.b, x.o, .mk x.t.kind x.t.mt (x.t.gone || x.u.gone) lv L kv x.t.kids, x.c, x.q, x.u⟩
theorem types_of {P : Nat → ETy → Prop} : ∀ (n : Nat), (∀ i, i < n → ∃ j, P i j) → ∃ l : List ETy, l.length = n ∧ ∀ i j, l[i]? = some j → P i j
  | 0, _ => ⟨[], rfl, fun i j h => by simp at h⟩
  | n + 1, h => by
    obtain ⟨l, h1, h2⟩ := types_of n (fun i hi => h i (by omega))
    obtain ⟨j, hj⟩ := h n (by omega)
    refine ⟨l ++ [j], by simp [h1], fun i x hx => ?_⟩
    by_cases hi : i < n
    · rw [List.getElem?_append_left (by omega)] at hx; exact h2 i x hx
    · have : i = n := by have := (List.getElem?_eq_some_iff.1 hx).1; simp at this; omega
      subst this
      rw [List.getElem?_append_right (by omega), h1, Nat.sub_self] at hx
      cases hx; exact hj
theorem joinsL_of : ∀ (ts us js : List ETy), ts.length = us.length → js.length = ts.length → (∀ (i : Nat) t u j, ts[i]? = some t → us[i]? = some u → js[i]? = some j → Joins t u j) → JoinsL ts us js
  | [], [], [], _, _, _ => by simp [JoinsL]
  | t :: ts, u :: us, j :: js, h1, h2, h => by
    rw [JoinsL]
    exact ⟨h 0 t u j rfl rfl rfl, joinsL_of ts us js (by simpa using h1) (by simpa using h2) fun i a b c ha hb hc => h (i + 1) a b c (by simpa using ha) (by simpa using hb) (by simpa using hc)⟩
  | [], [], _ :: _, _, h2, _ => by simp at h2
  | [], _ :: _, _, h1, _, _ => by simp at h1
  | _ :: _, [], _, h1, _, _ => by simp at h1
  | _ :: _, _ :: _, [], _, h2, _ => by simp at h2
theorem ty_len (l : List ETy) : ∀ c ∈ l.map ETy.cells, c.length = 5 := by
  intro c hc; obtain ⟨x, _, rfl⟩ := List.mem_map.1 hc; cases x; rfl
theorem mem_w {l : List ETy} {t : ETy} (h : t ∈ l) : wT t ≤ wTs l := by rw [wTs_sum]; exact mem_sum wT h

theorem kids_o (x : Pr) (i : Nat) (hi : i < x.kids.length) : (x.kids[i]).o = (adr x.t.kv).2 + i * 5 := by
  have e : x.kids[i] = x.kid i ((x.t.kids.zip x.u.kids)[i]'(by unfold Pr.kids at hi; rwa [List.length_mapIdx] at hi)) := List.getElem_mapIdx
  rw [e]; rfl

theorem Wand.step {w0 W W2 : World} {G : World → Prop} {x : Pr} {r : List Pr} {T : TypeId} {cur : Array Value} (h : Wand w0 G (x :: r) W) (hwb : Below w0.heap.size w0 W) (hT : T = 31 ∨ T = 33)
    (hb : W.heap[x.b]? = some (.cells cur T (0, 0))) (hj : Joined w0 W x.b x.o T cur x.t x.u W2) : ∃ ks, Pr.Kids2 W2 x ks ∧ Wand w0 G (ks ++ r) W2 := by
  obtain ⟨b, o, ⟨k, m, g, lv, ls, kv, ks⟩, c, q, ⟨k', m', g', lv', ls', kv', ks'⟩⟩ := x
  have px := h.pend _ List.mem_cons_self
  obtain ⟨T', cur', hT', hb', hcur⟩ := px.here
  have hbase := px.base
  have hl := px.left
  have hr := px.right
  have hsm := px.small
  have hfit := px.fit
  dsimp only at hb hb' hj hbase hl hr hsm hfit hcur
  rw [hb] at hb'
  injection hb' with e
  injection e with e1 e2 _
  subst e1 e2
  obtain ⟨hbl, hsz, hsame, cur2, lv2, kv2, L, h2, hs2, c2, c3, c4, hA, hL, hK⟩ := hj
  have hlen : ks.length = ks'.length := fitsT_len hfit
  have hl' := hl
  rw [ETy.In] at hl'
  rw [wT, wT] at hsm
  rw [fitsT, Bool.and_eq_true] at hfit
  have k0 : Keeps w0 W2 := Keeps.of_below hbl
  have hlt : b < W.heap.size := (Array.getElem?_eq_some_iff.1 hb).1
  have hcell : ∀ a v, ([.int .i64 k, .bool m, .bool (g || g'), lv2, kv2] : List Value)[a]? = some v → a < 5 ∧ cur2[o + a]? = some v := by
    intro a v hv
    match a, hv with
    | 0, hv => cases hv; rw [hs2 _ (.inl (by omega))]; exact ⟨by omega, hcur 0 _ rfl⟩
    | 1, hv => cases hv; rw [hs2 _ (.inl (by omega))]; exact ⟨by omega, hcur 1 _ rfl⟩
    | 2, hv => cases hv; exact ⟨by omega, c2⟩
    | 3, hv => cases hv; exact ⟨by omega, c3⟩
    | 4, hv => cases hv; exact ⟨by omega, c4⟩
    | a + 5, hv => simp at hv
  have hkb : ∀ (i : Nat) (t : ETy), ks[i]? = some t → ∃ kb cap cs, kv2 = .slice (some ⟨kb, 0, none⟩) ks.length cap ∧ W.heap.size ≤ kb ∧ W2.heap[kb]? = some (.cells cs 31 (0, 0)) ∧ ∀ (a : Nat) (v : Value), t.cells[a]? = some v → cs[i * 5 + a]? = some v := by
    intro i t hi
    obtain ⟨_, ⟨_, e⟩ | ⟨kb, cap, cs, e, hB, hh, hn, hc, hcs, htake⟩⟩ := id hK
    · have := (List.getElem?_eq_some_iff.1 hi).1
      change ks.length = 0 at e
      omega
    · refine ⟨kb, cap, cs, e, hB, hh, fun a v hv => ?_⟩
      have h9 := flatten_at (ty_len ks) i t.cells (by rw [List.getElem?_map, hi]; rfl) a v hv
      change cs.toList.take (ks.length * 5) = (ks.map ETy.cells).flatten at htake
      rw [← htake] at h9
      have hlt := (List.getElem?_eq_some_iff.1 h9).1
      rw [List.length_take] at hlt
      rw [List.getElem?_take, if_pos (by omega)] at h9
      simpa using h9
  have hkid : ∀ y ∈ (Pr.got ⟨b, o, .mk k m g lv ls kv ks, c, q, .mk k' m' g' lv' ls' kv' ks'⟩ lv2 kv2 L).kids, W.heap.size ≤ y.b := by
    intro y hy
    obtain ⟨j, t, u, ht, hu, rfl⟩ := mem_kids hy
    obtain ⟨kb, cap, cs, e, hB, _⟩ := hkb j t ht
    show W.heap.size ≤ (kidAt kv2 j).1
    rw [e]; exact hB
  have kT : ∀ X, T ≠ X → RowKept X W W2 := fun X hX i cs f e => by
    have hne : i ≠ b := fun ei => by subst ei; rw [hb] at e; injection e with e; injection e with _ e _; exact hX e
    exact (hsame i (Array.getElem?_eq_some_iff.1 e).1 hne).trans e
  have hTL : T ≠ 44 := by rcases hT with rfl | rfl <;> decide
  have hTI : T ≠ 3 := by rcases hT with rfl | rfl <;> decide
  refine ⟨(Pr.got ⟨b, o, .mk k m g lv ls kv ks, c, q, .mk k' m' g' lv' ls' kv' ks'⟩ lv2 kv2 L).kids, ⟨.mk k m (g || g') lv2 L kv2 ks, Nat.le_of_eq (by rw [nT, nT]), ⟨fun a v hv => ?_, ?_⟩, hr.keep k0, ?_, hlen, rfl⟩, ?_⟩
  · rw [Lib.cell_of_heap h2]; exact (hcell a v hv).2
  · rw [ETy.In]
    exact ⟨(hL W2 (RowKept.refl _ _) (RowKept.refl _ _)).1, (hL W2 (RowKept.refl _ _) (RowKept.refl _ _)).2, own_lies (ty_len ks) (by rw [List.length_map]; exact hK), (ETy.ins_iff W2 ks).2 fun t ht => ETy.In.keep k0 t ((ETy.ins_iff w0 ks).1 hl'.2.2.2 t ht)⟩
  · unfold Small
    rw [wT]
    have h6 := wLns_alikes hA
    have h7 := wLns_merge ls ls'
    change wLns L = wLns (mergeL ls ls') at h6
    omega
  · refine ⟨fun y hy => ?_, List.pairwise_append.2 ⟨List.pairwise_iff_getElem.2 fun i j hi hj hij => ?_, (List.pairwise_cons.1 h.apart).2, fun a ha y hy => ?_⟩, fun W' a hd => h.last W' ?_ ?_⟩
    · rcases List.mem_append.1 hy with hy | hy
      · obtain ⟨j, t, u, ht, hu, rfl⟩ := mem_kids hy
        change ks[j]? = some t at ht
        change ks'[j]? = some u at hu
        obtain ⟨kb, cap, cs, e, hB, hh, hc⟩ := hkb j t ht
        have e1 : kidAt kv2 j = (kb, 0 + j * 5) := by rw [e]; rfl
        have ht1 := mem_w (List.mem_of_getElem? ht)
        have hu1 := mem_w (List.mem_of_getElem? hu)
        exact { here := ⟨_, cs, .inl rfl, (by show W2.heap[(kidAt kv2 j).1]? = _; rw [e1]; exact hh), fun a v hv => (by show cs[(kidAt kv2 j).2 + a]? = _; rw [e1]; dsimp only; rw [Nat.zero_add]; exact hc a v hv)⟩,
                base := (by show _ ≤ (kidAt kv2 j).1; rw [e1]; exact Nat.le_trans hwb.size hB),
                left := (ETy.ins_iff w0 ks).1 hl'.2.2.2 t (List.mem_of_getElem? ht), right := tyAt_kid hr.2 hu, small := (by show wT t + wT u ≤ _; omega), fit := fitsTs_mem hfit.2 ht hu }
      · have p := h.pend y (List.mem_cons_of_mem _ hy)
        obtain ⟨Ty, cury, hTy, hyb, hcy⟩ := p.here
        by_cases hyb' : y.b = b
        · rw [hyb', hb] at hyb
          injection hyb with e
          injection e with e1 e2 _
          subst e1 e2
          refine { p with here := ⟨T, cur2, hT, by rw [hyb']; exact h2, fun a v hv => ?_⟩ }
          have ha : a < 5 := by
            have := (List.getElem?_eq_some_iff.1 hv).1
            have e : y.t.cells.length = 5 := by cases y.t; rfl
            omega
          rcases (List.pairwise_cons.1 h.apart).1 y hy with e | e | e
          · exact absurd hyb'.symm e
          · change o + 5 ≤ y.o at e
            rw [hs2 _ (.inr (by omega))]; exact hcy a v hv
          · change y.o + 5 ≤ o at e
            rw [hs2 _ (.inl (by omega))]; exact hcy a v hv
        · exact { p with here := ⟨Ty, cury, hTy, (hsame y.b (Array.getElem?_eq_some_iff.1 hyb).1 hyb').trans hyb, hcy⟩ }
    · refine .inr (.inl ?_)
      rw [kids_o, kids_o]
      show (adr kv2).2 + i * 5 + 5 ≤ (adr kv2).2 + j * 5
      omega
    · have h1 := hkid a ha
      obtain ⟨_, _, _, h3, _⟩ := (h.pend y (List.mem_cons_of_mem _ hy)).here
      have h4 := (Array.getElem?_eq_some_iff.1 h3).1
      exact .inl (by omega)
    · refine ⟨a.base, (kT _ hTL).trans a.loans, (kT _ hTI).trans a.ints, fun i cs T2 o2 v hi hT2 hv hoff => ?_⟩
      have hi2 := (Array.getElem?_eq_some_iff.1 hi).1
      have hoffs : ∀ y ∈ (Pr.got ⟨b, o, .mk k m g lv ls kv ks, c, q, .mk k' m' g' lv' ls' kv' ks'⟩ lv2 kv2 L).kids ++ r, Off y i o2 := fun y hy => (List.mem_append.1 hy).elim (fun hy => fun e => by have := hkid y hy; have := e.1; omega) (fun hy => hoff y (List.mem_cons_of_mem _ hy))
      by_cases hib : i = b
      · subst hib
        rw [hb] at hi
        injection hi with e
        injection e with e1 e2 _
        subst e1 e2
        have hx := hoff _ List.mem_cons_self
        refine a.cells i cur2 T o2 v h2 hT ?_ hoffs
        rw [hs2 o2 (by unfold Off at hx; dsimp only at hx; omega)]; exact hv
      · exact a.cells i cs T2 o2 v ((hsame i hi2 hib).trans hi) hT2 hv hoffs
    · intro y hy
      rcases List.mem_cons.1 hy with rfl | hy
      · obtain ⟨js, hjl, hjs⟩ := types_of (P := fun i j => ∀ t u, ks[i]? = some t → ks'[i]? = some u → TyAt W' (kidAt kv2 i).1 (kidAt kv2 i).2 j ∧ Joins t u j) ks.length (fun i hi => by
          obtain ⟨j, h1, h3⟩ := hd (Pr.kid (Pr.got ⟨b, o, .mk k m g lv ls kv ks, c, q, .mk k' m' g' lv' ls' kv' ks'⟩ lv2 kv2 L) i (ks[i], ks'[i]'(by omega))) (List.mem_append_left _ (by
            unfold Pr.kids
            refine List.mem_mapIdx.2 ⟨i, by rw [List.length_zip]; show i < min ks.length ks'.length; omega, ?_⟩
            rw [List.getElem_zip]; rfl))
          refine ⟨j, fun t u ht hu => ?_⟩
          rw [List.getElem?_eq_getElem hi] at ht
          rw [List.getElem?_eq_getElem (by omega)] at hu
          cases ht; cases hu
          exact ⟨h1, h3⟩)
        have hjt : ∀ (i : Nat) j, js[i]? = some j → TyAt W' (kidAt kv2 i).1 (kidAt kv2 i).2 j := fun i j hj => by
          have h1 := (List.getElem?_eq_some_iff.1 hj).1
          exact (hjs i j hj _ _ (List.getElem?_eq_getElem (by omega)) (List.getElem?_eq_getElem (by omega))).1
        refine ⟨.mk k m (g || g') lv2 L kv2 js, ⟨fun i v hv => ?_, ?_⟩, ?_⟩
        · obtain ⟨ha, hv2⟩ := hcell i v hv
          refine a.cells b cur2 T (o + i) v h2 hT hv2 fun y hy => ?_
          rcases List.mem_append.1 hy with hy | hy
          · intro e
            have := hkid y hy
            have := e.1
            omega
          · intro e
            rcases (List.pairwise_cons.1 h.apart).1 y hy with e' | e' | e'
            · exact e' e.1.symm
            · change o + 5 ≤ y.o at e'; have := e.2; omega
            · change y.o + 5 ≤ o at e'; have := e.2; omega
        · rw [ETy.In]
          obtain ⟨h3, h4⟩ := hL W' a.loans a.ints
          refine ⟨h3, h4, ?_, (ETy.ins_iff W' js).2 fun j hj => ?_⟩
          · obtain ⟨p, cp, ekv, hcp, hp⟩ := own_lies (ty_len ks) (w := W2) (v := kv2) (base := W.heap.size) (e := 31) (by rw [List.length_map]; exact hK)
            rw [List.length_map] at ekv hcp
            refine ⟨p, cp, by rw [ekv, List.length_map, hjl], by rw [List.length_map, hjl]; exact hcp, fun hne => ?_⟩
            have hne2 : ks.map ETy.cells ≠ [] := fun e => hne (by rw [List.map_eq_nil_iff] at e ⊢; rw [e] at hjl; exact List.length_eq_zero_iff.1 hjl)
            obtain ⟨kb, off, rfl, _⟩ := hp hne2
            refine ⟨kb, off, rfl, fun i cc hi j v hv => ?_⟩
            rw [List.getElem?_map] at hi
            obtain ⟨jj, hjj, rfl⟩ := Option.map_eq_some_iff.1 hi
            have h5 := (hjt i jj hjj).1 j v hv
            rw [ekv] at h5
            exact h5
          · obtain ⟨i, hi⟩ := List.getElem?_of_mem hj
            exact (hjt i j hi).2
        · show Joins (.mk k m g lv ls kv ks) (.mk k' m' g' lv' ls' kv' ks') _
          rw [Joins]
          exact ⟨rfl, rfl, rfl, hA, joinsL_of ks ks' js hlen hjl fun i t u j ht hu hj => (hjs i j hj t u ht hu).2⟩
      · exact hd y (List.mem_append_right _ hy)
end Go.Proofs.YtannfhbocfghkaaDoor.EnvC

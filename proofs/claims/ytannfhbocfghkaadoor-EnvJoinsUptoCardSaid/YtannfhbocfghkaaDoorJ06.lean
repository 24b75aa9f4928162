/- Texts joined: EnvZI, EnvZJ, EnvZK, EnvJB, EnvJD0. -/
import Derived.Test.YtannfhbocfghkaaDoorJ05
import Derived.Test.YtannfhbocfghkaaDoorJ01
/- The join of environments, as a relation: it is right, both are at most it, it is the least that both are at most, what is hit in it is hit in one of both; it is the same from either side. -/
namespace Go.Proofs.YtannfhbocfghkaaDoor.EnvC
open Go Go.RowKit Go.Shelf Go.Lib Go.Sort Go.Proofs.YtannfhbocfghkaaDoor.EnvP

theorem alikes_nil {l : List Ln} (h : alikes l [] = true) : l = [] := by cases l with | nil => rfl | cons a l => cases h
theorem ask_join {k : Int} {m g g' : Bool} {ls ls' ls2 : List Ln} {n n' : Nat} {r r' l l' : Bool} (hn : n = n') (h1 : askT k m g ls n r l = true) (h2 : askT k m g' ls' n' r' l' = true) (h4 : alikes ls2 (mergeL ls ls') = true) : askT k m (g || g') ls2 n r (l || l') = true := by
  subst hn
  unfold askT at *
  by_cases c : k = 4
  · rw [if_pos c] at *
    simp only [Bool.and_eq_true] at h1 h2
    rw [rightLns_join h4 h1.1 h2.1]
    obtain ⟨_, ⟨⟨a1, a2⟩, a3⟩, a4⟩ := h1
    obtain ⟨_, ⟨⟨b1, b2⟩, b3⟩, b4⟩ := h2
    rw [a1, a2]
    cases m <;> cases g <;> cases g' <;> cases l <;> cases l' <;> simp_all
  · rw [if_neg c] at *
    simp only [Bool.and_eq_true, beq_iff_eq] at h1 h2
    obtain ⟨⟨a1, a2⟩, a3⟩ := h1
    obtain ⟨⟨b1, b2⟩, b3⟩ := h2
    obtain rfl := List.length_eq_zero_iff.1 a2
    obtain rfl := List.length_eq_zero_iff.1 b2
    rw [merge_end (.inl rfl)] at h4
    obtain rfl := alikes_nil h4
    rw [a1]
    by_cases k1 : k = 1
    · rw [if_pos k1] at *
      cases g <;> cases g' <;> simp_all
    · rw [if_neg k1] at *
      by_cases k2 : k = 2
      · rw [if_pos k2] at *
        cases l <;> cases l' <;> simp_all
      · rw [if_neg k2] at *
        by_cases k3 : k = 3
        · rw [if_pos k3] at *
          cases g <;> cases g' <;> simp_all
        · rw [if_neg k3] at *; cases a3
mutual
theorem right_join : ∀ t u j : ETy, rightT t = true → rightT u = true → fitsT t u = true → Joins t u j → rightT j = true
  | .mk k m g _ ls _ ks, .mk k' m' g' _ ls' _ ks', .mk k2 m2 g2 _ ls2 _ ks2, h1, h2, hf, h => by
    rw [Joins] at h
    obtain ⟨rfl, rfl, rfl, h4, h5⟩ := h
    rw [fitsT] at hf
    simp only [Bool.and_eq_true, beq_iff_eq] at hf
    obtain ⟨⟨⟨rfl, rfl⟩, hl⟩, hfs⟩ := hf
    rw [rightT, Bool.and_eq_true] at h1 h2 ⊢
    refine ⟨rights_join ks ks' ks2 h1.1 h2.1 hfs h5, ?_⟩
    rw [refs_joins ks ks' ks2 h5, lost_joins ks ks' ks2 h5, (fits_joins ks ks' ks2 [] h5).2]
    exact ask_join hl h1.2 h2.2 h4
theorem rights_join : ∀ t u j : List ETy, rightTs t = true → rightTs u = true → fitsTs t u = true → JoinsL t u j → rightTs j = true
  | [], [], [], _, _, _, _ => rfl
  | t :: ts, u :: us, j :: js, h1, h2, hf, h => by
    rw [JoinsL] at h
    rw [fitsTs, Bool.and_eq_true] at hf
    rw [rightTs, Bool.and_eq_true] at h1 h2 ⊢
    exact ⟨right_join t u j h1.1 h2.1 hf.1 h.1, rights_join ts us js h1.2 h2.2 hf.2 h.2⟩
  | [], [], _ :: _, _, _, _, h => by simp [JoinsL] at h
  | [], _ :: _, _, _, _, _, h => by simp [JoinsL] at h
  | _ :: _, [], _, _, _, _, h => by simp [JoinsL] at h
  | _ :: _, _ :: _, [], _, _, _, h => by simp [JoinsL] at h
end

/-! ### Environments -/
def JoinsE : List Bd → List Bd → List Bd → Prop
  | a :: x, b :: y, j :: z => bs j.name = bs a.name ∧ Joins a.ty b.ty j.ty ∧ JoinsE x y z
  | [], [], [] => True
  | _, _, _ => False
def alikeB (p : Bd × Bd) : Bool := bs p.1.name == bs p.2.name && fitsT p.1.ty p.2.ty
def atMostB (p : Bd × Bd) : Bool := lessT p.1.ty p.2.ty
def sameE : List Bd → List Bd → Bool
  | [], [] => true
  | a :: x, b :: y => bs a.name == bs b.name && sameT a.ty b.ty && sameE x y
  | _, _ => false
theorem joinsE_cases {P : List Bd → List Bd → List Bd → Prop} (h0 : P [] [] []) (h1 : ∀ a x b y j z, bs j.name = bs a.name → Joins a.ty b.ty j.ty → JoinsE x y z → P x y z → P (a :: x) (b :: y) (j :: z)) : ∀ a b j, JoinsE a b j → P a b j
  | [], [], [], _ => h0
  | a :: x, b :: y, j :: z, h => h1 a x b y j z h.1 h.2.1 h.2.2 (joinsE_cases h0 h1 x y z h.2.2)
  | [], [], _ :: _, h => by simp [JoinsE] at h
  | [], _ :: _, _, h => by simp [JoinsE] at h
  | _ :: _, [], _, h => by simp [JoinsE] at h
  | _ :: _, _ :: _, [], h => by simp [JoinsE] at h
theorem zip_self : ∀ a : List Bd, (a.zip a).all alikeB = true
  | [] => rfl
  | a :: x => by rw [List.zip_cons_cons, List.all_cons, zip_self x]; unfold alikeB; rw [fits_refl]; simp
theorem zip_symm : ∀ a b : List Bd, (a.zip b).all alikeB = (b.zip a).all alikeB
  | [], [] => rfl
  | [], _ :: _ => rfl
  | _ :: _, [] => rfl
  | a :: x, b :: y => by
    rw [List.zip_cons_cons, List.zip_cons_cons, List.all_cons, List.all_cons, zip_symm x y]
    unfold alikeB
    rw [fits_symm a.ty b.ty, Bool.beq_comm (a := bs a.name)]
theorem zip_join : ∀ a b j : List Bd, JoinsE a b j → j.length = a.length ∧ ∀ c : List Bd, (j.zip c).all alikeB = (a.zip c).all alikeB :=
  joinsE_cases ⟨rfl, fun _ => rfl⟩ fun a x b y j z hn hj _ ih => ⟨by rw [List.length_cons, List.length_cons, ih.1], fun c => by
    cases c with
    | nil => rfl
    | cons c r =>
      rw [List.zip_cons_cons, List.zip_cons_cons, List.all_cons, List.all_cons, ih.2 r]
      unfold alikeB
      rw [hn, fits_join a.ty b.ty j.ty c.ty hj]⟩
theorem right_joinE : ∀ a b j : List Bd, JoinsE a b j → right a = true → right b = true → (a.zip b).all alikeB = true → right j = true :=
  joinsE_cases (fun _ _ _ => rfl) fun a x b y j z hn hj _ ih h1 h2 hf => by
    unfold right at *
    rw [List.all_cons, Bool.and_eq_true] at h1 h2 ⊢
    rw [List.zip_cons_cons, List.all_cons, Bool.and_eq_true] at hf
    have hf1 := hf.1
    unfold alikeB at hf1
    rw [Bool.and_eq_true] at hf1
    exact ⟨right_join _ _ _ h1.1 h2.1 hf1.2 hj, ih h1.2 h2.2 hf.2⟩
theorem most_left : ∀ a b j : List Bd, JoinsE a b j → (a.zip j).all atMostB = true :=
  joinsE_cases rfl fun a x b y j z _ hj _ ih => by
    rw [List.zip_cons_cons, List.all_cons, ih, Bool.and_true]; exact less_left _ _ _ hj
theorem most_right : ∀ a b j : List Bd, JoinsE a b j → (b.zip j).all atMostB = true :=
  joinsE_cases rfl fun a x b y j z _ hj _ ih => by
    rw [List.zip_cons_cons, List.all_cons, ih, Bool.and_true]; exact less_right _ _ _ hj
theorem most_least : ∀ a b j : List Bd, JoinsE a b j → ∀ c : List Bd, (a.zip c).all atMostB = true → (b.zip c).all atMostB = true → (j.zip c).all atMostB = true :=
  joinsE_cases (fun _ _ _ => rfl) fun a x b y j z _ hj _ ih c h1 h2 => by
    cases c with
    | nil => rfl
    | cons c r =>
      rw [List.zip_cons_cons, List.all_cons, Bool.and_eq_true] at h1 h2 ⊢
      exact ⟨least_T _ _ _ _ hj h1.1 h2.1, ih r h1.2 h2.2⟩
theorem hit_joinE (p : Pl) (w : Bool) : ∀ a b j : List Bd, JoinsE a b j → hit j p w = (hit a p w || hit b p w) :=
  joinsE_cases rfl fun a x b y j z _ hj _ ih => by
    unfold hit at *
    rw [List.any_cons, List.any_cons, List.any_cons, ih, hit_join p w _ _ _ hj]
    cases hitT p w a.ty <;> cases hitT p w b.ty <;> simp
theorem comm_joinE : ∀ a b j : List Bd, JoinsE a b j → ∀ i, JoinsE b a i → (a.zip b).all alikeB = true → sameE j i = true :=
  joinsE_cases (fun i h _ => by cases i with | nil => rfl | cons _ _ => simp [JoinsE] at h) fun a x b y j z hn hj _ ih i h hf => by
    cases i with
    | nil => simp [JoinsE] at h
    | cons i r =>
      rw [List.zip_cons_cons, List.all_cons, Bool.and_eq_true] at hf
      have hf1 := hf.1
      unfold alikeB at hf1
      rw [Bool.and_eq_true, beq_iff_eq] at hf1
      obtain ⟨e1, e2, e3⟩ := h
      have e : bs a.name = bs b.name := hf1.1
      rw [sameE, join_comm _ _ _ _ hf1.2 hj e2, ih r e3 hf.2, hn, e1, e]
      simp
theorem both_parts (a b : List Bd) : both a b = (right a && right b && a.length == b.length && (a.zip b).all alikeB) := rfl
theorem less_eq' (a b : List Bd) : less a b = (both a b && (a.zip b).all atMostB) := rfl
/-- THE LATTICE, of environments that have a join -/
theorem joinE_all {a b j : List Bd} (hj : JoinsE a b j) (hb : both a b = true) :
    right j = true ∧ less a j = true ∧ less b j = true ∧ (∀ c, less a c = true → less b c = true → less j c = true) ∧ (∀ p w, hit j p w = (hit a p w || hit b p w)) ∧ (∀ i, JoinsE b a i → sameE j i = true) := by
  rw [both_parts] at hb
  simp only [Bool.and_eq_true, beq_iff_eq] at hb
  obtain ⟨⟨⟨r1, r2⟩, hl⟩, hf⟩ := hb
  have hz := zip_join a b j hj
  have rj := right_joinE a b j hj r1 r2 hf
  refine ⟨rj, ?_, ?_, fun c h1 h2 => ?_, fun p w => hit_joinE p w a b j hj, fun i hi => comm_joinE a b j hj i hi hf⟩
  · rw [less_eq', both_parts, r1, rj, hz.1, zip_symm a j, hz.2 a, zip_self a, most_left a b j hj]; simp
  · rw [less_eq', both_parts, r2, rj, hz.1, hl, zip_symm b j, hz.2 b, hf, most_right a b j hj]; simp
  · rw [less_eq', both_parts] at h1 h2 ⊢
    simp only [Bool.and_eq_true, beq_iff_eq] at h1 h2 ⊢
    exact ⟨⟨⟨⟨rj, h1.1.1.1.2⟩, by rw [hz.1]; exact h1.1.1.2⟩, by rw [hz.2 c]; exact h1.1.2⟩, most_least a b j hj c h1.2 h2.2⟩
end Go.Proofs.YtannfhbocfghkaaDoor.EnvC
/- The document's SameLoan (lienbookref05). -/
namespace Go.Proofs.YtannfhbocfghkaaDoor.EnvC
open Go Go.RowKit Go.Lib Go.Sort Go.Proofs.YtannfhbocfghkaaDoor.EnvP

theorem prefix_eq : ∀ {a b : List Int}, a.length = b.length → a.isPrefixOf b = (a == b)
  | [], [], _ => rfl
  | x :: a, y :: b, h => by
    rw [List.isPrefixOf, prefix_eq (by simpa using h)]; rfl
  | [], _ :: _, h => by simp at h
  | _ :: _, [], h => by simp at h
theorem steps_ne {a b : List Int} (h : ¬ a.length = b.length) : (a == b) = false := by
  rw [beq_eq_false_iff_ne]; intro e; exact h (by rw [e])

set_option maxHeartbeats 4000000 in
set_option maxRecDepth 100000 in
theorem rSameLoan_any (a b : Ln) (w : World) (ha : a.pl.In w) (hb : b.pl.In w) (hla : a.pl.steps.length ≤ 1048576) (hlb : b.pl.steps.length ≤ 1048576) :
    Calls Tryd.prog 54 #[a.val, b.val] w fun r w' => r = .returned (.bool (sameLn a b)) ∧ Below w.heap.size w w' := by
  have c1 := fun (W : World) (h : Below w.heap.size w W) => begins_any a.pl.steps b.pl.steps a.pl.sv b.pl.sv W (Lies.keep ha (Keeps.of_below h)) (Lies.keep hb (Keeps.of_below h)) hla hlb
  obtain ⟨R, hR⟩ : ∃ R, sameLn a b = R := ⟨_, rfl⟩
  rw [hR]
  unfold sameLn at hR
  obtain ⟨la, ⟨va, sa, ta⟩, ma⟩ := a
  obtain ⟨lb, ⟨vb, sb, tb⟩, mb⟩ := b
  obtain ⟨pa, ka, hka, ea⟩ : ∃ pp pq, ta.length ≤ pq ∧ sa = .slice pp ta.length pq := lies_slice ha
  obtain ⟨pb, kb, hkb, eb⟩ : ∃ pp pq, tb.length ≤ pq ∧ sb = .slice pp tb.length pq := lies_slice hb
  unfold Ln.val Ln.cells
  dsimp only at c1 hR ea eb ha hb hla hlb ⊢
  subst ea eb
  have B0 : Below w.heap.size w ((w.alloc (.cells #[.string la, .string va, .slice pa ta.length ka, .bool ma] 44 (0, 0))).alloc (.cells #[.string lb, .string vb, .slice pb tb.length kb, .bool mb] 44 (0, 0))) := ((Below.refl _ _).alloc (Nat.le_refl _) _).alloc (by simp) _
  have C1 := hid (c1 _ B0)
  have HV : Hid (((la.toList == lb.toList) && (va.toList == vb.toList) && (ta == tb) && (ma == mb)) = R) := hid (by rw [← hR, Lib.toList_data, Lib.toList_data, Lib.toList_data, Lib.toList_data])
  have HP := hid (@prefix_eq ta tb)
  have HQ := hid (@steps_ne ta tb)
  have H0 := hid B0
  clear c1 B0 hR ha hb
  generalize ta.isPrefixOf tb = P at *
  generalize (ta == tb) = Q at *
  generalize hA : ta.length = A at *
  generalize hB : tb.length = B at *
  clear hA hB
  cases h1 : (la.toList == lb.toList)
  · have HN : Hid (R = false) := hid (by rw [← HV.out, h1]; rfl)
    clear HV HP HQ
    go_enter Tryd.func54, Tryd.ntmps54
    go_wp2_with fail
    go_ret
    exact ⟨ret_bool HN.out.symm, H0.out⟩
  · cases h2 : (ma == mb)
    · have HN : Hid (R = false) := hid (by rw [← HV.out, h2, Bool.and_false])
      clear HV HP HQ
      go_enter Tryd.func54, Tryd.ntmps54
      go_wp2_with fail
      go_ret
      exact ⟨ret_bool HN.out.symm, H0.out⟩
    · cases h3 : (va.toList == vb.toList)
      · have HN : Hid (R = false) := hid (by rw [← HV.out, h3]; simp)
        clear HV HP HQ
        go_enter Tryd.func54, Tryd.ntmps54
        go_wp2_with fail
        go_ret
        exact ⟨ret_bool HN.out.symm, H0.out⟩
      · by_cases h4 : A = B
        · have HN : Hid (R = P) := hid (by rw [← HV.out, h1, h2, h3, HP.out h4]; simp)
          subst h4
          clear HV HP HQ
          go_enter Tryd.func54, Tryd.ntmps54
          go_wp2_with fail
          with_reducible refine C1.out.mono ?_
          rintro e W ⟨rfl, hb1⟩
          go_wp2_with fail
          go_ret
          exact ⟨ret_bool HN.out.symm, H0.out.trans (hb1.mono H0.out.size)⟩
        · have HN : Hid (R = false) := hid (by rw [← HV.out, HQ.out h4]; simp)
          clear HV HP HQ
          have h5 : ¬ (A : Int) = B := by omega
          go_enter Tryd.func54, Tryd.ntmps54
          go_wp2_with fail
          go_ret
          exact ⟨ret_bool HN.out.symm, H0.out⟩
end Go.Proofs.YtannfhbocfghkaaDoor.EnvC
/- The document's SameTy (lienbookref05). -/
namespace Go.Proofs.YtannfhbocfghkaaDoor.EnvC
open Go Go.RowKit Go.Lib Go.Sort Go.Proofs.YtannfhbocfghkaaDoor.EnvP

theorem alikes_len : ∀ {l m : List Ln}, alikes l m = true → l.length = m.length
  | [], [], _ => rfl
  | a :: l, b :: m, h => by rw [alikes, Bool.and_eq_true] at h; rw [List.length_cons, List.length_cons, alikes_len h.2]
  | [], _ :: _, h => by cases h
  | _ :: _, [], h => by cases h
theorem same_len : ∀ {l m : List ETy}, sameTs l m = true → l.length = m.length
  | [], [], _ => rfl
  | a :: l, b :: m, h => by rw [sameTs, Bool.and_eq_true] at h; rw [List.length_cons, List.length_cons, same_len h.2]
  | [], _ :: _, h => by cases h
  | _ :: _, [], h => by cases h
theorem alikes_ne {l m : List Ln} (h : ¬ l.length = m.length) : alikes l m = false := by
  cases e : alikes l m
  · rfl
  · exact absurd (alikes_len e) h
theorem same_ne {l m : List ETy} (h : ¬ l.length = m.length) : sameTs l m = false := by
  cases e : sameTs l m
  · rfl
  · exact absurd (same_len e) h
theorem rSameLoan_reg {w W : World} (y x : Ln) (hb : Below w.heap.size w W) (hy : y.pl.In w) (hx : x.pl.In w) (hly : y.pl.steps.length ≤ 1048576) (hlx : x.pl.steps.length ≤ 1048576) (d : Nat) (os : Array Obj) :
    Calls Tryd.prog 54 #[.agg y.cells.toArray, .agg x.cells.toArray] (grow (redrawn W d) os) fun e w'' => e = .returned (.bool (sameLn y x)) ∧ ∃ p : Regrown, w'' = grow (redrawn W p.d) p.os :=
  Calls.regrown_of (rSameLoan_any y x _ (hy.keep (regKeeps hb d os)) (hx.keep (regKeeps hb d os)) hly hlx)

set_option maxHeartbeats 8000000 in
set_option maxRecDepth 100000 in
theorem rSameT_any : ∀ (n : Nat) (t u : ETy) (w : World), wT t ≤ n → n ≤ 1048576 → wT u ≤ 1048576 → t.In w → u.In w →
    Calls Tryd.prog 31 #[t.val, u.val] w fun r w' => r = .returned (.bool (sameT t u)) ∧ Below w.heap.size w w' := by
  intro n
  induction n using Nat.strongRecOn with
  | ind n ih =>
    intro t u w hw hn hwu ht hu
    have hsm : Small t := by unfold Small; omega
    have hsl := hsm.loans
    have hsm2 : Small u := hwu
    have hsl2 := hsm2.loans
    obtain ⟨k, m, g, lv, ls, kv, kids⟩ := t
    obtain ⟨k2, m2, g2, lv2, ls2, kv2, kids2⟩ := u
    rw [ETy.In] at ht hu
    obtain ⟨pl, cl, hcl, rfl⟩ := lies_slice ht.1
    obtain ⟨pk, ck, hck, rfl⟩ := lies_slice ht.2.2.1
    obtain ⟨pl2, cl2, hcl2, rfl⟩ := lies_slice hu.1
    obtain ⟨pk2, ck2, hck2, rfl⟩ := lies_slice hu.2.2.1
    rw [wT] at hw hwu
    have hkl := kids_len kids
    have hLb : ls.length ≤ 1048576 := hsl.1
    have hNb : kids.length ≤ 1048576 := by omega
    clear hkl
    obtain ⟨R, hR⟩ : ∃ R, sameT (.mk k m g (.slice pl ls.length cl) ls (.slice pk kids.length ck) kids) (.mk k2 m2 g2 (.slice pl2 ls2.length cl2) ls2 (.slice pk2 kids2.length ck2) kids2) = R := ⟨_, rfl⟩
    rw [hR]
    rw [sameT] at hR
    have ihk := fun (x : ETy) (hx : x ∈ kids) (y : ETy) (hy : y ∈ kids2) (W : World) (hb : Below w.heap.size w W) => ih (wT x) (by have := mem_sum wT hx; rw [← wTs_sum] at this; omega) x y W (Nat.le_refl _) (by have := mem_sum wT hx; rw [← wTs_sum] at this; omega) (by have := mem_sum wT hy; rw [← wTs_sum] at this; omega) (ETy.In.keep (Keeps.of_below hb) x ((ETy.ins_iff w kids).1 ht.2.2.2 x hx)) (ETy.In.keep (Keeps.of_below hb) y ((ETy.ins_iff w kids2).1 hu.2.2.2 y hy))
    have ihl := fun (x : Ln) (hx : x ∈ ls) (y : Ln) (hy : y ∈ ls2) (W : World) (hb : Below w.heap.size w W) => rSameLoan_reg x y hb (ht.2.1 x hx) (hu.2.1 y hy) (hsl.2 x hx) (hsl2.2 y hy)
    change Calls _ _ #[.agg #[.int .i64 k, .bool m, .bool g, .slice pl ls.length cl, .slice pk kids.length ck], .agg #[.int .i64 k2, .bool m2, .bool g2, .slice pl2 ls2.length cl2, .slice pk2 kids2.length ck2]] _ _
    have HL0 := hid (@alikes_ne ls ls2)
    have HN0 := hid (@same_ne kids kids2)
    generalize hL : ls.length = L at *
    generalize hN : kids.length = N at *
    generalize hL2 : ls2.length = L2 at *
    generalize hN2 : kids2.length = N2 at *
    have bA : Below w.heap.size w ((w.alloc (.cells #[.int .i64 k, .bool m, .bool g, .slice pl L cl, .slice pk N ck] 31 (0, 0))).alloc (.cells #[.int .i64 k2, .bool m2, .bool g2, .slice pl2 L2 cl2, .slice pk2 N2 ck2] 31 (0, 0))) := ((Below.refl _ _).alloc (Nat.le_refl _) _).alloc (by simp) _
    have X1 : BoxAt ((w.alloc (.cells #[.int .i64 k, .bool m, .bool g, .slice pl L cl, .slice pk N ck] 31 (0, 0))).alloc (.cells #[.int .i64 k2, .bool m2, .bool g2, .slice pl2 L2 cl2, .slice pk2 N2 ck2] 31 (0, 0))) w.heap.size [.int .i64 k, .bool m, .bool g, .slice pl L cl, .slice pk N ck] := (BoxAt.new w _ _).later ((Below.refl _ _).alloc (Nat.le_refl _) _)
    have X2 : BoxAt ((w.alloc (.cells #[.int .i64 k, .bool m, .bool g, .slice pl L cl, .slice pk N ck] 31 (0, 0))).alloc (.cells #[.int .i64 k2, .bool m2, .bool g2, .slice pl2 L2 cl2, .slice pk2 N2 ck2] 31 (0, 0))) (w.heap.size + 1) [.int .i64 k2, .bool m2, .bool g2, .slice pl2 L2 cl2, .slice pk2 N2 ck2] := by
      have := BoxAt.new (w.alloc (.cells #[.int .i64 k, .bool m, .bool g, .slice pl L cl, .slice pk N ck] 31 (0, 0))) [.int .i64 k2, .bool m2, .bool g2, .slice pl2 L2 cl2, .slice pk2 N2 ck2] 31
      rwa [World.size_alloc] at this
    have HB0 := hid bA
    have HX := hid (And.intro X1 X2)
    have HT := hid ht
    have HU := hid hu
    have HIK := hid ihk
    have HIL := hid ihl
    have HL := hid (And.intro hL hN)
    have HL2 := hid (And.intro hL2 hN2)
    have HR := hid hR
    clear bA X1 X2 ht hu ihk ihl hL hN hL2 hN2 hR ih hw hwu hsm hsl hsm2 hsl2
    by_cases h1 : ¬ k = k2
    · have HN : Hid (R = false) := hid (by rw [← HR.out, beq_eq_false_iff_ne.2 h1]; rfl)
      clear HR HL0 HN0
      go_enter Tryd.func31, Tryd.ntmps31
      go_wp2_with fail
      go_ret
      exact ⟨ret_bool HN.out.symm, HB0.out⟩
    obtain rfl : k = k2 := Decidable.not_not.1 h1
    clear h1
    by_cases h2 : ¬ m = m2
    · have HN : Hid (R = false) := hid (by rw [← HR.out, beq_eq_false_iff_ne.2 h2]; simp)
      have h2' : (m != m2) = true := by simp [h2]
      clear HR HL0 HN0
      go_enter Tryd.func31, Tryd.ntmps31
      go_wp2_with fail
      go_ret
      exact ⟨ret_bool HN.out.symm, HB0.out⟩
    obtain rfl : m = m2 := Decidable.not_not.1 h2
    clear h2
    by_cases h3 : ¬ g = g2
    · have HN : Hid (R = false) := hid (by rw [← HR.out, beq_eq_false_iff_ne.2 h3]; simp)
      clear HR HL0 HN0
      go_enter Tryd.func31, Tryd.ntmps31
      go_wp2_with fail
      go_ret
      exact ⟨ret_bool HN.out.symm, HB0.out⟩
    obtain rfl : g = g2 := Decidable.not_not.1 h3
    clear h3
    by_cases h4 : ¬ L = L2
    · have HN : Hid (R = false) := hid (by rw [← HR.out, HL0.out h4]; simp)
      have h4' : ¬ (L : Int) = L2 := by omega
      clear HR HL0 HN0
      go_enter Tryd.func31, Tryd.ntmps31
      go_wp2_with fail
      go_ret
      exact ⟨ret_bool HN.out.symm, HB0.out⟩
    obtain rfl : L = L2 := Decidable.not_not.1 h4
    clear h4
    by_cases h5 : ¬ N = N2
    · have HN : Hid (R = false) := hid (by rw [← HR.out, HN0.out h5]; simp)
      have h5' : ¬ (N : Int) = N2 := by omega
      clear HR HL0 HN0
      go_enter Tryd.func31, Tryd.ntmps31
      go_wp2_with fail
      go_ret
      exact ⟨ret_bool HN.out.symm, HB0.out⟩
    obtain rfl : N = N2 := Decidable.not_not.1 h5
    clear h5
    replace HR : Hid ((alikes (ls.drop 0) (ls2.drop 0) && sameTs kids kids2) = R) := hid (by rw [← HR.out, List.drop_zero, List.drop_zero]; simp)
    clear HL0 HN0
    go_enter Tryd.func31, Tryd.ntmps31
    go_wp2_with fail
    generalize (World.alloc (World.alloc w _) _) = W1 at *
    go_loopg [5] L (fun gf u wx => ∃ i : Nat, u = .int .i64 (i : Int) ∧ i ≤ L ∧ L ≤ i + gf ∧ Hid ((alikes (ls.drop i) (ls2.drop i) && sameTs kids kids2) = R) ∧ Hid (Below W1.heap.size W1 wx))
    case atStart => exact ⟨0, rfl, by omega, by omega, HR, hid (Below.refl _ _)⟩
    case round =>
      obtain ⟨i, rfl, hi, hg, HI, HB⟩ := hrel
      clear HR
      have hbw := HB0.out.trans (HB.out.mono HB0.out.size)
      by_cases hlt : i < L
      · obtain ⟨x, hx⟩ : ∃ x, ls[i]? = some x := ⟨ls[i]'(by rw [HL.out.1]; exact hlt), List.getElem?_eq_getElem _⟩
        obtain ⟨y, hy⟩ : ∃ y, ls2[i]? = some y := ⟨ls2[i]'(by rw [HL2.out.1]; exact hlt), List.getElem?_eq_getElem _⟩
        obtain ⟨b, off, c0, e, _, hxx⟩ := Lies.at (HT.out.1.keep (Keeps.of_below hbw)) (i := i) (by rw [List.length_map, HL.out.1]; exact hlt)
        obtain ⟨b2, off2, c2, e', _, hyy⟩ := Lies.at (HU.out.1.keep (Keeps.of_below hbw)) (i := i) (by rw [List.length_map, HL2.out.1]; exact hlt)
        injection e with e1 e2 e3
        injection e' with e4 e5 e6
        subst e1 e4
        clear e2 e3 e5 e6
        have hxc := hxx i x.cells (by rw [List.getElem?_map, hx]; rfl)
        have hyc := hyy i y.cells (by rw [List.getElem?_map, hy]; rfl)
        have z3 := HX.out.1.later HB.out 3 (.slice (some ⟨b, off, none⟩) L cl) rfl
        have y3 := HX.out.2.later HB.out 3 (.slice (some ⟨b2, off2, none⟩) L cl2) rfl
        have k3 := cell_regrown z3
        have j3 := cell_regrown y3
        have CY := hid (HIL.out x (List.mem_of_getElem? hx) y (List.mem_of_getElem? hy) _ hbw)
        have KX := hid (reg_cells hxc)
        have KY := hid (reg_cells hyc)
        have ZX := hid (lnSize x)
        have ZY := hid (lnSize y)
        have hp := HI.out
        rw [drop_cons hx, drop_cons hy, alikes] at hp
        generalize sameLn x y = q at *
        generalize x.cells = xcs at *
        generalize y.cells = ycs at *
        have HP := hid hp
        have HBW2 := hid hbw
        have i1 : (i : Int) < (L : Int) := by omega
        have i0 : (0 : Int) ≤ (i : Int) := by omega
        clear hx hy hxx hyy hxc hyc hp HI hbw
        go_wp2_with fail
        refine wp_region_quiet_below (by kernel_rfl) (by kernel_rfl) ?_
        repeat (first | ((with_reducible refine wpQuiet_load_at (o := ⟨some 55, _, _, _, _, _⟩) rfl _ _ rfl b (off + i * 4) rfl xcs _ KX.out Tryd.underlying44 rfl ZX.out ?_); simp only [Act.put, List.setIfInBounds_toArray, List.set_cons_zero, List.set_cons_succ]) | ((with_reducible refine wpQuiet_load_at (o := ⟨some 60, _, _, _, _, _⟩) rfl _ _ rfl b2 (off2 + i * 4) rfl ycs _ KY.out Tryd.underlying44 rfl ZY.out ?_); simp only [Act.put, List.setIfInBounds_toArray, List.set_cons_zero, List.set_cons_succ]) | go_big_quiet_step (first | (with_reducible exact CY.out _ _)))
        refine wpQuiet_nil ?_
        intro _ hw'
        obtain ⟨⟨dq, osq⟩, hw''⟩ := hw'
        subst hw''
        have B3 := hid (HB.out.trans ((below_regrown wr dq osq).mono HB.out.size))
        have B4 := hid (HBW2.out.trans ((below_regrown wr dq osq).mono HBW2.out.size))
        clear HB CY KX KY HBW2 z3 y3 k3 j3
        cases q
        · have HN : Hid (R = false) := hid (by rw [← HP.out]; rfl)
          clear HP
          go_wp2_with fail
          go_ret
          exact ⟨ret_bool HN.out.symm, B4.out⟩
        · have HN : Hid ((alikes (ls.drop (i + 1)) (ls2.drop (i + 1)) && sameTs kids kids2) = R) := hid (by rw [← HP.out]; rfl)
          clear HP
          go_wp2_with fail
          go_roundg (gk - 1)
          case measure => omega
          case rel => exact ⟨i + 1, by go_num, by omega, by omega, HN, B3⟩
      · have HK : Hid (sameTs (kids.drop 0) (kids2.drop 0) = R) := hid (by have := HI.out; rw [List.drop_eq_nil_of_le (by rw [HL.out.1]; omega), List.drop_eq_nil_of_le (by rw [HL2.out.1]; omega)] at this; rw [List.drop_zero, List.drop_zero]; exact this)
        have z3 := HX.out.1.later HB.out 3 (.slice pl L cl) rfl
        clear HI HIL
        go_wp2_with fail
        have HBB := hid HB.out
        have HBW := hid hbw
        clear HB z3 hbw
        generalize hwq : wr = wq at *
        clear hwq
        go_loopg [6] N (fun gf u wx => ∃ j : Nat, u = .int .i64 (j : Int) ∧ j ≤ N ∧ N ≤ j + gf ∧ Hid (sameTs (kids.drop j) (kids2.drop j) = R) ∧ Hid (Below wq.heap.size wq wx))
        case atStart => exact ⟨0, rfl, by omega, by omega, HK, hid (Below.refl _ _)⟩
        case round =>
          obtain ⟨j, rfl, hj, hg2, HJ, HB⟩ := hrel
          clear HK
          have hbx := HBB.out.trans (HB.out.mono HBB.out.size)
          have hbw := HBW.out.trans (HB.out.mono HBW.out.size)
          by_cases hlt2 : j < N
          · obtain ⟨x, hx⟩ : ∃ x, kids[j]? = some x := ⟨kids[j]'(by rw [HL.out.2]; exact hlt2), List.getElem?_eq_getElem _⟩
            obtain ⟨y, hy⟩ : ∃ y, kids2[j]? = some y := ⟨kids2[j]'(by rw [HL2.out.2]; exact hlt2), List.getElem?_eq_getElem _⟩
            obtain ⟨b, off, c0, e, _, hxx⟩ := Lies.at (HT.out.2.2.1.keep (Keeps.of_below hbw)) (i := j) (by rw [List.length_map, HL.out.2]; exact hlt2)
            obtain ⟨b2, off2, c2, e', _, hyy⟩ := Lies.at (HU.out.2.2.1.keep (Keeps.of_below hbw)) (i := j) (by rw [List.length_map, HL2.out.2]; exact hlt2)
            injection e with e1 e2 e3
            injection e' with e4 e5 e6
            subst e1 e4
            clear e2 e3 e5 e6
            have hxc := hxx j x.cells (by rw [List.getElem?_map, hx]; rfl)
            have hyc := hyy j y.cells (by rw [List.getElem?_map, hy]; rfl)
            have z4 := HX.out.1.later hbx 4 (.slice (some ⟨b, off, none⟩) N ck) rfl
            have y4 := HX.out.2.later hbx 4 (.slice (some ⟨b2, off2, none⟩) N ck2) rfl
            have k4 := cell_regrown z4
            have j4 := cell_regrown y4
            have CY := hid (fun (d : Nat) (os : Array Obj) => Calls.regrown_of (HIK.out x (List.mem_of_getElem? hx) y (List.mem_of_getElem? hy) (grow (redrawn wr d) os) (hbw.trans ((below_regrown wr d os).mono hbw.size))))
            change Hid (∀ d os, Calls _ _ #[.agg x.cells.toArray, .agg y.cells.toArray] _ _) at CY
            have KX := hid (reg_cells hxc)
            have KY := hid (reg_cells hyc)
            have ZX := hid (tySize x)
            have ZY := hid (tySize y)
            have hp := HJ.out
            rw [drop_cons hx, drop_cons hy, sameTs] at hp
            generalize sameT x y = q at *
            generalize x.cells = xcs at *
            generalize y.cells = ycs at *
            have HP := hid hp
            have HBW2 := hid hbw
            have i1 : (j : Int) < (N : Int) := by omega
            have i0 : (0 : Int) ≤ (j : Int) := by omega
            clear hx hy hxx hyy hxc hyc hp HJ hbx hbw
            go_wp2_with fail
            refine wp_region_quiet_below (by kernel_rfl) (by kernel_rfl) ?_
            repeat (first | ((with_reducible refine wpQuiet_load_at (o := ⟨some 74, _, _, _, _, _⟩) rfl _ _ rfl b (off + j * 5) rfl xcs _ KX.out Tryd.underlying31 rfl ZX.out ?_); simp only [Act.put, List.setIfInBounds_toArray, List.set_cons_zero, List.set_cons_succ]) | ((with_reducible refine wpQuiet_load_at (o := ⟨some 79, _, _, _, _, _⟩) rfl _ _ rfl b2 (off2 + j * 5) rfl ycs _ KY.out Tryd.underlying31 rfl ZY.out ?_); simp only [Act.put, List.setIfInBounds_toArray, List.set_cons_zero, List.set_cons_succ]) | go_big_quiet_step (first | (with_reducible exact CY.out _ _)))
            refine wpQuiet_nil ?_
            intro _ hw'
            obtain ⟨⟨dq, osq⟩, hw''⟩ := hw'
            subst hw''
            have B3 := hid (HB.out.trans ((below_regrown wr dq osq).mono HB.out.size))
            have B4 := hid (HBW2.out.trans ((below_regrown wr dq osq).mono HBW2.out.size))
            clear HB CY KX KY HBW2 z4 y4 k4 j4
            cases q
            · have HN : Hid (R = false) := hid (by rw [← HP.out]; rfl)
              clear HP
              go_wp2_with fail
              go_ret
              exact ⟨ret_bool HN.out.symm, B4.out⟩
            · have HN : Hid (sameTs (kids.drop (j + 1)) (kids2.drop (j + 1)) = R) := hid (by rw [← HP.out]; rfl)
              clear HP
              go_wp2_with fail
              go_roundg (gk - 1)
              case measure => omega
              case rel => exact ⟨j + 1, by go_num, by omega, by omega, HN, B3⟩
          · have HN : Hid (R = true) := hid (by rw [← HJ.out, List.drop_eq_nil_of_le (by rw [HL.out.2]; omega), List.drop_eq_nil_of_le (by rw [HL2.out.2]; omega)]; rfl)
            have z4 := HX.out.1.later hbx 4 (.slice pk N ck) rfl
            have HBW2 := hid hbw
            clear HJ hbx hbw
            go_wp2_with fail
            go_ret
            exact ⟨ret_bool HN.out.symm, HBW2.out⟩
end Go.Proofs.YtannfhbocfghkaaDoor.EnvC
/- The document's Has (lienbookref05). -/
namespace Go.Proofs.YtannfhbocfghkaaDoor.EnvC
open Go Go.RowKit Go.Lib Go.Sort Go.Proofs.YtannfhbocfghkaaDoor.EnvP

set_option maxHeartbeats 8000000 in
set_option maxRecDepth 100000 in
theorem rHas_any (l : List Ln) (x : Ln) (v : Value) (w : World) (h : Lies w 4 v (l.map Ln.cells)) (hl : LnsIn w l) (hx : x.pl.In w) (hsx : x.pl.steps.length ≤ 1048576) (hlen : l.length ≤ 2097152) :
    Calls Tryd.prog 45 #[v, x.val] w fun r w' => r = .returned (.bool (has l x)) ∧ Below w.heap.size w w' := by
  obtain ⟨p, cap, hcap, rfl⟩ := lies_slice h
  obtain ⟨R, hR⟩ : ∃ R, has l x = R := ⟨_, rfl⟩
  rw [hR]
  have hc := fun (y : Ln) (hy : y ∈ l) (W : World) (hb : Below w.heap.size w W) => rSameLoan_reg y x hb (hl y hy).1 hx (hl y hy).2 hsx
  have HR : Hid ((l.drop 0).any (fun y => sameLn y x) = R) := hid (by rw [List.drop_zero]; exact hR)
  have HC := hid hc
  clear hc hR
  obtain ⟨xp, xq, _, ex⟩ : ∃ pp pq, x.pl.steps.length ≤ pq ∧ x.pl.sv = .slice pp x.pl.steps.length pq := lies_slice hx
  obtain ⟨xl, ⟨xv, xs, xt⟩, xm⟩ := x
  dsimp only at ex hsx
  subst ex
  change Calls _ _ #[.slice p l.length cap, .agg #[.string xl, .string xv, .slice xp xt.length xq, .bool xm]] _ _
  change Hid (∀ y : Ln, y ∈ l → ∀ W, Below w.heap.size w W → ∀ d os, Calls _ _ #[.agg y.cells.toArray, .agg #[.string xl, .string xv, .slice xp xt.length xq, .bool xm]] _ _) at HC
  generalize hN : l.length = N at *
  have X1 := BoxAt.new w [.string xl, .string xv, .slice xp xt.length xq, .bool xm] 44
  have bA : Below w.heap.size w (w.alloc (.cells #[.string xl, .string xv, .slice xp xt.length xq, .bool xm] 44 (0, 0))) := (Below.refl _ _).alloc (Nat.le_refl _) _
  change BoxAt (w.alloc (.cells #[.string xl, .string xv, .slice xp xt.length xq, .bool xm] 44 (0, 0))) _ _ at X1
  have HB0 := hid bA
  have HX := hid X1
  have HT := hid h
  have HL := hid hN
  clear bA X1 h hl hx hN
  go_enter Tryd.func45, Tryd.ntmps45
  go_wp2_with fail
  generalize World.alloc w _ = W1 at *
  go_loopg [5] N (fun gf u wx => ∃ i : Nat, u = .int .i64 (i : Int) ∧ i ≤ N ∧ N ≤ i + gf ∧ Hid ((l.drop i).any (fun y => sameLn y ⟨xl, ⟨xv, .slice xp xt.length xq, xt⟩, xm⟩) = R) ∧ Hid (Below W1.heap.size W1 wx))
  case atStart => exact ⟨0, rfl, by omega, by omega, HR, hid (Below.refl _ _)⟩
  case round =>
    obtain ⟨i, rfl, hi, hg, HI, HB⟩ := hrel
    clear HR
    have hbw := HB0.out.trans (HB.out.mono HB0.out.size)
    by_cases hlt : i < N
    · obtain ⟨y, hy⟩ : ∃ y, l[i]? = some y := ⟨l[i]'(by rw [HL.out]; exact hlt), List.getElem?_eq_getElem _⟩
      obtain ⟨b, off, c0, e, _, hyy⟩ := Lies.at (HT.out.keep (Keeps.of_below hbw)) (i := i) (by rw [List.length_map, HL.out]; exact hlt)
      injection e with e1 e2 e3
      subst e1
      clear e2 e3
      have hyc := hyy i y.cells (by rw [List.getElem?_map, hy]; rfl)
      have CY := hid (HC.out y (List.mem_of_getElem? hy) wr hbw)
      have KY := hid (reg_cells hyc)
      have ZY := hid (lnSize y)
      have k0 := cell_regrown (HX.out.later HB.out 0 _ rfl)
      have k1 := cell_regrown (HX.out.later HB.out 1 _ rfl)
      have k2 := cell_regrown (HX.out.later HB.out 2 _ rfl)
      have k3 := cell_regrown (HX.out.later HB.out 3 _ rfl)
      have hp := HI.out
      rw [drop_cons hy, List.any_cons] at hp
      generalize sameLn y _ = q at *
      generalize y.cells = ycs at *
      have HP := hid hp
      have HBW2 := hid hbw
      have i1 : (i : Int) < (N : Int) := by omega
      have i0 : (0 : Int) ≤ (i : Int) := by omega
      clear hy hyy hyc hp HI hbw
      go_wp2_with fail
      refine wp_region_quiet_below (by kernel_rfl) (by kernel_rfl) ?_
      repeat (first | ((with_reducible refine wpQuiet_load_at (o := ⟨some 15, _, _, _, _, _⟩) rfl _ _ rfl b (off + i * 4) rfl ycs _ KY.out Tryd.underlying44 rfl ZY.out ?_); simp only [Act.put, List.setIfInBounds_toArray, List.set_cons_zero, List.set_cons_succ]) | go_big_quiet_step (first | (with_reducible exact CY.out _ _)))
      refine wpQuiet_nil ?_
      intro _ hw'
      obtain ⟨⟨dq, osq⟩, hw''⟩ := hw'
      subst hw''
      have B3 := hid (HB.out.trans ((below_regrown wr dq osq).mono HB.out.size))
      have B4 := hid (HBW2.out.trans ((below_regrown wr dq osq).mono HBW2.out.size))
      clear HB CY KY HBW2 k0 k1 k2 k3
      cases q
      · have HN : Hid ((l.drop (i + 1)).any (fun y => sameLn y ⟨xl, ⟨xv, .slice xp xt.length xq, xt⟩, xm⟩) = R) := hid (by rw [← HP.out]; rfl)
        clear HP
        go_wp2_with fail
        go_roundg (gk - 1)
        case measure => omega
        case rel => exact ⟨i + 1, by go_num, by omega, by omega, HN, B3⟩
      · have HN : Hid (R = true) := hid (by rw [← HP.out]; rfl)
        clear HP
        go_wp2_with fail
        go_ret
        exact ⟨ret_bool HN.out.symm, B4.out⟩
    · have HN : Hid (R = false) := hid (by rw [← HI.out, List.drop_eq_nil_of_le (by rw [HL.out]; omega)]; rfl)
      have HBW2 := hid hbw
      clear HI hbw
      go_wp2_with fail
      go_ret
      exact ⟨ret_bool HN.out.symm, HBW2.out⟩
end Go.Proofs.YtannfhbocfghkaaDoor.EnvC
/- Loans added one by one to some that rise: as the document joins them; alike to the merged ones. No program. -/
namespace Go.Proofs.YtannfhbocfghkaaDoor.EnvC
open Go Go.RowKit Go.Lib Go.Sort Go.Proofs.YtannfhbocfghkaaDoor.EnvP

def insL : List Ln → Ln → List Ln
  | [], x => [x]
  | y :: l, x => if before y x then y :: insL l x else x :: y :: l
def addL (l : List Ln) (x : Ln) : List Ln := if has l x then l else insL l x
/-- how many are before it -/
def atL : List Ln → Ln → Nat
  | [], _ => 0
  | y :: l, x => if before y x then atL l x + 1 else 0
theorem insL_at : ∀ (l : List Ln) (x : Ln), insL l x = l.take (atL l x) ++ x :: l.drop (atL l x)
  | [], x => rfl
  | y :: l, x => by
    rw [insL, atL]
    split
    · rw [insL_at l x, List.take_succ_cons, List.drop_succ_cons]; rfl
    · rfl
theorem atL_le : ∀ (l : List Ln) (x : Ln), atL l x ≤ l.length
  | [], _ => Nat.le_refl _
  | y :: l, x => by
    rw [atL, List.length_cons]
    have := atL_le l x
    split <;> omega
theorem at_lt : ∀ {l : List Ln} {x : Ln} {i : Nat} {y : Ln}, i < atL l x → l[i]? = some y → before y x = true
  | [], x, i, y, h, _ => by simp [atL] at h
  | z :: l, x, i, y, h, e => by
    rw [atL] at h
    split at h
    · rename_i hz
      cases i with
      | zero => simp at e; subst e; exact hz
      | succ i => exact at_lt (l := l) (i := i) (by omega) (by simpa using e)
    · omega
theorem at_eq : ∀ {l : List Ln} {x : Ln} {y : Ln}, l[atL l x]? = some y → before y x = false
  | [], x, y, e => by simp [atL] at e
  | z :: l, x, y, e => by
    rw [atL] at e
    split at e
    · exact at_eq (by simpa using e)
    · rename_i hz
      simp at e
      subst e
      simpa using hz
theorem before_anti {a b : Ln} (h : before a b = true) : before b a = false := by
  unfold before at *
  simp only [beq_iff_eq] at h
  rw [good_cmpLn.anti a b, h]; rfl
theorem before_irr {a b : Ln} (h : before a b = true) : sameLn a b = false := by
  cases e : sameLn a b
  · rfl
  · rw [same_zero] at e
    unfold before at h
    rw [e] at h; cases h
theorem before_right {a b c : Ln} (h : before a b = true) (k : sameLn b c = true) : before a c = true := by
  rw [same_zero] at k
  have h1 := good_cmpLn.congr b c a k
  have h2 := good_cmpLn.anti a b
  have h3 := good_cmpLn.anti a c
  unfold before at *
  simp only [beq_iff_eq] at *
  omega
theorem all_before : ∀ {l : List Ln} {a y : Ln}, rising (a :: l) = true → y ∈ l → before a y = true
  | z :: l, a, y, h, hy => by
    obtain ⟨h1, h2⟩ := (rising_cons a (z :: l)).1 h
    rcases List.mem_cons.1 hy with rfl | hy
    · exact h1
    · exact before_trans h1 (all_before h2 hy)
theorem has_before {l : List Ln} {a x : Ln} (h : rising (a :: l) = true) (k : has l x = true) : before a x = true := by
  unfold has at k
  obtain ⟨y, hy, hs⟩ := List.any_eq_true.1 k
  exact before_right (all_before h hy) hs
/-- two that rise and have the same are alike -/
theorem alikes_of_has : ∀ l m : List Ln, rising l = true → rising m = true → (∀ x, has l x = has m x) → alikes l m = true
  | [], [], _, _, _ => rfl
  | a :: l, [], _, _, h => by have := h a; rw [has_cons, sameLn_refl, has_nil] at this; cases this
  | [], b :: m, _, _, h => by have := h b; rw [has_cons, sameLn_refl, has_nil] at this; cases this
  | a :: l, b :: m, h1, h2, h => by
    have hab : sameLn a b = true := by
      have e1 := h a
      have e2 := h b
      rw [has_cons, sameLn_refl, Bool.true_or, has_cons] at e1
      rw [has_cons, has_cons, sameLn_refl, Bool.true_or] at e2
      cases e : sameLn a b
      · have e' : sameLn b a = false := by
          cases e' : sameLn b a
          · rfl
          · rw [sameLn_symm e'] at e; cases e
        rw [e', Bool.false_or] at e1
        rw [e, Bool.false_or] at e2
        have k1 := has_before h2 e1.symm
        have k2 := has_before h1 e2
        rw [before_anti k1] at k2; cases k2
      · rfl
    rw [alikes, hab, Bool.true_and]
    refine alikes_of_has l m ((rising_cons a l).1 h1).2 ((rising_cons b m).1 h2).2 fun x => ?_
    have hx := h x
    rw [has_cons, has_cons, ← same_of_zero (same_zero.1 hab) x] at hx
    cases e : sameLn a x
    · rw [e, Bool.false_or, Bool.false_or] at hx; exact hx
    · have n1 : has l x = false := by
        cases e1 : has l x
        · rfl
        · have := before_irr (has_before h1 e1); rw [e] at this; cases this
      have n2 : has m x = false := by
        cases e1 : has m x
        · rfl
        · have k := before_irr (has_before h2 e1)
          rw [← same_of_zero (same_zero.1 hab) x, e] at k; cases k
      rw [n1, n2]
theorem has_ins (y : Ln) : ∀ (l : List Ln) (x : Ln), has (insL l x) y = (has l y || sameLn x y)
  | [], x => by rw [insL, has_cons, has_nil, Bool.or_false, Bool.false_or]
  | z :: l, x => by
    rw [insL]
    split
    · rw [has_cons, has_ins y l x, has_cons, Bool.or_assoc]
    · rw [has_cons, has_cons, Bool.or_comm]
theorem has_add (y : Ln) (l : List Ln) (x : Ln) : has (addL l x) y = (has l y || sameLn x y) := by
  unfold addL
  split
  · rename_i h
    cases e : sameLn x y
    · rw [Bool.or_false]
    · rw [← has_alike e, h]; rfl
  · exact has_ins y l x
theorem rising_ins : ∀ (l : List Ln) (x : Ln), rising l = true → has l x = false → rising (insL l x) = true
  | [], x, _, _ => rfl
  | z :: l, x, h1, h2 => by
    obtain ⟨k1, k2⟩ := (rising_cons z l).1 h1
    rw [has_cons, Bool.or_eq_false_iff] at h2
    rw [insL]
    by_cases hz : before z x = true
    · rw [if_pos hz, rising_cons]
      refine ⟨?_, rising_ins l x k2 h2.2⟩
      cases l with
      | nil => exact hz
      | cons y r =>
        rw [insL]
        split
        · exact k1
        · exact hz
    · rw [if_neg hz, rising_cons]
      refine ⟨?_, h1⟩
      show before x z = true
      have h3 := h2.1
      have h4 := good_cmpLn.rng z x
      have h5 := good_cmpLn.anti z x
      unfold before at *
      simp only [beq_iff_eq] at *
      rcases h4 with h4 | h4 | h4
      · exact absurd h4 hz
      · rw [same_zero.2 h4] at h3; cases h3
      · omega
theorem rising_add {l : List Ln} (h : rising l = true) (x : Ln) : rising (addL l x) = true := by
  unfold addL
  split
  · exact h
  · rename_i hn
    exact rising_ins l x h (by simpa using hn)
theorem has_fold (y : Ln) : ∀ m l : List Ln, has (m.foldl addL l) y = (has l y || has m y)
  | [], l => by rw [List.foldl_nil, has_nil, Bool.or_false]
  | x :: m, l => by rw [List.foldl_cons, has_fold y m (addL l x), has_add, has_cons, Bool.or_assoc]
theorem rising_fold : ∀ m l : List Ln, rising l = true → rising (m.foldl addL l) = true
  | [], l, h => h
  | x :: m, l, h => by rw [List.foldl_cons]; exact rising_fold m _ (rising_add h x)
theorem alikes_fold {l m : List Ln} (hl : rising l = true) (hm : rising m = true) : alikes (m.foldl addL (l.foldl addL [])) (mergeL l m) = true :=
  alikes_of_has _ _ (rising_fold m _ (rising_fold l [] rfl)) (rising_merge l m hl hm) fun x => by rw [has_fold, has_fold, has_nil, Bool.false_or, has_merge]
theorem mem_add {l : List Ln} {x y : Ln} (h : y ∈ addL l x) : y ∈ l ∨ y = x := by
  unfold addL at h
  split at h
  · exact .inl h
  · rw [insL_at] at h
    rcases List.mem_append.1 h with h | h
    · exact .inl (List.mem_of_mem_take h)
    · rcases List.mem_cons.1 h with h | h
      · exact .inr h
      · exact .inl (List.mem_of_mem_drop h)
theorem len_ins : ∀ (l : List Ln) (x : Ln), (insL l x).length = l.length + 1
  | [], _ => rfl
  | y :: l, x => by
    rw [insL]
    split
    · rw [List.length_cons, len_ins l x, List.length_cons]
    · rfl
theorem len_add (l : List Ln) (x : Ln) : (addL l x).length ≤ l.length + 1 := by
  unfold addL
  split
  · omega
  · rw [len_ins]; exact Nat.le_refl _
end Go.Proofs.YtannfhbocfghkaaDoor.EnvC

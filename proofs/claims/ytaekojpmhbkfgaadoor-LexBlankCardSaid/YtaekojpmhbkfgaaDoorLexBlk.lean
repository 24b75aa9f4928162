/- The contract of the statement LexBlank: it returns true, whatever the text. -/
import Derived.Test.YtaekojpmhbkfgaaDoorLexTok
import Derived.Test.YtaekojpmhbkfgaaDoorLexBuild
import Derived.Test.YtaekojpmhbkfgaaDoorLexPar
namespace Go.Proofs.YtaekojpmhbkfgaaDoor.LexC
open Go Go.RowKit Go.Lib Go.Proofs.YtaekojpmhbkfgaaDoor.LexP Go.Proofs.YtaekojpmhbkfgaaDoor.ErrAs

set_option maxHeartbeats 4000000 in
set_option maxRecDepth 100000 in
theorem blank_bad (s : ByteArray) (w : World) (hs : s.size ≤ 400) (L : Lists w) (p : Nat) (hp : lexA s.data.toList = .inl p) :
    Calls Tryd.prog 4 #[.string s] w fun e w' => e = .returned (.bool true) ∧ Below w.heap.size w w' := by
  have C0 := hid (awake_any w L)
  have HL := hid L
  have C1 := hid (fun W (h : Lists W) => lex_any s W (by omega) h.tabs)
  rw [hp] at C1
  clear L hp
  go_enter Tryd.func4, Tryd.ntmps4
  go_wp2_with fail
  refine C0.out.mono ?_
  rintro e W1 ⟨rfl, hb1⟩
  go_wp2_with fail
  refine (C1.out _ (HL.out.below hb1)).mono ?_
  rintro e W2 ⟨hb2, b2, hbb, rfl, hcell⟩
  have B2 := hb1.trans (hb2.mono hb1.size)
  clear hb1 hb2 hcell hbb
  go_wp2_with fail
  go_ret
  exact ⟨rfl, B2⟩

theorem drop_cons_tok {l : List Tok} {n : Nat} {c : Tok} (h : l[n]? = some c) : l.drop n = c :: l.drop (n + 1) := by
  have hlt : n < l.length := (List.getElem?_eq_some_iff.1 h).1
  rw [List.drop_eq_getElem_cons hlt, (List.getElem?_eq_some_iff.1 h).2]
theorem lx_sorted {p : Nat} {l : List UInt8} {ts : List Tok} (h : Lx p l ts) : ∀ (i : Nat) (t : Tok), ts[i]? = some t → ∀ u ∈ ts.drop (i + 1), t.at_ ≤ u.at_ := by
  induction h with
  | done p => intro i t ht; simp at ht
  | blank p c r ts hb _ ih => exact ih
  | remark p l ts hr _ ih => exact ih
  | token p c r ts hb hr hz hr' ih =>
    intro i t ht u hu
    cases i with
    | zero =>
      simp at ht
      subst ht
      have := (lx_ge hr' u (by simpa using hu)).1
      show p ≤ u.at_
      omega
    | succ i => exact ih i t (by simpa using ht) u (by simpa using hu)
def sepB (i : Nat) : ByteArray := if i % 4 = 0 then ⟨#[32]⟩ else if i % 4 = 1 then ⟨#[10]⟩ else if i % 4 = 2 then ⟨#[9]⟩ else ⟨#[32, 47, 47, 120, 10]⟩
theorem sepB_list (i : Nat) : (sepB i).data.toList = sep i := by
  unfold sepB sep
  repeat (first | split | rfl)
theorem sepB_size (i : Nat) : (sepB i).size ≤ 5 := by
  rw [Lib.size_eq, sepB_list]; exact sep_length i
/-- what has been made of the text, and what is to come -/
def Made (s : List UInt8) (ts : List Tok) (i p : Nat) (T : ByteArray) : Prop :=
  T.data.toList ++ build s i p (ts.drop i) = build s 0 0 ts ∧ (∀ t ∈ ts.drop i, p ≤ t.at_) ∧ T.size ≤ p + 5 * i
theorem made_start (s : List UInt8) (ts : List Tok) : Made s ts 0 0 ⟨#[]⟩ := ⟨by simp, fun _ _ => Nat.zero_le _, by decide⟩
theorem made_step {s : ByteArray} {ts : List Tok} {i p : Nat} {T : ByteArray} {t : Tok} (h : Made s.data.toList ts i p T) (hx : Lx 0 s.data.toList ts) (ht : ts[i]? = some t) : p ≤ t.at_ ∧ t.at_ ≤ s.size ∧ Made s.data.toList ts (i + 1) t.at_ (T ++ s.extract p t.at_ ++ sepB i) := by
  obtain ⟨h1, h2, h3⟩ := h
  have hd := drop_cons_tok ht
  have hp : p ≤ t.at_ := h2 t (by rw [hd]; simp)
  have hs : t.at_ ≤ s.size := by rw [Lib.size_eq]; exact lx_ge' hx t (List.mem_of_getElem? ht)
  refine ⟨hp, hs, ?_, lx_sorted hx i t ht, ?_⟩
  · rw [hd] at h1
    simp only [build] at h1
    rw [← h1, ByteArray.data_append, ByteArray.data_append, Array.toList_append, Array.toList_append, Lib.extract_data, sepB_list]
    simp
  · have := sepB_size i
    rw [ByteArray.size_append, ByteArray.size_append, ByteArray.size_extract]
    omega
theorem made_end {s : ByteArray} {ts : List Tok} {p : Nat} {T : ByteArray} (h : Made s.data.toList ts ts.length p T) : (T ++ s.extract p s.size ++ ⟨#[10, 47, 47]⟩).data.toList = build s.data.toList 0 0 ts := by
  obtain ⟨h1, _, _⟩ := h
  rw [List.drop_length] at h1
  simp only [build] at h1
  rw [← h1, ByteArray.data_append, ByteArray.data_append, Array.toList_append, Array.toList_append, tail_list]
  simp
theorem blank_lexes {l : List UInt8} {ts : List Tok} (h : lexA l = .inr ts) : ∃ us, lexA (build l 0 0 ts) = .inr us ∧ Like ts us ∧ (build l 0 0 ts).length ≤ l.length + 5 * ts.length + 3 := by
  obtain ⟨us, h1, h2⟩ := lx_build l (lx_of_lexA h) (by simp) 0 0 (Nat.le_refl _)
  exact ⟨us, lexA_of_lx h1, h2, build_length l (lx_of_lexA h) (by simp) 0⟩

set_option maxHeartbeats 4000000 in
set_option maxRecDepth 100000 in
theorem blank_good (s : ByteArray) (w : World) (hs : s.size ≤ 400) (L : Lists w) (ts : List Tok) (hts : lexA s.data.toList = .inr ts) :
    Calls Tryd.prog 4 #[.string s] w fun e w' => e = .returned (.bool true) ∧ Below w.heap.size w w' := by
  have C0 := hid (awake_any w L)
  have HL := hid L
  have C1 := hid (fun W (h : Lists W) => lex_any s W (by omega) h.tabs)
  rw [hts] at C1
  have hl1 : ts.length ≤ 400 := by have := lexA_length hts; rw [← Lib.size_eq] at this; omega
  have hx2 := lx_of_lexA hts
  obtain ⟨us, hu1, hu2, hu3⟩ := blank_lexes hts
  have HU := hid hu1
  have HK := hid hu2
  have HB : Hid ((build s.data.toList 0 0 ts).length ≤ 2403) := hid (by rw [← Lib.size_eq] at hu3; omega)
  clear L hts hu1 hu2 hu3
  go_enter Tryd.func4, Tryd.ntmps4
  go_wp2_with fail
  refine C0.out.mono ?_
  rintro e W1 ⟨rfl, hb1⟩
  go_wp2_with fail
  refine (C1.out _ (HL.out.below hb1)).mono ?_
  rintro e W2 ⟨hb2, x, rfl, hx⟩
  have B2 := hb1.trans (hb2.mono hb1.size)
  rcases hx.2 with ⟨rfl, h0⟩ | ⟨g, cap, cur, rfl, hg, hh, hrest⟩
  · have e0 : ts = [] := List.eq_nil_of_length_eq_zero h0
    subst e0
    have hm := made_end (made_start s.data.toList [])
    rw [show s.extract 0 s.size = s by simp] at hm
    have hsz : ((⟨#[]⟩ : ByteArray) ++ s ++ ⟨#[10, 47, 47]⟩).size ≤ 20000 := by
      rw [Lib.size_eq, hm]
      have := HB.out
      omega
    have m1 : ¬ 9223372036854775807 < s.size := by omega
    have m2 : ¬ 9223372036854775807 < s.size + 3 := by omega
    have c2 := lex_any ((⟨#[]⟩ : ByteArray) ++ s ++ ⟨#[10, 47, 47]⟩) W2 hsz (HL.out.below B2).tabs
    rw [hm, HU.out] at c2
    have C2 := hid c2
    clear c2 hsz hm hx hb1 hb2 C0 C1 hx2 h0
    go_wp2_with fail
    refine wp_loop_rounds 1 ?_
    rw [rounds_succ]
    go_wp2_with fail
    refine C2.out.mono ?_
    rintro e W4 ⟨hb4, k, rfl, hk⟩
    have B4 := B2.trans (hb4.mono B2.size)
    have hlen : us.length = 0 := HK.out.length
    rcases reads_of hk with ⟨rfl, h0⟩ | ⟨g2, cap2, rfl, hcap2, hkc⟩
    · clear hk hb4 B2 C2
      go_wp2_with fail
      refine wp_loop_rounds 1 ?_
      rw [rounds_succ]
      go_wp2_with fail
      go_ret
      exact ⟨rfl, B4⟩
    · rw [hlen] at hcap2 ⊢
      clear hk hb4 B2 C2 hkc hcap2
      go_wp2_with fail
      refine wp_loop_rounds 1 ?_
      rw [rounds_succ]
      go_wp2_with fail
      go_ret
      exact ⟨rfl, B4⟩
  · have HX := hid hx
    have HXR := hid (reads_of hx)
    have HXY := hid hx2
    clear hb1 hb2 hx hh hrest C0 C1 hx2
    go_wp2_with fail
    go_loopg [5, 6, 7] ts.length (fun gf t v u wx => ∃ (i p : Nat) (T : ByteArray), t = .string T ∧ v = .int .i64 (p : Int) ∧ u = .int .i64 (i : Int) ∧ i ≤ ts.length ∧ ts.length ≤ i + gf ∧ p ≤ s.size ∧ T.size ≤ p + 5 * i ∧ Hid (Made s.data.toList ts i p T) ∧ Below W2.heap.size W2 wx)
    case atStart => exact ⟨0, 0, ⟨#[]⟩, rfl, rfl, rfl, by omega, by omega, by omega, by decide, hid (made_start _ _), Below.refl _ _⟩
    case round =>
      obtain ⟨i, p, T, rfl, rfl, rfl, hi, hg', hps, hT, HM, hb⟩ := hrel
      by_cases hlt : i < ts.length
      · obtain ⟨t, ht⟩ : ∃ t, ts[i]? = some t := ⟨ts[i]'hlt, List.getElem?_eq_getElem _⟩
        obtain ⟨hpt, hts, hmade⟩ := made_step HM.out HXY.out ht
        have hT2 := hmade.2.2
        obtain ⟨_, k1, _⟩ := rowOf_get ts i t ht
        have hc2 : W2.cell? ⟨g, i * 3 + 1, none⟩ = some (.int .i64 (t.at_ : Int)) := (HX.out.cellAt _ (by omega)).trans k1
        have hc : wr.cell? ⟨g, i * 3 + 1, none⟩ = some (.int .i64 (t.at_ : Int)) := (hb.cell (p := ⟨g, i * 3 + 1, none⟩) (World.block_lt_of_cell? _ _ hc2)).trans hc2
        have hco : ∀ o, (wr.alloc o).cell? ⟨g, i * 3 + 1, none⟩ = some (.int .i64 (t.at_ : Int)) := fun o => by rw [World.cell?_alloc_lt _ _ ⟨g, i * 3 + 1, none⟩ (World.block_lt_of_cell? _ _ hc)]; exact hc
        have n1 : ¬ 9223372036854775807 < T.size + (t.at_ - p) := by omega
        have n2 : ¬ 9223372036854775807 < T.size + (t.at_ - p) + 1 := by omega
        have n3 : ¬ 9223372036854775807 < T.size + (t.at_ - p) + 5 := by omega
        have HMade := hid hmade
        have hm : ((i : Int) % 4 = 0 ∧ Hid (sepB i = ⟨#[32]⟩)) ∨ ((i : Int) % 4 = 1 ∧ Hid (sepB i = ⟨#[10]⟩)) ∨ ((i : Int) % 4 = 2 ∧ Hid (sepB i = ⟨#[9]⟩)) ∨ ((i : Int) % 4 = 3 ∧ Hid (sepB i = ⟨#[32, 47, 47, 120, 10]⟩)) := by
          have h4 : i % 4 = 0 ∨ i % 4 = 1 ∨ i % 4 = 2 ∨ i % 4 = 3 := by omega
          rcases h4 with h | h | h | h
          · exact .inl ⟨by omega, hid (by simp [sepB, h])⟩
          · exact .inr (.inl ⟨by omega, hid (by simp [sepB, h])⟩)
          · exact .inr (.inr (.inl ⟨by omega, hid (by simp [sepB, h])⟩))
          · exact .inr (.inr (.inr ⟨by omega, hid (by simp [sepB, h])⟩))
        clear hc2 ht HX HXR HL hmade k1 HM HXY
        rcases hm with ⟨hm, HS⟩ | ⟨hm, HS⟩ | ⟨hm, HS⟩ | ⟨hm, HS⟩
        all_goals
          go_wp2_with fail
          go_region
          go_wp2_with fail
          rw [HS.out] at HMade hT2
          go_roundg (gk - 1)
          case measure => omega
          case rel => exact ⟨i + 1, t.at_, _, rfl, rfl, by go_num, by omega, by omega, hts, hT2, HMade, ((hb.alloc hb.size _).drew)⟩
      · obtain rfl : i = ts.length := by omega
        have hsz : (T ++ s.extract p s.size ++ ⟨#[10, 47, 47]⟩).size ≤ 20000 := by
          rw [Lib.size_eq, made_end HM.out]
          have := HB.out
          omega
        have m1 : ¬ 9223372036854775807 < T.size + (s.size - p) := by omega
        have m2 : ¬ 9223372036854775807 < T.size + (s.size - p) + 3 := by omega
        have c2 := lex_any (T ++ s.extract p s.size ++ ⟨#[10, 47, 47]⟩) wr hsz (HL.out.below (B2.trans (hb.mono B2.size))).tabs
        rw [made_end HM.out, HU.out] at c2
        have C2 := hid c2
        have B3 := B2.trans (hb.mono B2.size)
        have XR3 := hid (HXR.out.below hb)
        clear c2 hsz HM HXY HX HXR hb B2
        go_wp2_with fail
        refine C2.out.mono ?_
        rintro e W4 ⟨hb4, k, rfl, hk⟩
        have B4 := B3.trans (hb4.mono B3.size)
        have XR4 := hid (XR3.out.below hb4)
        have KR4 := hid (reads_of hk)
        have hlen := HK.out.length
        rcases KR4.out with ⟨rfl, h0⟩ | ⟨g2, cap2, rfl, hcap2, hkc⟩
        · have e0 : ts.length = 0 := by rw [← hlen, h0]; rfl
          clear XR4 KR4 XR3 hk hb4 B3 C2 hlen
          go_wp2_with fail
          refine wp_loop_rounds 1 ?_
          rw [rounds_succ]
          go_wp2_with fail
          go_ret
          exact ⟨rfl, B4⟩
        · have hkc2 : ∀ (i : Nat) (t : Tok), ts[i]? = some t → ∃ a : Nat, t.at_ ≤ a ∧ W4.cell? ⟨g2, i * 3, none⟩ = some (.int .i64 (t.kind : Int)) ∧ W4.cell? ⟨g2, i * 3 + 1, none⟩ = some (.int .i64 (a : Int)) ∧ W4.cell? ⟨g2, i * 3 + 2, none⟩ = some (.string ⟨t.text.toArray⟩) := by
            intro i t hi
            obtain ⟨u, hu, h1, h2, h3⟩ := HK.out.get i t hi
            obtain ⟨c0, c1, c2⟩ := hkc i u hu
            rw [h1] at c0
            rw [h2] at c2
            exact ⟨u.at_, h3, c0, c1, c2⟩
          have HKC := hid hkc2
          rw [hlen] at hcap2 ⊢
          have hxc : ∀ (i : Nat) (t : Tok), ts[i]? = some t → W4.cell? ⟨g, i * 3, none⟩ = some (.int .i64 (t.kind : Int)) ∧ W4.cell? ⟨g, i * 3 + 1, none⟩ = some (.int .i64 (t.at_ : Int)) ∧ W4.cell? ⟨g, i * 3 + 2, none⟩ = some (.string ⟨t.text.toArray⟩) := by
            rcases XR4.out with ⟨h, _⟩ | ⟨g', cap', h, _, h2⟩
            · cases h
            · cases h
              exact h2
          have HXC := hid hxc
          clear hkc hkc2 hxc hlen XR4 KR4 XR3 hk hb4 B3 C2 hcap2
          go_wp2_with fail
          go_loopg [10] ts.length (fun gf v wx => ∃ i : Nat, v = .int .i64 (i : Int) ∧ i ≤ ts.length ∧ ts.length ≤ i + gf ∧ Hid (∃ q, wx = W4.drewN q))
          case atStart => exact ⟨0, rfl, by omega, by omega, hid ⟨0, rfl⟩⟩
          case round =>
            obtain ⟨i, rfl, hi, hg', HW⟩ := hrel
            obtain ⟨q, hq⟩ := HW.out
            subst hq
            clear HW
            by_cases hlt : i < ts.length
            · obtain ⟨t, ht⟩ : ∃ t, ts[i]? = some t := ⟨ts[i]'hlt, List.getElem?_eq_getElem _⟩
              obtain ⟨a, ha, k0, k1, k2⟩ := HKC.out i t ht
              obtain ⟨x0, x1, x2⟩ := HXC.out i t ht
              have hd : decide ((a : Int) < (t.at_ : Int)) = false := by simp; omega
              clear ht HKC HXC
              go_wp2_with fail
              go_quiet (fail)
              go_wp2_with fail
              go_roundg (gk - 1)
              case measure => omega
              case rel => exact ⟨i + 1, by go_num, by omega, by omega, hid ⟨_, rfl⟩⟩
            · clear HKC HXC
              go_wp2_with fail
              go_ret
              exact ⟨rfl, below_drewN' B4 _⟩
set_option maxHeartbeats 1000000 in
set_option maxRecDepth 100000 in
theorem blank_law (s : ByteArray) (w : World) (_hs : s.size ≤ 9223372036854775807) (L : Lists w) :
    Calls Tryd.prog 4 #[.string s] w fun e w' => e = .returned (.bool true) ∧ Below w.heap.size w w' := by
  by_cases h1 : 400 < s.size
  · have C0 := hid (awake_any w L)
    go_enter Tryd.func4, Tryd.ntmps4
    go_wp2_with fail
    refine C0.out.mono ?_
    rintro e W1 ⟨rfl, hb1⟩
    go_wp2_with fail
    go_ret
    exact ⟨rfl, hb1⟩
  · cases hp : lexA s.data.toList with
    | inl p => exact blank_bad s w (by omega) L p hp
    | inr ts => exact blank_good s w (by omega) L ts hp
end Go.Proofs.YtaekojpmhbkfgaaDoor.LexC

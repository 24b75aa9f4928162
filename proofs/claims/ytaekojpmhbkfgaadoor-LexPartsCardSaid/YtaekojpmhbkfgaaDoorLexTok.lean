/- The contract of the statement LexTokens: it returns true, whatever the text. -/
import Derived.Test.YtaekojpmhbkfgaaDoorLexAwake
namespace Go.Proofs.YtaekojpmhbkfgaaDoor.LexC
open Go Go.RowKit Go.Lib Go.Proofs.YtaekojpmhbkfgaaDoor.LexP Go.Proofs.YtaekojpmhbkfgaaDoor.ErrAs

theorem reads_nil (w : World) : Reads w (.slice none 0 0) [] := .inl ⟨rfl, rfl⟩
theorem Reads.below {w w' : World} {v : Value} {ts : List Tok} (h : Reads w v ts) (hb : Below w.heap.size w w') : Reads w' v ts := by
  rcases h with h | ⟨g, cap, h1, h2, h3⟩
  · exact .inl h
  · refine .inr ⟨g, cap, h1, h2, fun i t hi => ?_⟩
    obtain ⟨a, b, c⟩ := h3 i t hi
    have hlt : g < w.heap.size := World.block_lt_of_cell? w _ a
    exact ⟨(hb.cell (p := ⟨g, i * 3, none⟩) hlt).trans a, (hb.cell (p := ⟨g, i * 3 + 1, none⟩) hlt).trans b, (hb.cell (p := ⟨g, i * 3 + 2, none⟩) hlt).trans c⟩
theorem lexG_length : ∀ (n a : Nat) (l : List UInt8) (acc ts : List Tok), lexG n a l acc = .inr ts → ts.length ≤ acc.length + n
  | 0, a, l, acc, ts, h => by simp only [lexG, Sum.inr.injEq] at h; subst h; omega
  | n + 1, a, l, acc, ts, h => by
    rw [lexG] at h
    split at h
    · simp only [Sum.inr.injEq] at h; subst h; omega
    · split at h
      · cases h
      · have := lexG_length n _ _ _ _ h
        simp at this
        omega
theorem lexA_length {l : List UInt8} {ts : List Tok} (h : lexA l = .inr ts) : ts.length ≤ l.length := by
  have := lexG_length _ _ _ _ _ h
  simpa using this

set_option maxHeartbeats 4000000 in
set_option maxRecDepth 100000 in
theorem tokens_any (s : ByteArray) (w : World) (hs : s.size ≤ 9223372036854775807) (L : Lists w) : Calls Tryd.prog 3 #[.string s] w fun e w' => e = .returned (.bool true) ∧ Below w.heap.size w w' := by
  have C0 := hid (awake_any w L)
  have HL := hid L
  clear L
  by_cases h21 : 21000 < s.size
  · go_enter Tryd.func3, Tryd.ntmps3
    go_wp2_with fail
    refine C0.out.mono ?_
    rintro e W1 ⟨rfl, hb1⟩
    go_wp2_with fail
    go_ret
    exact ⟨rfl, hb1⟩
  · by_cases h20 : 20000 < s.size
    · have C1 := hid (fun W => lex_much s W h20 hs)
      have C2 := hid (fun W => ref_much s W h20 hs)
      have C3 := hid (fun W (h : ErrVar W) => code_code 3 W (by decide) h)
      go_enter Tryd.func3, Tryd.ntmps3
      go_wp2_with fail
      refine C0.out.mono ?_
      rintro e W1 ⟨rfl, hb1⟩
      go_wp2_with fail
      refine (C1.out _).mono ?_
      rintro e W2 ⟨rfl, rfl⟩
      go_wp2_with fail
      refine (C2.out _).mono ?_
      rintro e W2 ⟨rfl, rfl⟩
      go_wp2_with fail
      refine (C3.out _ (HL.out.below hb1).err).mono ?_
      rintro e W3 ⟨rfl, hb3⟩
      go_wp2_with fail
      go_ret
      exact ⟨rfl, hb1.trans (hb3.mono hb1.size)⟩
    · have C1 := hid (fun W (h : Lists W) => lex_any s W (by omega) h.tabs)
      have C2 := hid (fun W => ref_any s W (by omega))
      have HN := hid (fun ts (h : lexA s.data.toList = .inr ts) => (by have h2 := lexA_length h; rw [← Lib.size_eq] at h2; omega : ts.length ≤ 4611686018427387904))
      cases hlex : lexA s.data.toList with
      | inl p =>
        rw [hlex] at C1 C2
        have CF := hid (fun b W h h2 => fault_fault b p p 1 W (by decide) h h2)
        have CS := hid (fun W => same_eq W (.slice none 0 0) (.slice none 0 0) [] (reads_nil W) (reads_nil W) (by decide))
        clear hlex HN
        go_enter Tryd.func3, Tryd.ntmps3
        go_wp2_with fail
        refine C0.out.mono ?_
        rintro e W1 ⟨rfl, hb1⟩
        go_wp2_with fail
        refine (C1.out _ (HL.out.below hb1)).mono ?_
        rintro e W2 ⟨hb2, b, hbb, rfl, hcell⟩
        have HC : Hid (FaultAt W2 b p 1) := hid hcell
        have B2 := hb1.trans (hb2.mono hb1.size)
        clear hb1 hb2 hcell
        go_wp2_with fail
        refine (C2.out _).mono ?_
        rintro e W3 ⟨hb3, rfl⟩
        have HC3 := hid (HC.out.below hb3)
        have B3 := B2.trans (hb3.mono B2.size)
        clear B2 hb3 HC
        go_wp2_with fail
        refine (CF.out b _ (HL.out.below B3).err HC3.out).mono ?_
        rintro e W4 ⟨rfl, hb4⟩
        have B4 := B3.trans (hb4.mono B3.size)
        clear B3 hb4 HC3
        go_wp2_with fail
        refine (CS.out _).mono ?_
        rintro e W5 ⟨rfl, q, rfl⟩
        go_wp2_with fail
        go_ret
        exact ⟨rfl, below_drewN' B4 _⟩
      | inr ts =>
        rw [hlex] at C1 C2
        have hts := HN.out ts hlex
        have CF := hid (fun W => fault_none 0 W)
        have CS := hid (fun W x y (hx : Reads W x ts) (hy : Reads W y ts) => same_eq W x y ts hx hy hts)
        clear hlex HN
        go_enter Tryd.func3, Tryd.ntmps3
        go_wp2_with fail
        refine C0.out.mono ?_
        rintro e W1 ⟨rfl, hb1⟩
        go_wp2_with fail
        refine (C1.out _ (HL.out.below hb1)).mono ?_
        rintro e W2 ⟨hb2, v, rfl, hown⟩
        have R2 := hid (reads_of hown)
        have B2 := hb1.trans (hb2.mono hb1.size)
        clear hb1 hb2 hown
        go_wp2_with fail
        refine (C2.out _).mono ?_
        rintro e W3 ⟨hb3, v2, rfl, hown3⟩
        have R3 := hid (reads_of hown3)
        have R23 := hid (R2.out.below hb3)
        have B3 := B2.trans (hb3.mono B2.size)
        clear B2 hb3 hown3 R2
        go_wp2_with fail
        refine (CF.out _).mono ?_
        rintro e W4 ⟨rfl, hb4⟩
        have R4 := hid (R3.out.below hb4)
        have R24 := hid (R23.out.below hb4)
        have B4 := B3.trans (hb4.mono B3.size)
        clear B3 hb4 R3 R23
        go_wp2_with fail
        refine (CS.out _ _ _ R24.out R4.out).mono ?_
        rintro e W5 ⟨rfl, q, rfl⟩
        go_wp2_with fail
        go_ret
        exact ⟨rfl, below_drewN' B4 _⟩
end Go.Proofs.YtaekojpmhbkfgaaDoor.LexC

/- The contract of the document's answer: lienbookref01.Lex comes to what the plain function lexA gives. -/
import Derived.Test.YtaekojpmhbkfgaaDoorLexRef
namespace Go.Proofs.YtaekojpmhbkfgaaDoor.LexC
open Go Go.RowKit Go.Lib Go.Proofs.YtaekojpmhbkfgaaDoor.LexP

def RefPost (r : Sum Nat (List Tok)) (w : World) (e : Ending) (w' : World) : Prop :=
  Below w.heap.size w w' ∧ match r with
  | .inl p => e = .returned (.tuple #[.slice none 0 0, .int .i64 1, .int .i64 (p : Int)])
  | .inr toks => ∃ v, e = .returned (.tuple #[v, .int .i64 0, .int .i64 0]) ∧ w'.ownsRow w.heap.size 35 3 v toks.length (rowOf toks)

theorem ref_much (s : ByteArray) (w : World) (hs : 20000 < s.size) (h2 : s.size ≤ 9223372036854775807) :
    Calls Tryd.prog 8 #[.string s] w fun e w' => e = .returned (.tuple #[.slice none 0 0, .int .i64 3, .int .i64 0]) ∧ w = w' := by
  go_enter Tryd.func8, Tryd.ntmps8
  go_wp2
  go_ret3
  exact ⟨rfl, rfl⟩
set_option maxHeartbeats 8000000 in
set_option maxRecDepth 100000 in
theorem ref_any (s : ByteArray) (w : World) (hs : s.size ≤ 20000) :
    Calls Tryd.prog 8 #[.string s] w fun e w' => RefPost (lexA s.data.toList) w e w' := by
  obtain ⟨i0, hi, hz0, hz1, hz2⟩ := info_parts tok_info
  have HSZ := hid (Lib.size_eq s)
  go_enter Tryd.func8, Tryd.ntmps8
  go_wp2_with fail
  go_loopg [5, 6] s.size (fun gf v u wx => ∃ (a : Nat) (acc : List Tok), u = .int .i64 (a : Int) ∧ a ≤ s.size ∧ s.size ≤ a + gf ∧ acc.length ≤ a ∧
    Hid (FRel s.data.toList a acc) ∧ Below w.heap.size w wx ∧ Hid (wx.ownsRow w.heap.size 35 3 v acc.length (rowOf acc)))
  case atStart => exact ⟨0, [], rfl, by omega, by omega, by simp, hid (frel_start _), Below.refl _ _, hid (World.ownsRow_nil _ _ _ _)⟩
  case round =>
    obtain ⟨a, acc, rfl, ha, hg, hacc, HF, hb, HO⟩ := hrel
    by_cases hlt : a < s.size
    · obtain ⟨c, hc, hc2⟩ := at_get s a hlt
      have HC := hid hc2
      clear hc2
      by_cases hbl : isBl c = true
      · have K := hid (frel_blank HF.out HC.out hbl)
        have hd : c.toNat = 32 ∨ c.toNat = 9 ∨ c.toNat = 10 := by simpa [isBl, or_assoc] using hbl
        clear hbl
        rcases hd with h | h | h
        · have e1 : ((c.toNat : Int) == 32) = true := by rw [h]; rfl
          clear h
          go_wp2_with fail
          go_roundg (gk - 1)
          case measure => omega
          case rel => exact ⟨a + 1, acc, by go_num, by omega, by omega, by omega, K, hb, HO⟩
        · have e1 : ((c.toNat : Int) == 32) = false := by rw [h]; rfl
          have e2 : ((c.toNat : Int) == 9) = true := by rw [h]; rfl
          clear h
          go_wp2_with fail
          go_roundg (gk - 1)
          case measure => omega
          case rel => exact ⟨a + 1, acc, by go_num, by omega, by omega, by omega, K, hb, HO⟩
        · have e1 : ((c.toNat : Int) == 32) = false := by rw [h]; rfl
          have e2 : ((c.toNat : Int) == 9) = false := by rw [h]; rfl
          have e3 : ((c.toNat : Int) == 10) = true := by rw [h]; rfl
          clear h
          go_wp2_with fail
          go_roundg (gk - 1)
          case measure => omega
          case rel => exact ⟨a + 1, acc, by go_num, by omega, by omega, by omega, K, hb, HO⟩
      · have hbf : isBl c = false := by simpa using hbl
        have hd : ¬ c.toNat = 32 ∧ ¬ c.toNat = 9 ∧ ¬ c.toNat = 10 := by simpa [isBl, and_assoc] using hbf
        have e1 : ((c.toNat : Int) == 32) = false := by simp; omega
        have e2 : ((c.toNat : Int) == 9) = false := by simp; omega
        have e3 : ((c.toNat : Int) == 10) = false := by simp; omega
        clear hbl hd
        by_cases hr : rem (s.data.toList.drop a) = true
        · obtain ⟨h47, d, hd2, hd47⟩ := (rem_at HC.out).1 hr
          have h1 : a + 1 < s.size := by rw [HSZ.out]; exact (List.getElem?_eq_some_iff.1 hd2).1
          obtain ⟨d', hd, hd3⟩ := at_get s (a + 1) h1
          obtain rfl : d = d' := by rw [hd2] at hd3; exact Option.some.inj hd3
          have e47 : ((c.toNat : Int) == 47) = true := by rw [h47]; rfl
          have ed47 : ((d.toNat : Int) == 47) = true := by rw [hd47]; rfl
          have hp := (rem_blank _ hr).2
          have HP := hid hp
          have K := hid (frel_rem HF.out hr)
          have hdl : (s.data.toList.drop a).length = s.size - a := by rw [List.length_drop, ← HSZ.out]
          have HD := hid hdl
          clear hr h47 hd47 hd2 hd3 hp hdl hbf HF
          obtain ⟨wo, rfl⟩ : ∃ wo : World, wo = wr := ⟨_, rfl⟩
          obtain ⟨gO, rfl⟩ : ∃ g : Nat, g = gk := ⟨_, rfl⟩
          go_wp2_with fail
          clear e1 e2 e3 e47 ed47 hd hc
          go_loopg [6] (s.size - a) (fun gf v wx => ∃ n : Nat, v = .int .i64 ((a + n : Nat) : Int) ∧ a + n ≤ s.size ∧ s.size ≤ a + n + gf ∧ Hid (SRel inRem (s.data.toList.drop a) n) ∧ wx = wo)
          case atStart => exact ⟨0, by go_num, by omega, by omega, hid (srel_zero _ _), rfl⟩
          case round =>
            obtain ⟨n, rfl, hn, hg', HR, rfl⟩ := hrel
            by_cases hlt' : a + n < s.size
            · obtain ⟨x, hx, hx2⟩ := at_get s (a + n) hlt'
              have hx3 : (s.data.toList.drop a)[n]? = some x := by rw [List.getElem?_drop]; exact hx2
              cases hx10 : inRem x with
              | true =>
                have K2 := hid (srel_step HR.out hx3 hx10)
                have e10 : ((x.toNat : Int) != 10) = true := by simp [inRem] at hx10; simp; omega
                clear hx2 hx3 hx10 HR K
                go_wp2_with fail
                go_roundg (gk - 1)
                case measure => omega
                case rel => exact ⟨n + 1, by go_num, by omega, by omega, K2, rfl⟩
              | false =>
                have K2 := srel_stop HR.out hx3 hx10
                have e10 : ((x.toNat : Int) != 10) = false := by simp [inRem] at hx10; simp; omega
                have hpos : 0 < n := by have := HP.out; omega
                have K3 := K.out
                rw [K2] at K3
                have K4 := hid K3
                clear hx2 hx3 hx10 HR K K2 K3
                go_wp2_with fail
                go_roundg (s.size - (a + n))
                case measure => omega
                case rel => exact ⟨a + n, acc, by go_num, by omega, by omega, by omega, K4, hb, HO⟩
            · have K2 := srel_end HR.out (by rw [HD.out]; omega)
              have hpos : 0 < n := by have := HP.out; omega
              have K3 := K.out
              rw [K2] at K3
              have K4 := hid K3
              clear HR K K2 K3
              go_wp2_with fail
              go_roundg (s.size - (a + n))
              case measure => omega
              case rel => exact ⟨a + n, acc, by go_num, by omega, by omega, by omega, K4, hb, HO⟩
        · have hrf : rem (s.data.toList.drop a) = false := by simpa using hr
          have K := frel_one HF.out HC.out hbf hrf
          have hsl := signN_le (s.data.toList.drop a)
          rw [List.length_drop, ← HSZ.out] at hsl
          have c1 : ∀ W, Calls Tryd.prog 14 _ W _ := fun W => rtoken_any s a W (by omega) hlt
          have htxt : ∀ b, s.extract a (a + b) = ⟨((s.data.toList.drop a).take b).toArray⟩ := fun b => by rw [Lib.extract_eq]; simp
          have hk0 := signK_zero (s.data.toList.drop a)
          have hk1 : signN (s.data.toList.drop a) ≠ 0 → signK (s.data.toList.drop a) ≠ 0 := by
            unfold signN signK
            intro h1 h2
            repeat (first | (split at h1) | (split at h2) | omega)
          unfold tokEnd at c1
          obtain ⟨z, hz⟩ : ∃ z, signN (s.data.toList.drop a) = z := ⟨_, rfl⟩
          obtain ⟨k, hk⟩ : ∃ k, signK (s.data.toList.drop a) = k := ⟨_, rfl⟩
          rw [hz, hk] at c1 hk1
          rw [hz] at hsl hk0
          rw [hk] at hk0
          rw [hz, hk] at K
          have ways : (((c.toNat : Int) == 47) = false) ∨ (((c.toNat : Int) == 47) = true ∧ ¬ a + 1 < s.size) ∨ (((c.toNat : Int) == 47) = true ∧ ∃ d, ∃ h : a + 1 < s.size, s[a + 1]'h = d ∧ ((d.toNat : Int) == 47) = false) := by
            by_cases h47 : c.toNat = 47
            · have e : ((c.toNat : Int) == 47) = true := by rw [h47]; rfl
              by_cases h1 : a + 1 < s.size
              · obtain ⟨d, hd, hd2⟩ := at_get s (a + 1) h1
                refine .inr (.inr ⟨e, d, h1, hd, ?_⟩)
                simp only [beq_eq_false_iff_ne, ne_eq]
                intro hd47
                exact hr ((rem_at HC.out).2 ⟨h47, d, hd2, by omega⟩)
              · exact .inr (.inl ⟨e, h1⟩)
            · exact .inl (by simp; omega)
          have HH := hid (htxt z)
          clear htxt hr hrf hbf HF hz hk
          by_cases hz0' : z = 0
          · subst hz0'
            obtain rfl : k = 0 := hk0 rfl
            have KK := hid (K.1 rfl)
            rw [if_pos rfl] at c1
            have C1 := hid c1
            clear c1 K hk0 hk1 HC
            rcases ways with w1 | ⟨w1, w2⟩ | ⟨w1, d, w2, w3, w4⟩
            all_goals
              go_wp2_with fail
              refine (C1.out _).mono ?_
              rintro e W1 ⟨rfl, q, rfl⟩
              go_wp2_with fail
              go_ret3
              rw [KK.out]
              exact ⟨below_drewN' hb _, rfl⟩
          · have KK := hid (K.2 hz0')
            have hk1' := hk1 hz0'
            rw [if_neg hz0', show ((a + z : Nat) : Int) = (a : Int) + (z : Int) by omega] at c1
            have C1 := hid c1
            have hkz : ((k : Int) == 0) = false := by simp; omega
            clear c1 K hk0 hk1 HC hk1'
            rcases ways with w1 | ⟨w1, w2⟩ | ⟨w1, d, w2, w3, w4⟩
            all_goals
              go_wp2_with fail
              refine (C1.out _).mono ?_
              rintro e W1 ⟨rfl, q, rfl⟩
              have B := below_drewN' hb q
              have HO1 : Hid ((wr.drewN q).ownsRow w.heap.size 35 3 _ acc.length (rowOf acc)) := hid (owns_below HO.out (below_drewN' (Below.refl _ _) q))
              clear hb HO
              obtain ⟨W1, hW1⟩ : ∃ W1, wr.drewN q = W1 := ⟨_, rfl⟩
              rw [hW1] at B HO1 ⊢
              clear hW1
              go_wp2_with (at_builtin; refine wpList_append_own _ rfl _ _ 23 rfl w.heap.size 35 i0 _ 3 32 Tryd.underlying23 hi hz0 hz1 hz2 rfl (by decide) _ _ _ rfl (HO1.out.alloc _) ⟨W1.heap.size, 0, none⟩ 1 1 [.int .i64 (k : Int), .int .i64 (a : Int), .string (s.extract a (a + z))] rfl rfl ?c1 ?c2 ?c3 ?c4 ?c5 ?_)
              case c1 =>
                intro j u hj
                match j, hj with
                | 0, hj => simp at hj; subst hj; simp [Addr.add]
                | 1, hj => simp at hj; subst hj; simp [Addr.add]
                | 2, hj => simp at hj; subst hj; simp [Addr.add]
              case c2 => intro u hu; simp at hu; rcases hu with rfl | rfl | rfl <;> rfl
              case c3 => unfold maxLen; omega
              case c4 => omega
              case c5 => have := B.size; simp; omega
              intro v' w2' hown' hgrow _
              have B2 : Below w.heap.size w w2' := (B.alloc B.size _).grown hgrow (by have := B.size; simp; omega) (fun i hi => (HO1.out.lt i hi).1)
              have HO2 : Hid (w2'.ownsRow w.heap.size 35 3 v' (acc ++ [Tok.mk k a ((s.data.toList.drop a).take z)]).length (rowOf (acc ++ [Tok.mk k a ((s.data.toList.drop a).take z)]))) := by
                rw [rowOf_snoc, List.length_append]
                unfold tokCells
                rw [← HH.out]
                exact hid hown'
              clear hown' hgrow HO1 B HH
              go_wp2_with fail
              go_roundg (s.size - (a + z))
              case measure => omega
              case rel => exact ⟨a + z, acc ++ [Tok.mk k a ((s.data.toList.drop a).take z)], by go_num, by omega, by omega, by simp; omega, KK, B2, HO2⟩
    · have K := hid (frel_end HF.out (by rw [← HSZ.out]; omega))
      go_wp2_with fail
      go_ret3
      rw [K.out]
      exact ⟨hb, _, rfl, HO.out⟩
end Go.Proofs.YtaekojpmhbkfgaaDoor.LexC

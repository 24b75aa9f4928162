/- The contract of the statement TreeBoth: it returns true, whatever the two programs (of weight at most 1048576 together). -/
import Derived.Test.YtjkdcladjjpmoaaGreatDoorJ29
namespace Go.Proofs.YtjkdcladjjpmoaaGreatDoor.TextC
open Go Go.RowKit Go.Lib Go.Sort Go.Proofs.YtjkdcladjjpmoaaGreatDoor.LexP Go.Proofs.YtjkdcladjjpmoaaGreatDoor.TreeP Go.Proofs.YtjkdcladjjpmoaaGreatDoor.LexC Go.Proofs.YtjkdcladjjpmoaaGreatDoor.TreeC Go.Proofs.YtjkdcladjjpmoaaGreatDoor.PageC Go.Proofs.YtjkdcladjjpmoaaGreatDoor.ErrAs

theorem print_cases (l : List TreeP.Fn) : (rightP l = false ∧ printA l = .tuple #[.string ⟨#[]⟩, .iface 67 (.int .i64 2)]) ∨ (rightP l = true ∧ 20000 < (Sb (textFs l)).size ∧ printA l = .tuple #[.string ⟨#[]⟩, .iface 67 (.int .i64 3)]) ∨ (rightP l = true ∧ (Sb (textFs l)).size ≤ 20000 ∧ printA l = .tuple #[.string (Sb (textFs l)), .nilIface]) := by
  rw [Sb_size]
  unfold printA
  by_cases h : rightP l = true
  · by_cases h2 : 20000 < (textFs l).length
    · exact .inr (.inl ⟨h, h2, by rw [if_pos h, if_pos h2]⟩)
    · exact .inr (.inr ⟨h, by omega, by rw [if_pos h, if_neg h2]; rfl⟩)
  · exact .inl ⟨by simpa using h, by rw [if_neg h]⟩
theorem print_tuple (l : List TreeP.Fn) : ∃ S E, printA l = .tuple #[.string S, E] := by
  rcases print_cases l with ⟨_, h⟩ | ⟨_, _, h⟩ | ⟨_, _, h⟩ <;> exact ⟨_, _, h⟩

set_option maxHeartbeats 16000000 in
set_option maxRecDepth 100000 in
theorem both_any (l m : List TreeP.Fn) (w : World) (v x : Value) (hw : wFs l + wFs m ≤ 1048576) (hin : ProgIn w v l) (hin2 : ProgIn w x m) (hno : ∀ n c, v = .slice none n c → n = 0 ∧ c = 0) (hno2 : ∀ n c, x = .slice none n c → n = 0 ∧ c = 0) (L : TLists w) :
    Calls Tryz.prog 4 #[v, x] w fun e w' => e = .returned (.bool true) ∧ Below w.heap.size w w' := by
  have b0 := Below.refl w.heap.size w
  have C0 := hid (awake_any w L.tabs L.err L.pow)
  have CSl := hid (fun W (hb : Below w.heap.size w W) => rSize_any l W v (by omega) (hin.keep (Keeps.of_below hb)))
  have CSm := hid (fun W (hb : Below w.heap.size w W) => rSize_any m W x (by omega) (hin2.keep (Keeps.of_below hb)))
  obtain ⟨n1, hn1⟩ : ∃ n, sizeFs 0 l = n := ⟨_, rfl⟩
  obtain ⟨n2, hn2⟩ : ∃ n, sizeFs 0 m = n := ⟨_, rfl⟩
  rw [hn1] at CSl
  rw [hn2] at CSm
  clear hn1 hn2
  by_cases h1 : 200 < n1
  · clear CSm L hin hin2 hno hno2
    go_enter Tryz.func4, Tryz.ntmps4
    go_wp2_with fail
    refine C0.out.mono ?_
    rintro e W1 ⟨rfl, hb1⟩
    go_wp2_with fail
    refine (CSl.out _ hb1).mono ?_
    rintro e W2 ⟨rfl, hb2⟩
    have B2 := hb1.trans (hb2.mono hb1.size)
    clear hb1 hb2
    go_wp2_with fail
    go_ret
    exact ⟨rfl, B2⟩
  by_cases h2 : 200 < n2
  · clear L hin hin2 hno hno2
    go_enter Tryz.func4, Tryz.ntmps4
    go_wp2_with fail
    refine C0.out.mono ?_
    rintro e W1 ⟨rfl, hb1⟩
    go_wp2_with fail
    refine (CSl.out _ hb1).mono ?_
    rintro e W2 ⟨rfl, hb2⟩
    have B2 := hb1.trans (hb2.mono hb1.size)
    clear hb1 hb2
    go_wp2_with fail
    refine (CSm.out _ B2).mono ?_
    rintro e W3 ⟨rfl, hb3⟩
    have B3 := B2.trans (hb3.mono B2.size)
    clear B2 hb3
    go_wp2_with fail
    go_ret
    exact ⟨rfl, B3⟩
  have HL := hid L
  have HI := hid hin
  have HI2 := hid hin2
  have HN := hid hno
  have HN2 := hid hno2
  have HW := hid hw
  have hl1 := wFs_len l
  have hl2 := wFs_len m
  have HLL := hid (show l.length ≤ 1048576 ∧ m.length ≤ 1048576 by omega)
  clear L hin hin2 hno hno2 hw hl1 hl2 b0
  go_enter Tryz.func4, Tryz.ntmps4
  go_wp2_with fail
  refine C0.out.mono ?_
  rintro e W1 ⟨rfl, hb1⟩
  go_wp2_with fail
  refine (CSl.out _ hb1).mono ?_
  rintro e W2 ⟨rfl, hb2⟩
  have B2 := hb1.trans (hb2.mono hb1.size)
  clear hb1 hb2
  go_wp2_with fail
  refine (CSm.out _ B2).mono ?_
  rintro e W3 ⟨rfl, hb3⟩
  have B3 := B2.trans (hb3.mono B2.size)
  clear B2 hb3 CSl CSm C0
  have B4 := hid (B3.trans (((Below.refl _ W3).alloc (Nat.le_refl _) (.cells #[] 53)).mono B3.size))
  have HO : Hid ((W3.alloc (.cells #[] 53)).ownsRow W3.heap.size 53 14 (.slice (some ⟨W3.heap.size, 0, none⟩) 0 0) 0 []) := hid (World.ownsRow_made W3 #[] 0 (Nat.le_refl _) (by decide) (by rfl))
  have HP := hid (HI.out.keep (Keeps.of_below B4.out))
  have HB3 := hid B3
  clear B3
  go_wp2_with (first | (at_builtin; refine wpList_append_fns rfl (.tmp 23) (.tmp 24) rfl W3.heap.size _ 0 [] rfl HO.out _ l rfl HP.out HN.out ?cN1 ?cB1 ?_))
  case cN1 => have := HLL.out; omega
  case cB1 => simp
  intro v6 W6 hown6 hgrow6
  have B6 := hid (B4.out.grown hgrow6 (by have := B4.out.size; omega) (fun k hk => by simp [Value.ownBlock] at hk; have := HB3.out.size; omega))
  have H6 := hid hown6
  have HP2 := hid (HI2.out.keep (Keeps.of_below B6.out))
  have S6 := hid (show W3.heap.size ≤ W6.heap.size by have := hgrow6.size; simp at this; omega)
  clear hown6 hgrow6 HO HP B4
  go_wp2_with (first | (at_builtin; refine wpList_append_fns rfl (.tmp 25) (.tmp 26) rfl W3.heap.size _ _ _ rfl H6.out _ m rfl HP2.out HN2.out ?cN2 ?cB2 ?_))
  case cN2 => have := HLL.out; omega
  case cB2 => exact S6.out
  intro v7 W7 hown7 hgrow7
  have b7 := B6.out.grown hgrow7 (by have := B6.out.size; omega) (fun k hk => by have h2 := (H6.out.lt k hk).1; have := HB3.out.size; omega)
  have hown7' : W7.ownsRow W3.heap.size 53 14 v7 (l ++ m).length (fnRow (l ++ m)) := by
    rw [fnRow_app, List.length_append]
    simpa using hown7
  have hp7 : ProgIn W7 v7 (l ++ m) := ⟨owns_fns hown7', fun f hf => by
    rcases List.mem_append.1 hf with h | h
    · exact (HI.out.2 f h).keep (Keeps.of_below b7)
    · exact (HI2.out.2 f h).keep (Keeps.of_below b7)⟩
  obtain ⟨p7, c7, hv7, _, _⟩ := id hp7.1
  rw [List.length_map, List.length_append] at hv7
  have B0 := hid b7
  have HP7 := hid hp7
  have HW7 := hid (show wFs (l ++ m) ≤ 1048576 by rw [wFs_app]; exact HW.out)
  have CDl := hid (fun W (hb : Below W7.heap.size W7 W) => tDeep_any l W v (by have := HW.out; omega) (HI.out.keep (Keeps.of_below (B0.out.trans (hb.mono B0.out.size)))))
  have CDm := hid (fun W (hb : Below W7.heap.size W7 W) => tDeep_any m W x (by have := HW.out; omega) (HI2.out.keep (Keeps.of_below (B0.out.trans (hb.mono B0.out.size)))))
  have CDa := hid (fun W (hb : Below W7.heap.size W7 W) => tDeep_any (l ++ m) W v7 HW7.out (HP7.out.keep (Keeps.of_below hb)))
  have CRl := hid (fun W (hb : Below W7.heap.size W7 W) => tRight_any l W v (by have := HW.out; omega) (HI.out.keep (Keeps.of_below (B0.out.trans (hb.mono B0.out.size)))) (HL.out.tabs.below (B0.out.trans (hb.mono B0.out.size))))
  have CRm := hid (fun W (hb : Below W7.heap.size W7 W) => tRight_any m W x (by have := HW.out; omega) (HI2.out.keep (Keeps.of_below (B0.out.trans (hb.mono B0.out.size)))) (HL.out.tabs.below (B0.out.trans (hb.mono B0.out.size))))
  have CRa := hid (fun W (hb : Below W7.heap.size W7 W) => tRight_any (l ++ m) W v7 HW7.out (HP7.out.keep (Keeps.of_below hb)) (HL.out.tabs.below (B0.out.trans (hb.mono B0.out.size))))
  have CPl := hid (print_at HL.out B0.out (l := l) (v := v) (by have := HW.out; omega) (HI.out.keep (Keeps.of_below B0.out)))
  have CPm := hid (print_at HL.out B0.out (l := m) (v := x) (by have := HW.out; omega) (HI2.out.keep (Keeps.of_below B0.out)))
  have CPa := hid (print_at HL.out B0.out (l := l ++ m) (v := v7) HW7.out HP7.out)
  rw [deepFs_app] at CDa
  rw [rightP_app] at CRa
  have KA := hid (show ∀ b, rightP (l ++ m) = b ↔ (rightP l && rightP m && decide (l.length + m.length ≤ 30)) = b from fun b => by rw [rightP_app])
  have KL := print_cases l
  have KM := print_cases m
  have KLM := print_cases (l ++ m)
  rw [textFs_app, ← Sb_app] at KLM
  have KT := print_tuple m
  obtain ⟨N, hN⟩ : ∃ N, l.length + m.length = N := ⟨_, rfl⟩
  have hNle : N ≤ 4194304 := by have := HLL.out; omega
  rw [hN] at hv7 CRa KA
  subst hv7
  generalize deepFs l = dl at *
  generalize deepFs m = dm at *
  clear hN hown7 hown7' hgrow7 b7 hp7 H6 HP2 S6 B6 HB3 HP7 HW7 HW HLL HI HI2 HN HN2 HL h1 h2
  have B7 := hid (Below.refl W7.heap.size W7)
  go_wp2_with fail
  refine (CDl.out _ B7.out).mono ?_
  rintro e W8 ⟨rfl, hb8⟩
  have B8 := hid (B7.out.trans (hb8.mono B7.out.size))
  clear B7 hb8
  go_wp2_with fail
  refine (CDm.out _ B8.out).mono ?_
  rintro e W9 ⟨rfl, hb9⟩
  have B9 := hid (B8.out.trans (hb9.mono B8.out.size))
  clear B8 hb9
  go_upto_if 33 with (fail)
  go_cut [6] (fun u wx => u = .int .i64 ((max dl dm : Nat) : Int) ∧ Hid (Below W7.heap.size W7 wx))
  case first =>
    clear KL KM KLM KT KA
    by_cases hd : dl < dm
    · go_wp2_with fail
      refine (CDm.out _ B9.out).mono ?_
      rintro e W10 ⟨rfl, hb10⟩
      have B10 := hid (B9.out.trans (hb10.mono B9.out.size))
      clear B9 hb10
      go_wp2_with fail
      go_meet
      exact ⟨by rw [show max dl dm = dm by omega], B10⟩
    · go_wp2_with fail
      go_meet
      exact ⟨by rw [show max dl dm = dl by omega], B9⟩
  case rest =>
    clear B9
    obtain ⟨rfl, B9⟩ := hcut
    clear CDl CDm
    generalize max dl dm = D at *
    have hS : (Sb (textFs l) ++ Sb (textFs m)).size = (Sb (textFs l)).size + (Sb (textFs m)).size := ByteArray.size_append
    generalize Sb (textFs l) = S at *
    generalize Sb (textFs m) = R at *
    generalize hSR : S ++ R = SR at *
    have HSR := hid hSR
    clear hSR
    generalize hpl : printA l = Pl at *
    generalize hpm : printA m = Pm at *
    generalize hpa : printA (l ++ m) = Pa at *
    clear hpl hpm hpa
    have ka := fun b h => (KA.out b).1 h
    generalize rightP l = rl at *
    generalize rightP m = rm at *
    generalize rightP (l ++ m) = ra at *
    clear KA
    rcases KL with ⟨rfl, rfl⟩ | ⟨rfl, hs1, rfl⟩ | ⟨rfl, hs1, rfl⟩
    · obtain ⟨S2, E2, rfl⟩ := KT
      rcases KLM with ⟨rfl, rfl⟩ | ⟨rfl, _, _⟩ | ⟨rfl, _, _⟩
      · clear KM ka hS
        simp only [Bool.false_and] at CRa
        go_wp2_with fail
        refine (CDa.out _ B9.out).mono ?_
        rintro e W10 ⟨rfl, hb10⟩
        have B10 := hid (B9.out.trans (hb10.mono B9.out.size))
        clear hb10 B9
        go_wp2_with fail
        refine (CRa.out _ B10.out).mono ?_
        rintro e W11 ⟨rfl, hb11⟩
        have B11 := hid (B10.out.trans (hb11.mono B10.out.size))
        clear hb11 B10
        go_wp2_with fail
        refine (CRl.out _ B11.out).mono ?_
        rintro e W12 ⟨rfl, hb12⟩
        have B12 := hid (B11.out.trans (hb12.mono B11.out.size))
        clear hb12 B11
        go_wp2_with fail
        refine (CPl.out _ B12.out).mono ?_
        rintro e W13 ⟨rfl, hb13⟩
        have B13 := hid (B12.out.trans (hb13.mono B12.out.size))
        clear hb13 B12
        go_wp2_with fail
        refine (CPm.out _ B13.out).mono ?_
        rintro e W14 ⟨rfl, hb14⟩
        have B14 := hid (B13.out.trans (hb14.mono B13.out.size))
        clear hb14 B13
        go_wp2_with fail
        refine (CPa.out _ B14.out).mono ?_
        rintro e W15 ⟨rfl, hb15⟩
        have B15 := hid (B14.out.trans (hb15.mono B14.out.size))
        clear hb15 B14
        go_wp2_with fail
        go_ret
        exact ⟨rfl, B0.out.trans (B15.out.mono B0.out.size)⟩
      · exact absurd (ka _ rfl) (by simp)
      · exact absurd (ka _ rfl) (by simp)
    · rcases KM with ⟨rfl, rfl⟩ | ⟨rfl, hs2, rfl⟩ | ⟨rfl, hs2, rfl⟩
      · rcases KLM with ⟨rfl, rfl⟩ | ⟨rfl, _, _⟩ | ⟨rfl, _, _⟩
        · clear KT ka hS
          simp only [Bool.and_false, Bool.false_and] at CRa
          go_wp2_with fail
          refine (CDa.out _ B9.out).mono ?_
          rintro e W10 ⟨rfl, hb10⟩
          have B10 := hid (B9.out.trans (hb10.mono B9.out.size))
          clear hb10 B9
          go_wp2_with fail
          refine (CRa.out _ B10.out).mono ?_
          rintro e W11 ⟨rfl, hb11⟩
          have B11 := hid (B10.out.trans (hb11.mono B10.out.size))
          clear hb11 B10
          go_wp2_with fail
          refine (CRl.out _ B11.out).mono ?_
          rintro e W12 ⟨rfl, hb12⟩
          have B12 := hid (B11.out.trans (hb12.mono B11.out.size))
          clear hb12 B11
          go_wp2_with fail
          refine (CRm.out _ B12.out).mono ?_
          rintro e W13 ⟨rfl, hb13⟩
          have B13 := hid (B12.out.trans (hb13.mono B12.out.size))
          clear hb13 B12
          go_wp2_with fail
          refine (CPl.out _ B13.out).mono ?_
          rintro e W14 ⟨rfl, hb14⟩
          have B14 := hid (B13.out.trans (hb14.mono B13.out.size))
          clear hb14 B13
          go_wp2_with fail
          refine (CPm.out _ B14.out).mono ?_
          rintro e W15 ⟨rfl, hb15⟩
          have B15 := hid (B14.out.trans (hb15.mono B14.out.size))
          clear hb15 B14
          go_wp2_with fail
          refine (CPa.out _ B15.out).mono ?_
          rintro e W16 ⟨rfl, hb16⟩
          have B16 := hid (B15.out.trans (hb16.mono B15.out.size))
          clear hb16 B15
          go_wp2_with fail
          go_ret
          exact ⟨rfl, B0.out.trans (B16.out.mono B0.out.size)⟩
        · exact absurd (ka _ rfl) (by simp)
        · exact absurd (ka _ rfl) (by simp)
      · by_cases hle : N ≤ 30
        · have e := ka
          have hli : (N : Int) ≤ 30 := by omega
          simp only [Bool.and_self, decide_eq_true hle] at CRa e
          rcases KLM with ⟨rfl, rfl⟩ | ⟨rfl, hs3, rfl⟩ | ⟨rfl, hs3, rfl⟩
          · exact absurd (e _ rfl) (by simp)
          · clear KT ka e
            go_wp2_with fail
            refine (CDa.out _ B9.out).mono ?_
            rintro e W10 ⟨rfl, hb10⟩
            have B10 := hid (B9.out.trans (hb10.mono B9.out.size))
            clear hb10 B9
            go_wp2_with fail
            refine (CRa.out _ B10.out).mono ?_
            rintro e W11 ⟨rfl, hb11⟩
            have B11 := hid (B10.out.trans (hb11.mono B10.out.size))
            clear hb11 B10
            go_wp2_with fail
            refine (CRl.out _ B11.out).mono ?_
            rintro e W12 ⟨rfl, hb12⟩
            have B12 := hid (B11.out.trans (hb12.mono B11.out.size))
            clear hb12 B11
            go_wp2_with fail
            refine (CRm.out _ B12.out).mono ?_
            rintro e W13 ⟨rfl, hb13⟩
            have B13 := hid (B12.out.trans (hb13.mono B12.out.size))
            clear hb13 B12
            go_wp2_with fail
            refine (CPl.out _ B13.out).mono ?_
            rintro e W14 ⟨rfl, hb14⟩
            have B14 := hid (B13.out.trans (hb14.mono B13.out.size))
            clear hb14 B13
            go_wp2_with fail
            refine (CPm.out _ B14.out).mono ?_
            rintro e W15 ⟨rfl, hb15⟩
            have B15 := hid (B14.out.trans (hb15.mono B14.out.size))
            clear hb15 B14
            go_wp2_with fail
            refine (CPa.out _ B15.out).mono ?_
            rintro e W16 ⟨rfl, hb16⟩
            have B16 := hid (B15.out.trans (hb16.mono B15.out.size))
            clear hb16 B15
            go_wp2_with fail
            go_ret
            exact ⟨rfl, B0.out.trans (B16.out.mono B0.out.size)⟩
          · omega
        · have e := ka
          have hli : ¬ (N : Int) ≤ 30 := by omega
          simp only [Bool.and_self, Bool.true_and, decide_eq_false hle] at CRa e
          rcases KLM with ⟨rfl, rfl⟩ | ⟨rfl, hs3, _⟩ | ⟨rfl, hs3, _⟩
          · clear KT ka e
            go_wp2_with fail
            refine (CDa.out _ B9.out).mono ?_
            rintro e W10 ⟨rfl, hb10⟩
            have B10 := hid (B9.out.trans (hb10.mono B9.out.size))
            clear hb10 B9
            go_wp2_with fail
            refine (CRa.out _ B10.out).mono ?_
            rintro e W11 ⟨rfl, hb11⟩
            have B11 := hid (B10.out.trans (hb11.mono B10.out.size))
            clear hb11 B10
            go_wp2_with fail
            refine (CRl.out _ B11.out).mono ?_
            rintro e W12 ⟨rfl, hb12⟩
            have B12 := hid (B11.out.trans (hb12.mono B11.out.size))
            clear hb12 B11
            go_wp2_with fail
            refine (CRm.out _ B12.out).mono ?_
            rintro e W13 ⟨rfl, hb13⟩
            have B13 := hid (B12.out.trans (hb13.mono B12.out.size))
            clear hb13 B12
            go_wp2_with fail
            refine (CPl.out _ B13.out).mono ?_
            rintro e W14 ⟨rfl, hb14⟩
            have B14 := hid (B13.out.trans (hb14.mono B13.out.size))
            clear hb14 B13
            go_wp2_with fail
            refine (CPm.out _ B14.out).mono ?_
            rintro e W15 ⟨rfl, hb15⟩
            have B15 := hid (B14.out.trans (hb15.mono B14.out.size))
            clear hb15 B14
            go_wp2_with fail
            refine (CPa.out _ B15.out).mono ?_
            rintro e W16 ⟨rfl, hb16⟩
            have B16 := hid (B15.out.trans (hb16.mono B15.out.size))
            clear hb16 B15
            go_wp2_with fail
            go_ret
            exact ⟨rfl, B0.out.trans (B16.out.mono B0.out.size)⟩
          · exact absurd (e _ rfl) (by simp)
          · exact absurd (e _ rfl) (by simp)
      · by_cases hle : N ≤ 30
        · have e := ka
          have hli : (N : Int) ≤ 30 := by omega
          simp only [Bool.and_self, decide_eq_true hle] at CRa e
          rcases KLM with ⟨rfl, rfl⟩ | ⟨rfl, hs3, rfl⟩ | ⟨rfl, hs3, rfl⟩
          · exact absurd (e _ rfl) (by simp)
          · clear KT ka e
            go_wp2_with fail
            refine (CDa.out _ B9.out).mono ?_
            rintro e W10 ⟨rfl, hb10⟩
            have B10 := hid (B9.out.trans (hb10.mono B9.out.size))
            clear hb10 B9
            go_wp2_with fail
            refine (CRa.out _ B10.out).mono ?_
            rintro e W11 ⟨rfl, hb11⟩
            have B11 := hid (B10.out.trans (hb11.mono B10.out.size))
            clear hb11 B10
            go_wp2_with fail
            refine (CRl.out _ B11.out).mono ?_
            rintro e W12 ⟨rfl, hb12⟩
            have B12 := hid (B11.out.trans (hb12.mono B11.out.size))
            clear hb12 B11
            go_wp2_with fail
            refine (CRm.out _ B12.out).mono ?_
            rintro e W13 ⟨rfl, hb13⟩
            have B13 := hid (B12.out.trans (hb13.mono B12.out.size))
            clear hb13 B12
            go_wp2_with fail
            refine (CPl.out _ B13.out).mono ?_
            rintro e W14 ⟨rfl, hb14⟩
            have B14 := hid (B13.out.trans (hb14.mono B13.out.size))
            clear hb14 B13
            go_wp2_with fail
            refine (CPm.out _ B14.out).mono ?_
            rintro e W15 ⟨rfl, hb15⟩
            have B15 := hid (B14.out.trans (hb15.mono B14.out.size))
            clear hb15 B14
            go_wp2_with fail
            refine (CPa.out _ B15.out).mono ?_
            rintro e W16 ⟨rfl, hb16⟩
            have B16 := hid (B15.out.trans (hb16.mono B15.out.size))
            clear hb16 B15
            go_wp2_with fail
            go_ret
            exact ⟨rfl, B0.out.trans (B16.out.mono B0.out.size)⟩
          · omega
        · have e := ka
          have hli : ¬ (N : Int) ≤ 30 := by omega
          simp only [Bool.and_self, Bool.true_and, decide_eq_false hle] at CRa e
          rcases KLM with ⟨rfl, rfl⟩ | ⟨rfl, hs3, _⟩ | ⟨rfl, hs3, _⟩
          · clear KT ka e
            go_wp2_with fail
            refine (CDa.out _ B9.out).mono ?_
            rintro e W10 ⟨rfl, hb10⟩
            have B10 := hid (B9.out.trans (hb10.mono B9.out.size))
            clear hb10 B9
            go_wp2_with fail
            refine (CRa.out _ B10.out).mono ?_
            rintro e W11 ⟨rfl, hb11⟩
            have B11 := hid (B10.out.trans (hb11.mono B10.out.size))
            clear hb11 B10
            go_wp2_with fail
            refine (CRl.out _ B11.out).mono ?_
            rintro e W12 ⟨rfl, hb12⟩
            have B12 := hid (B11.out.trans (hb12.mono B11.out.size))
            clear hb12 B11
            go_wp2_with fail
            refine (CRm.out _ B12.out).mono ?_
            rintro e W13 ⟨rfl, hb13⟩
            have B13 := hid (B12.out.trans (hb13.mono B12.out.size))
            clear hb13 B12
            go_wp2_with fail
            refine (CPl.out _ B13.out).mono ?_
            rintro e W14 ⟨rfl, hb14⟩
            have B14 := hid (B13.out.trans (hb14.mono B13.out.size))
            clear hb14 B13
            go_wp2_with fail
            refine (CPm.out _ B14.out).mono ?_
            rintro e W15 ⟨rfl, hb15⟩
            have B15 := hid (B14.out.trans (hb15.mono B14.out.size))
            clear hb15 B14
            go_wp2_with fail
            refine (CPa.out _ B15.out).mono ?_
            rintro e W16 ⟨rfl, hb16⟩
            have B16 := hid (B15.out.trans (hb16.mono B15.out.size))
            clear hb16 B15
            go_wp2_with fail
            go_ret
            exact ⟨rfl, B0.out.trans (B16.out.mono B0.out.size)⟩
          · exact absurd (e _ rfl) (by simp)
          · exact absurd (e _ rfl) (by simp)
    · rcases KM with ⟨rfl, rfl⟩ | ⟨rfl, hs2, rfl⟩ | ⟨rfl, hs2, rfl⟩
      · rcases KLM with ⟨rfl, rfl⟩ | ⟨rfl, _, _⟩ | ⟨rfl, _, _⟩
        · clear KT ka hS
          simp only [Bool.and_false, Bool.false_and] at CRa
          go_wp2_with fail
          refine (CDa.out _ B9.out).mono ?_
          rintro e W10 ⟨rfl, hb10⟩
          have B10 := hid (B9.out.trans (hb10.mono B9.out.size))
          clear hb10 B9
          go_wp2_with fail
          refine (CRa.out _ B10.out).mono ?_
          rintro e W11 ⟨rfl, hb11⟩
          have B11 := hid (B10.out.trans (hb11.mono B10.out.size))
          clear hb11 B10
          go_wp2_with fail
          refine (CRl.out _ B11.out).mono ?_
          rintro e W12 ⟨rfl, hb12⟩
          have B12 := hid (B11.out.trans (hb12.mono B11.out.size))
          clear hb12 B11
          go_wp2_with fail
          refine (CRm.out _ B12.out).mono ?_
          rintro e W13 ⟨rfl, hb13⟩
          have B13 := hid (B12.out.trans (hb13.mono B12.out.size))
          clear hb13 B12
          go_wp2_with fail
          refine (CPl.out _ B13.out).mono ?_
          rintro e W14 ⟨rfl, hb14⟩
          have B14 := hid (B13.out.trans (hb14.mono B13.out.size))
          clear hb14 B13
          go_wp2_with fail
          refine (CPm.out _ B14.out).mono ?_
          rintro e W15 ⟨rfl, hb15⟩
          have B15 := hid (B14.out.trans (hb15.mono B14.out.size))
          clear hb15 B14
          go_wp2_with fail
          refine (CPa.out _ B15.out).mono ?_
          rintro e W16 ⟨rfl, hb16⟩
          have B16 := hid (B15.out.trans (hb16.mono B15.out.size))
          clear hb16 B15
          go_wp2_with fail
          go_ret
          exact ⟨rfl, B0.out.trans (B16.out.mono B0.out.size)⟩
        · exact absurd (ka _ rfl) (by simp)
        · exact absurd (ka _ rfl) (by simp)
      · by_cases hle : N ≤ 30
        · have e := ka
          have hli : (N : Int) ≤ 30 := by omega
          simp only [Bool.and_self, decide_eq_true hle] at CRa e
          rcases KLM with ⟨rfl, rfl⟩ | ⟨rfl, hs3, rfl⟩ | ⟨rfl, hs3, rfl⟩
          · exact absurd (e _ rfl) (by simp)
          · clear KT ka e
            go_wp2_with fail
            refine (CDa.out _ B9.out).mono ?_
            rintro e W10 ⟨rfl, hb10⟩
            have B10 := hid (B9.out.trans (hb10.mono B9.out.size))
            clear hb10 B9
            go_wp2_with fail
            refine (CRa.out _ B10.out).mono ?_
            rintro e W11 ⟨rfl, hb11⟩
            have B11 := hid (B10.out.trans (hb11.mono B10.out.size))
            clear hb11 B10
            go_wp2_with fail
            refine (CRl.out _ B11.out).mono ?_
            rintro e W12 ⟨rfl, hb12⟩
            have B12 := hid (B11.out.trans (hb12.mono B11.out.size))
            clear hb12 B11
            go_wp2_with fail
            refine (CRm.out _ B12.out).mono ?_
            rintro e W13 ⟨rfl, hb13⟩
            have B13 := hid (B12.out.trans (hb13.mono B12.out.size))
            clear hb13 B12
            go_wp2_with fail
            refine (CPl.out _ B13.out).mono ?_
            rintro e W14 ⟨rfl, hb14⟩
            have B14 := hid (B13.out.trans (hb14.mono B13.out.size))
            clear hb14 B13
            go_wp2_with fail
            refine (CPm.out _ B14.out).mono ?_
            rintro e W15 ⟨rfl, hb15⟩
            have B15 := hid (B14.out.trans (hb15.mono B14.out.size))
            clear hb15 B14
            go_wp2_with fail
            refine (CPa.out _ B15.out).mono ?_
            rintro e W16 ⟨rfl, hb16⟩
            have B16 := hid (B15.out.trans (hb16.mono B15.out.size))
            clear hb16 B15
            go_wp2_with fail
            go_ret
            exact ⟨rfl, B0.out.trans (B16.out.mono B0.out.size)⟩
          · omega
        · have e := ka
          have hli : ¬ (N : Int) ≤ 30 := by omega
          simp only [Bool.and_self, Bool.true_and, decide_eq_false hle] at CRa e
          rcases KLM with ⟨rfl, rfl⟩ | ⟨rfl, hs3, _⟩ | ⟨rfl, hs3, _⟩
          · clear KT ka e
            go_wp2_with fail
            refine (CDa.out _ B9.out).mono ?_
            rintro e W10 ⟨rfl, hb10⟩
            have B10 := hid (B9.out.trans (hb10.mono B9.out.size))
            clear hb10 B9
            go_wp2_with fail
            refine (CRa.out _ B10.out).mono ?_
            rintro e W11 ⟨rfl, hb11⟩
            have B11 := hid (B10.out.trans (hb11.mono B10.out.size))
            clear hb11 B10
            go_wp2_with fail
            refine (CRl.out _ B11.out).mono ?_
            rintro e W12 ⟨rfl, hb12⟩
            have B12 := hid (B11.out.trans (hb12.mono B11.out.size))
            clear hb12 B11
            go_wp2_with fail
            refine (CRm.out _ B12.out).mono ?_
            rintro e W13 ⟨rfl, hb13⟩
            have B13 := hid (B12.out.trans (hb13.mono B12.out.size))
            clear hb13 B12
            go_wp2_with fail
            refine (CPl.out _ B13.out).mono ?_
            rintro e W14 ⟨rfl, hb14⟩
            have B14 := hid (B13.out.trans (hb14.mono B13.out.size))
            clear hb14 B13
            go_wp2_with fail
            refine (CPm.out _ B14.out).mono ?_
            rintro e W15 ⟨rfl, hb15⟩
            have B15 := hid (B14.out.trans (hb15.mono B14.out.size))
            clear hb15 B14
            go_wp2_with fail
            refine (CPa.out _ B15.out).mono ?_
            rintro e W16 ⟨rfl, hb16⟩
            have B16 := hid (B15.out.trans (hb16.mono B15.out.size))
            clear hb16 B15
            go_wp2_with fail
            go_ret
            exact ⟨rfl, B0.out.trans (B16.out.mono B0.out.size)⟩
          · exact absurd (e _ rfl) (by simp)
          · exact absurd (e _ rfl) (by simp)
      · by_cases hle : N ≤ 30
        · have e := ka
          have hli : (N : Int) ≤ 30 := by omega
          simp only [Bool.and_self, decide_eq_true hle] at CRa e
          rcases KLM with ⟨rfl, rfl⟩ | ⟨rfl, hs3, rfl⟩ | ⟨rfl, hs3, rfl⟩
          · exact absurd (e _ rfl) (by simp)
          · clear KT ka e
            have hs4 : 20000 < S.size + R.size := by omega
            go_wp2_with fail
            refine (CDa.out _ B9.out).mono ?_
            rintro e W10 ⟨rfl, hb10⟩
            have B10 := hid (B9.out.trans (hb10.mono B9.out.size))
            clear hb10 B9
            go_wp2_with fail
            refine (CRa.out _ B10.out).mono ?_
            rintro e W11 ⟨rfl, hb11⟩
            have B11 := hid (B10.out.trans (hb11.mono B10.out.size))
            clear hb11 B10
            go_wp2_with fail
            refine (CRl.out _ B11.out).mono ?_
            rintro e W12 ⟨rfl, hb12⟩
            have B12 := hid (B11.out.trans (hb12.mono B11.out.size))
            clear hb12 B11
            go_wp2_with fail
            refine (CRm.out _ B12.out).mono ?_
            rintro e W13 ⟨rfl, hb13⟩
            have B13 := hid (B12.out.trans (hb13.mono B12.out.size))
            clear hb13 B12
            go_wp2_with fail
            refine (CPl.out _ B13.out).mono ?_
            rintro e W14 ⟨rfl, hb14⟩
            have B14 := hid (B13.out.trans (hb14.mono B13.out.size))
            clear hb14 B13
            go_wp2_with fail
            refine (CPm.out _ B14.out).mono ?_
            rintro e W15 ⟨rfl, hb15⟩
            have B15 := hid (B14.out.trans (hb15.mono B14.out.size))
            clear hb15 B14
            go_wp2_with fail
            refine (CPa.out _ B15.out).mono ?_
            rintro e W16 ⟨rfl, hb16⟩
            have B16 := hid (B15.out.trans (hb16.mono B15.out.size))
            clear hb16 B15
            go_wp2_with fail
            go_ret
            exact ⟨rfl, B0.out.trans (B16.out.mono B0.out.size)⟩
          · clear KT ka e
            have hs4 : ¬ 20000 < S.size + R.size := by omega
            go_wp2_with fail
            refine (CDa.out _ B9.out).mono ?_
            rintro e W10 ⟨rfl, hb10⟩
            have B10 := hid (B9.out.trans (hb10.mono B9.out.size))
            clear hb10 B9
            go_wp2_with fail
            refine (CRa.out _ B10.out).mono ?_
            rintro e W11 ⟨rfl, hb11⟩
            have B11 := hid (B10.out.trans (hb11.mono B10.out.size))
            clear hb11 B10
            go_wp2_with fail
            refine (CRl.out _ B11.out).mono ?_
            rintro e W12 ⟨rfl, hb12⟩
            have B12 := hid (B11.out.trans (hb12.mono B11.out.size))
            clear hb12 B11
            go_wp2_with fail
            refine (CRm.out _ B12.out).mono ?_
            rintro e W13 ⟨rfl, hb13⟩
            have B13 := hid (B12.out.trans (hb13.mono B12.out.size))
            clear hb13 B12
            go_wp2_with fail
            refine (CPl.out _ B13.out).mono ?_
            rintro e W14 ⟨rfl, hb14⟩
            have B14 := hid (B13.out.trans (hb14.mono B13.out.size))
            clear hb14 B13
            go_wp2_with fail
            refine (CPm.out _ B14.out).mono ?_
            rintro e W15 ⟨rfl, hb15⟩
            have B15 := hid (B14.out.trans (hb15.mono B14.out.size))
            clear hb15 B14
            go_wp2_with fail
            refine (CPa.out _ B15.out).mono ?_
            rintro e W16 ⟨rfl, hb16⟩
            have B16 := hid (B15.out.trans (hb16.mono B15.out.size))
            clear hb16 B15
            go_wp2_with fail
            go_ret
            exact ⟨by rw [← HSR.out]; simp, B0.out.trans (B16.out.mono B0.out.size)⟩
        · have e := ka
          have hli : ¬ (N : Int) ≤ 30 := by omega
          simp only [Bool.and_self, Bool.true_and, decide_eq_false hle] at CRa e
          rcases KLM with ⟨rfl, rfl⟩ | ⟨rfl, hs3, _⟩ | ⟨rfl, hs3, _⟩
          · clear KT ka e
            go_wp2_with fail
            refine (CDa.out _ B9.out).mono ?_
            rintro e W10 ⟨rfl, hb10⟩
            have B10 := hid (B9.out.trans (hb10.mono B9.out.size))
            clear hb10 B9
            go_wp2_with fail
            refine (CRa.out _ B10.out).mono ?_
            rintro e W11 ⟨rfl, hb11⟩
            have B11 := hid (B10.out.trans (hb11.mono B10.out.size))
            clear hb11 B10
            go_wp2_with fail
            refine (CRl.out _ B11.out).mono ?_
            rintro e W12 ⟨rfl, hb12⟩
            have B12 := hid (B11.out.trans (hb12.mono B11.out.size))
            clear hb12 B11
            go_wp2_with fail
            refine (CRm.out _ B12.out).mono ?_
            rintro e W13 ⟨rfl, hb13⟩
            have B13 := hid (B12.out.trans (hb13.mono B12.out.size))
            clear hb13 B12
            go_wp2_with fail
            refine (CPl.out _ B13.out).mono ?_
            rintro e W14 ⟨rfl, hb14⟩
            have B14 := hid (B13.out.trans (hb14.mono B13.out.size))
            clear hb14 B13
            go_wp2_with fail
            refine (CPm.out _ B14.out).mono ?_
            rintro e W15 ⟨rfl, hb15⟩
            have B15 := hid (B14.out.trans (hb15.mono B14.out.size))
            clear hb15 B14
            go_wp2_with fail
            refine (CPa.out _ B15.out).mono ?_
            rintro e W16 ⟨rfl, hb16⟩
            have B16 := hid (B15.out.trans (hb16.mono B15.out.size))
            clear hb16 B15
            go_wp2_with fail
            go_ret
            exact ⟨rfl, B0.out.trans (B16.out.mono B0.out.size)⟩
          · exact absurd (e _ rfl) (by simp)
          · exact absurd (e _ rfl) (by simp)
end Go.Proofs.YtjkdcladjjpmoaaGreatDoor.TextC

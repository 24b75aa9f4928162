/- Contracts of the lexer's pieces: prefixes, blank, words, numbers, lives, marks, and the sign at a place. -/
import Derived.Test.YtjkdcladjjpmoaaGreatDoorJ00
namespace Go.Proofs.YtjkdcladjjpmoaaGreatDoor.LexC
open Go Go.RowKit Go.Lib Go.Proofs.YtjkdcladjjpmoaaGreatDoor.LexP

theorem tail_list (s : ByteArray) (a : Nat) : (s.extract a s.size).data.toList = s.data.toList.drop a := by
  rw [Lib.extract_data, List.take_of_length_le]
  rw [List.length_drop, ← Lib.size_eq]
  exact Nat.le_refl _

set_option maxHeartbeats 400000 in
theorem prefix_in (s p : ByteArray) (w : World) (_hs : s.size ≤ 9223372036854775807) (_hp : p.size ≤ 9223372036854775807) : Calls Tryz.prog 192 #[.string s, .string p] w fun e w' => e = .returned (.bool (Lib.hasPrefix s.data.toList p.data.toList)) ∧ w = w' := by
  rw [← Lib.hasPrefix_of_take, ← Lib.size_eq, ← Lib.size_eq]
  by_cases h : p.size ≤ s.size
  · go_enter Tryz.func192, Tryz.ntmps192
    go_wp2
    go_ret
    refine ⟨?_, rfl⟩
    show Ending.returned (Value.bool ((s.extract 0 p.size).toList == p.toList)) = _
    rw [Lib.extract_toList, Lib.toList_data]
    simp [h]
  · go_enter Tryz.func192, Tryz.ntmps192
    go_wp2
    go_ret
    refine ⟨?_, rfl⟩
    show Ending.returned (Value.bool false) = _
    simp [h]
set_option maxHeartbeats 400000 in
theorem prefix_any (s p : ByteArray) (w : World) (hs : s.size ≤ 9223372036854775807) (hp : p.size ≤ 9223372036854775807) : Calls Tryz.prog 160 #[.string s, .string p] w fun e w' => e = .returned (.bool (Lib.hasPrefix s.data.toList p.data.toList)) ∧ w = w' := by
  have c1 := prefix_in s p w hs hp
  generalize Lib.hasPrefix s.data.toList p.data.toList = b at *
  go_enter Tryz.func160, Tryz.ntmps160
  go_wp2_with (go_at_call 192; refine c1.mono ?_; rintro e w' ⟨rfl, rfl⟩)
  go_ret
  exact ⟨rfl, rfl⟩
theorem hasPrefix_two (l : List UInt8) (a b : UInt8) : Lib.hasPrefix l [a, b] = (match l with | x :: y :: _ => x == a && y == b | _ => false) := by
  rw [← Lib.hasPrefix_of_take]
  rcases l with _ | ⟨x, _ | ⟨y, r⟩⟩ <;> simp
theorem hasPrefix_rem (l : List UInt8) : Lib.hasPrefix l [47, 47] = rem l := by
  rw [hasPrefix_two]
  rcases l with _ | ⟨x, _ | ⟨y, r⟩⟩ <;> simp only [rem]
  rw [Bool.eq_iff_iff]
  simp [← UInt8.toNat_inj]
theorem prefix_rem (s : ByteArray) (w : World) (hs : s.size ≤ 9223372036854775807) : Calls Tryz.prog 160 #[.string s, .string ⟨#[47, 47]⟩] w fun e w' => e = .returned (.bool (rem s.data.toList)) ∧ w = w' := by
  have h := prefix_any s ⟨#[47, 47]⟩ w hs (by decide)
  rwa [show (⟨#[47, 47]⟩ : ByteArray).data.toList = [47, 47] from rfl, hasPrefix_rem] at h

set_option maxHeartbeats 1000000 in
theorem blank_any (s : ByteArray) (w : World) (hs : s.size ≤ 4611686018427387904) :
    Calls Tryz.prog 110 #[.string s] w fun e w' => e = .returned (.int .i64 ((skip s.data.toList : Nat) : Int)) ∧ Below w.heap.size w w' := by
  have HL := hid (Lib.size_eq s)
  go_enter Tryz.func110, Tryz.ntmps110
  go_wp2
  go_loopg [3] s.size (fun gf v wx => ∃ a : Nat, v = .int .i64 (a : Int) ∧ a ≤ s.size ∧ s.size ≤ a + gf ∧ Hid (a + skip (s.data.toList.drop a) = skip s.data.toList) ∧ Below w.heap.size w wx)
  case atStart => exact ⟨0, rfl, by omega, by omega, hid (by simp), Below.refl _ _⟩
  case round =>
    obtain ⟨a, rfl, ha, hg, HS, hb⟩ := hrel
    have t1 := tail_list s a
    have s1 : (s.extract a s.size).size = s.size - a := by simp
    have hl1 := span_le isBl (s.data.toList.drop a)
    rw [List.length_drop, ← Lib.size_eq] at hl1
    have c1 : ∀ W, Calls Tryz.prog 158 _ W _ := fun W => span_any _ _ _ tests_bl goes_bl (s.extract a s.size) W
    rw [t1] at c1
    have k1 := skip_span (s.data.toList.drop a)
    have kz := skip_zero (s.data.toList.drop a)
    obtain ⟨n, hn⟩ : ∃ n, span isBl (s.data.toList.drop a) = n := ⟨_, rfl⟩
    rw [hn] at c1 hl1 k1 kz
    rw [List.drop_drop] at k1
    have t2 := tail_list s (a + n)
    have c2 : ∀ W, Calls Tryz.prog 160 _ W _ := fun W => prefix_rem (s.extract (a + n) s.size) W (by simp; omega)
    have c3 : ∀ W, Calls Tryz.prog 158 _ W _ := fun W => span_any _ _ _ tests_rem goes_rem (s.extract (a + n) s.size) W
    rw [t2] at c2 c3
    have hl2 := span_le inRem (s.data.toList.drop (a + n))
    rw [List.length_drop, ← Lib.size_eq] at hl2
    obtain ⟨m, hm⟩ : ∃ m, span inRem (s.data.toList.drop (a + n)) = m := ⟨_, rfl⟩
    rw [hm] at c3 hl2
    cases hr : rem (s.data.toList.drop (a + n)) with
    | true =>
      have k2 := skip_rem _ hr
      have k3 := (rem_blank _ hr).2
      rw [hm, List.drop_drop] at k2
      rw [hm] at k3
      rw [hr] at c2
      have C1 := hid c1
      have C2 := hid c2
      have C3 := hid c3
      have K : Hid (a + n + m + skip (s.data.toList.drop (a + n + m)) = skip s.data.toList) := hid (by have := HS.out; omega)
      have hz : ¬ ((n : Int) + (m : Int) = 0) := by omega
      clear c1 c2 c3 k1 k2 kz hr hm hn t1 t2 s1
      go_wp2_with fail
      refine (C1.out _).mono ?_
      rintro e W1 ⟨rfl, hb1⟩
      go_wp2_with fail
      refine (C2.out _).mono ?_
      rintro e W2 ⟨rfl, rfl⟩
      go_wp2_with fail
      refine (C3.out _).mono ?_
      rintro e W2 ⟨rfl, hb2⟩
      have B : Below w.heap.size w W2 := hb.trans ((hb1.trans (hb2.mono hb1.size)).mono hb.size)
      clear hb hb1 hb2
      go_wp2_with fail
      go_roundg (s.size - (a + n + m))
      case measure => omega
      case rel => exact ⟨a + n + m, by go_num, by omega, by omega, K, B⟩
    | false =>
      rw [hr] at c2
      by_cases hn0 : n = 0
      · subst hn0
        have K : Hid (a = skip s.data.toList) := hid (by have := HS.out; have := kz rfl hr; omega)
        have C1 := hid c1
        have C2 := hid c2
        clear c1 c2 c3 k1 kz hr hm hn t1 t2 s1
        go_wp2_with fail
        refine (C1.out _).mono ?_
        rintro e W1 ⟨rfl, hb1⟩
        go_wp2_with fail
        refine (C2.out _).mono ?_
        rintro e W2 ⟨rfl, rfl⟩
        have B : Below w.heap.size w W1 := hb.trans (hb1.mono hb.size)
        clear hb hb1
        go_wp2_with fail
        go_ret
        exact ⟨ret_int (by rw [← K.out]), B⟩
      · have K : Hid (a + n + skip (s.data.toList.drop (a + n)) = skip s.data.toList) := hid (by have := HS.out; omega)
        have C1 := hid c1
        have C2 := hid c2
        have hz : ¬ ((n : Int) = 0) := by omega
        clear c1 c2 c3 k1 kz hr hm hn t1 t2 s1
        go_wp2_with fail
        refine (C1.out _).mono ?_
        rintro e W1 ⟨rfl, hb1⟩
        go_wp2_with fail
        refine (C2.out _).mono ?_
        rintro e W2 ⟨rfl, rfl⟩
        have B : Below w.heap.size w W1 := hb.trans (hb1.mono hb.size)
        clear hb hb1
        go_wp2_with fail
        go_roundg (s.size - (a + n))
        case measure => omega
        case rel => exact ⟨a + n, by go_num, by omega, by omega, K, B⟩

set_option maxHeartbeats 1000000 in
theorem number_any (s : ByteArray) (w : World) (_hs : s.size ≤ 4611686018427387904) :
    Calls Tryz.prog 163 #[.string s] w fun e w' => e = .returned (.int .i64 ((numN s.data.toList : Nat) : Int)) ∧ Below w.heap.size w w' := by
  have c1 : ∀ W, Calls Tryz.prog 158 _ W _ := fun W => span_any _ _ _ tests_dig goes_dig s W
  have hl := span_le isDig s.data.toList
  rw [← Lib.size_eq] at hl
  unfold numN
  generalize span isDig s.data.toList = n at *
  have C1 := hid c1
  clear c1
  by_cases h : 18 < n
  · rw [if_pos h]
    go_enter Tryz.func163, Tryz.ntmps163
    go_wp2_with (go_at_call 158; refine (C1.out _).mono ?_; rintro e w1 ⟨rfl, hb⟩)
    go_ret
    exact ⟨rfl, by assumption⟩
  · rw [if_neg h]
    go_enter Tryz.func163, Tryz.ntmps163
    go_wp2_with (go_at_call 158; refine (C1.out _).mono ?_; rintro e w1 ⟨rfl, hb⟩)
    go_ret
    exact ⟨rfl, by assumption⟩

set_option maxHeartbeats 1000000 in
theorem word_any (s : ByteArray) (w : World) (_hs : s.size ≤ 4611686018427387904) :
    Calls Tryz.prog 162 #[.string s] w fun e w' => e = .returned (.int .i64 ((wordN s.data.toList : Nat) : Int)) ∧ Below w.heap.size w w' := by
  have c1 : ∀ W, Calls Tryz.prog 158 _ W _ := fun W => span_any _ _ _ tests_wd goes_wd s W
  have c2 : ∀ W, Calls Tryz.prog 158 _ W _ := fun W => span_any _ _ _ tests_dig goes_dig s W
  have hl := span_le inWd s.data.toList
  have hl2 := span_le isDig s.data.toList
  rw [← Lib.size_eq] at hl hl2
  unfold wordN
  generalize span inWd s.data.toList = n at *
  generalize span isDig s.data.toList = m at *
  have C1 := hid c1
  have C2 := hid c2
  clear c1 c2
  by_cases h : 30 < n
  · rw [if_pos (.inl h)]
    go_enter Tryz.func162, Tryz.ntmps162
    go_wp2_with fail
    refine (C1.out _).mono ?_
    rintro e w1 ⟨rfl, hb⟩
    go_wp2_with fail
    go_ret
    exact ⟨rfl, hb⟩
  · by_cases h2 : 0 < m
    · rw [if_pos (.inr h2)]
      go_enter Tryz.func162, Tryz.ntmps162
      go_wp2_with fail
      refine (C1.out _).mono ?_
      rintro e w1 ⟨rfl, hb⟩
      go_wp2_with fail
      refine (C2.out _).mono ?_
      rintro e w2 ⟨rfl, hb2⟩
      go_wp2_with fail
      go_ret
      exact ⟨rfl, hb.trans (hb2.mono hb.size)⟩
    · rw [if_neg (by omega)]
      go_enter Tryz.func162, Tryz.ntmps162
      go_wp2_with fail
      refine (C1.out _).mono ?_
      rintro e w1 ⟨rfl, hb⟩
      go_wp2_with fail
      refine (C2.out _).mono ?_
      rintro e w2 ⟨rfl, hb2⟩
      go_wp2_with fail
      go_ret
      exact ⟨rfl, hb.trans (hb2.mono hb.size)⟩

theorem prefix_quote (s : ByteArray) (w : World) (hs : s.size ≤ 4611686018427387904) : Calls Tryz.prog 192 #[.string s, .string ⟨#[39]⟩] w fun e w' => e = .returned (.bool (match s.data.toList with | c :: _ => c.toNat == 39 | [] => false)) ∧ w = w' := by
  have h := prefix_in s ⟨#[39]⟩ w (by omega) (by decide)
  rw [show (⟨#[39]⟩ : ByteArray).data.toList = [39] from rfl, ← Lib.hasPrefix_of_take] at h
  have e : (decide ([(39 : UInt8)].length ≤ s.data.toList.length) && (List.take [(39 : UInt8)].length s.data.toList == [39])) = (match s.data.toList with | c :: _ => c.toNat == 39 | [] => false) := by
    rcases s.data.toList with _ | ⟨c, r⟩
    · simp
    · rw [Bool.eq_iff_iff]
      simp [← UInt8.toNat_inj]
  rwa [e] at h
set_option maxHeartbeats 1000000 in
theorem life_any (s : ByteArray) (w : World) (hs : s.size ≤ 4611686018427387904) :
    Calls Tryz.prog 164 #[.string s] w fun e w' => e = .returned (.int .i64 ((lifeN s.data.toList : Nat) : Int)) ∧ Below w.heap.size w w' := by
  have c0 : ∀ W, Calls Tryz.prog 192 _ W _ := fun W => prefix_quote s W hs
  have t1 := tail_list s 1
  have c1 : ∀ W, Calls Tryz.prog 162 _ W _ := fun W => word_any (s.extract 1 s.size) W (by simp; omega)
  rw [t1] at c1
  have hw := wordN_le (s.data.toList.drop 1)
  have hz := Lib.size_eq s
  generalize hl : s.data.toList = l at *
  rcases l with _ | ⟨c, r⟩
  · have C0 := hid c0
    clear c0 c1 t1 hl
    have HZ := hid hz
    clear hz
    simp only [lifeN]
    go_enter Tryz.func164, Tryz.ntmps164
    go_wp2_with (first | (go_at_call 192; refine (C0.out _).mono ?_; rintro e w1 ⟨rfl, rfl⟩) | go_in)
    go_ret
    exact ⟨rfl, Below.refl _ _⟩
  · simp only [List.drop_succ_cons, List.drop_zero] at c1 hw
    have h1 : 1 ≤ s.size := by rw [hz]; simp
    simp only [lifeN]
    generalize wordN r = n at *
    by_cases h39 : c.toNat = 39
    · have e39 : (c.toNat == 39) = true := by simp [h39]
      simp only [e39] at c0
      have C0 := hid c0
      have C1 := hid c1
      have HZ := hid hz
      by_cases hn : n = 0
      · subst hn
        rw [if_neg (by omega)]
        clear c0 c1 t1 hl e39 h39 hz
        go_enter Tryz.func164, Tryz.ntmps164
        go_wp2_with (first | (go_at_call 192; refine (C0.out _).mono ?_; rintro e w1 ⟨rfl, rfl⟩) | (go_at_call 162; refine (C1.out _).mono ?_; rintro e w1 ⟨rfl, hb⟩) | go_in)
        go_ret
        exact ⟨rfl, by assumption⟩
      · rw [if_pos ⟨h39, by omega⟩]
        have hn' : ¬ ((n : Int) = 0) := by omega
        clear c0 c1 t1 hl e39 h39 hz
        go_enter Tryz.func164, Tryz.ntmps164
        go_wp2_with (first | (go_at_call 192; refine (C0.out _).mono ?_; rintro e w1 ⟨rfl, rfl⟩) | (go_at_call 162; refine (C1.out _).mono ?_; rintro e w1 ⟨rfl, hb⟩) | go_in)
        go_ret
        exact ⟨ret_int (by omega), by assumption⟩
    · have e39 : (c.toNat == 39) = false := by simp [h39]
      simp only [e39] at c0
      have C0 := hid c0
      have HZ := hid hz
      rw [if_neg (by omega)]
      clear c0 c1 t1 hl e39 h39 hz
      go_enter Tryz.func164, Tryz.ntmps164
      go_wp2_with (first | (go_at_call 192; refine (C0.out _).mono ?_; rintro e w1 ⟨rfl, rfl⟩) | go_in)
      go_ret
      exact ⟨rfl, Below.refl _ _⟩
end Go.Proofs.YtjkdcladjjpmoaaGreatDoor.LexC

/- Texts joined: LexScan, Shelf, LexMark. -/
import Derived.Test.YtemflcojebanlaaGreatDoorJ00
import Derived.Shelf.Small.Utf8
import Derived.Shelf.Small.Strs
import Derived.Shelf.Small.Wraps
import Derived.Shelf.Strings.Search1
import Derived.Shelf.Strings.Prefix
import Derived.Shelf.Strings.Runes
import Derived.Shelf.Unicode.DecodeSlow
import Derived.Shelf.Unicode.DecodeAny
import Derived.Test.YtemflcojebanlaaGreatDoorProg
import Derived.Deep.QuietTactic
import Derived.BigQuiet
/- Contracts of the lexer's pieces: prefixes, blank, words, numbers, lives, marks, and the sign at a place. -/
namespace Go.Proofs.YtemflcojebanlaaGreatDoor.LexC
open Go Go.RowKit Go.Lib LexP

theorem tail_list (s : ByteArray) (a : Nat) : (s.extract a s.size).data.toList = s.data.toList.drop a := by
 rw [Lib.extract_data, List.take_of_length_le]
 rw [List.length_drop, ← Lib.size_eq]
 exact Nat.le_refl _

set_option maxHeartbeats 400000 in
theorem prefix_in (s p : ByteArray) (w : World) (_hs : s.size ≤ 9223372036854775807) (_hp : p.size ≤ 9223372036854775807) : Calls Tryz.prog 147 #[.string s, .string p] w fun e w' => e = .returned (.bool (Lib.hasPrefix s.data.toList p.data.toList)) ∧ w = w' := by
 rw [← Lib.hasPrefix_of_take, ← Lib.size_eq, ← Lib.size_eq]
 by_cases h : p.size ≤ s.size
 ·go_enter Tryz.func147, Tryz.ntmps147
  go_wp2
  go_ret
  refine ⟨?_, rfl⟩
  show Ending.returned (Value.bool ((s.extract 0 p.size).toList == p.toList)) = _
  rw [Lib.extract_toList, Lib.toList_data]
  simp [h]
 ·go_enter Tryz.func147, Tryz.ntmps147
  go_wp2
  go_ret
  refine ⟨?_, rfl⟩
  show Ending.returned (Value.bool false) = _
  simp [h]
set_option maxHeartbeats 400000 in
theorem prefix_any (s p : ByteArray) (w : World) (hs : s.size ≤ 9223372036854775807) (hp : p.size ≤ 9223372036854775807) : Calls Tryz.prog 137 #[.string s, .string p] w fun e w' => e = .returned (.bool (Lib.hasPrefix s.data.toList p.data.toList)) ∧ w = w' := by
 have c1 := prefix_in s p w hs hp
 generalize Lib.hasPrefix s.data.toList p.data.toList = b at *
 go_enter Tryz.func137, Tryz.ntmps137
 go_wp2_with (go_at_call 147; refine c1.mono ?_; rintro e w' ⟨rfl, rfl⟩)
 go_ret
 exact ⟨rfl, rfl⟩
theorem hasPrefix_two (l : List UInt8) (a b : UInt8) : Lib.hasPrefix l [a, b] = (match l with | x :: y :: _ => x == a && y == b | _ => false) := by
 rw [← Lib.hasPrefix_of_take]
 rcases l with _ | ⟨x, _ | ⟨y, r⟩⟩ <;> simp
theorem hasPrefix_rem (l : List UInt8) : Lib.hasPrefix l [47, 47] = rem l := by
 rw [hasPrefix_two]
 rcases l with _ | ⟨x, _ | ⟨y, r⟩⟩ <;> simp only [rem]
 rw [Bool.eq_iff_iff]
 simp [← UInt8.toNat_inj]
theorem prefix_rem (s : ByteArray) (w : World) (hs : s.size ≤ 9223372036854775807) : Calls Tryz.prog 137 #[.string s, .string ⟨#[47, 47]⟩] w fun e w' => e = .returned (.bool (rem s.data.toList)) ∧ w = w' := by
 have h := prefix_any s ⟨#[47, 47]⟩ w hs (by decide)
 rwa [show (⟨#[47, 47]⟩ : ByteArray).data.toList = [47, 47] from rfl, hasPrefix_rem] at h

set_option maxHeartbeats 1000000 in
theorem blank_any (s : ByteArray) (w : World) (hs : s.size ≤ 4611686018427387904) :
  Calls Tryz.prog 118 #[.string s] w fun e w' => e = .returned (.int .i64 ((skip s.data.toList : Nat) : Int)) ∧ Below w.heap.size w w' := by
 have HL := hid (Lib.size_eq s)
 go_enter Tryz.func118, Tryz.ntmps118
 go_wp2
 go_loopg [3] s.size (fun gf v wx => ∃ a : Nat, v = .int .i64 (a : Int) ∧ a ≤ s.size ∧ s.size ≤ a + gf ∧ Hid (a + skip (s.data.toList.drop a) = skip s.data.toList) ∧ Below w.heap.size w wx)
 case atStart => exact ⟨0, rfl, by omega, by omega, hid (by simp), Below.refl _ _⟩
 case round =>
  obtain ⟨a, rfl, ha, hg, HS, hb⟩ := hrel
  have t1 := tail_list s a
  have s1 : (s.extract a s.size).size = s.size - a := by simp
  have hl1 := span_le isBl (s.data.toList.drop a)
  rw [List.length_drop, ← Lib.size_eq] at hl1
  have c1 : ∀ W, Calls Tryz.prog 135 _ W _ := fun W => span_any _ _ _ tests_bl goes_bl (s.extract a s.size) W
  rw [t1] at c1
  have k1 := skip_span (s.data.toList.drop a)
  have kz := skip_zero (s.data.toList.drop a)
  obtain ⟨n, hn⟩ : ∃ n, span isBl (s.data.toList.drop a) = n := ⟨_, rfl⟩
  rw [hn] at c1 hl1 k1 kz
  rw [List.drop_drop] at k1
  have t2 := tail_list s (a + n)
  have c2 : ∀ W, Calls Tryz.prog 137 _ W _ := fun W => prefix_rem (s.extract (a + n) s.size) W (by simp; omega)
  have c3 : ∀ W, Calls Tryz.prog 135 _ W _ := fun W => span_any _ _ _ tests_rem goes_rem (s.extract (a + n) s.size) W
  rw [t2] at c2 c3
  have hl2 := span_le inRem (s.data.toList.drop (a + n))
  rw [List.length_drop, ← Lib.size_eq] at hl2
  obtain ⟨m, hm⟩ : ∃ m, span inRem (s.data.toList.drop (a + n)) = m := ⟨_, rfl⟩
  rw [hm] at c3 hl2
  cases hr : rem (s.data.toList.drop (a + n)) with
  | true =>
   have k2 := skip_rem _ hr
   have k3 := (rem_blank _ hr).2
   rw [hm, List.drop_drop] at k2
   rw [hm] at k3
   rw [hr] at c2
   have C1 := hid c1
   have C2 := hid c2
   have C3 := hid c3
   have K : Hid (a + n + m + skip (s.data.toList.drop (a + n + m)) = skip s.data.toList) := hid (by have := HS.out; omega)
   have hz : ¬ ((n : Int) + (m : Int) = 0) := by omega
   clear c1 c2 c3 k1 k2 kz hr hm hn t1 t2 s1
   go_wp2_with fail
   refine (C1.out _).mono ?_
   rintro e W1 ⟨rfl, hb1⟩
   go_wp2_with fail
   refine (C2.out _).mono ?_
   rintro e W2 ⟨rfl, rfl⟩
   go_wp2_with fail
   refine (C3.out _).mono ?_
   rintro e W2 ⟨rfl, hb2⟩
   have B : Below w.heap.size w W2 := hb.trans ((hb1.trans (hb2.mono hb1.size)).mono hb.size)
   clear hb hb1 hb2
   go_wp2_with fail
   go_roundg (s.size - (a + n + m))
   case measure => omega
   case rel => exact ⟨a + n + m, by go_num, by omega, by omega, K, B⟩
  | false =>
   rw [hr] at c2
   by_cases hn0 : n = 0
   ·subst hn0
    have K : Hid (a = skip s.data.toList) := hid (by have := HS.out; have := kz rfl hr; omega)
    have C1 := hid c1
    have C2 := hid c2
    clear c1 c2 c3 k1 kz hr hm hn t1 t2 s1
    go_wp2_with fail
    refine (C1.out _).mono ?_
    rintro e W1 ⟨rfl, hb1⟩
    go_wp2_with fail
    refine (C2.out _).mono ?_
    rintro e W2 ⟨rfl, rfl⟩
    have B : Below w.heap.size w W1 := hb.trans (hb1.mono hb.size)
    clear hb hb1
    go_wp2_with fail
    go_ret
    exact ⟨ret_int (by rw [← K.out]), B⟩
   ·have K : Hid (a + n + skip (s.data.toList.drop (a + n)) = skip s.data.toList) := hid (by have := HS.out; omega)
    have C1 := hid c1
    have C2 := hid c2
    have hz : ¬ ((n : Int) = 0) := by omega
    clear c1 c2 c3 k1 kz hr hm hn t1 t2 s1
    go_wp2_with fail
    refine (C1.out _).mono ?_
    rintro e W1 ⟨rfl, hb1⟩
    go_wp2_with fail
    refine (C2.out _).mono ?_
    rintro e W2 ⟨rfl, rfl⟩
    have B : Below w.heap.size w W1 := hb.trans (hb1.mono hb.size)
    clear hb hb1
    go_wp2_with fail
    go_roundg (s.size - (a + n))
    case measure => omega
    case rel => exact ⟨a + n, by go_num, by omega, by omega, K, B⟩

set_option maxHeartbeats 1000000 in
theorem number_any (s : ByteArray) (w : World) (_hs : s.size ≤ 4611686018427387904) :
  Calls Tryz.prog 140 #[.string s] w fun e w' => e = .returned (.int .i64 ((numN s.data.toList : Nat) : Int)) ∧ Below w.heap.size w w' := by
 have c1 : ∀ W, Calls Tryz.prog 135 _ W _ := fun W => span_any _ _ _ tests_dig goes_dig s W
 have hl := span_le isDig s.data.toList
 rw [← Lib.size_eq] at hl
 unfold numN
 generalize span isDig s.data.toList = n at *
 have C1 := hid c1
 clear c1
 by_cases h : 18 < n
 ·rw [if_pos h]
  go_enter Tryz.func140, Tryz.ntmps140
  go_wp2_with (go_at_call 135; refine (C1.out _).mono ?_; rintro e w1 ⟨rfl, hb⟩)
  go_ret
  exact ⟨rfl, by assumption⟩
 ·rw [if_neg h]
  go_enter Tryz.func140, Tryz.ntmps140
  go_wp2_with (go_at_call 135; refine (C1.out _).mono ?_; rintro e w1 ⟨rfl, hb⟩)
  go_ret
  exact ⟨rfl, by assumption⟩

set_option maxHeartbeats 1000000 in
theorem word_any (s : ByteArray) (w : World) (_hs : s.size ≤ 4611686018427387904) :
  Calls Tryz.prog 139 #[.string s] w fun e w' => e = .returned (.int .i64 ((wordN s.data.toList : Nat) : Int)) ∧ Below w.heap.size w w' := by
 have c1 : ∀ W, Calls Tryz.prog 135 _ W _ := fun W => span_any _ _ _ tests_wd goes_wd s W
 have c2 : ∀ W, Calls Tryz.prog 135 _ W _ := fun W => span_any _ _ _ tests_dig goes_dig s W
 have hl := span_le inWd s.data.toList
 have hl2 := span_le isDig s.data.toList
 rw [← Lib.size_eq] at hl hl2
 unfold wordN
 generalize span inWd s.data.toList = n at *
 generalize span isDig s.data.toList = m at *
 have C1 := hid c1
 have C2 := hid c2
 clear c1 c2
 by_cases h : 30 < n
 ·rw [if_pos (.inl h)]
  go_enter Tryz.func139, Tryz.ntmps139
  go_wp2_with fail
  refine (C1.out _).mono ?_
  rintro e w1 ⟨rfl, hb⟩
  go_wp2_with fail
  go_ret
  exact ⟨rfl, hb⟩
 ·by_cases h2 : 0 < m
  ·rw [if_pos (.inr h2)]
   go_enter Tryz.func139, Tryz.ntmps139
   go_wp2_with fail
   refine (C1.out _).mono ?_
   rintro e w1 ⟨rfl, hb⟩
   go_wp2_with fail
   refine (C2.out _).mono ?_
   rintro e w2 ⟨rfl, hb2⟩
   go_wp2_with fail
   go_ret
   exact ⟨rfl, hb.trans (hb2.mono hb.size)⟩
  ·rw [if_neg (by omega)]
   go_enter Tryz.func139, Tryz.ntmps139
   go_wp2_with fail
   refine (C1.out _).mono ?_
   rintro e w1 ⟨rfl, hb⟩
   go_wp2_with fail
   refine (C2.out _).mono ?_
   rintro e w2 ⟨rfl, hb2⟩
   go_wp2_with fail
   go_ret
   exact ⟨rfl, hb.trans (hb2.mono hb.size)⟩

theorem prefix_quote (s : ByteArray) (w : World) (hs : s.size ≤ 4611686018427387904) : Calls Tryz.prog 147 #[.string s, .string ⟨#[39]⟩] w fun e w' => e = .returned (.bool (match s.data.toList with | c :: _ => c.toNat == 39 | [] => false)) ∧ w = w' := by
 have h := prefix_in s ⟨#[39]⟩ w (by omega) (by decide)
 rw [show (⟨#[39]⟩ : ByteArray).data.toList = [39] from rfl, ← Lib.hasPrefix_of_take] at h
 have e : (decide ([(39 : UInt8)].length ≤ s.data.toList.length) && (List.take [(39 : UInt8)].length s.data.toList == [39])) = (match s.data.toList with | c :: _ => c.toNat == 39 | [] => false) := by
  rcases s.data.toList with _ | ⟨c, r⟩
  ·simp
  ·rw [Bool.eq_iff_iff]
   simp [← UInt8.toNat_inj]
 rwa [e] at h
set_option maxHeartbeats 1000000 in
theorem life_any (s : ByteArray) (w : World) (hs : s.size ≤ 4611686018427387904) :
  Calls Tryz.prog 141 #[.string s] w fun e w' => e = .returned (.int .i64 ((lifeN s.data.toList : Nat) : Int)) ∧ Below w.heap.size w w' := by
 have c0 : ∀ W, Calls Tryz.prog 147 _ W _ := fun W => prefix_quote s W hs
 have t1 := tail_list s 1
 have c1 : ∀ W, Calls Tryz.prog 139 _ W _ := fun W => word_any (s.extract 1 s.size) W (by simp; omega)
 rw [t1] at c1
 have hw := wordN_le (s.data.toList.drop 1)
 have hz := Lib.size_eq s
 generalize hl : s.data.toList = l at *
 rcases l with _ | ⟨c, r⟩
 ·have C0 := hid c0
  clear c0 c1 t1 hl
  have HZ := hid hz
  clear hz
  simp only [lifeN]
  go_enter Tryz.func141, Tryz.ntmps141
  go_wp2_with (first | (go_at_call 147; refine (C0.out _).mono ?_; rintro e w1 ⟨rfl, rfl⟩) | go_in)
  go_ret
  exact ⟨rfl, Below.refl _ _⟩
 ·simp only [List.drop_succ_cons, List.drop_zero] at c1 hw
  have h1 : 1 ≤ s.size := by rw [hz]; simp
  simp only [lifeN]
  generalize wordN r = n at *
  by_cases h39 : c.toNat = 39
  ·have e39 : (c.toNat == 39) = true := by simp [h39]
   simp only [e39] at c0
   have C0 := hid c0
   have C1 := hid c1
   have HZ := hid hz
   by_cases hn : n = 0
   ·subst hn
    rw [if_neg (by omega)]
    clear c0 c1 t1 hl e39 h39 hz
    go_enter Tryz.func141, Tryz.ntmps141
    go_wp2_with (first | (go_at_call 147; refine (C0.out _).mono ?_; rintro e w1 ⟨rfl, rfl⟩) | (go_at_call 139; refine (C1.out _).mono ?_; rintro e w1 ⟨rfl, hb⟩) | go_in)
    go_ret
    exact ⟨rfl, by assumption⟩
   ·rw [if_pos ⟨h39, by omega⟩]
    have hn' : ¬ ((n : Int) = 0) := by omega
    clear c0 c1 t1 hl e39 h39 hz
    go_enter Tryz.func141, Tryz.ntmps141
    go_wp2_with (first | (go_at_call 147; refine (C0.out _).mono ?_; rintro e w1 ⟨rfl, rfl⟩) | (go_at_call 139; refine (C1.out _).mono ?_; rintro e w1 ⟨rfl, hb⟩) | go_in)
    go_ret
    exact ⟨ret_int (by omega), by assumption⟩
  ·have e39 : (c.toNat == 39) = false := by simp [h39]
   simp only [e39] at c0
   have C0 := hid c0
   have HZ := hid hz
   rw [if_neg (by omega)]
   clear c0 c1 t1 hl e39 h39 hz
   go_enter Tryz.func141, Tryz.ntmps141
   go_wp2_with (first | (go_at_call 147; refine (C0.out _).mono ?_; rintro e w1 ⟨rfl, rfl⟩) | go_in)
   go_ret
   exact ⟨rfl, Below.refl _ _⟩
end Go.Proofs.YtemflcojebanlaaGreatDoor.LexC
/-
 DERIVED: THE SHELF's CONTRACTS AT THIS DUMP, IN PLAIN WORDS (tools/lay-plain.mjs out of 'TryzShelf.lean', which tools/lay-shelf.mjs wrote): THE SAME DECLARATIONS UNDER THE SAME NAMES: 'import', 'namespace', 'open', 'def', 'theorem' AND NOTHING ELSE: no command of the shelf's: FOR A HAND-IN. Each laying: the table of numbers ('.._ren') and one theorem, a field a fact of the dump's own or the kernel's comparison; each contract: ONE APPLICATION.
-/
namespace Go.Proofs
open Go.Shelf
def Tryz.lays119_ren : Go.Shelf.Ren := ⟨fun | 119 => 161 | n => n, fun | 21 => 21 | 4 => 4 | n => n, fun | n => n⟩
theorem Tryz.lays119 : Go.Proofs.Lays.n119 Tryz.prog Tryz.lays119_ren := {
 mixed := by kernel_rfl
 f119 := Tryz.func161.trans (congrArg some (by kernel_rfl))
 t4 := Tryz.underlying4
 a4 := Tryz.isAgg4
 z4 := Tryz.sizeOf4
 v4 := Tryz.zeroValue4
 t21 := Tryz.underlying21
 a21 := Tryz.isAgg21
 z21 := Tryz.sizeOf21
 v21 := Tryz.zeroValue21 }
/-- utf8.ValidRune: "ValidRune reports whether r can be legally encoded as UTF-8. Code points that are out of range or a surrogate half are illegal.": IT RETURNS 'Lib.validRune r'; the world is as it was. (LAID: no walk: one application.) -/
theorem Tryz.utf8_ValidRune (r : Int) (w : World) :
  Calls Tryz.prog 161 #[.int .i32 r] w fun e w' => e = .returned (.bool (Lib.validRune r)) ∧ w' = w := Any.utf8_ValidRune Tryz.lays119 r w
def Tryz.lays137_ren : Go.Shelf.Ren := ⟨fun | 137 => 160 | 217 => 164 | 266 => 165 | n => n, fun | 9 => 9 | 5 => 5 | 3 => 3 | n => n, fun | n => n⟩
theorem Tryz.lays137 : Go.Proofs.Lays.n137 Tryz.prog Tryz.lays137_ren := {
 mixed := by kernel_rfl
 f137 := Tryz.func160.trans (congrArg some (by kernel_rfl))
 f217 := Tryz.func164.trans (congrArg some (by kernel_rfl))
 f266 := Tryz.func165.trans (congrArg some (by kernel_rfl))
 t3 := Tryz.underlying3
 a3 := Tryz.isAgg3
 z3 := Tryz.sizeOf3
 v3 := Tryz.zeroValue3
 t5 := Tryz.underlying5
 a5 := Tryz.isAgg5
 z5 := Tryz.sizeOf5
 v5 := Tryz.zeroValue5
 t9 := Tryz.underlying9
 a9 := Tryz.isAgg9
 z9 := Tryz.sizeOf9
 v9 := Tryz.zeroValue9 }
open Go.RowKit in
/-- strings.IndexByte: "IndexByte returns the index of the first instance of c in s, or -1 if c is not present in s.": IT RETURNS 'Lib.indexByte s c'; the world is as it was. (LAID: no walk: one application.) -/
theorem Tryz.strings_IndexByte (s : ByteArray) (c : Int) (w : World) :
  Calls Tryz.prog 160 #[.string s, .int .u8 c] w fun e w' => e = .returned (.int .i64 (Lib.indexByte s.data.toList c.toNat.toUInt8)) ∧ w' = w := Any.strings_IndexByte Tryz.lays137 s c w
def Tryz.lays210_ren : Go.Shelf.Ren := ⟨fun | 210 => 157 | 206 => 147 | n => n, fun | 9 => 9 | 4 => 4 | 3 => 3 | n => n, fun | n => n⟩
def Tryz.lays103_ren : Go.Shelf.Ren := ⟨fun | 103 => 150 | 210 => 157 | 206 => 147 | n => n, fun | 9 => 9 | 4 => 4 | 24 => 202 | 3 => 3 | n => n, fun | n => n⟩
def Tryz.lays217_ren : Go.Shelf.Ren := ⟨fun | 217 => 164 | 266 => 165 | n => n, fun | 9 => 9 | 5 => 5 | 3 => 3 | n => n, fun | n => n⟩
def Tryz.lays224_ren : Go.Shelf.Ren := ⟨fun | 224 => 162 | n => n, fun | 3 => 3 | n => n, fun | n => n⟩
def Tryz.lays206_ren : Go.Shelf.Ren := ⟨fun | 206 => 147 | n => n, fun | 9 => 9 | 4 => 4 | 3 => 3 | n => n, fun | n => n⟩
def Tryz.lays99_ren : Go.Shelf.Ren := ⟨fun | 99 => 137 | 206 => 147 | n => n, fun | 9 => 9 | 4 => 4 | 3 => 3 | n => n, fun | n => n⟩
def Tryz.lays152_ren : Go.Shelf.Ren := ⟨fun | 152 => 159 | 137 => 160 | 119 => 161 | 224 => 162 | 225 => 163 | 217 => 164 | 266 => 165 | n => n, fun | 9 => 9 | 21 => 21 | 3 => 3 | 4 => 4 | 5 => 5 | 0 => 0 | 46 => 212 | n => n, fun | n => n⟩
def Tryz.lays151_ren : Go.Shelf.Ren := ⟨fun | 151 => 152 | 152 => 159 | 137 => 160 | 119 => 161 | 224 => 162 | 225 => 163 | 217 => 164 | 266 => 165 | n => n, fun | 9 => 9 | 21 => 21 | 4 => 4 | 3 => 3 | 5 => 5 | 0 => 0 | 46 => 212 | n => n, fun | n => n⟩
theorem Tryz.lays151 : Go.Proofs.Lays.n151 Tryz.prog Tryz.lays151_ren := {
 mixed := by kernel_rfl
 f119 := Tryz.func161.trans (congrArg some (by kernel_rfl))
 f137 := Tryz.func160.trans (congrArg some (by kernel_rfl))
 f151 := Tryz.func152.trans (congrArg some (by kernel_rfl))
 f152 := Tryz.func159.trans (congrArg some (by kernel_rfl))
 f217 := Tryz.func164.trans (congrArg some (by kernel_rfl))
 f224 := Tryz.func162.trans (congrArg some (by kernel_rfl))
 f225 := Tryz.func163.trans (congrArg some (by kernel_rfl))
 f266 := Tryz.func165.trans (congrArg some (by kernel_rfl))
 t0 := Tryz.underlying0
 a0 := Tryz.isAgg0
 z0 := Tryz.sizeOf0
 v0 := Tryz.zeroValue0
 t3 := Tryz.underlying3
 a3 := Tryz.isAgg3
 z3 := Tryz.sizeOf3
 v3 := Tryz.zeroValue3
 t4 := Tryz.underlying4
 a4 := Tryz.isAgg4
 z4 := Tryz.sizeOf4
 v4 := Tryz.zeroValue4
 t5 := Tryz.underlying5
 a5 := Tryz.isAgg5
 z5 := Tryz.sizeOf5
 v5 := Tryz.zeroValue5
 t9 := Tryz.underlying9
 a9 := Tryz.isAgg9
 z9 := Tryz.sizeOf9
 v9 := Tryz.zeroValue9
 t21 := Tryz.underlying21
 a21 := Tryz.isAgg21
 z21 := Tryz.sizeOf21
 v21 := Tryz.zeroValue21
 t46 := Tryz.underlying212
 a46 := Tryz.isAgg212
 z46 := Tryz.sizeOf212
 v46 := Tryz.zeroValue212 }
open Go.RowKit Go.Lib in
theorem Tryz.strings_ContainsRune_ascii (s : ByteArray) (r : Int) (w : World) (h0 : 0 ≤ r) (h1 : r < 128) :
  Calls Tryz.prog 152 #[.string s, .int .i32 r] w fun e w' => e = .returned (.bool (decide (0 ≤ Lib.indexByte s.data.toList r.toNat.toUInt8))) ∧ w' = w := Any.strings_ContainsRune_ascii Tryz.lays151 s r w h0 h1
def Tryz.lays260_ren : Go.Shelf.Ren := ⟨fun | 260 => 158 | n => n, fun | 9 => 9 | 21 => 21 | 3 => 3 | 4 => 4 | 5 => 5 | 119 => 211 | 0 => 0 | 46 => 212 | 139 => 215 | 138 => 214 | n => n, fun | 3 => 1 | 4 => 2 | n => n⟩
theorem Tryz.lays260 : Go.Proofs.Lays.n260 Tryz.prog Tryz.lays260_ren := {
 mixed := by kernel_rfl
 f260 := Tryz.func158.trans (congrArg some (by kernel_rfl))
 t0 := Tryz.underlying0
 a0 := Tryz.isAgg0
 z0 := Tryz.sizeOf0
 v0 := Tryz.zeroValue0
 t3 := Tryz.underlying3
 a3 := Tryz.isAgg3
 z3 := Tryz.sizeOf3
 v3 := Tryz.zeroValue3
 t4 := Tryz.underlying4
 a4 := Tryz.isAgg4
 z4 := Tryz.sizeOf4
 v4 := Tryz.zeroValue4
 t5 := Tryz.underlying5
 a5 := Tryz.isAgg5
 z5 := Tryz.sizeOf5
 v5 := Tryz.zeroValue5
 t9 := Tryz.underlying9
 a9 := Tryz.isAgg9
 z9 := Tryz.sizeOf9
 v9 := Tryz.zeroValue9
 t21 := Tryz.underlying21
 a21 := Tryz.isAgg21
 z21 := Tryz.sizeOf21
 v21 := Tryz.zeroValue21
 t46 := Tryz.underlying212
 a46 := Tryz.isAgg212
 z46 := Tryz.sizeOf212
 v46 := Tryz.zeroValue212
 t119 := Tryz.underlying211
 a119 := Tryz.isAgg211
 z119 := Tryz.sizeOf211
 t138 := Tryz.underlying214
 a138 := Tryz.isAgg214
 z138 := Tryz.sizeOf214
 v138 := Tryz.zeroValue214
 t139 := Tryz.underlying215
 a139 := Tryz.isAgg215
 z139 := Tryz.sizeOf215
 v139 := Tryz.zeroValue215
 g3 := by kernel_rfl
 g4 := by kernel_rfl }
def Tryz.lays197_ren : Go.Shelf.Ren := ⟨fun | 197 => 151 | 260 => 158 | n => n, fun | 9 => 9 | 21 => 21 | 3 => 3 | 4 => 4 | 5 => 5 | 105 => 204 | 119 => 211 | 0 => 0 | 46 => 212 | 139 => 215 | 138 => 214 | n => n, fun | 3 => 1 | 4 => 2 | n => n⟩
theorem Tryz.lays197 : Go.Proofs.Lays.n197 Tryz.prog Tryz.lays197_ren := {
 mixed := by kernel_rfl
 f197 := Tryz.func151.trans (congrArg some (by kernel_rfl))
 f260 := Tryz.func158.trans (congrArg some (by kernel_rfl))
 t0 := Tryz.underlying0
 a0 := Tryz.isAgg0
 z0 := Tryz.sizeOf0
 v0 := Tryz.zeroValue0
 t3 := Tryz.underlying3
 a3 := Tryz.isAgg3
 z3 := Tryz.sizeOf3
 v3 := Tryz.zeroValue3
 t4 := Tryz.underlying4
 a4 := Tryz.isAgg4
 z4 := Tryz.sizeOf4
 v4 := Tryz.zeroValue4
 t5 := Tryz.underlying5
 a5 := Tryz.isAgg5
 z5 := Tryz.sizeOf5
 v5 := Tryz.zeroValue5
 t9 := Tryz.underlying9
 a9 := Tryz.isAgg9
 z9 := Tryz.sizeOf9
 v9 := Tryz.zeroValue9
 t21 := Tryz.underlying21
 a21 := Tryz.isAgg21
 z21 := Tryz.sizeOf21
 v21 := Tryz.zeroValue21
 t46 := Tryz.underlying212
 a46 := Tryz.isAgg212
 z46 := Tryz.sizeOf212
 v46 := Tryz.zeroValue212
 t105 := Tryz.underlying204
 a105 := Tryz.isAgg204
 z105 := Tryz.sizeOf204
 v105 := Tryz.zeroValue204
 t119 := Tryz.underlying211
 a119 := Tryz.isAgg211
 z119 := Tryz.sizeOf211
 t138 := Tryz.underlying214
 a138 := Tryz.isAgg214
 z138 := Tryz.sizeOf214
 v138 := Tryz.zeroValue214
 t139 := Tryz.underlying215
 a139 := Tryz.isAgg215
 z139 := Tryz.sizeOf215
 v139 := Tryz.zeroValue215
 g3 := by kernel_rfl
 g4 := by kernel_rfl }
open Go.RowKit Go.Lib in
/-- **unicode/utf8.DecodeRuneInString AT EVERY STRING.** (LAID: no walk: one application.) -/
theorem Tryz.utf8_DecodeRuneInString (s : ByteArray) (w : World) (hT : Lib.Utf8Tabs 1 2 w) :
  Calls Tryz.prog 151 #[.string s] w fun e w' => e = .returned (.tuple #[.int .i32 (Lib.decodeGo s).1, .int .i64 (Lib.decodeGo s).2]) ∧ Below w.heap.size w w' := Any.utf8_DecodeRuneInString Tryz.lays197 s w hT
end Go.Proofs
/- Contracts of strings.ContainsRune at the lexer's marks, of lex.mark and lex.sign. -/
namespace Go.Proofs.YtemflcojebanlaaGreatDoor.LexC
open Go Go.RowKit Go.Lib LexP

/-- A call that leaves the world alone, met inside the second region that draws. -/
theorem still_again {P : Program} {g : FuncId} {xs : Array Value} {V : World} {i j : Nat} {r : Value} (c : ∀ W : World, Calls P g xs W fun e w' => e = .returned r ∧ w' = W) :
  Calls P g xs (V.drewN (i + j)) fun e w' => e = .returned r ∧ ∃ k, w' = V.drewN (i + k) :=
 (c _).mono fun _ _ ⟨h1, h2⟩ => ⟨h1, j, h2⟩

def MB : ByteArray := ⟨#[40, 41, 123, 125, 91, 93, 44, 59, 58, 46, 38, 42, 61, 43, 45, 47, 60]⟩
theorem MB_low : ∀ i, i < 17 → ((MB.get! i).toNat < 128) := by decide
theorem MB_get (i : Nat) (h : i < MB.size) : (MB[i]'h).toNat < 128 := by
 have : MB.get! i = MB[i]'h := by simp [ByteArray.get!, getElem!_pos, h]; rfl
 rw [← this]
 exact MB_low i h

set_option maxHeartbeats 1000000 in
set_option maxRecDepth 10000000 in
theorem irune_bad (w : World) : Calls Tryz.prog 159 #[.string MB, .int .i32 65533] w fun e w' => e = .returned (.int .i64 (-1)) ∧ Below w.heap.size w w' := by
 go_enter Tryz.func159, Tryz.ntmps159
 go_wp2
 go_loopg [] 17 (fun gf wx => ∃ pos : Nat, wx.heap[w.heap.size]? = some (.stringIter MB pos) ∧ Below w.heap.size w wx ∧ 17 ≤ pos + gf)
 case atStart => exact ⟨0, World.iter_heap w MB 0, (Below.refl _ w).alloc (Nat.le_refl _) _, by omega⟩
 case round =>
  obtain ⟨pos, hit, hbw, hfu⟩ := hrel
  by_cases hps : pos < MB.size
  ·have hps' : pos < 17 := hps
   have hlow := MB_get pos hps
   have hnx : ∀ ty, (Instr.next (.pointer (some ⟨w.heap.size, 0, none⟩)) true ty).run Tryz.prog wr = _ := fun ty => Lib.run_next_ascii_at wr w.heap.size MB pos ty hit hps hlow
   obtain ⟨R, hR⟩ : ∃ R, (MB[pos]'hps).toNat = R := ⟨_, rfl⟩
   rw [hR] at hnx hlow
   have hne : ((R : Int) == 65533) = false := by simp; omega
   have hit2 := Lib.iterAt_heap wr w.heap.size MB pos (pos + 1) hit
   have hbw2 := Lib.below_iterAt hbw (k := w.heap.size) (Nat.le_refl _) MB (pos + 1)
   obtain ⟨W, hWd⟩ : ∃ W, wr.iterAt w.heap.size MB (pos + 1) = W := ⟨_, rfl⟩
   rw [hWd] at hnx hit2 hbw2
   clear hR hit hbw
   go_wp2
   go_roundg (gk - 1)
   case measure => omega
   case rel => exact ⟨pos + 1, hit2, hbw2, by omega⟩
  ·have hnx : ∀ ty, (Instr.next (.pointer (some ⟨w.heap.size, 0, none⟩)) true ty).run Tryz.prog wr = _ := fun ty => Lib.run_next_end_at wr w.heap.size MB pos ty hit hps
   clear hit
   go_wp2
   go_ret
   exact ⟨rfl, hbw⟩
/-- what a rune from 128 on is, in bytes -/
theorem encode_wide (r : Nat) (h1 : 128 ≤ r) : ∃ n : Nat, (Utf8.encode (r : Int)).size = n + 1 ∧ 1 ≤ n ∧ n ≤ 3 ∧ 128 ≤ ((Utf8.encode (r : Int)).get! n).toNat := by
 have key : ∀ k : Nat, k < 64 → (UInt8.ofNat (128 + k)).toNat = 128 + k := fun k hk => by simp; omega
 obtain ⟨c, hc, hc1⟩ : ∃ c, (if Utf8.valid (r : Int) then (r : Int).toNat else Utf8.runeError) = c ∧ 128 ≤ c := ⟨_, rfl, by
  split
  ·simpa using h1
  ·simp [Utf8.runeError]⟩
 simp only [Utf8.encode, hc]
 rw [if_neg (by omega)]
 split
 ·exact ⟨1, rfl, by omega, by omega, by show 128 ≤ (UInt8.ofNat (128 + c % 64)).toNat; rw [key _ (by omega)]; omega⟩
 ·split
  ·exact ⟨2, rfl, by omega, by omega, by show 128 ≤ (UInt8.ofNat (128 + c % 64)).toNat; rw [key _ (by omega)]; omega⟩
  ·exact ⟨3, rfl, by omega, by omega, by show 128 ≤ (UInt8.ofNat (128 + c % 64)).toNat; rw [key _ (by omega)]; omega⟩
theorem indexByte_none : ∀ (l : List UInt8) (c : UInt8), (∀ x ∈ l, x ≠ c) → Lib.indexByte l c = -1
 | [], _, _ => rfl
 | x :: l, c, h => by
  have h1 := h x (by simp)
  have h2 := indexByte_none l c (fun y hy => h y (by simp [hy]))
  simp [Lib.indexByte, h1, h2]
theorem MB_all : ∀ x ∈ MB.data.toList, x.toNat < 128 := by decide
theorem marks_miss (v : Nat) (h : 128 ≤ v) (h2 : v < 256) (k : Nat) : Lib.indexByte ((MB.extract k MB.size).data.toList) ((v : Int).toNat.toUInt8) = -1 := by
 apply indexByte_none
 intro x hx e
 rw [tail_list] at hx
 have h3 := MB_all x (List.mem_of_mem_drop hx)
 rw [e] at h3
 simp at h3
 omega
set_option maxHeartbeats 1000000 in
set_option maxRecDepth 10000000 in
theorem irune_wide (r : Nat) (w : World) (h1 : 128 ≤ r) (h3 : r ≠ 65533) (hv : Lib.validRune r = true) : Calls Tryz.prog 159 #[.string MB, .int .i32 (r : Int)] w fun e w' => e = .returned (.int .i64 (-1)) ∧ Below w.heap.size w w' := by
 have c1 : ∀ W, Calls Tryz.prog 161 _ W _ := fun W => Tryz.utf8_ValidRune (r : Int) W
 rw [hv] at c1
 have C1 := hid c1
 have hb : ((r : Int) == 65533) = false := by simp; omega
 clear c1 hv
 obtain ⟨n, e1, e2, e3, e4⟩ := encode_wide r h1
 obtain ⟨E, hE⟩ : ∃ E, Utf8.encode (r : Int) = E := ⟨_, rfl⟩
 rw [hE] at e1 e4
 have hn : n < E.size := by omega
 have e5 : E.get! n = E[n]'hn := by simp [ByteArray.get!, getElem!_pos, hn]; rfl
 rw [e5] at e4
 have e6 := UInt8.toNat_lt (E[n]'hn)
 have hm : n < MB.size := by show n < 17; omega
 have m4 := MB_get n hm
 obtain ⟨x, hx⟩ : ∃ x, (E[n]'hn).toNat = x := ⟨_, rfl⟩
 obtain ⟨y, hy⟩ : ∃ y, (MB[n]'hm).toNat = y := ⟨_, rfl⟩
 rw [hx] at e4 e6
 rw [hy] at m4
 have c2 : ∀ W, Calls Tryz.prog 160 _ W _ := fun W => Tryz.strings_IndexByte (MB.extract (n + 1) MB.size) (x : Int) W
 rw [marks_miss x e4 e6] at c2
 have C2 := hid c2
 have ne : ((y : Int) != (x : Int)) = true := by simp; omega
 clear e4 e5 e6 h3 c2 m4
 go_enter Tryz.func159, Tryz.ntmps159
 go_wp2_with fail
 refine (C1.out _).mono ?_
 rintro e W1 ⟨rfl, rfl⟩
 go_wp2_with go_step3
 refine wp_loop_rounds 1 ?_
 rw [rounds_succ]
 go_wp2_with go_step3
 go_quiet (fail)
 go_wp2_with go_step3
 go_quiet ((go_at_call 160; exact still_again C2.out))
 go_wp2_with go_step3
 rw [Exit.noGoto_ret]
 go_wp2
 rw [Exit.noGoto_ret]
 go_ret
 exact ⟨rfl, below_drewN' (Below.refl _ _) _⟩
set_option maxHeartbeats 1000000 in
set_option maxRecDepth 10000000 in
theorem irune_odd (r : Nat) (w : World) (h1 : 128 ≤ r) (hb : ((r : Int) == 65533) = false) (c1 : ∀ W, Calls Tryz.prog 161 #[.int .i32 (r : Int)] W fun e w' => e = .returned (.bool false) ∧ w' = W) : Calls Tryz.prog 159 #[.string MB, .int .i32 (r : Int)] w fun e w' => e = .returned (.int .i64 (-1)) ∧ Below w.heap.size w w' := by
 have C1 := hid c1
 clear c1
 go_enter Tryz.func159, Tryz.ntmps159
 go_wp2_with (go_at_call 161; refine (C1.out _).mono ?_; rintro e w' ⟨rfl, rfl⟩)
 go_ret
 exact ⟨rfl, Below.refl _ _⟩
theorem irune_none (r : Nat) (w : World) (h1 : 128 ≤ r) : Calls Tryz.prog 159 #[.string MB, .int .i32 (r : Int)] w fun e w' => e = .returned (.int .i64 (-1)) ∧ Below w.heap.size w w' := by
 by_cases h3 : r = 65533
 ·subst h3
  exact irune_bad w
 ·cases hv : Lib.validRune (r : Int) with
  | true => exact irune_wide r w h1 h3 hv
  | false =>
   have c1 : ∀ W, Calls Tryz.prog 161 _ W _ := fun W => Tryz.utf8_ValidRune (r : Int) W
   rw [hv] at c1
   have C1 := hid c1
   have hb : ((r : Int) == 65533) = false := by simp; omega
   clear c1 hv h3
   exact irune_odd r w h1 hb C1.out
set_option maxHeartbeats 1000000 in
theorem contains_none (r : Nat) (w : World) (h1 : 128 ≤ r) : Calls Tryz.prog 152 #[.string MB, .int .i32 (r : Int)] w fun e w' => e = .returned (.bool false) ∧ Below w.heap.size w w' := by
 have C1 := hid (irune_none r w h1)
 go_enter Tryz.func152, Tryz.ntmps152
 go_wp2_with (go_at_call 159; refine C1.out.mono ?_; rintro e w' ⟨rfl, hb⟩)
 go_ret
 exact ⟨rfl, by assumption⟩
theorem indexByte_has : ∀ (l : List UInt8) (c : UInt8), decide (0 ≤ Lib.indexByte l c) = l.contains c
 | [], _ => rfl
 | x :: l, c => by
  have h2 := indexByte_has l c
  have h3 : -1 ≤ Lib.indexByte l c := by
   cases h : decide (0 ≤ Lib.indexByte l c) with
   | true => have := of_decide_eq_true h; omega
   | false =>
    rw [h2] at h
    rw [indexByte_none l c (fun y hy e => by subst e; simp_all)]
    omega
  by_cases e : x = c
  ·subst e
   simp [Lib.indexByte]
  ·have e' : ¬ c = x := fun q => e q.symm
   simp only [Lib.indexByte, beq_iff_eq, e, if_false]
   rw [List.contains_cons, show (c == x) = false by simpa using e', Bool.false_or, ← h2]
   by_cases h4 : Lib.indexByte l c = -1
   ·simp [h4]
   ·rw [if_neg h4, Bool.eq_iff_iff]
    simp only [decide_eq_true_eq]
    omega
set_option maxHeartbeats 1000000 in
theorem decode_any (s : ByteArray) (w : World) (hz : 0 < s.size) (T : Lib.Utf8Tabs 1 2 w) : ∃ r n : Nat, (Calls Tryz.prog 151 #[.string s] w fun e w' => e = .returned (.tuple #[.int .i32 (r : Int), .int .i64 (n : Int)]) ∧ Below w.heap.size w w') ∧
  (((s.get! 0).toNat < 128 ∧ r = (s.get! 0).toNat) ∨ (128 ≤ (s.get! 0).toNat ∧ 128 ≤ r)) := by
 refine ⟨_, _, Tryz.utf8_DecodeRuneInString s w T, ?_⟩
 have e : Lib.decodeGo s = Utf8.decode s 0 := by simp only [Lib.decodeGo]; rw [if_neg (by omega)]
 rw [e, Lib.decode_at]
 have key := decodeN_cases (s.size - 0) (s.get! 0).toNat (s.get! (0 + 1)).toNat (s.get! (0 + 2)).toNat (s.get! (0 + 3)).toNat (UInt8.toNat_lt _) (by omega)
 rcases key with ⟨h1, h2⟩ | ⟨h1, h2, _⟩
 ·left
  exact ⟨h1, by rw [h2]⟩
 ·right
  exact ⟨h1, h2⟩
theorem two_eq (l : List UInt8) : two l = (Lib.hasPrefix l [45, 62] || Lib.hasPrefix l [61, 61]) := by
 rw [hasPrefix_two, hasPrefix_two]
 rcases l with _ | ⟨x, _ | ⟨y, r⟩⟩ <;> simp only [two, Bool.or_false]
 rw [Bool.eq_iff_iff]
 simp [← UInt8.toNat_inj]
theorem prefix_arrow (s : ByteArray) (w : World) (hs : s.size ≤ 4611686018427387904) : Calls Tryz.prog 137 #[.string s, .string ⟨#[45, 62]⟩] w fun e w' => e = .returned (.bool (Lib.hasPrefix s.data.toList [45, 62])) ∧ w = w' :=
 prefix_any s ⟨#[45, 62]⟩ w (by omega) (by decide)
theorem prefix_same (s : ByteArray) (w : World) (hs : s.size ≤ 4611686018427387904) : Calls Tryz.prog 137 #[.string s, .string ⟨#[61, 61]⟩] w fun e w' => e = .returned (.bool (Lib.hasPrefix s.data.toList [61, 61])) ∧ w = w' :=
 prefix_any s ⟨#[61, 61]⟩ w (by omega) (by decide)
theorem first_get (s : ByteArray) (hz : 0 < s.size) : ∃ r, s.data.toList = s.get! 0 :: r := by
 have h := get_some s 0 hz
 generalize s.data.toList = l at *
 rcases l with _ | ⟨x, r⟩
 ·simp at h
 ·simp at h
  exact ⟨r, by rw [h]⟩
/-- whether the first rune is one of the marks -/
theorem contains_first (s : ByteArray) (w : World) (_hz : 0 < s.size) (r : Nat) (h : ((s.get! 0).toNat < 128 ∧ r = (s.get! 0).toNat) ∨ (128 ≤ (s.get! 0).toNat ∧ 128 ≤ r)) :
  Calls Tryz.prog 152 #[.string MB, .int .i32 (r : Int)] w fun e w' => e = .returned (.bool (marks.contains (s.get! 0))) ∧ Below w.heap.size w w' := by
 rcases h with ⟨h1, rfl⟩ | ⟨h1, h2⟩
 ·have c := Tryz.strings_ContainsRune_ascii MB ((s.get! 0).toNat : Int) w (by omega) (by omega)
  rw [indexByte_has, show (((s.get! 0).toNat : Int).toNat.toUInt8) = s.get! 0 by simp] at c
  exact c.mono fun e w' ⟨a, b⟩ => ⟨a, b ▸ Below.refl _ _⟩
 ·have e : marks.contains (s.get! 0) = false := by
   rw [← Bool.not_eq_true]
   intro k
   have := MB_all (s.get! 0) (by simpa [MB, marks] using k)
   omega
  rw [e]
  exact contains_none r w h2
set_option maxHeartbeats 2000000 in
theorem mark_any (s : ByteArray) (w : World) (hs : s.size ≤ 4611686018427387904) (hz : 0 < s.size) (T : Lib.Utf8Tabs 1 2 w) :
  Calls Tryz.prog 142 #[.string s] w fun e w' => e = .returned (.int .i64 ((markN s.data.toList : Nat) : Int)) ∧ Below w.heap.size w w' := by
 have c1 := prefix_arrow s w hs
 have c2 := prefix_same s w hs
 obtain ⟨r, n, c3, hr⟩ := decode_any s w hz T
 have c4 : ∀ W, Calls Tryz.prog 152 _ W _ := fun W => contains_first s W hz r hr
 obtain ⟨q, hq⟩ := first_get s hz
 have hm : markN s.data.toList = if (Lib.hasPrefix s.data.toList [45, 62] || Lib.hasPrefix s.data.toList [61, 61]) = true then 2 else if marks.contains (s.get! 0) = true then 1 else 0 := by
  rw [← two_eq, hq]
  rfl
 rw [hm]
 generalize Lib.hasPrefix s.data.toList [45, 62] = b1 at *
 generalize Lib.hasPrefix s.data.toList [61, 61] = b2 at *
 generalize marks.contains (s.get! 0) = b3 at *
 have C1 := hid c1
 have C2 := hid c2
 have C3 := hid c3
 have C4 := hid c4
 clear c1 c2 c3 c4 hr hq hm T
 cases b1
 ·cases b2
  ·cases b3
   ·simp only [Bool.or_false, Bool.false_eq_true, if_false]
    go_enter Tryz.func142, Tryz.ntmps142
    go_wp2_with fail
    refine C1.out.mono ?_
    rintro e W1 ⟨rfl, rfl⟩
    go_wp2_with fail
    refine C2.out.mono ?_
    rintro e W1 ⟨rfl, rfl⟩
    go_wp2_with fail
    refine C3.out.mono ?_
    rintro e W1 ⟨rfl, hb1⟩
    go_wp2_with fail
    refine (C4.out _).mono ?_
    rintro e W2 ⟨rfl, hb2⟩
    go_wp2_with fail
    go_ret
    exact ⟨rfl, hb1.trans (hb2.mono hb1.size)⟩
   ·simp only [Bool.or_false, Bool.false_eq_true, if_false, if_true]
    go_enter Tryz.func142, Tryz.ntmps142
    go_wp2_with fail
    refine C1.out.mono ?_
    rintro e W1 ⟨rfl, rfl⟩
    go_wp2_with fail
    refine C2.out.mono ?_
    rintro e W1 ⟨rfl, rfl⟩
    go_wp2_with fail
    refine C3.out.mono ?_
    rintro e W1 ⟨rfl, hb1⟩
    go_wp2_with fail
    refine (C4.out _).mono ?_
    rintro e W2 ⟨rfl, hb2⟩
    go_wp2_with fail
    go_ret
    exact ⟨rfl, hb1.trans (hb2.mono hb1.size)⟩
  ·simp only [Bool.or_true, if_true]
   go_enter Tryz.func142, Tryz.ntmps142
   go_wp2_with fail
   refine C1.out.mono ?_
   rintro e W1 ⟨rfl, rfl⟩
   go_wp2_with fail
   refine C2.out.mono ?_
   rintro e W1 ⟨rfl, rfl⟩
   go_wp2_with fail
   go_ret
   exact ⟨rfl, Below.refl _ _⟩
 ·simp only [Bool.true_or, if_true]
  go_enter Tryz.func142, Tryz.ntmps142
  go_wp2_with fail
  refine C1.out.mono ?_
  rintro e W1 ⟨rfl, rfl⟩
  go_wp2_with fail
  go_ret
  exact ⟨rfl, Below.refl _ _⟩
set_option maxHeartbeats 2000000 in
theorem sign_any (s : ByteArray) (w : World) (hs : s.size ≤ 4611686018427387904) (hz : 0 < s.size) (T : Lib.Utf8Tabs 1 2 w) :
  Calls Tryz.prog 119 #[.string s] w fun e w' => e = .returned (.tuple #[.int .i64 ((signK s.data.toList : Nat) : Int), .int .i64 ((signN s.data.toList : Nat) : Int)]) ∧ Below w.heap.size w w' := by
 have c1 : ∀ W, Calls Tryz.prog 139 _ W _ := fun W => word_any s W hs
 have c2 : ∀ W, Calls Tryz.prog 140 _ W _ := fun W => number_any s W hs
 have c3 : ∀ W, Calls Tryz.prog 141 _ W _ := fun W => life_any s W hs
 have c4 : ∀ W, Below w.heap.size w W → Calls Tryz.prog 142 _ W _ := fun W hb => mark_any s W hs hz (Utf8Tabs_below T hb)
 unfold signK signN
 generalize wordN s.data.toList = n1 at *
 generalize numN s.data.toList = n2 at *
 generalize lifeN s.data.toList = n3 at *
 generalize markN s.data.toList = n4 at *
 have C1 := hid c1
 have C2 := hid c2
 have C3 := hid c3
 have C4 := hid c4
 clear c1 c2 c3 c4 T
 by_cases h1 : 0 < n1
 ·simp only [h1, if_true]
  go_enter Tryz.func119, Tryz.ntmps119
  go_wp2_with fail
  refine (C1.out _).mono ?_
  rintro e W1 ⟨rfl, hb1⟩
  go_wp2_with fail
  go_ret2
  exact ⟨rfl, hb1⟩
 ·simp only [h1, if_false]
  by_cases h2 : 0 < n2
  ·simp only [h2, if_true]
   go_enter Tryz.func119, Tryz.ntmps119
   go_wp2_with fail
   refine (C1.out _).mono ?_
   rintro e W1 ⟨rfl, hb1⟩
   go_wp2_with fail
   refine (C2.out _).mono ?_
   rintro e W2 ⟨rfl, hb2⟩
   go_wp2_with fail
   go_ret2
   exact ⟨rfl, hb1.trans (hb2.mono hb1.size)⟩
  ·simp only [h2, if_false]
   by_cases h3 : 0 < n3
   ·simp only [h3, if_true]
    go_enter Tryz.func119, Tryz.ntmps119
    go_wp2_with fail
    refine (C1.out _).mono ?_
    rintro e W1 ⟨rfl, hb1⟩
    go_wp2_with fail
    refine (C2.out _).mono ?_
    rintro e W2 ⟨rfl, hb2⟩
    go_wp2_with fail
    refine (C3.out _).mono ?_
    rintro e W3 ⟨rfl, hb3⟩
    have B2 := hb1.trans (hb2.mono hb1.size)
    go_wp2_with fail
    go_ret2
    exact ⟨rfl, B2.trans (hb3.mono B2.size)⟩
   ·simp only [h3, if_false]
    by_cases h4 : 0 < n4
    all_goals simp only [h4, if_true, if_false]
    all_goals
     go_enter Tryz.func119, Tryz.ntmps119
     go_wp2_with fail
     refine (C1.out _).mono ?_
     rintro e W1 ⟨rfl, hb1⟩
     go_wp2_with fail
     refine (C2.out _).mono ?_
     rintro e W2 ⟨rfl, hb2⟩
     have B2 := hb1.trans (hb2.mono hb1.size)
     go_wp2_with fail
     refine (C3.out _).mono ?_
     rintro e W3 ⟨rfl, hb3⟩
     have B3 := B2.trans (hb3.mono B2.size)
     go_wp2_with fail
     refine (C4.out _ B3).mono ?_
     rintro e W4 ⟨rfl, hb4⟩
     have B4 := B3.trans (hb4.mono B3.size)
     go_wp2_with fail
     go_ret2
     first | exact ⟨rfl, B4⟩ | (obtain rfl : n4 = 0 := (by omega); exact ⟨rfl, B4⟩)
end Go.Proofs.YtemflcojebanlaaGreatDoor.LexC

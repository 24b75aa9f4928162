/- Texts joined: LexMark, LexLex, LexRefP. -/
import Derived.Test.YtjkdcladjjpmoaaGreatDoorJ01
import Derived.Test.YtjkdcladjjpmoaaGreatDoorJ02
import Derived.Deep.QuietTactic
import Derived.BigQuiet
import Derived.Test.YtjkdcladjjpmoaaGreatDoorJ00
/- Contracts of strings.ContainsRune at the lexer's marks, of lex.mark and lex.sign. -/
namespace Go.Proofs.YtjkdcladjjpmoaaGreatDoor.LexC
open Go Go.RowKit Go.Lib Go.Proofs.YtjkdcladjjpmoaaGreatDoor.LexP

/-- A call that leaves the world alone, met inside the second region that draws. -/
theorem still_again {P : Program} {g : FuncId} {xs : Array Value} {V : World} {i j : Nat} {r : Value} (c : ∀ W : World, Calls P g xs W fun e w' => e = .returned r ∧ w' = W) :
    Calls P g xs (V.drewN (i + j)) fun e w' => e = .returned r ∧ ∃ k, w' = V.drewN (i + k) :=
  (c _).mono fun _ _ ⟨h1, h2⟩ => ⟨h1, j, h2⟩

def MB : ByteArray := ⟨#[40, 41, 123, 125, 91, 93, 44, 59, 58, 46, 38, 42, 61, 43, 45, 47, 60]⟩
theorem MB_size : MB.size = 17 := rfl
theorem MB_low : ∀ i, i < 17 → ((MB.get! i).toNat < 128) := by decide
theorem MB_get (i : Nat) (h : i < MB.size) : (MB[i]'h).toNat < 128 := by
  have : MB.get! i = MB[i]'h := by simp [ByteArray.get!, getElem!_pos, h]; rfl
  rw [← this]
  exact MB_low i h

set_option maxHeartbeats 1000000 in
set_option maxRecDepth 10000000 in
theorem irune_bad (w : World) : Calls Tryz.prog 224 #[.string MB, .int .i32 65533] w fun e w' => e = .returned (.int .i64 (-1)) ∧ Below w.heap.size w w' := by
  go_enter Tryz.func224, Tryz.ntmps224
  go_wp2
  go_loopg [] 17 (fun gf wx => ∃ pos : Nat, wx.heap[w.heap.size]? = some (.stringIter MB pos) ∧ Below w.heap.size w wx ∧ 17 ≤ pos + gf)
  case atStart => exact ⟨0, World.iter_heap w MB 0, (Below.refl _ w).alloc (Nat.le_refl _) _, by omega⟩
  case round =>
    obtain ⟨pos, hit, hbw, hfu⟩ := hrel
    by_cases hps : pos < MB.size
    · have hps' : pos < 17 := hps
      have hlow := MB_get pos hps
      have hnx : ∀ ty, (Instr.next (.pointer (some ⟨w.heap.size, 0, none⟩)) true ty).run Tryz.prog wr = _ := fun ty => Lib.run_next_ascii_at wr w.heap.size MB pos ty hit hps hlow
      obtain ⟨R, hR⟩ : ∃ R, (MB[pos]'hps).toNat = R := ⟨_, rfl⟩
      rw [hR] at hnx hlow
      have hne : ((R : Int) == 65533) = false := by simp; omega
      have hit2 := Lib.iterAt_heap wr w.heap.size MB pos (pos + 1) hit
      have hbw2 := Lib.below_iterAt hbw (k := w.heap.size) (Nat.le_refl _) MB (pos + 1)
      obtain ⟨W, hWd⟩ : ∃ W, wr.iterAt w.heap.size MB (pos + 1) = W := ⟨_, rfl⟩
      rw [hWd] at hnx hit2 hbw2
      clear hR hit hbw
      go_wp2
      go_roundg (gk - 1)
      case measure => omega
      case rel => exact ⟨pos + 1, hit2, hbw2, by omega⟩
    · have hnx : ∀ ty, (Instr.next (.pointer (some ⟨w.heap.size, 0, none⟩)) true ty).run Tryz.prog wr = _ := fun ty => Lib.run_next_end_at wr w.heap.size MB pos ty hit hps
      clear hit
      go_wp2
      go_ret
      exact ⟨rfl, hbw⟩
/-- what a rune from 128 on is, in bytes -/
theorem encode_wide (r : Nat) (h1 : 128 ≤ r) : ∃ n : Nat, (Utf8.encode (r : Int)).size = n + 1 ∧ 1 ≤ n ∧ n ≤ 3 ∧ 128 ≤ ((Utf8.encode (r : Int)).get! n).toNat := by
  have key : ∀ k : Nat, k < 64 → (UInt8.ofNat (128 + k)).toNat = 128 + k := fun k hk => by simp; omega
  obtain ⟨c, hc, hc1⟩ : ∃ c, (if Utf8.valid (r : Int) then (r : Int).toNat else Utf8.runeError) = c ∧ 128 ≤ c := ⟨_, rfl, by
    split
    · simpa using h1
    · simp [Utf8.runeError]⟩
  simp only [Utf8.encode, hc]
  rw [if_neg (by omega)]
  split
  · exact ⟨1, rfl, by omega, by omega, by show 128 ≤ (UInt8.ofNat (128 + c % 64)).toNat; rw [key _ (by omega)]; omega⟩
  · split
    · exact ⟨2, rfl, by omega, by omega, by show 128 ≤ (UInt8.ofNat (128 + c % 64)).toNat; rw [key _ (by omega)]; omega⟩
    · exact ⟨3, rfl, by omega, by omega, by show 128 ≤ (UInt8.ofNat (128 + c % 64)).toNat; rw [key _ (by omega)]; omega⟩
theorem indexByte_none : ∀ (l : List UInt8) (c : UInt8), (∀ x ∈ l, x ≠ c) → Lib.indexByte l c = -1
  | [], _, _ => rfl
  | x :: l, c, h => by
    have h1 := h x (by simp)
    have h2 := indexByte_none l c (fun y hy => h y (by simp [hy]))
    simp [Lib.indexByte, h1, h2]
theorem MB_all : ∀ x ∈ MB.data.toList, x.toNat < 128 := by decide
theorem marks_miss (v : Nat) (h : 128 ≤ v) (h2 : v < 256) (k : Nat) : Lib.indexByte ((MB.extract k MB.size).data.toList) ((v : Int).toNat.toUInt8) = -1 := by
  apply indexByte_none
  intro x hx e
  rw [tail_list] at hx
  have h3 := MB_all x (List.mem_of_mem_drop hx)
  rw [e] at h3
  simp at h3
  omega
set_option maxHeartbeats 1000000 in
set_option maxRecDepth 10000000 in
theorem irune_wide (r : Nat) (w : World) (h1 : 128 ≤ r) (h3 : r ≠ 65533) (hv : Lib.validRune r = true) : Calls Tryz.prog 224 #[.string MB, .int .i32 (r : Int)] w fun e w' => e = .returned (.int .i64 (-1)) ∧ Below w.heap.size w w' := by
  have c1 : ∀ W, Calls Tryz.prog 249 _ W _ := fun W => Tryz.utf8_ValidRune (r : Int) W
  rw [hv] at c1
  have C1 := hid c1
  have hb : ((r : Int) == 65533) = false := by simp; omega
  clear c1 hv
  obtain ⟨n, e1, e2, e3, e4⟩ := encode_wide r h1
  obtain ⟨E, hE⟩ : ∃ E, Utf8.encode (r : Int) = E := ⟨_, rfl⟩
  rw [hE] at e1 e4
  have hn : n < E.size := by omega
  have e5 : E.get! n = E[n]'hn := by simp [ByteArray.get!, getElem!_pos, hn]; rfl
  rw [e5] at e4
  have e6 := UInt8.toNat_lt (E[n]'hn)
  have hm : n < MB.size := by show n < 17; omega
  have m4 := MB_get n hm
  obtain ⟨x, hx⟩ : ∃ x, (E[n]'hn).toNat = x := ⟨_, rfl⟩
  obtain ⟨y, hy⟩ : ∃ y, (MB[n]'hm).toNat = y := ⟨_, rfl⟩
  rw [hx] at e4 e6
  rw [hy] at m4
  have c2 : ∀ W, Calls Tryz.prog 248 _ W _ := fun W => Tryz.strings_IndexByte (MB.extract (n + 1) MB.size) (x : Int) W
  rw [marks_miss x e4 e6] at c2
  have C2 := hid c2
  have ne : ((y : Int) != (x : Int)) = true := by simp; omega
  clear e4 e5 e6 h3 c2 m4
  go_enter Tryz.func224, Tryz.ntmps224
  go_wp2_with fail
  refine (C1.out _).mono ?_
  rintro e W1 ⟨rfl, rfl⟩
  go_wp2_with go_step3
  refine wp_loop_rounds 1 ?_
  rw [rounds_succ]
  go_wp2_with go_step3
  go_quiet (fail)
  go_wp2_with go_step3
  go_quiet ((go_at_call 248; exact still_again C2.out))
  go_wp2_with go_step3
  rw [Exit.noGoto_ret]
  go_wp2
  rw [Exit.noGoto_ret]
  go_ret
  exact ⟨rfl, below_drewN' (Below.refl _ _) _⟩
set_option maxHeartbeats 1000000 in
set_option maxRecDepth 10000000 in
theorem irune_odd (r : Nat) (w : World) (h1 : 128 ≤ r) (hb : ((r : Int) == 65533) = false) (c1 : ∀ W, Calls Tryz.prog 249 #[.int .i32 (r : Int)] W fun e w' => e = .returned (.bool false) ∧ w' = W) : Calls Tryz.prog 224 #[.string MB, .int .i32 (r : Int)] w fun e w' => e = .returned (.int .i64 (-1)) ∧ Below w.heap.size w w' := by
  have C1 := hid c1
  clear c1
  go_enter Tryz.func224, Tryz.ntmps224
  go_wp2_with (go_at_call 249; refine (C1.out _).mono ?_; rintro e w' ⟨rfl, rfl⟩)
  go_ret
  exact ⟨rfl, Below.refl _ _⟩
theorem irune_none (r : Nat) (w : World) (h1 : 128 ≤ r) : Calls Tryz.prog 224 #[.string MB, .int .i32 (r : Int)] w fun e w' => e = .returned (.int .i64 (-1)) ∧ Below w.heap.size w w' := by
  by_cases h3 : r = 65533
  · subst h3
    exact irune_bad w
  · cases hv : Lib.validRune (r : Int) with
    | true => exact irune_wide r w h1 h3 hv
    | false =>
      have c1 : ∀ W, Calls Tryz.prog 249 _ W _ := fun W => Tryz.utf8_ValidRune (r : Int) W
      rw [hv] at c1
      have C1 := hid c1
      have hb : ((r : Int) == 65533) = false := by simp; omega
      clear c1 hv h3
      exact irune_odd r w h1 hb C1.out
set_option maxHeartbeats 1000000 in
theorem contains_none (r : Nat) (w : World) (h1 : 128 ≤ r) : Calls Tryz.prog 197 #[.string MB, .int .i32 (r : Int)] w fun e w' => e = .returned (.bool false) ∧ Below w.heap.size w w' := by
  have C1 := hid (irune_none r w h1)
  go_enter Tryz.func197, Tryz.ntmps197
  go_wp2_with (go_at_call 224; refine C1.out.mono ?_; rintro e w' ⟨rfl, hb⟩)
  go_ret
  exact ⟨rfl, by assumption⟩
theorem indexByte_has : ∀ (l : List UInt8) (c : UInt8), decide (0 ≤ Lib.indexByte l c) = l.contains c
  | [], _ => rfl
  | x :: l, c => by
    have h2 := indexByte_has l c
    have h3 : -1 ≤ Lib.indexByte l c := by
      cases h : decide (0 ≤ Lib.indexByte l c) with
      | true => have := of_decide_eq_true h; omega
      | false =>
        rw [h2] at h
        rw [indexByte_none l c (fun y hy e => by subst e; simp_all)]
        omega
    by_cases e : x = c
    · subst e
      simp [Lib.indexByte]
    · have e' : ¬ c = x := fun q => e q.symm
      simp only [Lib.indexByte, beq_iff_eq, e, if_false]
      rw [List.contains_cons, show (c == x) = false by simpa using e', Bool.false_or, ← h2]
      by_cases h4 : Lib.indexByte l c = -1
      · simp [h4]
      · rw [if_neg h4, Bool.eq_iff_iff]
        simp only [decide_eq_true_eq]
        omega
set_option maxHeartbeats 1000000 in
theorem decode_any (s : ByteArray) (w : World) (hz : 0 < s.size) (T : Lib.Utf8Tabs 2 3 w) : ∃ r n : Nat, (Calls Tryz.prog 196 #[.string s] w fun e w' => e = .returned (.tuple #[.int .i32 (r : Int), .int .i64 (n : Int)]) ∧ Below w.heap.size w w') ∧
    (((s.get! 0).toNat < 128 ∧ r = (s.get! 0).toNat) ∨ (128 ≤ (s.get! 0).toNat ∧ 128 ≤ r)) := by
  refine ⟨_, _, Tryz.utf8_DecodeRuneInString s w T, ?_⟩
  have e : Lib.decodeGo s = Utf8.decode s 0 := by simp only [Lib.decodeGo]; rw [if_neg (by omega)]
  rw [e, Lib.decode_at]
  have key := decodeN_cases (s.size - 0) (s.get! 0).toNat (s.get! (0 + 1)).toNat (s.get! (0 + 2)).toNat (s.get! (0 + 3)).toNat (UInt8.toNat_lt _) (by omega)
  rcases key with ⟨h1, h2⟩ | ⟨h1, h2, _⟩
  · left
    exact ⟨h1, by rw [h2]⟩
  · right
    exact ⟨h1, h2⟩
theorem two_eq (l : List UInt8) : two l = (Lib.hasPrefix l [45, 62] || Lib.hasPrefix l [61, 61]) := by
  rw [hasPrefix_two, hasPrefix_two]
  rcases l with _ | ⟨x, _ | ⟨y, r⟩⟩ <;> simp only [two, Bool.or_false]
  rw [Bool.eq_iff_iff]
  simp [← UInt8.toNat_inj]
theorem prefix_arrow (s : ByteArray) (w : World) (hs : s.size ≤ 4611686018427387904) : Calls Tryz.prog 160 #[.string s, .string ⟨#[45, 62]⟩] w fun e w' => e = .returned (.bool (Lib.hasPrefix s.data.toList [45, 62])) ∧ w = w' :=
  prefix_any s ⟨#[45, 62]⟩ w (by omega) (by decide)
theorem prefix_same (s : ByteArray) (w : World) (hs : s.size ≤ 4611686018427387904) : Calls Tryz.prog 160 #[.string s, .string ⟨#[61, 61]⟩] w fun e w' => e = .returned (.bool (Lib.hasPrefix s.data.toList [61, 61])) ∧ w = w' :=
  prefix_any s ⟨#[61, 61]⟩ w (by omega) (by decide)
theorem first_get (s : ByteArray) (hz : 0 < s.size) : ∃ r, s.data.toList = s.get! 0 :: r := by
  have h := get_some s 0 hz
  generalize s.data.toList = l at *
  rcases l with _ | ⟨x, r⟩
  · simp at h
  · simp at h
    exact ⟨r, by rw [h]⟩
/-- whether the first rune is one of the marks -/
theorem contains_first (s : ByteArray) (w : World) (_hz : 0 < s.size) (r : Nat) (h : ((s.get! 0).toNat < 128 ∧ r = (s.get! 0).toNat) ∨ (128 ≤ (s.get! 0).toNat ∧ 128 ≤ r)) :
    Calls Tryz.prog 197 #[.string MB, .int .i32 (r : Int)] w fun e w' => e = .returned (.bool (marks.contains (s.get! 0))) ∧ Below w.heap.size w w' := by
  rcases h with ⟨h1, rfl⟩ | ⟨h1, h2⟩
  · have c := Tryz.strings_ContainsRune_ascii MB ((s.get! 0).toNat : Int) w (by omega) (by omega)
    rw [indexByte_has, show (((s.get! 0).toNat : Int).toNat.toUInt8) = s.get! 0 by simp] at c
    exact c.mono fun e w' ⟨a, b⟩ => ⟨a, b ▸ Below.refl _ _⟩
  · have e : marks.contains (s.get! 0) = false := by
      rw [← Bool.not_eq_true]
      intro k
      have := MB_all (s.get! 0) (by simpa [MB, marks] using k)
      omega
    rw [e]
    exact contains_none r w h2
set_option maxHeartbeats 2000000 in
theorem mark_any (s : ByteArray) (w : World) (hs : s.size ≤ 4611686018427387904) (hz : 0 < s.size) (T : Lib.Utf8Tabs 2 3 w) :
    Calls Tryz.prog 165 #[.string s] w fun e w' => e = .returned (.int .i64 ((markN s.data.toList : Nat) : Int)) ∧ Below w.heap.size w w' := by
  have c1 := prefix_arrow s w hs
  have c2 := prefix_same s w hs
  obtain ⟨r, n, c3, hr⟩ := decode_any s w hz T
  have c4 : ∀ W, Calls Tryz.prog 197 _ W _ := fun W => contains_first s W hz r hr
  obtain ⟨q, hq⟩ := first_get s hz
  have hm : markN s.data.toList = if (Lib.hasPrefix s.data.toList [45, 62] || Lib.hasPrefix s.data.toList [61, 61]) = true then 2 else if marks.contains (s.get! 0) = true then 1 else 0 := by
    rw [← two_eq, hq]
    rfl
  rw [hm]
  generalize Lib.hasPrefix s.data.toList [45, 62] = b1 at *
  generalize Lib.hasPrefix s.data.toList [61, 61] = b2 at *
  generalize marks.contains (s.get! 0) = b3 at *
  have C1 := hid c1
  have C2 := hid c2
  have C3 := hid c3
  have C4 := hid c4
  clear c1 c2 c3 c4 hr hq hm T
  cases b1
  · cases b2
    · cases b3
      · simp only [Bool.or_false, Bool.false_eq_true, if_false]
        go_enter Tryz.func165, Tryz.ntmps165
        go_wp2_with fail
        refine C1.out.mono ?_
        rintro e W1 ⟨rfl, rfl⟩
        go_wp2_with fail
        refine C2.out.mono ?_
        rintro e W1 ⟨rfl, rfl⟩
        go_wp2_with fail
        refine C3.out.mono ?_
        rintro e W1 ⟨rfl, hb1⟩
        go_wp2_with fail
        refine (C4.out _).mono ?_
        rintro e W2 ⟨rfl, hb2⟩
        go_wp2_with fail
        go_ret
        exact ⟨rfl, hb1.trans (hb2.mono hb1.size)⟩
      · simp only [Bool.or_false, Bool.false_eq_true, if_false, if_true]
        go_enter Tryz.func165, Tryz.ntmps165
        go_wp2_with fail
        refine C1.out.mono ?_
        rintro e W1 ⟨rfl, rfl⟩
        go_wp2_with fail
        refine C2.out.mono ?_
        rintro e W1 ⟨rfl, rfl⟩
        go_wp2_with fail
        refine C3.out.mono ?_
        rintro e W1 ⟨rfl, hb1⟩
        go_wp2_with fail
        refine (C4.out _).mono ?_
        rintro e W2 ⟨rfl, hb2⟩
        go_wp2_with fail
        go_ret
        exact ⟨rfl, hb1.trans (hb2.mono hb1.size)⟩
    · simp only [Bool.or_true, if_true]
      go_enter Tryz.func165, Tryz.ntmps165
      go_wp2_with fail
      refine C1.out.mono ?_
      rintro e W1 ⟨rfl, rfl⟩
      go_wp2_with fail
      refine C2.out.mono ?_
      rintro e W1 ⟨rfl, rfl⟩
      go_wp2_with fail
      go_ret
      exact ⟨rfl, Below.refl _ _⟩
  · simp only [Bool.true_or, if_true]
    go_enter Tryz.func165, Tryz.ntmps165
    go_wp2_with fail
    refine C1.out.mono ?_
    rintro e W1 ⟨rfl, rfl⟩
    go_wp2_with fail
    go_ret
    exact ⟨rfl, Below.refl _ _⟩
set_option maxHeartbeats 2000000 in
theorem sign_any (s : ByteArray) (w : World) (hs : s.size ≤ 4611686018427387904) (hz : 0 < s.size) (T : Lib.Utf8Tabs 2 3 w) :
    Calls Tryz.prog 111 #[.string s] w fun e w' => e = .returned (.tuple #[.int .i64 ((signK s.data.toList : Nat) : Int), .int .i64 ((signN s.data.toList : Nat) : Int)]) ∧ Below w.heap.size w w' := by
  have c1 : ∀ W, Calls Tryz.prog 162 _ W _ := fun W => word_any s W hs
  have c2 : ∀ W, Calls Tryz.prog 163 _ W _ := fun W => number_any s W hs
  have c3 : ∀ W, Calls Tryz.prog 164 _ W _ := fun W => life_any s W hs
  have c4 : ∀ W, Below w.heap.size w W → Calls Tryz.prog 165 _ W _ := fun W hb => mark_any s W hs hz (Utf8Tabs_below T hb)
  unfold signK signN
  generalize wordN s.data.toList = n1 at *
  generalize numN s.data.toList = n2 at *
  generalize lifeN s.data.toList = n3 at *
  generalize markN s.data.toList = n4 at *
  have C1 := hid c1
  have C2 := hid c2
  have C3 := hid c3
  have C4 := hid c4
  clear c1 c2 c3 c4 T
  by_cases h1 : 0 < n1
  · simp only [h1, if_true]
    go_enter Tryz.func111, Tryz.ntmps111
    go_wp2_with fail
    refine (C1.out _).mono ?_
    rintro e W1 ⟨rfl, hb1⟩
    go_wp2_with fail
    go_ret2
    exact ⟨rfl, hb1⟩
  · simp only [h1, if_false]
    by_cases h2 : 0 < n2
    · simp only [h2, if_true]
      go_enter Tryz.func111, Tryz.ntmps111
      go_wp2_with fail
      refine (C1.out _).mono ?_
      rintro e W1 ⟨rfl, hb1⟩
      go_wp2_with fail
      refine (C2.out _).mono ?_
      rintro e W2 ⟨rfl, hb2⟩
      go_wp2_with fail
      go_ret2
      exact ⟨rfl, hb1.trans (hb2.mono hb1.size)⟩
    · simp only [h2, if_false]
      by_cases h3 : 0 < n3
      · simp only [h3, if_true]
        go_enter Tryz.func111, Tryz.ntmps111
        go_wp2_with fail
        refine (C1.out _).mono ?_
        rintro e W1 ⟨rfl, hb1⟩
        go_wp2_with fail
        refine (C2.out _).mono ?_
        rintro e W2 ⟨rfl, hb2⟩
        go_wp2_with fail
        refine (C3.out _).mono ?_
        rintro e W3 ⟨rfl, hb3⟩
        have B2 := hb1.trans (hb2.mono hb1.size)
        go_wp2_with fail
        go_ret2
        exact ⟨rfl, B2.trans (hb3.mono B2.size)⟩
      · simp only [h3, if_false]
        by_cases h4 : 0 < n4
        all_goals simp only [h4, if_true, if_false]
        all_goals
          go_enter Tryz.func111, Tryz.ntmps111
          go_wp2_with fail
          refine (C1.out _).mono ?_
          rintro e W1 ⟨rfl, hb1⟩
          go_wp2_with fail
          refine (C2.out _).mono ?_
          rintro e W2 ⟨rfl, hb2⟩
          have B2 := hb1.trans (hb2.mono hb1.size)
          go_wp2_with fail
          refine (C3.out _).mono ?_
          rintro e W3 ⟨rfl, hb3⟩
          have B3 := B2.trans (hb3.mono B2.size)
          go_wp2_with fail
          refine (C4.out _ B3).mono ?_
          rintro e W4 ⟨rfl, hb4⟩
          have B4 := B3.trans (hb4.mono B3.size)
          go_wp2_with fail
          go_ret2
          first | exact ⟨rfl, B4⟩ | (obtain rfl : n4 = 0 := (by omega); exact ⟨rfl, B4⟩)
end Go.Proofs.YtjkdcladjjpmoaaGreatDoor.LexC
/- The contract of lex.Lex: any bytes are the tokens that the plain function lexA gives, or the fault that it tells. -/
namespace Go.Proofs.YtjkdcladjjpmoaaGreatDoor.LexC
open Go Go.RowKit Go.Lib Go.Proofs.YtjkdcladjjpmoaaGreatDoor.LexP

/-- what is owned stays owned behind a call that lets the memory there alone -/
theorem owns_below {W W1 : World} {base : Nat} {e : TypeId} {size : Nat} {v : Value} {n : Nat} {xs : List Value} (h : W.ownsRow base e size v n xs) (hb : Below W.heap.size W W1) : W1.ownsRow base e size v n xs := by
  refine ⟨h.1, ?_⟩
  rcases h.2 with hn | ⟨g, cap, cur, rfl, hg1, hg2, rest⟩
  · exact .inl hn
  · refine .inr ⟨g, cap, cur, rfl, hg1, ?_, rest⟩
    rw [hb.block g (Array.getElem?_eq_some_iff.1 hg2).1]
    exact hg2

def tokCells (t : Tok) : List Value := [.int .i64 (t.kind : Int), .int .i64 (t.at_ : Int), .string ⟨t.text.toArray⟩]
def rowOf (l : List Tok) : List Value := l.flatMap tokCells
theorem rowOf_snoc (l : List Tok) (t : Tok) : rowOf (l ++ [t]) = rowOf l ++ tokCells t := by simp [rowOf]

theorem tok_info : (Tryz.prog.info? 88).map (fun i => (i.zero, i.size, i.bytes)) = some (some (.agg #[.int .i64 0, .int .i64 0, .string ⟨#[]⟩]), 3, 32) := by kernel_rfl

def LexPost (r : Sum Nat (List Tok)) (w : World) (e : Ending) (w' : World) : Prop :=
  Below w.heap.size w w' ∧ match r with
  | .inl p => ∃ b, w.heap.size ≤ b ∧ e = .returned (.tuple #[.slice none 0 0, .iface 101 (.pointer (some ⟨b, 0, none⟩))]) ∧ w'.heap[b]? = some (.cells #[.int .i64 (p : Int), .iface 67 (.int .i64 1)] 103 (0, 0))
  | .inr toks => ∃ v, e = .returned (.tuple #[v, .nilIface]) ∧ w'.ownsRow w.heap.size 88 3 v toks.length (rowOf toks)

theorem lex_much (s : ByteArray) (w : World) (hs : 20000 < s.size) (h2 : s.size ≤ 9223372036854775807) :
    Calls Tryz.prog 53 #[.string s] w fun e w' => e = .returned (.tuple #[.slice none 0 0, .iface 67 (.int .i64 3)]) ∧ w = w' := by
  go_enter Tryz.func53, Tryz.ntmps53
  go_wp2
  go_ret2
  exact ⟨rfl, rfl⟩

set_option maxHeartbeats 4000000 in
set_option maxRecDepth 100000 in
theorem lex_any (s : ByteArray) (w : World) (hs : s.size ≤ 20000) (T : Lib.Utf8Tabs 2 3 w) :
    Calls Tryz.prog 53 #[.string s] w fun e w' => LexPost (lexA s.data.toList) w e w' := by
  obtain ⟨i0, hi, hz0, hz1, hz2⟩ := info_parts tok_info
  have HSZ := hid (Lib.size_eq s)
  have hk := skip_le s.data.toList
  rw [← Lib.size_eq] at hk
  have C0 : Hid _ := hid (blank_any s w (by omega))
  go_enter Tryz.func53, Tryz.ntmps53
  go_wp2_with fail
  refine C0.out.mono ?_
  rintro e W0 ⟨rfl, hb0⟩
  go_wp2_with fail
  go_loopg [4, 5] s.size (fun gf v u wx => ∃ (a : Nat) (acc : List Tok), u = .int .i64 (a : Int) ∧ a ≤ s.size ∧ s.size ≤ a + gf ∧ acc.length ≤ a ∧
    Hid (lexG gf a (s.data.toList.drop a) acc = lexA s.data.toList) ∧ Below w.heap.size w wx ∧ Hid (wx.ownsRow w.heap.size 88 3 v acc.length (rowOf acc)))
  case atStart => exact ⟨skip s.data.toList, [], rfl, hk, by omega, by simp, hid (by rw [lexA, ← Lib.size_eq]), hb0, hid (World.ownsRow_nil _ _ _ _)⟩
  case round =>
    obtain ⟨a, acc, rfl, ha, hg, hacc, HL, hb, HO⟩ := hrel
    by_cases hlt : a < s.size
    · obtain ⟨g', rfl⟩ : ∃ g', gk = g' + 1 := ⟨gk - 1, by omega⟩
      have t1 := tail_list s a
      have hne : s.data.toList.drop a ≠ [] := by
        intro e
        have := congrArg List.length e
        rw [List.length_drop, ← Lib.size_eq] at this
        simp at this
        omega
      have c1 : ∀ W, Below w.heap.size w W → Calls Tryz.prog 111 _ W _ := fun W h => sign_any (s.extract a s.size) W (by simp; omega) (by simp; omega) (Utf8Tabs_below T h)
      rw [t1] at c1
      have hl := signN_le (s.data.toList.drop a)
      rw [List.length_drop, ← Lib.size_eq] at hl
      have H0 := HL.out
      rw [lexG, if_neg hne] at H0
      have htxt : ∀ b, s.extract a (a + b) = ⟨((s.data.toList.drop a).take b).toArray⟩ := fun b => by rw [Lib.extract_eq]; simp
      obtain ⟨z, hz⟩ : ∃ z, signN (s.data.toList.drop a) = z := ⟨_, rfl⟩
      obtain ⟨k, hk⟩ : ∃ k, signK (s.data.toList.drop a) = k := ⟨_, rfl⟩
      rw [hz, hk] at c1
      rw [hz] at hl
      rw [hz, hk, List.drop_drop, List.drop_drop] at H0
      have C1 := hid c1
      clear c1 HL t1 hne
      by_cases hz0' : z = 0
      · rw [if_pos hz0'] at H0
        subst hz0'
        have HR := hid H0
        have HH := hid htxt
        clear H0 htxt hz hk hl
        go_wp2_with fail
        refine (C1.out _ (by assumption)).mono ?_
        rintro e W1 ⟨rfl, hb1⟩
        have B := hb.trans (hb1.mono hb.size)
        clear hb hb1
        go_wp2_with fail
        go_ret2
        rw [← HR.out]
        exact ⟨B.alloc B.size _, W1.heap.size, B.size, rfl, heap_alloc_new _ _⟩
      · rw [if_neg hz0'] at H0
        have t2 := tail_list s (a + z)
        have c2 : ∀ W, Calls Tryz.prog 110 _ W _ := fun W => blank_any (s.extract (a + z) s.size) W (by simp; omega)
        rw [t2] at c2
        have hl2 := skip_le (s.data.toList.drop (a + z))
        rw [List.length_drop, ← Lib.size_eq] at hl2
        obtain ⟨b, hb'⟩ : ∃ b, skip (s.data.toList.drop (a + z)) = b := ⟨_, rfl⟩
        rw [hb'] at c2 H0 hl2
        have C2 := hid c2
        have HR := hid H0
        have HH := hid (htxt z)
        have hzi : ¬ ((z : Int) = 0) := by omega
        clear H0 htxt hz hk c2 hb' t2
        go_wp2_with fail
        refine (C1.out _ (by assumption)).mono ?_
        rintro e W1 ⟨rfl, hb1⟩
        have B := hb.trans (hb1.mono hb.size)
        have HO1 := hid (owns_below HO.out hb1)
        clear hb hb1 HO
        go_wp2_with (at_builtin; refine wpList_append_own _ rfl _ _ 83 rfl w.heap.size 88 i0 _ 3 32 Tryz.underlying83 hi hz0 hz1 hz2 rfl (by decide) _ _ _ rfl (HO1.out.alloc _) ⟨W1.heap.size, 0, none⟩ 1 1 [.int .i64 (k : Int), .int .i64 (a : Int), .string (s.extract a (a + z))] rfl rfl ?c1 ?c2 ?c3 ?c4 ?c5 ?_)
        case c1 =>
          intro j u hj
          match j, hj with
          | 0, hj => simp at hj; subst hj; simp [Addr.add]
          | 1, hj => simp at hj; subst hj; simp [Addr.add]
          | 2, hj => simp at hj; subst hj; simp [Addr.add]
        case c2 => intro u hu; simp at hu; rcases hu with rfl | rfl | rfl <;> rfl
        case c3 => unfold maxLen; omega
        case c4 => omega
        case c5 => have := B.size; simp; omega
        intro v' w2 hown' hgrow _
        have B2 : Below w.heap.size w w2 := (B.alloc B.size _).grown hgrow (by have := B.size; simp; omega) (fun i hi => (HO1.out.lt i hi).1)
        have HO2 : Hid (w2.ownsRow w.heap.size 88 3 v' (acc ++ [Tok.mk k a ((s.data.toList.drop a).take z)]).length (rowOf (acc ++ [Tok.mk k a ((s.data.toList.drop a).take z)]))) := by
          rw [rowOf_snoc, List.length_append]
          unfold tokCells
          rw [← HH.out]
          exact hid hown'
        clear hown' hgrow HO1 B HH
        go_wp2_with fail
        refine (C2.out _).mono ?_
        rintro e W3 ⟨rfl, hb3⟩
        have B3 := B2.trans (hb3.mono B2.size)
        have HO3 := hid (owns_below HO2.out hb3)
        clear HO2 B2 hb3
        go_wp2_with fail
        go_roundg g'
        case measure => omega
        case rel => exact ⟨a + z + b, acc ++ [Tok.mk k a ((s.data.toList.drop a).take z)], by go_num, by omega, by omega, by simp; omega, HR, B3, HO3⟩
    · have H0 := HL.out
      have e0 : s.data.toList.drop a = [] := List.drop_eq_nil_of_le (by rw [← Lib.size_eq]; omega)
      rw [e0] at H0
      have e1 : lexG gk a [] acc = .inr acc := by cases gk <;> simp [lexG]
      rw [e1] at H0
      have HR := hid H0
      clear H0 e0 e1 HL
      go_wp2_with fail
      go_ret2
      rw [← HR.out]
      exact ⟨hb, _, rfl, HO.out⟩
end Go.Proofs.YtjkdcladjjpmoaaGreatDoor.LexC
/- Plain lemmas for the document's answer of layer 1: byte by byte it comes to what the plain functions say. -/
namespace Go.Proofs.YtjkdcladjjpmoaaGreatDoor.LexP
open Go Go.Lib

theorem drop_cons_get {l : List UInt8} {n : Nat} {c : UInt8} (h : l[n]? = some c) : l.drop n = c :: l.drop (n + 1) := by
  have hlt : n < l.length := (List.getElem?_eq_some_iff.1 h).1
  rw [List.drop_eq_getElem_cons hlt, (List.getElem?_eq_some_iff.1 h).2]

/-- so many bytes of a word have been read -/
def WRel (l : List UInt8) (n : Nat) : Prop := n ≤ l.length ∧ span inWd l = n + span inWd (l.drop n) ∧ (0 < n → span isDig l = 0)
theorem wrel_zero (l : List UInt8) : WRel l 0 := ⟨Nat.zero_le _, by simp, fun h => by omega⟩
theorem wrel_step {l : List UInt8} {n : Nat} {c : UInt8} (h : WRel l n) (hc : l[n]? = some c) (ht : rLet c.toNat = true ∨ (0 < n ∧ rDig c.toNat = true)) : WRel l (n + 1) := by
  obtain ⟨h1, h2, h3⟩ := h
  have hlt : n < l.length := (List.getElem?_eq_some_iff.1 hc).1
  have hw : inWd c = true := by
    rcases ht with h | ⟨_, h⟩
    · show (isLet c || isDig c) = true
      rw [show isLet c = rLet c.toNat from rfl, h]; rfl
    · show (isLet c || isDig c) = true
      rw [show isDig c = rDig c.toNat from rfl, h]; simp
  rw [drop_cons_get hc, span_cons_t _ _ _ hw] at h2
  refine ⟨hlt, by omega, fun _ => ?_⟩
  by_cases hn : 0 < n
  · exact h3 hn
  · obtain rfl : n = 0 := by omega
    rcases ht with h | ⟨h, _⟩
    · have e := drop_cons_get hc
      simp only [List.drop_zero] at e
      rw [e, span_cons_f]
      show rDig c.toNat = false
      simp [rLet] at h
      simp [rDig]
      omega
    · omega
theorem wrel_end {l : List UInt8} {n : Nat} (h : WRel l n) (hn : l.length ≤ n) : wordN l = if 30 < n then 0 else n := by
  obtain ⟨h1, h2, h3⟩ := h
  have e : l.drop n = [] := List.drop_eq_nil_of_le hn
  rw [e] at h2
  have h4 : span inWd l = n := by simpa [span] using h2
  unfold wordN
  rw [h4]
  by_cases h0 : 0 < n
  · rw [h3 h0]
    by_cases h5 : 30 < n <;> simp [h5]
  · obtain rfl : n = 0 := by omega
    simp
theorem wrel_stop {l : List UInt8} {n : Nat} {c : UInt8} (h : WRel l n) (hc : l[n]? = some c) (h1 : rLet c.toNat = false) (h2 : ¬ (0 < n ∧ rDig c.toNat = true)) : wordN l = if 30 < n then 0 else n := by
  obtain ⟨k1, k2, k3⟩ := h
  by_cases h0 : 0 < n
  · have hd : rDig c.toNat = false := by
      cases e : rDig c.toNat with
      | false => rfl
      | true => exact absurd ⟨h0, e⟩ h2
    have hw : inWd c = false := by
      show (rLet c.toNat || rDig c.toNat) = false
      rw [h1, hd]; rfl
    rw [drop_cons_get hc, span_cons_f _ _ _ hw] at k2
    have k4 : span inWd l = n := by omega
    unfold wordN
    rw [k4, k3 h0]
    by_cases h5 : 30 < n <;> simp [h5]
  · obtain rfl : n = 0 := by omega
    have e := drop_cons_get hc
    simp only [List.drop_zero] at e
    simp only [Nat.not_lt_zero, if_false]
    unfold wordN
    cases hd : rDig c.toNat with
    | true =>
      have : 0 < span isDig l := by
        rw [e, span_cons_t isDig _ _ hd]; omega
      rw [if_pos (.inr this)]
    | false =>
      have : span inWd l = 0 := by
        rw [e, span_cons_f]
        show (rLet c.toNat || rDig c.toNat) = false
        rw [h1, hd]; rfl
      rw [this]; simp

/-- so many bytes are in a set -/
def SRel (p : UInt8 → Bool) (l : List UInt8) (n : Nat) : Prop := n ≤ l.length ∧ span p l = n + span p (l.drop n)
theorem srel_zero (p : UInt8 → Bool) (l : List UInt8) : SRel p l 0 := ⟨Nat.zero_le _, by simp⟩
theorem srel_step {p : UInt8 → Bool} {l : List UInt8} {n : Nat} {c : UInt8} (h : SRel p l n) (hc : l[n]? = some c) (ht : p c = true) : SRel p l (n + 1) := by
  obtain ⟨h1, h2⟩ := h
  have hlt : n < l.length := (List.getElem?_eq_some_iff.1 hc).1
  rw [drop_cons_get hc, span_cons_t _ _ _ ht] at h2
  exact ⟨hlt, by omega⟩
theorem srel_end {p : UInt8 → Bool} {l : List UInt8} {n : Nat} (h : SRel p l n) (hn : l.length ≤ n) : span p l = n := by
  have e : l.drop n = [] := List.drop_eq_nil_of_le hn
  have := h.2
  rw [e] at this
  simpa [span] using this
theorem srel_stop {p : UInt8 → Bool} {l : List UInt8} {n : Nat} {c : UInt8} (h : SRel p l n) (hc : l[n]? = some c) (ht : p c = false) : span p l = n := by
  have := h.2
  rw [drop_cons_get hc, span_cons_f _ _ _ ht] at this
  omega

/-- the sign that begins with a letter, a digit, a ', or anything else -/
theorem sign_let (c : UInt8) (r : List UInt8) (h : rLet c.toNat = true) : signN (c :: r) = wordN (c :: r) ∧ signK (c :: r) = if 0 < wordN (c :: r) then 1 else 0 := by
  have h1 : rDig c.toNat = false := by simp [rLet] at h; simp [rDig]; omega
  have h2 : span isDig (c :: r) = 0 := span_cons_f _ _ _ h1
  have h3 : numN (c :: r) = 0 := by simp [numN, h2]
  have h4 : ¬ c.toNat = 39 := by simp [rLet] at h; omega
  have h5 : lifeN (c :: r) = 0 := by simp [lifeN, h4]
  have h6 : markN (c :: r) = 0 := by
    have hm : marks.contains c = false := by
      rw [← Bool.not_eq_true]
      intro k
      have : ∀ x ∈ marks, rLet x.toNat = false := by decide
      rw [this c (by simpa using k)] at h
      simp at h
    have ht : two (c :: r) = false := by
      cases r with
      | nil => rfl
      | cons b r =>
        have a1 : (c.toNat == 45) = false := by simp [rLet] at h; simp; omega
        have a2 : (c.toNat == 61) = false := by simp [rLet] at h; simp; omega
        simp [two, a1, a2]
    simp only [markN, ht, hm, Bool.false_eq_true, if_false]
  unfold signN signK
  rw [h3, h5, h6]
  by_cases h0 : 0 < wordN (c :: r)
  · simp [h0]
  · simp [h0]; omega
theorem sign_dig (c : UInt8) (r : List UInt8) (h : rDig c.toNat = true) : signN (c :: r) = numN (c :: r) ∧ signK (c :: r) = if 0 < numN (c :: r) then 2 else 0 := by
  have h2 : 0 < span isDig (c :: r) := by rw [span_cons_t isDig _ _ h]; omega
  have h3 : wordN (c :: r) = 0 := by simp [wordN, h2]
  have h4 : ¬ c.toNat = 39 := by simp [rDig] at h; omega
  have h5 : lifeN (c :: r) = 0 := by simp [lifeN, h4]
  have h6 : markN (c :: r) = 0 := by
    have hm : marks.contains c = false := by
      rw [← Bool.not_eq_true]
      intro k
      have : ∀ x ∈ marks, rDig x.toNat = false := by decide
      rw [this c (by simpa using k)] at h
      simp at h
    have ht : two (c :: r) = false := by
      cases r with
      | nil => rfl
      | cons b r =>
        have a1 : (c.toNat == 45) = false := by simp [rDig] at h; simp; omega
        have a2 : (c.toNat == 61) = false := by simp [rDig] at h; simp; omega
        simp [two, a1, a2]
    simp only [markN, ht, hm, Bool.false_eq_true, if_false]
  unfold signN signK
  rw [h3, h5, h6]
  by_cases h0 : 0 < numN (c :: r)
  · simp [h0]
  · simp [h0]; omega
theorem sign_quote (c : UInt8) (r : List UInt8) (h : c.toNat = 39) : signN (c :: r) = (if 0 < wordN r then 1 + wordN r else 0) ∧ signK (c :: r) = if 0 < wordN r then 3 else 0 := by
  have h1 : rDig c.toNat = false := by rw [h]; rfl
  have h2 : span isDig (c :: r) = 0 := span_cons_f _ _ _ h1
  have hw : span inWd (c :: r) = 0 := span_cons_f _ _ _ (by show (rLet c.toNat || rDig c.toNat) = false; rw [h]; rfl)
  have h3 : numN (c :: r) = 0 := by simp [numN, h2]
  have h4 : wordN (c :: r) = 0 := by simp [wordN, h2, hw]
  have h5 : lifeN (c :: r) = if 0 < wordN r then 1 + wordN r else 0 := by simp [lifeN, h]
  have h6 : markN (c :: r) = 0 := by
    have hm : marks.contains c = false := by
      rw [← Bool.not_eq_true]
      intro k
      have : ∀ x ∈ marks, x.toNat ≠ 39 := by decide
      exact this c (by simpa using k) h
    have ht : two (c :: r) = false := by
      cases r with
      | nil => rfl
      | cons b r => simp [two, h]
    simp only [markN, ht, hm, Bool.false_eq_true, if_false]
  unfold signN signK
  rw [h3, h4, h5, h6]
  by_cases h0 : 0 < wordN r
  · have : 0 < 1 + wordN r := by omega
    simp [h0]
  · simp [h0]
theorem sign_else (c : UInt8) (r : List UInt8) (h1 : rLet c.toNat = false) (h2 : rDig c.toNat = false) (h3 : ¬ c.toNat = 39) : signN (c :: r) = markN (c :: r) ∧ signK (c :: r) = if 0 < markN (c :: r) then 4 else 0 := by
  have a1 : span isDig (c :: r) = 0 := span_cons_f _ _ _ h2
  have hw : span inWd (c :: r) = 0 := span_cons_f _ _ _ (by show (rLet c.toNat || rDig c.toNat) = false; rw [h1, h2]; rfl)
  have a3 : numN (c :: r) = 0 := by simp [numN, a1]
  have a4 : wordN (c :: r) = 0 := by simp [wordN, a1, hw]
  have a5 : lifeN (c :: r) = 0 := by simp [lifeN, h3]
  unfold signN signK
  rw [a3, a4, a5]
  by_cases h0 : 0 < markN (c :: r) <;> simp [h0]

theorem rem_at {L : List UInt8} {a : Nat} {c : UInt8} (hc : L[a]? = some c) : rem (L.drop a) = true ↔ c.toNat = 47 ∧ ∃ d, L[a + 1]? = some d ∧ d.toNat = 47 := by
  rw [drop_cons_get hc, rem_cons]
  simp only [decide_eq_true_eq, Option.map_eq_some_iff, List.head?_drop]
/-- what has been read up to a place, and what is to come, are the whole -/
def FRel (L : List UInt8) (a : Nat) (acc : List Tok) : Prop := ∃ n, L.length ≤ a + n ∧ lexG n (a + skip (L.drop a)) (L.drop (a + skip (L.drop a))) acc = lexA L
theorem frel_start (L : List UInt8) : FRel L 0 [] := ⟨L.length, by omega, by simp [lexA]⟩
theorem frel_blank {L : List UInt8} {a : Nat} {acc : List Tok} {c : UInt8} (h : FRel L a acc) (hc : L[a]? = some c) (hb : isBl c = true) : FRel L (a + 1) acc := by
  obtain ⟨n, h1, h2⟩ := h
  rw [drop_cons_get hc, skip_cons_bl _ _ hb, show a + (1 + skip (L.drop (a + 1))) = a + 1 + skip (L.drop (a + 1)) by omega] at h2
  exact ⟨n, by omega, h2⟩
theorem frel_rem {L : List UInt8} {a : Nat} {acc : List Tok} (h : FRel L a acc) (hr : rem (L.drop a) = true) : FRel L (a + span inRem (L.drop a)) acc := by
  obtain ⟨n, h1, h2⟩ := h
  rw [skip_rem _ hr, List.drop_drop, ← Nat.add_assoc] at h2
  exact ⟨n, by omega, h2⟩
theorem frel_end {L : List UInt8} {a : Nat} {acc : List Tok} (h : FRel L a acc) (ha : L.length ≤ a) : lexA L = .inr acc := by
  obtain ⟨n, h1, h2⟩ := h
  have e : L.drop (a + skip (L.drop a)) = [] := List.drop_eq_nil_of_le (by omega)
  rw [e] at h2
  rw [← h2]
  cases n <;> simp [lexG]
theorem frel_one {L : List UInt8} {a : Nat} {acc : List Tok} {c : UInt8} (h : FRel L a acc) (hc : L[a]? = some c) (hb : isBl c = false) (hr : rem (L.drop a) = false) :
    (signN (L.drop a) = 0 → lexA L = .inl a) ∧ (signN (L.drop a) ≠ 0 → FRel L (a + signN (L.drop a)) (acc ++ [⟨signK (L.drop a), a, (L.drop a).take (signN (L.drop a))⟩])) := by
  obtain ⟨n, h1, h2⟩ := h
  have hlt : a < L.length := (List.getElem?_eq_some_iff.1 hc).1
  have hs : skip (L.drop a) = 0 := skip_zero _ (by rw [drop_cons_get hc, span_cons_f _ _ _ hb]) hr
  have hne : L.drop a ≠ [] := by rw [drop_cons_get hc]; simp
  obtain ⟨m, rfl⟩ : ∃ m, n = m + 1 := ⟨n - 1, by omega⟩
  rw [hs] at h2
  simp only [Nat.add_zero] at h2
  rw [lexG, if_neg hne] at h2
  constructor
  · intro hz
    rw [if_pos hz] at h2
    exact h2.symm
  · intro hz
    rw [if_neg hz, List.drop_drop, List.drop_drop] at h2
    exact ⟨m, by omega, h2⟩
end Go.Proofs.YtjkdcladjjpmoaaGreatDoor.LexP

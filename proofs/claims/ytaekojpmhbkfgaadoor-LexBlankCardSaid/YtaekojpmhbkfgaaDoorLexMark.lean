/- Contracts of strings.ContainsRune at the lexer's marks, of lex.mark and lex.sign. -/
import Derived.Test.YtaekojpmhbkfgaaDoorLexScan
import Derived.Test.YtaekojpmhbkfgaaDoorShelf
import Derived.Deep.QuietTactic
import Derived.BigQuiet
namespace Go.Proofs.YtaekojpmhbkfgaaDoor.LexC
open Go Go.RowKit Go.Lib Go.Proofs.YtaekojpmhbkfgaaDoor.LexP

/-- A call that leaves the world alone, met inside the second region that draws. -/
theorem still_again {P : Program} {g : FuncId} {xs : Array Value} {V : World} {i j : Nat} {r : Value} (c : ∀ W : World, Calls P g xs W fun e w' => e = .returned r ∧ w' = W) :
    Calls P g xs (V.drewN (i + j)) fun e w' => e = .returned r ∧ ∃ k, w' = V.drewN (i + k) :=
  (c _).mono fun _ _ ⟨h1, h2⟩ => ⟨h1, j, h2⟩

def MB : ByteArray := ⟨#[40, 41, 123, 125, 91, 93, 44, 59, 58, 46, 38, 42, 61, 43, 45, 47, 60]⟩
theorem MB_size : MB.size = 17 := rfl
theorem MB_low : ∀ i, i < 17 → ((MB.get! i).toNat < 128) := by decide
theorem MB_get (i : Nat) (h : i < MB.size) : (MB[i]'h).toNat < 128 := by
  have : MB.get! i = MB[i]'h := by simp [ByteArray.get!, getElem!_pos, h]; rfl
  rw [← this]
  exact MB_low i h

set_option maxHeartbeats 1000000 in
set_option maxRecDepth 10000000 in
theorem irune_bad (w : World) : Calls Tryd.prog 44 #[.string MB, .int .i32 65533] w fun e w' => e = .returned (.int .i64 (-1)) ∧ Below w.heap.size w w' := by
  go_enter Tryd.func44, Tryd.ntmps44
  go_wp2
  go_loopg [] 17 (fun gf wx => ∃ pos : Nat, wx.heap[w.heap.size]? = some (.stringIter MB pos) ∧ Below w.heap.size w wx ∧ 17 ≤ pos + gf)
  case atStart => exact ⟨0, World.iter_heap w MB 0, (Below.refl _ w).alloc (Nat.le_refl _) _, by omega⟩
  case round =>
    obtain ⟨pos, hit, hbw, hfu⟩ := hrel
    by_cases hps : pos < MB.size
    · have hps' : pos < 17 := hps
      have hlow := MB_get pos hps
      have hnx : ∀ ty, (Instr.next (.pointer (some ⟨w.heap.size, 0, none⟩)) true ty).run Tryd.prog wr = _ := fun ty => Lib.run_next_ascii_at wr w.heap.size MB pos ty hit hps hlow
      obtain ⟨R, hR⟩ : ∃ R, (MB[pos]'hps).toNat = R := ⟨_, rfl⟩
      rw [hR] at hnx hlow
      have hne : ((R : Int) == 65533) = false := by simp; omega
      have hit2 := Lib.iterAt_heap wr w.heap.size MB pos (pos + 1) hit
      have hbw2 := Lib.below_iterAt hbw (k := w.heap.size) (Nat.le_refl _) MB (pos + 1)
      obtain ⟨W, hWd⟩ : ∃ W, wr.iterAt w.heap.size MB (pos + 1) = W := ⟨_, rfl⟩
      rw [hWd] at hnx hit2 hbw2
      clear hR hit hbw
      go_wp2
      go_roundg (gk - 1)
      case measure => omega
      case rel => exact ⟨pos + 1, hit2, hbw2, by omega⟩
    · have hnx : ∀ ty, (Instr.next (.pointer (some ⟨w.heap.size, 0, none⟩)) true ty).run Tryd.prog wr = _ := fun ty => Lib.run_next_end_at wr w.heap.size MB pos ty hit hps
      clear hit
      go_wp2
      go_ret
      exact ⟨rfl, hbw⟩
/-- what a rune from 128 on is, in bytes -/
theorem encode_wide (r : Nat) (h1 : 128 ≤ r) : ∃ n : Nat, (Utf8.encode (r : Int)).size = n + 1 ∧ 1 ≤ n ∧ n ≤ 3 ∧ 128 ≤ ((Utf8.encode (r : Int)).get! n).toNat := by
  have key : ∀ k : Nat, k < 64 → (UInt8.ofNat (128 + k)).toNat = 128 + k := fun k hk => by simp; omega
  obtain ⟨c, hc, hc1⟩ : ∃ c, (if Utf8.valid (r : Int) then (r : Int).toNat else Utf8.runeError) = c ∧ 128 ≤ c := ⟨_, rfl, by
    split
    · simpa using h1
    · simp [Utf8.runeError]⟩
  simp only [Utf8.encode, hc]
  rw [if_neg (by omega)]
  split
  · exact ⟨1, rfl, by omega, by omega, by show 128 ≤ (UInt8.ofNat (128 + c % 64)).toNat; rw [key _ (by omega)]; omega⟩
  · split
    · exact ⟨2, rfl, by omega, by omega, by show 128 ≤ (UInt8.ofNat (128 + c % 64)).toNat; rw [key _ (by omega)]; omega⟩
    · exact ⟨3, rfl, by omega, by omega, by show 128 ≤ (UInt8.ofNat (128 + c % 64)).toNat; rw [key _ (by omega)]; omega⟩
theorem indexByte_none : ∀ (l : List UInt8) (c : UInt8), (∀ x ∈ l, x ≠ c) → Lib.indexByte l c = -1
  | [], _, _ => rfl
  | x :: l, c, h => by
    have h1 := h x (by simp)
    have h2 := indexByte_none l c (fun y hy => h y (by simp [hy]))
    simp [Lib.indexByte, h1, h2]
theorem MB_all : ∀ x ∈ MB.data.toList, x.toNat < 128 := by decide
theorem marks_miss (v : Nat) (h : 128 ≤ v) (h2 : v < 256) (k : Nat) : Lib.indexByte ((MB.extract k MB.size).data.toList) ((v : Int).toNat.toUInt8) = -1 := by
  apply indexByte_none
  intro x hx e
  rw [tail_list] at hx
  have h3 := MB_all x (List.mem_of_mem_drop hx)
  rw [e] at h3
  simp at h3
  omega
set_option maxHeartbeats 1000000 in
set_option maxRecDepth 10000000 in
theorem irune_wide (r : Nat) (w : World) (h1 : 128 ≤ r) (h3 : r ≠ 65533) (hv : Lib.validRune r = true) : Calls Tryd.prog 44 #[.string MB, .int .i32 (r : Int)] w fun e w' => e = .returned (.int .i64 (-1)) ∧ Below w.heap.size w w' := by
  have c1 : ∀ W, Calls Tryd.prog 46 _ W _ := fun W => Tryd.utf8_ValidRune (r : Int) W
  rw [hv] at c1
  have C1 := hid c1
  have hb : ((r : Int) == 65533) = false := by simp; omega
  clear c1 hv
  obtain ⟨n, e1, e2, e3, e4⟩ := encode_wide r h1
  obtain ⟨E, hE⟩ : ∃ E, Utf8.encode (r : Int) = E := ⟨_, rfl⟩
  rw [hE] at e1 e4
  have hn : n < E.size := by omega
  have e5 : E.get! n = E[n]'hn := by simp [ByteArray.get!, getElem!_pos, hn]; rfl
  rw [e5] at e4
  have e6 := UInt8.toNat_lt (E[n]'hn)
  have hm : n < MB.size := by show n < 17; omega
  have m4 := MB_get n hm
  obtain ⟨x, hx⟩ : ∃ x, (E[n]'hn).toNat = x := ⟨_, rfl⟩
  obtain ⟨y, hy⟩ : ∃ y, (MB[n]'hm).toNat = y := ⟨_, rfl⟩
  rw [hx] at e4 e6
  rw [hy] at m4
  have c2 : ∀ W, Calls Tryd.prog 45 _ W _ := fun W => Tryd.strings_IndexByte (MB.extract (n + 1) MB.size) (x : Int) W
  rw [marks_miss x e4 e6] at c2
  have C2 := hid c2
  have ne : ((y : Int) != (x : Int)) = true := by simp; omega
  clear e4 e5 e6 h3 c2 m4
  go_enter Tryd.func44, Tryd.ntmps44
  go_wp2_with fail
  refine (C1.out _).mono ?_
  rintro e W1 ⟨rfl, rfl⟩
  go_wp2_with go_step3
  refine wp_loop_rounds 1 ?_
  rw [rounds_succ]
  go_wp2_with go_step3
  go_quiet (fail)
  go_wp2_with go_step3
  go_quiet ((go_at_call 45; exact still_again C2.out))
  go_wp2_with go_step3
  rw [Exit.noGoto_ret]
  go_wp2
  rw [Exit.noGoto_ret]
  go_ret
  exact ⟨rfl, below_drewN' (Below.refl _ _) _⟩
set_option maxHeartbeats 1000000 in
set_option maxRecDepth 10000000 in
theorem irune_odd (r : Nat) (w : World) (h1 : 128 ≤ r) (hb : ((r : Int) == 65533) = false) (c1 : ∀ W, Calls Tryd.prog 46 #[.int .i32 (r : Int)] W fun e w' => e = .returned (.bool false) ∧ w' = W) : Calls Tryd.prog 44 #[.string MB, .int .i32 (r : Int)] w fun e w' => e = .returned (.int .i64 (-1)) ∧ Below w.heap.size w w' := by
  have C1 := hid c1
  clear c1
  go_enter Tryd.func44, Tryd.ntmps44
  go_wp2_with (go_at_call 46; refine (C1.out _).mono ?_; rintro e w' ⟨rfl, rfl⟩)
  go_ret
  exact ⟨rfl, Below.refl _ _⟩
theorem irune_none (r : Nat) (w : World) (h1 : 128 ≤ r) : Calls Tryd.prog 44 #[.string MB, .int .i32 (r : Int)] w fun e w' => e = .returned (.int .i64 (-1)) ∧ Below w.heap.size w w' := by
  by_cases h3 : r = 65533
  · subst h3
    exact irune_bad w
  · cases hv : Lib.validRune (r : Int) with
    | true => exact irune_wide r w h1 h3 hv
    | false =>
      have c1 : ∀ W, Calls Tryd.prog 46 _ W _ := fun W => Tryd.utf8_ValidRune (r : Int) W
      rw [hv] at c1
      have C1 := hid c1
      have hb : ((r : Int) == 65533) = false := by simp; omega
      clear c1 hv h3
      exact irune_odd r w h1 hb C1.out
set_option maxHeartbeats 1000000 in
theorem contains_none (r : Nat) (w : World) (h1 : 128 ≤ r) : Calls Tryd.prog 37 #[.string MB, .int .i32 (r : Int)] w fun e w' => e = .returned (.bool false) ∧ Below w.heap.size w w' := by
  have C1 := hid (irune_none r w h1)
  go_enter Tryd.func37, Tryd.ntmps37
  go_wp2_with (go_at_call 44; refine C1.out.mono ?_; rintro e w' ⟨rfl, hb⟩)
  go_ret
  exact ⟨rfl, by assumption⟩
theorem indexByte_has : ∀ (l : List UInt8) (c : UInt8), decide (0 ≤ Lib.indexByte l c) = l.contains c
  | [], _ => rfl
  | x :: l, c => by
    have h2 := indexByte_has l c
    have h3 : -1 ≤ Lib.indexByte l c := by
      cases h : decide (0 ≤ Lib.indexByte l c) with
      | true => have := of_decide_eq_true h; omega
      | false =>
        rw [h2] at h
        rw [indexByte_none l c (fun y hy e => by subst e; simp_all)]
        omega
    by_cases e : x = c
    · subst e
      simp [Lib.indexByte]
    · have e' : ¬ c = x := fun q => e q.symm
      simp only [Lib.indexByte, beq_iff_eq, e, if_false]
      rw [List.contains_cons, show (c == x) = false by simpa using e', Bool.false_or, ← h2]
      by_cases h4 : Lib.indexByte l c = -1
      · simp [h4]
      · rw [if_neg h4, Bool.eq_iff_iff]
        simp only [decide_eq_true_eq]
        omega
set_option maxHeartbeats 1000000 in
theorem decode_any (s : ByteArray) (w : World) (hz : 0 < s.size) (T : Lib.Utf8Tabs 1 2 w) : ∃ r n : Nat, (Calls Tryd.prog 36 #[.string s] w fun e w' => e = .returned (.tuple #[.int .i32 (r : Int), .int .i64 (n : Int)]) ∧ Below w.heap.size w w') ∧
    (((s.get! 0).toNat < 128 ∧ r = (s.get! 0).toNat) ∨ (128 ≤ (s.get! 0).toNat ∧ 128 ≤ r)) := by
  refine ⟨_, _, Tryd.utf8_DecodeRuneInString s w T, ?_⟩
  have e : Lib.decodeGo s = Utf8.decode s 0 := by simp only [Lib.decodeGo]; rw [if_neg (by omega)]
  rw [e, Lib.decode_at]
  have key := decodeN_cases (s.size - 0) (s.get! 0).toNat (s.get! (0 + 1)).toNat (s.get! (0 + 2)).toNat (s.get! (0 + 3)).toNat (UInt8.toNat_lt _) (by omega)
  rcases key with ⟨h1, h2⟩ | ⟨h1, h2, _⟩
  · left
    exact ⟨h1, by rw [h2]⟩
  · right
    exact ⟨h1, h2⟩
theorem two_eq (l : List UInt8) : two l = (Lib.hasPrefix l [45, 62] || Lib.hasPrefix l [61, 61]) := by
  rw [hasPrefix_two, hasPrefix_two]
  rcases l with _ | ⟨x, _ | ⟨y, r⟩⟩ <;> simp only [two, Bool.or_false]
  rw [Bool.eq_iff_iff]
  simp [← UInt8.toNat_inj]
theorem prefix_arrow (s : ByteArray) (w : World) (hs : s.size ≤ 4611686018427387904) : Calls Tryd.prog 18 #[.string s, .string ⟨#[45, 62]⟩] w fun e w' => e = .returned (.bool (Lib.hasPrefix s.data.toList [45, 62])) ∧ w = w' :=
  prefix_any s ⟨#[45, 62]⟩ w (by omega) (by decide)
theorem prefix_same (s : ByteArray) (w : World) (hs : s.size ≤ 4611686018427387904) : Calls Tryd.prog 18 #[.string s, .string ⟨#[61, 61]⟩] w fun e w' => e = .returned (.bool (Lib.hasPrefix s.data.toList [61, 61])) ∧ w = w' :=
  prefix_any s ⟨#[61, 61]⟩ w (by omega) (by decide)
theorem first_get (s : ByteArray) (hz : 0 < s.size) : ∃ r, s.data.toList = s.get! 0 :: r := by
  have h := get_some s 0 hz
  generalize s.data.toList = l at *
  rcases l with _ | ⟨x, r⟩
  · simp at h
  · simp at h
    exact ⟨r, by rw [h]⟩
/-- whether the first rune is one of the marks -/
theorem contains_first (s : ByteArray) (w : World) (_hz : 0 < s.size) (r : Nat) (h : ((s.get! 0).toNat < 128 ∧ r = (s.get! 0).toNat) ∨ (128 ≤ (s.get! 0).toNat ∧ 128 ≤ r)) :
    Calls Tryd.prog 37 #[.string MB, .int .i32 (r : Int)] w fun e w' => e = .returned (.bool (marks.contains (s.get! 0))) ∧ Below w.heap.size w w' := by
  rcases h with ⟨h1, rfl⟩ | ⟨h1, h2⟩
  · have c := Tryd.strings_ContainsRune_ascii MB ((s.get! 0).toNat : Int) w (by omega) (by omega)
    rw [indexByte_has, show (((s.get! 0).toNat : Int).toNat.toUInt8) = s.get! 0 by simp] at c
    exact c.mono fun e w' ⟨a, b⟩ => ⟨a, b ▸ Below.refl _ _⟩
  · have e : marks.contains (s.get! 0) = false := by
      rw [← Bool.not_eq_true]
      intro k
      have := MB_all (s.get! 0) (by simpa [MB, marks] using k)
      omega
    rw [e]
    exact contains_none r w h2
set_option maxHeartbeats 2000000 in
theorem mark_any (s : ByteArray) (w : World) (hs : s.size ≤ 4611686018427387904) (hz : 0 < s.size) (T : Lib.Utf8Tabs 1 2 w) :
    Calls Tryd.prog 23 #[.string s] w fun e w' => e = .returned (.int .i64 ((markN s.data.toList : Nat) : Int)) ∧ Below w.heap.size w w' := by
  have c1 := prefix_arrow s w hs
  have c2 := prefix_same s w hs
  obtain ⟨r, n, c3, hr⟩ := decode_any s w hz T
  have c4 : ∀ W, Calls Tryd.prog 37 _ W _ := fun W => contains_first s W hz r hr
  obtain ⟨q, hq⟩ := first_get s hz
  have hm : markN s.data.toList = if (Lib.hasPrefix s.data.toList [45, 62] || Lib.hasPrefix s.data.toList [61, 61]) = true then 2 else if marks.contains (s.get! 0) = true then 1 else 0 := by
    rw [← two_eq, hq]
    rfl
  rw [hm]
  generalize Lib.hasPrefix s.data.toList [45, 62] = b1 at *
  generalize Lib.hasPrefix s.data.toList [61, 61] = b2 at *
  generalize marks.contains (s.get! 0) = b3 at *
  have C1 := hid c1
  have C2 := hid c2
  have C3 := hid c3
  have C4 := hid c4
  clear c1 c2 c3 c4 hr hq hm T
  cases b1
  · cases b2
    · cases b3
      · simp only [Bool.or_false, Bool.false_eq_true, if_false]
        go_enter Tryd.func23, Tryd.ntmps23
        go_wp2_with fail
        refine C1.out.mono ?_
        rintro e W1 ⟨rfl, rfl⟩
        go_wp2_with fail
        refine C2.out.mono ?_
        rintro e W1 ⟨rfl, rfl⟩
        go_wp2_with fail
        refine C3.out.mono ?_
        rintro e W1 ⟨rfl, hb1⟩
        go_wp2_with fail
        refine (C4.out _).mono ?_
        rintro e W2 ⟨rfl, hb2⟩
        go_wp2_with fail
        go_ret
        exact ⟨rfl, hb1.trans (hb2.mono hb1.size)⟩
      · simp only [Bool.or_false, Bool.false_eq_true, if_false, if_true]
        go_enter Tryd.func23, Tryd.ntmps23
        go_wp2_with fail
        refine C1.out.mono ?_
        rintro e W1 ⟨rfl, rfl⟩
        go_wp2_with fail
        refine C2.out.mono ?_
        rintro e W1 ⟨rfl, rfl⟩
        go_wp2_with fail
        refine C3.out.mono ?_
        rintro e W1 ⟨rfl, hb1⟩
        go_wp2_with fail
        refine (C4.out _).mono ?_
        rintro e W2 ⟨rfl, hb2⟩
        go_wp2_with fail
        go_ret
        exact ⟨rfl, hb1.trans (hb2.mono hb1.size)⟩
    · simp only [Bool.or_true, if_true]
      go_enter Tryd.func23, Tryd.ntmps23
      go_wp2_with fail
      refine C1.out.mono ?_
      rintro e W1 ⟨rfl, rfl⟩
      go_wp2_with fail
      refine C2.out.mono ?_
      rintro e W1 ⟨rfl, rfl⟩
      go_wp2_with fail
      go_ret
      exact ⟨rfl, Below.refl _ _⟩
  · simp only [Bool.true_or, if_true]
    go_enter Tryd.func23, Tryd.ntmps23
    go_wp2_with fail
    refine C1.out.mono ?_
    rintro e W1 ⟨rfl, rfl⟩
    go_wp2_with fail
    go_ret
    exact ⟨rfl, Below.refl _ _⟩
set_option maxHeartbeats 2000000 in
theorem sign_any (s : ByteArray) (w : World) (hs : s.size ≤ 4611686018427387904) (hz : 0 < s.size) (T : Lib.Utf8Tabs 1 2 w) :
    Calls Tryd.prog 13 #[.string s] w fun e w' => e = .returned (.tuple #[.int .i64 ((signK s.data.toList : Nat) : Int), .int .i64 ((signN s.data.toList : Nat) : Int)]) ∧ Below w.heap.size w w' := by
  have c1 : ∀ W, Calls Tryd.prog 20 _ W _ := fun W => word_any s W hs
  have c2 : ∀ W, Calls Tryd.prog 21 _ W _ := fun W => number_any s W hs
  have c3 : ∀ W, Calls Tryd.prog 22 _ W _ := fun W => life_any s W hs
  have c4 : ∀ W, Below w.heap.size w W → Calls Tryd.prog 23 _ W _ := fun W hb => mark_any s W hs hz (Utf8Tabs_below T hb)
  unfold signK signN
  generalize wordN s.data.toList = n1 at *
  generalize numN s.data.toList = n2 at *
  generalize lifeN s.data.toList = n3 at *
  generalize markN s.data.toList = n4 at *
  have C1 := hid c1
  have C2 := hid c2
  have C3 := hid c3
  have C4 := hid c4
  clear c1 c2 c3 c4 T
  by_cases h1 : 0 < n1
  · simp only [h1, if_true]
    go_enter Tryd.func13, Tryd.ntmps13
    go_wp2_with fail
    refine (C1.out _).mono ?_
    rintro e W1 ⟨rfl, hb1⟩
    go_wp2_with fail
    go_ret2
    exact ⟨rfl, hb1⟩
  · simp only [h1, if_false]
    by_cases h2 : 0 < n2
    · simp only [h2, if_true]
      go_enter Tryd.func13, Tryd.ntmps13
      go_wp2_with fail
      refine (C1.out _).mono ?_
      rintro e W1 ⟨rfl, hb1⟩
      go_wp2_with fail
      refine (C2.out _).mono ?_
      rintro e W2 ⟨rfl, hb2⟩
      go_wp2_with fail
      go_ret2
      exact ⟨rfl, hb1.trans (hb2.mono hb1.size)⟩
    · simp only [h2, if_false]
      by_cases h3 : 0 < n3
      · simp only [h3, if_true]
        go_enter Tryd.func13, Tryd.ntmps13
        go_wp2_with fail
        refine (C1.out _).mono ?_
        rintro e W1 ⟨rfl, hb1⟩
        go_wp2_with fail
        refine (C2.out _).mono ?_
        rintro e W2 ⟨rfl, hb2⟩
        go_wp2_with fail
        refine (C3.out _).mono ?_
        rintro e W3 ⟨rfl, hb3⟩
        have B2 := hb1.trans (hb2.mono hb1.size)
        go_wp2_with fail
        go_ret2
        exact ⟨rfl, B2.trans (hb3.mono B2.size)⟩
      · simp only [h3, if_false]
        by_cases h4 : 0 < n4
        all_goals simp only [h4, if_true, if_false]
        all_goals
          go_enter Tryd.func13, Tryd.ntmps13
          go_wp2_with fail
          refine (C1.out _).mono ?_
          rintro e W1 ⟨rfl, hb1⟩
          go_wp2_with fail
          refine (C2.out _).mono ?_
          rintro e W2 ⟨rfl, hb2⟩
          have B2 := hb1.trans (hb2.mono hb1.size)
          go_wp2_with fail
          refine (C3.out _).mono ?_
          rintro e W3 ⟨rfl, hb3⟩
          have B3 := B2.trans (hb3.mono B2.size)
          go_wp2_with fail
          refine (C4.out _ B3).mono ?_
          rintro e W4 ⟨rfl, hb4⟩
          have B4 := B3.trans (hb4.mono B3.size)
          go_wp2_with fail
          go_ret2
          first | exact ⟨rfl, B4⟩ | (obtain rfl : n4 = 0 := (by omega); exact ⟨rfl, B4⟩)
end Go.Proofs.YtaekojpmhbkfgaaDoor.LexC

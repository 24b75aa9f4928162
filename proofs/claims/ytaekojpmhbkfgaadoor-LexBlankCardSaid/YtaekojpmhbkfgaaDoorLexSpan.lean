/- Contracts of the lexer's tests on runes, and of span: how far a text's bytes are in a set. -/
import Derived.Test.YtaekojpmhbkfgaaDoorProg
import Derived.Test.YtaekojpmhbkfgaaDoorLexDec
import Derived.WalkKit
import Derived.WalkLawsBesides
import Derived.WalkSpells
import Derived.Shelf.GgClosure.StringsIndexFunc
namespace Go.Proofs.YtaekojpmhbkfgaaDoor.LexC
open Go Go.RowKit Go.Lib Go.Proofs.YtaekojpmhbkfgaaDoor.LexP

theorem hid {p : Prop} (h : p) : Hid p := h
theorem below_of_eq {B : Nat} {w w' : World} (h : w = w') : Below B w w' := h ▸ Below.refl _ _
theorem ret_bool {a b : Bool} (h : a = b) : Ending.returned (.bool a) = .returned (.bool b) := by rw [h]
theorem ret_int {k : IntKind} {a b : Int} (h : a = b) : Ending.returned (.int k a) = .returned (.int k b) := by rw [h]

set_option maxHeartbeats 400000 in
theorem isBlank_any (r : Nat) (w : World) : Calls Tryd.prog 17 #[.int .i32 (r : Int)] w fun e w' => e = .returned (.bool (rBl r)) ∧ w = w' := by
  go_enter Tryd.func17, Tryd.ntmps17
  go_wp2
  all_goals go_ret
  all_goals refine ⟨ret_bool ?_, rfl⟩
  all_goals (rw [Bool.eq_iff_iff]; simp [rBl]; omega)
set_option maxHeartbeats 400000 in
theorem inRemark_any (r : Nat) (w : World) : Calls Tryd.prog 19 #[.int .i32 (r : Int)] w fun e w' => e = .returned (.bool (r != 10)) ∧ w = w' := by
  go_enter Tryd.func19, Tryd.ntmps19
  go_wp2
  go_ret
  refine ⟨ret_bool ?_, rfl⟩
  rw [Bool.eq_iff_iff]; simp; omega
set_option maxHeartbeats 400000 in
theorem isDigit_any (r : Nat) (w : World) : Calls Tryd.prog 34 #[.int .i32 (r : Int)] w fun e w' => e = .returned (.bool (rDig r)) ∧ w = w' := by
  go_enter Tryd.func34, Tryd.ntmps34
  go_wp2
  all_goals go_ret
  all_goals refine ⟨ret_bool ?_, rfl⟩
  all_goals (rw [Bool.eq_iff_iff]; simp [rDig]; omega)
set_option maxHeartbeats 400000 in
theorem isLetter_any (r : Nat) (w : World) : Calls Tryd.prog 41 #[.int .i32 (r : Int)] w fun e w' => e = .returned (.bool (rLet r)) ∧ w = w' := by
  go_enter Tryd.func41, Tryd.ntmps41
  go_wp2
  all_goals go_ret
  all_goals refine ⟨ret_bool ?_, rfl⟩
  all_goals (rw [Bool.eq_iff_iff]; simp [rLet]; omega)
set_option maxHeartbeats 400000 in
theorem inWord_any (r : Nat) (w : World) : Calls Tryd.prog 33 #[.int .i32 (r : Int)] w fun e w' => e = .returned (.bool (rWd r)) ∧ w = w' := by
  have c1 := isLetter_any r
  have c2 := isDigit_any r
  unfold rWd
  generalize rLet r = a at *
  generalize rDig r = b at *
  have H1 := hid c1
  have H2 := hid c2
  clear c1 c2
  cases a with
  | true =>
    go_enter Tryd.func33, Tryd.ntmps33
    go_wp2_with (go_at_call 41; refine (H1.out _).mono ?_; rintro e w' ⟨rfl, rfl⟩)
    go_ret
    exact ⟨rfl, rfl⟩
  | false =>
    go_enter Tryd.func33, Tryd.ntmps33
    go_wp2_with (first | (go_at_call 41; refine (H1.out _).mono ?_; rintro e w' ⟨rfl, rfl⟩) | (go_at_call 34; refine (H2.out _).mono ?_; rintro e w' ⟨rfl, rfl⟩))
    go_ret
    exact ⟨rfl, rfl⟩

/-- A test on runes, handed on as a function value. -/
def Tests (g : Nat) (p : Nat → Bool) : Prop := (∀ args w, (callFunc g args).run Tryd.prog w = .ok (.enter g args) w) ∧ ∀ (r : Nat) (w : World), Calls Tryd.prog g #[.int .i32 (r : Int)] w fun e w' => e = .returned (.bool (p r)) ∧ w = w'
theorem tests_bl : Tests 17 rBl := ⟨enters_of Tryd.func17 (by kernel_rfl) rfl, isBlank_any⟩
theorem tests_rem : Tests 19 (fun r => r != 10) := ⟨enters_of Tryd.func19 (by kernel_rfl) rfl, inRemark_any⟩
theorem tests_dig : Tests 34 rDig := ⟨enters_of Tryd.func34 (by kernel_rfl) rfl, isDigit_any⟩
theorem tests_wd : Tests 33 rWd := ⟨enters_of Tryd.func33 (by kernel_rfl) rfl, inWord_any⟩

set_option maxHeartbeats 2000000 in
set_option maxRecDepth 1000000 in
theorem span_from (g : Nat) (p : Nat → Bool) (T : Tests g p) (s : ByteArray) (w : World) :
    Calls Tryd.prog 16 #[.string s, .func (.func g) #[] #[]] w fun e w' => e = .returned (.int .i64 ((spanFrom p s s.size 0 : Nat) : Int)) ∧ Below w.heap.size w w' := by
  obtain ⟨eg, hp⟩ := T
  go_enter Tryd.func16, Tryd.ntmps16
  go_wp2
  go_loopg [] s.size (fun gf wx => ∃ pos : Nat, wx.heap[w.heap.size]? = some (.stringIter s pos) ∧ Below w.heap.size w wx ∧ spanFrom p s gf pos = spanFrom p s s.size 0 ∧ s.size ≤ pos + gf)
  case atStart => exact ⟨0, World.iter_heap w s 0, (Below.refl _ w).alloc (Nat.le_refl _) _, rfl, by omega⟩
  case round =>
    obtain ⟨pos, hit, hbw, hleft, hfu⟩ := hrel
    by_cases hps : pos < s.size
    · obtain ⟨g', rfl⟩ : ∃ g', gk = g' + 1 := ⟨gk - 1, by omega⟩
      have hnx : ∀ ty, (Instr.next (.pointer (some ⟨w.heap.size, 0, none⟩)) true ty).run Tryd.prog wr = _ := fun ty => Lib.run_next_any_at wr w.heap.size s pos ty hit hps
      have hwd := Lib.width_pos s pos
      obtain ⟨R, hR⟩ : ∃ R, (Utf8.decode s pos).1 = R := ⟨_, rfl⟩
      obtain ⟨K, hK⟩ : ∃ K, (Utf8.decode s pos).2 = K := ⟨_, rfl⟩
      simp only [spanFrom, hps, if_true, hR, hK] at hleft
      rw [hR, hK] at hnx
      rw [hK] at hwd
      have hit2 := Lib.iterAt_heap wr w.heap.size s pos (pos + K) hit
      have hbw2 := Lib.below_iterAt hbw (k := w.heap.size) (Nat.le_refl _) s (pos + K)
      obtain ⟨W, hWd⟩ : ∃ W, wr.iterAt w.heap.size s (pos + K) = W := ⟨_, rfl⟩
      rw [hWd] at hnx hit2 hbw2
      have cS := hp R W
      clear hp
      cases hsp : p R <;> rw [hsp] at cS <;> simp only [hsp, if_true, Bool.false_eq_true, if_false] at hleft
      · go_wp2_with (go_at_fn g; refine cS.mono ?_; rintro e W' ⟨rfl, rfl⟩)
        go_ret
        exact ⟨by rw [← hleft] <;> rfl, hbw2⟩
      · go_wp2_with (go_at_fn g; refine cS.mono ?_; rintro e W' ⟨rfl, rfl⟩)
        go_roundg g'
        case measure => omega
        case rel => exact ⟨pos + K, hit2, hbw2, hleft, by omega⟩
    · have hnx : ∀ ty, (Instr.next (.pointer (some ⟨w.heap.size, 0, none⟩)) true ty).run Tryd.prog wr = _ := fun ty => Lib.run_next_end_at wr w.heap.size s pos ty hit hps
      rw [spanFrom_end p s gk pos hps] at hleft
      have HL := hid hleft
      clear hleft
      go_wp2
      go_ret
      exact ⟨ret_int (by rw [← HL.out]), hbw⟩
/-- span(s, in): so many bytes at the beginning are in the set. -/
theorem span_any (g : Nat) (p : Nat → Bool) (q : UInt8 → Bool) (T : Tests g p) (G : Goes p q) (s : ByteArray) (w : World) :
    Calls Tryd.prog 16 #[.string s, .func (.func g) #[] #[]] w fun e w' => e = .returned (.int .i64 ((span q s.data.toList : Nat) : Int)) ∧ Below w.heap.size w w' := by
  have h := span_from g p T s w
  rw [spanFrom_eq G s s.size 0 (Nat.zero_le _) (by omega)] at h
  simpa using h
end Go.Proofs.YtaekojpmhbkfgaaDoor.LexC

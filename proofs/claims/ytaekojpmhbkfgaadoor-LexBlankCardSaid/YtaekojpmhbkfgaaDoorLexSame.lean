/- The contract of lienbookref01.Same at two rows that hold the same tokens. -/
import Derived.Test.YtaekojpmhbkfgaaDoorLexRefL
namespace Go.Proofs.YtaekojpmhbkfgaaDoor.LexC
open Go Go.RowKit Go.Lib Go.Proofs.YtaekojpmhbkfgaaDoor.LexP

/-- a slice of tokens, as it lies in memory -/
def Reads (w : World) (v : Value) (ts : List Tok) : Prop :=
  (v = .slice none 0 0 ∧ ts = []) ∨ ∃ g cap, v = .slice (some ⟨g, 0, none⟩) ts.length cap ∧ ts.length ≤ cap ∧ ∀ (i : Nat) (t : Tok), ts[i]? = some t →
    w.cell? ⟨g, i * 3, none⟩ = some (.int .i64 (t.kind : Int)) ∧ w.cell? ⟨g, i * 3 + 1, none⟩ = some (.int .i64 (t.at_ : Int)) ∧ w.cell? ⟨g, i * 3 + 2, none⟩ = some (.string ⟨t.text.toArray⟩)
theorem rowOf_cons (t : Tok) (l : List Tok) : rowOf (t :: l) = tokCells t ++ rowOf l := by simp [rowOf]
theorem rowOf_get : ∀ (l : List Tok) (i : Nat) (t : Tok), l[i]? = some t → (rowOf l)[i * 3]? = some (.int .i64 (t.kind : Int)) ∧ (rowOf l)[i * 3 + 1]? = some (.int .i64 (t.at_ : Int)) ∧ (rowOf l)[i * 3 + 2]? = some (.string ⟨t.text.toArray⟩)
  | [], i, t, h => by simp at h
  | x :: l, 0, t, h => by
    simp at h
    subst h
    rw [rowOf_cons]
    simp [tokCells]
  | x :: l, i + 1, t, h => by
    have h' : l[i]? = some t := by simpa using h
    obtain ⟨a, b, c⟩ := rowOf_get l i t h'
    rw [rowOf_cons, show (i + 1) * 3 = (tokCells x).length + i * 3 by simp [tokCells]; omega]
    refine ⟨?_, ?_, ?_⟩
    · rw [List.getElem?_append_right (by omega), Nat.add_sub_cancel_left]; exact a
    · rw [Nat.add_assoc, List.getElem?_append_right (by omega), Nat.add_sub_cancel_left]; exact b
    · rw [Nat.add_assoc, List.getElem?_append_right (by omega), Nat.add_sub_cancel_left]; exact c
theorem rowOf_length (l : List Tok) : (rowOf l).length = l.length * 3 := by
  induction l with
  | nil => rfl
  | cons t l ih => rw [rowOf_cons, List.length_append, ih, List.length_cons]; simp [tokCells]; omega
theorem reads_of {w : World} {base : Nat} {v : Value} {ts : List Tok} (h : w.ownsRow base 35 3 v ts.length (rowOf ts)) : Reads w v ts := by
  rcases h.2 with ⟨h1, h2⟩ | ⟨g, cap, cur, rfl, hg, hh, hcap, rest⟩
  · exact .inl ⟨h1, List.eq_nil_of_length_eq_zero h2⟩
  · refine .inr ⟨g, cap, rfl, hcap, fun i t hi => ?_⟩
    have hlt : i < ts.length := (List.getElem?_eq_some_iff.1 hi).1
    obtain ⟨a, b, c⟩ := rowOf_get ts i t hi
    exact ⟨(h.cellAt _ (by omega)).trans a, (h.cellAt _ (by omega)).trans b, (h.cellAt _ (by omega)).trans c⟩

set_option maxHeartbeats 2000000 in
set_option maxRecDepth 100000 in
theorem same_eq (w : World) (x y : Value) (ts : List Tok) (hx : Reads w x ts) (hy : Reads w y ts) (hl : ts.length ≤ 4611686018427387904) :
    Calls Tryd.prog 11 #[x, y] w fun e w' => e = .returned (.bool true) ∧ ∃ n, w' = w.drewN n := by
  by_cases h0 : ts = []
  · subst h0
    have ends : ∀ v, Reads w v [] → ∃ a c, v = .slice a 0 c := by
      intro v h
      rcases h with ⟨rfl, _⟩ | ⟨g, cap, rfl, _⟩
      · exact ⟨_, _, rfl⟩
      · exact ⟨_, _, rfl⟩
    obtain ⟨a, c, rfl⟩ := ends x hx
    obtain ⟨a2, c2, rfl⟩ := ends y hy
    clear hx hy ends
    go_enter Tryd.func11, Tryd.ntmps11
    go_wp2
    refine wp_loop_rounds 1 ?_
    rw [rounds_succ]
    go_wp2
    go_ret
    exact ⟨rfl, 0, rfl⟩
  · rcases hx with ⟨_, h⟩ | ⟨g, cap, rfl, hcap, hc⟩
    · exact absurd h h0
    rcases hy with ⟨_, h⟩ | ⟨g2, cap2, rfl, hcap2, hc2⟩
    · exact absurd h h0
    have HC := hid hc
    have HC2 := hid hc2
    clear hc hc2 h0
    generalize hn : ts.length = n at *
    have HN := hid hn
    clear hn
    go_enter Tryd.func11, Tryd.ntmps11
    go_wp2
    go_loopg [5] n (fun gf v wx => ∃ i : Nat, v = .int .i64 (i : Int) ∧ i ≤ n ∧ n ≤ i + gf ∧ Hid (∃ q, wx = w.drewN q))
    case atStart => exact ⟨0, rfl, by omega, by omega, hid ⟨0, rfl⟩⟩
    case round =>
      obtain ⟨i, rfl, hi, hg, HW⟩ := hrel
      obtain ⟨q, hq⟩ := HW.out
      subst hq
      clear HW
      by_cases hlt : i < n
      · obtain ⟨t, ht⟩ : ∃ t, ts[i]? = some t := ⟨ts[i]'(by rw [HN.out]; exact hlt), List.getElem?_eq_getElem _⟩
        obtain ⟨a0, a1, a2⟩ := HC.out i t ht
        obtain ⟨b0, b1, b2⟩ := HC2.out i t ht
        clear ht HC HC2
        go_wp2_with fail
        go_quiet (fail)
        go_wp2_with fail
        go_roundg (gk - 1)
        case measure => omega
        case rel => exact ⟨i + 1, by go_num, by omega, by omega, hid ⟨_, rfl⟩⟩
      · clear HC HC2
        go_wp2_with fail
        go_ret
        exact ⟨rfl, _, rfl⟩
end Go.Proofs.YtaekojpmhbkfgaaDoor.LexC

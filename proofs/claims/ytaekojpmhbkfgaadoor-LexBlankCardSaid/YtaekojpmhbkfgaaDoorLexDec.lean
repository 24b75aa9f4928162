/- Runes and bytes: a range over a string, asked by a test on runes, goes as far as a test on bytes says. -/
import Derived.Test.YtaekojpmhbkfgaaDoorLexPure
import Derived.Lib.TrimU
namespace Go.Proofs.YtaekojpmhbkfgaaDoor.LexP
open Go Go.Lib

/-- where a range over a string stops: so many rounds at the most, from a place on -/
def spanFrom (p : Nat → Bool) (s : ByteArray) : Nat → Nat → Nat
  | 0, _ => s.size
  | f + 1, pos => if pos < s.size then (if p (Utf8.decode s pos).1 = true then spanFrom p s f (pos + (Utf8.decode s pos).2) else pos) else s.size
theorem spanFrom_end (p : Nat → Bool) (s : ByteArray) (f pos : Nat) (h : ¬ pos < s.size) : spanFrom p s f pos = s.size := by cases f <;> simp [spanFrom, h]

theorem span_steps (q : UInt8 → Bool) (l : List UInt8) : ∀ (k pos : Nat), (∀ j, pos ≤ j → j < pos + k → ∃ c, l[j]? = some c ∧ q c = true) → span q (l.drop pos) = k + span q (l.drop (pos + k))
  | 0, pos, _ => by simp
  | k + 1, pos, h => by
    obtain ⟨c, hc, hq⟩ := h pos (Nat.le_refl _) (by omega)
    have hlt : pos < l.length := (List.getElem?_eq_some_iff.1 hc).1
    have e : l.drop pos = c :: l.drop (pos + 1) := by
      rw [List.drop_eq_getElem_cons hlt]
      congr 1
      have := (List.getElem?_eq_some_iff.1 hc).2
      exact this
    rw [e, span_cons_t _ _ _ hq, span_steps q l k (pos + 1) (fun j h1 h2 => h j (by omega) (by omega))]
    rw [show pos + 1 + k = pos + (k + 1) by omega]
    omega
theorem span_stop (q : UInt8 → Bool) (l : List UInt8) (pos : Nat) (c : UInt8) (hc : l[pos]? = some c) (hq : q c = false) : span q (l.drop pos) = 0 := by
  have hlt : pos < l.length := (List.getElem?_eq_some_iff.1 hc).1
  rw [List.drop_eq_getElem_cons hlt, (List.getElem?_eq_some_iff.1 hc).2, span_cons_f _ _ _ hq]

/-- a test on runes that goes as a test on bytes does -/
def Goes (p : Nat → Bool) (q : UInt8 → Bool) : Prop := ∀ (s : ByteArray) (pos : Nat), pos < s.size →
  (p (Utf8.decode s pos).1 = true → ∀ j, pos ≤ j → j < pos + (Utf8.decode s pos).2 → ∃ c, s.data.toList[j]? = some c ∧ q c = true) ∧
  (p (Utf8.decode s pos).1 = false → ∃ c, s.data.toList[pos]? = some c ∧ q c = false)

theorem spanFrom_eq {p : Nat → Bool} {q : UInt8 → Bool} (h : Goes p q) (s : ByteArray) : ∀ (f pos : Nat), pos ≤ s.size → s.size ≤ pos + f → spanFrom p s f pos = pos + span q (s.data.toList.drop pos)
  | 0, pos, h1, h2 => by
    have : pos = s.size := by omega
    subst this
    have e : s.data.toList.drop s.size = [] := List.drop_eq_nil_of_le (by rw [Lib.size_eq]; exact Nat.le_refl _)
    simp [spanFrom, e, span]
  | f + 1, pos, h1, h2 => by
    by_cases hp : pos < s.size
    · have g := h s pos hp
      have hw := Lib.width_pos s pos
      simp only [spanFrom, hp, if_true]
      cases e : p (Utf8.decode s pos).1 with
      | true =>
        have g1 := g.1 e
        have st := span_steps q s.data.toList (Utf8.decode s pos).2 pos g1
        obtain ⟨c, hc, _⟩ := g1 (pos + (Utf8.decode s pos).2 - 1) (by omega) (by omega)
        have hlt : pos + (Utf8.decode s pos).2 - 1 < s.data.toList.length := (List.getElem?_eq_some_iff.1 hc).1
        rw [← Lib.size_eq] at hlt
        rw [if_pos rfl, spanFrom_eq h s f _ (by omega) (by omega), st]
        omega
      | false =>
        obtain ⟨c, hc, hq⟩ := g.2 e
        rw [if_neg (by simp), span_stop q _ _ c hc hq]
        omega
    · have : pos = s.size := by omega
      subst this
      have e : s.data.toList.drop s.size = [] := List.drop_eq_nil_of_le (by rw [Lib.size_eq]; exact Nat.le_refl _)
      rw [spanFrom_end _ _ _ _ hp, e]
      simp [span]

theorem get_some (s : ByteArray) (i : Nat) (h : i < s.size) : s.data.toList[i]? = some (s.get! i) := by
  have hl : i < s.data.toList.length := by rw [← Lib.size_eq]; exact h
  rw [List.getElem?_eq_getElem hl]
  congr 1
  have : s.get! i = s[i]'h := by simp [ByteArray.get!, getElem!_pos, h]; rfl
  rw [this]
  simp [ByteArray.getElem_eq_getElem_data]

theorem decodeN_cases (n b0 b1 b2 b3 : Nat) (h0 : b0 < 256) : 1 ≤ n →
    (b0 < 128 ∧ decodeN n b0 b1 b2 b3 = (b0, 1)) ∨
    (128 ≤ b0 ∧ 128 ≤ (decodeN n b0 b1 b2 b3).1 ∧ (decodeN n b0 b1 b2 b3).2 ≤ n ∧ (decodeN n b0 b1 b2 b3).2 ≤ 4 ∧ (1 < (decodeN n b0 b1 b2 b3).2 → 128 ≤ b1) ∧ (2 < (decodeN n b0 b1 b2 b3).2 → 128 ≤ b2) ∧ (3 < (decodeN n b0 b1 b2 b3).2 → 128 ≤ b3)) := by
  intro hn
  unfold decodeN
  repeat' split
  all_goals first | (left; exact ⟨by assumption, rfl⟩) | (right; simp only; omega)

theorem goes_rem : Goes (fun r => r != 10) inRem := by
  intro s pos hp
  rw [Lib.decode_at]
  have key := decodeN_cases (s.size - pos) (s.get! pos).toNat (s.get! (pos + 1)).toNat (s.get! (pos + 2)).toNat (s.get! (pos + 3)).toNat (UInt8.toNat_lt _) (by omega)
  generalize decodeN (s.size - pos) (s.get! pos).toNat (s.get! (pos + 1)).toNat (s.get! (pos + 2)).toNat (s.get! (pos + 3)).toNat = d at *
  rcases key with ⟨ha, hd⟩ | ⟨ha, hr, hn, h4, k1, k2, k3⟩
  · subst hd
    refine ⟨fun hq j h1 h2 => ?_, fun hq => ?_⟩
    · obtain rfl : j = pos := by simp only at h2; omega
      exact ⟨_, get_some s _ hp, by simpa [inRem] using hq⟩
    · exact ⟨_, get_some s pos hp, by simpa [inRem] using hq⟩
  · refine ⟨fun _ j h1 h2 => ?_, fun hq => ?_⟩
    · refine ⟨_, get_some s j (by omega), ?_⟩
      have hb : 128 ≤ (s.get! j).toNat := by
        rcases (show j = pos ∨ j = pos + 1 ∨ j = pos + 2 ∨ j = pos + 3 by omega) with rfl | rfl | rfl | rfl
        · exact ha
        · exact k1 (by omega)
        · exact k2 (by omega)
        · exact k3 (by omega)
      simp only [inRem, bne_iff_ne, ne_eq]
      omega
    · simp at hq
      omega

/-- a test that lets runes below 128 alone -/
theorem goes_ascii (p : Nat → Bool) (q : UInt8 → Bool) (hp : ∀ r, p r = true → r < 128) (hq : ∀ c, q c = true → c.toNat < 128) (h : ∀ c : UInt8, c.toNat < 128 → p c.toNat = q c) : Goes p q := by
  intro s pos hlt
  rw [Lib.decode_at]
  have key := decodeN_cases (s.size - pos) (s.get! pos).toNat (s.get! (pos + 1)).toNat (s.get! (pos + 2)).toNat (s.get! (pos + 3)).toNat (UInt8.toNat_lt _) (by omega)
  generalize decodeN (s.size - pos) (s.get! pos).toNat (s.get! (pos + 1)).toNat (s.get! (pos + 2)).toNat (s.get! (pos + 3)).toNat = d at *
  rcases key with ⟨ha, hd⟩ | ⟨ha, hr, hn, h4, k1, k2, k3⟩
  · subst hd
    refine ⟨fun e j h1 h2 => ?_, fun e => ?_⟩
    · obtain rfl : j = pos := by simp only at h2; omega
      exact ⟨_, get_some s _ hlt, by rw [← h _ ha]; exact e⟩
    · exact ⟨_, get_some s pos hlt, by rw [← h _ ha]; exact e⟩
  · refine ⟨fun e => ?_, fun _ => ⟨_, get_some s pos hlt, ?_⟩⟩
    · have := hp _ e
      omega
    · cases e : q (s.get! pos) with
      | false => rfl
      | true => have := hq _ e; omega

def rBl (r : Nat) : Bool := r == 32 || r == 9 || r == 10
def rDig (r : Nat) : Bool := 48 ≤ r && r ≤ 57
def rLet (r : Nat) : Bool := (97 ≤ r && r ≤ 122) || (65 ≤ r && r ≤ 90) || r == 95
def rWd (r : Nat) : Bool := rLet r || rDig r
theorem goes_bl : Goes rBl isBl := goes_ascii _ _ (fun r h => by simp [rBl] at h; omega) (fun c h => by simp [isBl] at h; omega) (fun _ _ => rfl)
theorem goes_dig : Goes rDig isDig := goes_ascii _ _ (fun r h => by simp [rDig] at h; omega) (fun c h => by simp [isDig] at h; omega) (fun _ _ => rfl)
theorem goes_wd : Goes rWd inWd := goes_ascii _ _ (fun r h => by simp [rWd, rLet, rDig] at h; omega) (fun c h => by simp [inWd, isLet, isDig] at h; omega) (fun _ _ => rfl)
end Go.Proofs.YtaekojpmhbkfgaaDoor.LexP

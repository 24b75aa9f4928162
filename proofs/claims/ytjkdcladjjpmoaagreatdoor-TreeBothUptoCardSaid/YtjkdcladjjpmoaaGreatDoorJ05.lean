/- Contracts of tree's small tests: nothing, numbers, operations, names. -/
import Derived.Test.YtjkdcladjjpmoaaGreatDoorJ04
namespace Go.Proofs.YtjkdcladjjpmoaaGreatDoor.TreeC
open Go Go.RowKit Go.Lib Go.Proofs.YtjkdcladjjpmoaaGreatDoor.LexP Go.Proofs.YtjkdcladjjpmoaaGreatDoor.TreeP Go.Proofs.YtjkdcladjjpmoaaGreatDoor.LexC

/-- the library's tables that the lexer reads -/
def Tabs (w : World) : Prop := Lib.Utf8Tabs 2 3 w
theorem Tabs.below {w w' : World} (h : Tabs w) (hb : Below w.heap.size w w') : Tabs w' := Utf8Tabs_below h hb
theorem toList_data (s : ByteArray) : s.toList = bs s := Lib.toList_data s

set_option maxHeartbeats 400000 in
theorem noneS_any (s : ByteArray) (w : World) : Calls Tryz.prog 179 #[.string s] w fun r w' => r = .returned (.bool (bs s).isEmpty) ∧ w = w' := by
  rw [← toList_data]
  go_enter Tryz.func179, Tryz.ntmps179
  go_wp2
  go_ret
  exact ⟨rfl, rfl⟩
set_option maxHeartbeats 400000 in
theorem noneB_any (b : Bool) (w : World) : Calls Tryz.prog 180 #[.bool b] w fun r w' => r = .returned (.bool (!b)) ∧ w = w' := by
  go_enter Tryz.func180, Tryz.ntmps180
  go_wp2
  go_ret
  exact ⟨by cases b <;> rfl, rfl⟩
set_option maxHeartbeats 400000 in
theorem noneI_any (n : Int) (w : World) : Calls Tryz.prog 185 #[.int .i64 n] w fun r w' => r = .returned (.bool (n == 0)) ∧ w = w' := by
  go_enter Tryz.func185, Tryz.ntmps185
  go_wp2
  go_ret
  exact ⟨rfl, rfl⟩
set_option maxHeartbeats 400000 in
theorem noneN_any (n : Int) (w : World) : Calls Tryz.prog 242 #[.int .i64 n] w fun r w' => r = .returned (.bool (n == 0)) ∧ w = w' := by
  go_enter Tryz.func242, Tryz.ntmps242
  go_wp2
  go_ret
  exact ⟨rfl, rfl⟩
set_option maxHeartbeats 400000 in
theorem either_any (b : Bool) (w : World) : Calls Tryz.prog 181 #[.bool b] w fun r w' => r = .returned (.bool true) ∧ w = w' := by
  go_enter Tryz.func181, Tryz.ntmps181
  go_wp2
  go_ret
  exact ⟨rfl, rfl⟩
set_option maxHeartbeats 400000 in
theorem isLit_any (n : Int) (w : World) : Calls Tryz.prog 184 #[.int .i64 n] w fun r w' => r = .returned (.bool (decide (0 ≤ n) && decide (n ≤ 999999999999999999))) ∧ w = w' := by
  go_enter Tryz.func184, Tryz.ntmps184
  go_wp2
  all_goals go_ret
  all_goals exact ⟨by first | (simp [*]; done) | (simp [*]; omega), rfl⟩
set_option maxHeartbeats 400000 in
theorem isPart_any (n : Int) (w : World) : Calls Tryz.prog 186 #[.int .i64 n] w fun r w' => r = .returned (.bool (decide (0 ≤ n) && decide (n < 30))) ∧ w = w' := by
  go_enter Tryz.func186, Tryz.ntmps186
  go_wp2
  all_goals go_ret
  all_goals exact ⟨by first | (simp [*]; done) | (simp [*]; omega), rfl⟩
set_option maxHeartbeats 400000 in
theorem noStmts_any (p : Option Addr) (n cap : Nat) (w : World) (_hn : n ≤ 1048576) : Calls Tryz.prog 215 #[.slice p n cap] w fun r w' => r = .returned (.bool (n == 0)) ∧ w = w' := by
  go_enter Tryz.func215, Tryz.ntmps215
  go_wp2
  go_ret
  exact ⟨ret_bool (by rw [Bool.eq_iff_iff]; simp), rfl⟩
set_option maxHeartbeats 2000000 in
theorem isOper_any (s : ByteArray) (w : World) : Calls Tryz.prog 188 #[.string s] w fun r w' => r = .returned (.bool (decide (strK 8 (bs s) < 4))) ∧ w = w' := by
  have ho := str_of 8 s
  obtain ⟨S, hS⟩ : ∃ S, strK 8 (bs s) = S := ⟨_, rfl⟩
  rw [hS] at ho ⊢
  clear hS
  cases a3 : (s.toList == [43])
  case true =>
    have H : S = 2 := ho 2 (by rw [beq_iff_eq] at a3; rw [a3]; rfl)
    clear ho; subst H
    go_enter Tryz.func188, Tryz.ntmps188
    go_wp2; go_ret; exact ⟨rfl, rfl⟩
  cases a4 : (s.toList == [45])
  case true =>
    have H : S = 2 := ho 2 (by rw [beq_iff_eq] at a4; rw [a4]; rfl)
    clear ho; subst H
    go_enter Tryz.func188, Tryz.ntmps188
    go_wp2; go_ret; exact ⟨rfl, rfl⟩
  cases a5 : (s.toList == [42])
  case true =>
    have H : S = 3 := ho 3 (by rw [beq_iff_eq] at a5; rw [a5]; rfl)
    clear ho; subst H
    go_enter Tryz.func188, Tryz.ntmps188
    go_wp2; go_ret; exact ⟨rfl, rfl⟩
  cases a6 : (s.toList == [47])
  case true =>
    have H : S = 3 := ho 3 (by rw [beq_iff_eq] at a6; rw [a6]; rfl)
    clear ho; subst H
    go_enter Tryz.func188, Tryz.ntmps188
    go_wp2; go_ret; exact ⟨rfl, rfl⟩
  cases a1 : (s.toList == [60])
  case true =>
    have H : S = 1 := ho 1 (by rw [beq_iff_eq] at a1; rw [a1]; rfl)
    clear ho; subst H
    go_enter Tryz.func188, Tryz.ntmps188
    go_wp2; go_ret; exact ⟨rfl, rfl⟩
  cases a2 : (s.toList == [61, 61])
  case true =>
    have H : S = 1 := ho 1 (by rw [beq_iff_eq] at a2; rw [a2]; rfl)
    clear ho; subst H
    go_enter Tryz.func188, Tryz.ntmps188
    go_wp2; go_ret; exact ⟨rfl, rfl⟩
  case false =>
    have H : S = 4 := ho 4 (by rw [a1, a2, a3, a4, a5, a6]; rfl)
    clear ho; subst H
    go_enter Tryz.func188, Tryz.ntmps188
    go_wp2; go_ret; exact ⟨rfl, rfl⟩

theorem kept_no (l : List UInt8) (h : ∀ k ∈ kept, (l == k) = false) : kept.contains l = false := by
  rw [← Bool.not_eq_true, List.contains_iff_mem]
  intro hc
  have := h l hc
  simp at this
set_option maxHeartbeats 4000000 in
theorem isKept_any (s : ByteArray) (w : World) : Calls Tryz.prog 133 #[.string s] w fun r w' => r = .returned (.bool (kept.contains (bs s))) ∧ w = w' := by
  rw [← toList_data]
  have yes : ∀ k, k ∈ kept → (s.toList == k) = true → kept.contains s.toList = true := fun k hk e => by rw [beq_iff_eq] at e; rw [e, List.contains_iff_mem]; exact hk
  have no := kept_no s.toList
  generalize kept.contains s.toList = R at *
  cases k0 : (s.toList == [102, 110])
  case true =>
    have H : R = true := yes _ (by decide) k0
    clear yes no; subst H
    go_enter Tryz.func133, Tryz.ntmps133
    go_wp2; go_ret; exact ⟨rfl, rfl⟩
  cases k1 : (s.toList == [108, 101, 116])
  case true =>
    have H : R = true := yes _ (by decide) k1
    clear yes no; subst H
    go_enter Tryz.func133, Tryz.ntmps133
    go_wp2; go_ret; exact ⟨rfl, rfl⟩
  cases k2 : (s.toList == [105, 102])
  case true =>
    have H : R = true := yes _ (by decide) k2
    clear yes no; subst H
    go_enter Tryz.func133, Tryz.ntmps133
    go_wp2; go_ret; exact ⟨rfl, rfl⟩
  cases k3 : (s.toList == [101, 108, 115, 101])
  case true =>
    have H : R = true := yes _ (by decide) k3
    clear yes no; subst H
    go_enter Tryz.func133, Tryz.ntmps133
    go_wp2; go_ret; exact ⟨rfl, rfl⟩
  cases k4 : (s.toList == [114, 101, 112, 101, 97, 116])
  case true =>
    have H : R = true := yes _ (by decide) k4
    clear yes no; subst H
    go_enter Tryz.func133, Tryz.ntmps133
    go_wp2; go_ret; exact ⟨rfl, rfl⟩
  cases k5 : (s.toList == [114, 101, 116])
  case true =>
    have H : R = true := yes _ (by decide) k5
    clear yes no; subst H
    go_enter Tryz.func133, Tryz.ntmps133
    go_wp2; go_ret; exact ⟨rfl, rfl⟩
  cases k6 : (s.toList == [98, 111, 120])
  case true =>
    have H : R = true := yes _ (by decide) k6
    clear yes no; subst H
    go_enter Tryz.func133, Tryz.ntmps133
    go_wp2; go_ret; exact ⟨rfl, rfl⟩
  cases k7 : (s.toList == [105, 110, 116])
  case true =>
    have H : R = true := yes _ (by decide) k7
    clear yes no; subst H
    go_enter Tryz.func133, Tryz.ntmps133
    go_wp2; go_ret; exact ⟨rfl, rfl⟩
  cases k8 : (s.toList == [109, 117, 116])
  case true =>
    have H : R = true := yes _ (by decide) k8
    clear yes no; subst H
    go_enter Tryz.func133, Tryz.ntmps133
    go_wp2; go_ret; exact ⟨rfl, rfl⟩
  cases k9 : (s.toList == [119, 104, 101, 114, 101])
  case true =>
    have H : R = true := yes _ (by decide) k9
    clear yes no; subst H
    go_enter Tryz.func133, Tryz.ntmps133
    go_wp2; go_ret; exact ⟨rfl, rfl⟩
  have H : R = false := no (by intro k hk; simp only [kept, List.mem_cons, List.not_mem_nil, or_false] at hk; rcases hk with rfl | rfl | rfl | rfl | rfl | rfl | rfl | rfl | rfl | rfl <;> assumption)
  clear yes no; subst H
  go_enter Tryz.func133, Tryz.ntmps133
  go_wp2; go_ret; exact ⟨rfl, rfl⟩

theorem tok_row (l : List Tok) : ∀ t ts, l = t :: ts → (rowOf l)[0]? = some (.int .i64 (t.kind : Int)) ∧ (rowOf l)[2]? = some (.string ⟨t.text.toArray⟩) := by
  intro t ts h
  subst h
  simp [rowOf, tokCells]
theorem rowOf_len (l : List Tok) : (rowOf l).length = l.length * 3 := by
  induction l with
  | nil => rfl
  | cons t l ih => simp [rowOf, tokCells] at ih ⊢; omega
theorem bs_inj {a b : ByteArray} (h : bs a = bs b) : a = b := by
  cases a with | mk a => cases b with | mk b => simp [bs] at h; rw [h]
set_option maxHeartbeats 4000000 in
set_option maxRecDepth 100000 in
theorem isName_any (s : ByteArray) (w : World) (hs : s.size ≤ 1048576) (T : Tabs w) : Calls Tryz.prog 75 #[.string s] w fun r w' => r = .returned (.bool (nameB (bs s))) ∧ Below w.heap.size w w' := by
  obtain ⟨R, hR⟩ : ∃ R, nameB (bs s) = R := ⟨_, rfl⟩
  rw [hR]
  unfold nameB at hR
  have hz := Lib.size_eq s
  by_cases h30 : 30 < s.size
  · have HR := hid (show R = false by
      rw [← hR]
      cases hw : wordB (bs s) with
      | false => simp
      | true => have := word_len hw; unfold bs at this; omega)
    clear hz hR
    go_enter Tryz.func75, Tryz.ntmps75
    go_wp2_with fail
    go_ret
    exact ⟨ret_bool HR.out.symm, Below.refl _ _⟩
  · have C1 := hid (lex_any s w (by omega) T)
    have c2 := fun W => isKept_any s W
    obtain ⟨KB, hKB⟩ : ∃ KB, kept.contains (bs s) = KB := ⟨_, rfl⟩
    rw [hKB] at hR
    simp only [hKB] at c2
    have C2 := hid c2
    clear c2 hKB
    have hlw := @lex_word (bs s)
    have hwl := @word_lex (bs s)
    unfold bs at hlw hwl hR
    cases hlex : lexA s.data.toList with
    | inl p =>
      rw [hlex] at C1 hlw
      have HR := hid (show R = false by
        rw [← hR]
        cases hw : wordB s.data.toList with
        | false => simp
        | true => have := hlw hw; cases this)
      clear hz hR hlw hwl hlex
      go_enter Tryz.func75, Tryz.ntmps75
      go_wp2_with fail
      refine C1.out.mono ?_
      rintro e W1 ⟨hb1, b, hbb, rfl, hcell⟩
      have H1 := hid hb1
      clear hb1 hcell
      go_wp2_with fail
      go_ret
      exact ⟨ret_bool HR.out.symm, H1.out⟩
    | inr ts =>
      rw [hlex] at C1 hlw hwl
      cases ts with
      | nil =>
        have HR := hid (show R = false by
          rw [← hR]
          cases hw : wordB s.data.toList with
          | false => simp
          | true => have := hlw hw; simp at this)
        clear hz hR hlw hwl hlex
        go_enter Tryz.func75, Tryz.ntmps75
        go_wp2_with fail
        refine C1.out.mono ?_
        rintro e W1 ⟨hb1, v, rfl, hown⟩
        have H1 := hid hb1
        have hv : ∃ p cap, v = .slice p 0 cap := by
          rcases hown.2 with ⟨rfl, _⟩ | ⟨g, cap, cur, rfl, _⟩
          · exact ⟨_, _, rfl⟩
          · exact ⟨_, _, rfl⟩
        obtain ⟨p, cap, rfl⟩ := hv
        clear hb1 hown
        go_wp2_with fail
        go_ret
        exact ⟨ret_bool HR.out.symm, H1.out⟩
      | cons t ts =>
        have hlt : ts.length + 1 ≤ 1000 := by
          have : ∀ (n a : Nat) (l : List UInt8) (acc us : List Tok), lexG n a l acc = .inr us → us.length ≤ acc.length + n := by
            intro n
            induction n with
            | zero => intro a l acc us h; simp only [lexG, Sum.inr.injEq] at h; subst h; omega
            | succ n ih =>
              intro a l acc us h
              rw [lexG] at h
              split at h
              · simp only [Sum.inr.injEq] at h; subst h; omega
              · split at h
                · cases h
                · have := ih _ _ _ _ h; simp at this; omega
          have h2 := this _ _ _ _ _ hlex
          simp at h2
          omega
        have hrow := tok_row _ t ts rfl
        have hrl := rowOf_len (t :: ts)
        have hl1 : wordB s.data.toList = true → t.kind = 1 ∧ t.text = s.data.toList := fun h => by
          have h2 := hlw h
          simp only [Sum.inr.injEq, List.cons.injEq] at h2
          rw [h2.1]; exact ⟨rfl, rfl⟩
        have hl2 : t.kind = 1 → t.text = s.data.toList → wordB s.data.toList = true := hwl rfl
        go_enter Tryz.func75, Tryz.ntmps75
        have HRW := hid hrow
        have HRL := hid hrl
        have HRR := hid hR
        have HLW := hid hl1
        have HWL := hid hl2
        clear hz hR hlw hwl hlex hrow hrl hl1 hl2
        go_wp2_with fail
        refine C1.out.mono ?_
        rintro e W1 ⟨hb1, v, rfl, hown⟩
        have H1 := hid hb1
        have hv : ∃ g cap, v = .slice (some ⟨g, 0, none⟩) (ts.length + 1) cap ∧ W1.cell? ⟨g, 0, none⟩ = some (.int .i64 (t.kind : Int)) ∧ W1.cell? ⟨g, 2, none⟩ = some (.string ⟨t.text.toArray⟩) := by
          rcases hown.2 with ⟨_, h⟩ | ⟨g, cap, cur, rfl, hg, hh, hcap, rest⟩
          · simp at h
          · refine ⟨g, cap, rfl, (hown.cellAt _ (by simp)).trans HRW.out.1, (hown.cellAt _ (by simp; omega)).trans HRW.out.2⟩
        obtain ⟨g, cap, rfl, e0, e2⟩ := hv
        clear hb1 hown
        generalize ts.length = L at *
        have e0' : W1.cell? ⟨g, 0, none⟩ = some (.int .i64 (t.kind : Int)) := e0
        by_cases hk : t.kind = 1
        · by_cases hx : t.text = s.toList
          rotate_left
          · have HR := hid (show R = false by
              rw [← HRR.out]
              cases hw : wordB s.data.toList with
              | false => simp
              | true =>
                have h2 := (HLW.out hw).2
                exact absurd (h2.trans (Lib.toList_data s).symm) hx)
            go_wp2_with fail
            go_ret
            exact ⟨ret_bool HR.out.symm, H1.out⟩
          · have HR := hid (show R = !KB by
              rw [← HRR.out, HWL.out hk (hx.trans (Lib.toList_data s)), Bool.and_true])
            go_wp2_with fail
            refine (C2.out _).mono ?_
            rintro e W2 ⟨rfl, rfl⟩
            go_wp2_with fail
            go_ret
            exact ⟨ret_bool HR.out.symm, H1.out⟩
        · have HR := hid (show R = false by
            rw [← HRR.out]
            cases hw : wordB s.data.toList with
            | false => simp
            | true => exact absurd (HLW.out hw).1 hk)
          go_wp2_with fail
          go_ret
          exact ⟨ret_bool HR.out.symm, H1.out⟩
end Go.Proofs.YtjkdcladjjpmoaaGreatDoor.TreeC

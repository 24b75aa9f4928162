/- Texts joined: ParA, ParB, ParN, ParD. -/
import Derived.Test.YtemflcojebanlaaGreatDoorJ24
import Derived.BigQuiet
import Derived.Test.YtemflcojebanlaaGreatDoorJ02
import Derived.IntWalk
/- The document's own parser, its reader: how it lies in memory; text, next, skip, must. -/
namespace Go.Proofs.YtemflcojebanlaaGreatDoor.ParC
open Go Go.RowKit Go.Lib Go.Sort LexP TreeP LexC TreeC PageC TextC ParP

/-- a token, as cells -/
def tokC (t : Tok) : List Value := [.int .i64 (t.kind : Int), .int .i64 (t.at_ : Int), .string (Sb t.text)]
/-- what is asked of tokens: not too many, none too long, numbers of at most 18 digits -/
structure ToksOk (ts : List Tok) : Prop where
 few : ts.length ≤ 1048576
 short : ∀ t ∈ ts, t.text.length ≤ 64
 num : ∀ t ∈ ts, t.kind = 2 → t.text.length ≤ 18 ∧ ∀ c ∈ t.text, 48 ≤ c.toNat ∧ c.toNat ≤ 57
/-- the reader, in memory -/
structure PIn (w : World) (pb : Nat) (lv : Value) (ts : List Tok) (s : S) : Prop where
 box : ∃ i : Nat, i + s.rest.length = ts.length ∧ ts.drop i = s.rest ∧ w.heap[pb]? = some (.cells #[lv, .int .i64 (i : Int), .bool s.wr] 99 (0, 0))
 toks : Lies (hush pb w) 3 lv (ts.map tokC)
theorem PIn.lt {w : World} {pb : Nat} {lv : Value} {ts : List Tok} {s : S} (h : PIn w pb lv ts s) : pb < w.heap.size := by
 obtain ⟨⟨i, _, _, h3⟩, _⟩ := h
 exact (Array.getElem?_eq_some_iff.1 h3).1
theorem PIn.step {w w' : World} {pb : Nat} {lv : Value} {ts : List Tok} {s : S} (h : PIn w pb lv ts s) (hb : Below w.heap.size w w') : PIn w' pb lv ts s := by
 obtain ⟨⟨i, h1, h2, h3⟩, h4⟩ := id h
 exact ⟨⟨i, h1, h2, (hb.block pb h.lt).trans h3⟩, h4.keep ((Step.below (pb := pb) (r := none) hb).keeps)⟩
/-- the reader, set to another state -/
theorem PIn.set {w w' : World} {pb : Nat} {lv : Value} {ts : List Tok} {s s' : S} (h : PIn w pb lv ts s) (st : Step pb none w none w') (i : Nat) (h1 : i + s'.rest.length = ts.length) (h2 : ts.drop i = s'.rest)
  (h3 : w'.heap[pb]? = some (.cells #[lv, .int .i64 (i : Int), .bool s'.wr] 99 (0, 0))) : PIn w' pb lv ts s' :=
 ⟨⟨i, h1, h2, h3⟩, h.toks.keep st.keeps⟩
theorem pin_cells {w : World} {pb i : Nat} {lv : Value} {b : Bool} (h : w.heap[pb]? = some (.cells #[lv, .int .i64 (i : Int), .bool b] 99 (0, 0))) :
  w.cell? ⟨pb, 0, none⟩ = some lv ∧ w.cell? ⟨pb, 1, none⟩ = some (.int .i64 (i : Int)) ∧ w.cell? ⟨pb, 2, none⟩ = some (.bool b) := by
 refine ⟨?_, ?_, ?_⟩ <;> (rw [Lib.cell_of_heap h]; rfl)
theorem pin_frozen {w : World} {pb i : Nat} {lv : Value} {b : Bool} (h : w.heap[pb]? = some (.cells #[lv, .int .i64 (i : Int), .bool b] 99 (0, 0))) (o : Nat) : w.frozen? ⟨pb, o, none⟩ = false := by
 simp [World.frozen?, h]
theorem hush_cell_of {gb : Nat} {w : World} {b o : Nat} {u : Value} (h : (hush gb w).cell? ⟨b, o, none⟩ = some u) : w.cell? ⟨b, o, none⟩ = some u := hush_keeps _ _ _ _ _ h
theorem tok_at {w : World} {pb : Nat} {lv : Value} {ts : List Tok} {s : S} (h : PIn w pb lv ts s) {i : Nat} {t : Tok} (hi : ts[i]? = some t) :
  ∃ b off cap, lv = .slice (some ⟨b, off, none⟩) ts.length cap ∧ ts.length ≤ cap ∧ w.cell? ⟨b, off + i * 3, none⟩ = some (.int .i64 (t.kind : Int)) ∧ w.cell? ⟨b, off + i * 3 + 1, none⟩ = some (.int .i64 (t.at_ : Int)) ∧ w.cell? ⟨b, off + i * 3 + 2, none⟩ = some (.string (Sb t.text)) := by
 have hlt : i < ts.length := (List.getElem?_eq_some_iff.1 hi).1
 obtain ⟨b, off, cap, h1, h2, h3⟩ := h.toks.at (i := i) (by simpa using hlt)
 rw [List.length_map] at h1 h2
 have h4 := h3 i (tokC t) (by rw [List.getElem?_map, hi]; rfl)
 exact ⟨b, off, cap, h1, h2, hush_cell_of (h4 0 _ rfl), hush_cell_of (h4 1 _ rfl), hush_cell_of (h4 2 _ rfl)⟩

set_option maxHeartbeats 2000000 in
set_option maxRecDepth 100000 in
theorem text_any (w : World) (pb : Nat) (lv : Value) (ts : List Tok) (s : S) (k : Nat) (h : PIn w pb lv ts s) (_hT : ts.length ≤ 1048576) :
  Calls Tryz.prog 112 #[.pointer (some ⟨pb, 0, none⟩), .int .i64 (k : Int)] w fun e w' => e = .returned (.string (Sb (txt k s))) ∧ ∃ n, w' = w.drewN n := by
 obtain ⟨⟨i, hi1, hi2, hi3⟩, _⟩ := id h
 obtain ⟨c0, c1, c2⟩ := pin_cells hi3
 cases hr : s.rest with
 | nil =>
  have e : txt k s = [] := by unfold txt; rw [hr]
  rw [e]
  obtain ⟨p, cap, hlv, hcap, _⟩ := h.toks
  rw [List.length_map] at hlv hcap
  rw [hr] at hi1
  simp at hi1
  subst hi1
  subst hlv
  clear h hi2 hi3 hr e c2
  generalize ts.length = i at *
  have hd : decide ((i : Int) < (i : Int)) = false := by simp
  go_enter Tryz.func112, Tryz.ntmps112
  go_wp2_with fail
  go_quiet (fail)
  go_wp2_with fail
  go_ret
  exact ⟨rfl, _, rfl⟩
 | cons t r =>
  have hti : ts[i]? = some t := by
   have := congrArg (·[0]?) hi2
   rw [hr] at this
   simpa using this
  obtain ⟨b, off, cap, hlv, hcap, k0, k1, k2⟩ := tok_at h hti
  have e : txt k s = if t.kind = k then t.text else [] := by unfold txt; rw [hr]
  rw [e]
  rw [hr, List.length_cons] at hi1
  have hlt : i < ts.length := by omega
  subst hlv
  clear h hi2 hi3 hr e k1 c2 hti
  generalize ts.length = n at *
  have hd : decide ((i : Int) < (n : Int)) = true := by simp; omega
  generalize t.kind = tk at *
  generalize t.text = tt at *
  by_cases hk : tk = k
  ·subst hk
   rw [if_pos rfl]
   go_enter Tryz.func112, Tryz.ntmps112
   go_wp2_with fail
   go_quiet (fail)
   go_wp2_with fail
   go_quiet (fail)
   go_wp2_with fail
   go_ret
   exact ⟨rfl, _, World.drewN_drewN _ _ _⟩
  ·rw [if_neg hk]
   have hk2 : ¬ (tk : Int) = (k : Int) := by omega
   go_enter Tryz.func112, Tryz.ntmps112
   go_wp2_with fail
   go_quiet (fail)
   go_wp2_with fail
   go_ret
   exact ⟨rfl, _, rfl⟩
theorem sb_same (a b : List UInt8) : ((Sb a).toList == (Sb b).toList) = (a == b) := by
 rw [Lib.toList_data, Lib.toList_data]
 show (a.toArray.toList == b.toArray.toList) = _
 simp
theorem Below.drewN' (w : World) (n : Nat) : Below w.heap.size w (w.drewN n) := ⟨rfl, rfl, rfl, Nat.le_refl _, fun _ _ => rfl⟩
theorem PIn.drewN {w : World} {pb : Nat} {lv : Value} {ts : List Tok} {s : S} (h : PIn w pb lv ts s) (n : Nat) : PIn (w.drewN n) pb lv ts s := h.step (Below.drewN' w n)

set_option maxHeartbeats 2000000 in
set_option maxRecDepth 100000 in
theorem next_any (w : World) (pb : Nat) (lv : Value) (ts : List Tok) (s : S) (x : List UInt8) (h : PIn w pb lv ts s) (hT : ts.length ≤ 1048576) :
  Calls Tryz.prog 113 #[.pointer (some ⟨pb, 0, none⟩), .string (Sb x)] w fun e w' => e = .returned (.bool (nextB s x)) ∧ ∃ n, w' = w.drewN n := by
 obtain ⟨⟨i, hi1, hi2, hi3⟩, _⟩ := id h
 obtain ⟨_, _, c2⟩ := pin_cells hi3
 have CT := hid (fun (n k : Nat) => text_any (w.drewN n) pb lv ts s k (h.drewN n) hT)
 have ct4 := CT.out 0 4
 rw [show w.drewN 0 = w from rfl] at ct4
 have C4 := hid ct4
 clear h hi1 hi2 hi3 ct4
 unfold nextB
 cases hw : s.wr with
 | true =>
  rw [hw] at c2
  go_enter Tryz.func113, Tryz.ntmps113
  go_wp2_with fail
  go_ret
  exact ⟨rfl, 0, rfl⟩
 | false =>
  rw [hw] at c2
  have e4 := sb_same (txt 4 s) x
  have e1 := sb_same (txt 1 s) x
  by_cases h4 : txt 4 s = x
  ·have hb : (txt 4 s == x) = true := by simpa using h4
   rw [hb] at e4
   rw [hb]
   generalize Sb (txt 4 s) = P4 at *
   generalize Sb x = X at *
   clear h4 hb e1
   go_enter Tryz.func113, Tryz.ntmps113
   go_wp2_with fail
   refine C4.out.mono ?_
   rintro e W1 ⟨rfl, n1, rfl⟩
   go_wp2_with fail
   go_ret
   exact ⟨rfl, _, rfl⟩
  ·have hb : (txt 4 s == x) = false := by simpa using h4
   rw [hb] at e4
   rw [hb]
   generalize Sb (txt 4 s) = P4 at *
   clear h4 hb
   have CT1 := hid (fun n => CT.out n 1)
   generalize Sb (txt 1 s) = P1 at *
   generalize (txt 1 s == x) = bb at *
   generalize Sb x = X at *
   go_enter Tryz.func113, Tryz.ntmps113
   go_wp2_with fail
   refine C4.out.mono ?_
   rintro e W1 ⟨rfl, n1, rfl⟩
   go_wp2_with fail
   refine (CT1.out n1).mono ?_
   rintro e W1 ⟨rfl, n2, rfl⟩
   cases bb
   all_goals go_wp2_with fail
   all_goals go_ret
   all_goals exact ⟨rfl, _, rfl⟩

/-! ### The two stores -/
theorem step_set {w : World} {pb : Nat} (o : Nat) (v : Value) : Step pb none w none (w.setCell ⟨pb, o, none⟩ v) :=
 ⟨rfl, rfl, rfl, by simp, fun k _ hk _ => Below.heap_setCell w _ v k hk, .inl rfl⟩
theorem pin_pass {w : World} {pb i : Nat} {lv : Value} {ts : List Tok} {s : S} (h : PIn w pb lv ts s) (hi1 : i + s.rest.length = ts.length) (hi2 : ts.drop i = s.rest)
  (hi3 : w.heap[pb]? = some (.cells #[lv, .int .i64 (i : Int), .bool s.wr] 99 (0, 0))) (hne : s.rest ≠ []) : PIn (w.setCell ⟨pb, 1, none⟩ (.int .i64 ((i : Int) + 1))) pb lv ts s.pass := by
 refine h.set (step_set _ _) (i + 1) ?_ ?_ ?_
 ·cases hr : s.rest with
  | nil => exact absurd hr hne
  | cons t r => rw [hr] at hi1; simp [S.pass, hr] at *; omega
 ·show ts.drop (i + 1) = s.rest.tail
  rw [← hi2, List.tail_drop]
 ·rw [heap_setCell_same _ _ _ _ _ _ hi3]
  rfl
theorem pin_bad {w : World} {pb i : Nat} {lv : Value} {ts : List Tok} {s : S} (h : PIn w pb lv ts s) (hi1 : i + s.rest.length = ts.length) (hi2 : ts.drop i = s.rest)
  (hi3 : w.heap[pb]? = some (.cells #[lv, .int .i64 (i : Int), .bool s.wr] 99 (0, 0))) : PIn (w.setCell ⟨pb, 2, none⟩ (.bool true)) pb lv ts s.bad := by
 refine h.set (step_set _ _) i hi1 hi2 ?_
 rw [heap_setCell_same _ _ _ _ _ _ hi3]
 rfl

set_option maxHeartbeats 2000000 in
set_option maxRecDepth 100000 in
theorem skip_any (w : World) (pb : Nat) (lv : Value) (ts : List Tok) (s : S) (x : List UInt8) (hx : x ≠ []) (h : PIn w pb lv ts s) (hT : ts.length ≤ 1048576) :
  Calls Tryz.prog 82 #[.pointer (some ⟨pb, 0, none⟩), .string (Sb x)] w fun e w' => e = .returned (.bool (nextB s x)) ∧ PIn w' pb lv ts (skipS x s) ∧ Step pb none w none w' := by
 have C := hid (next_any w pb lv ts s x h hT)
 have HN := hid (fun h => (next_some (s := s) (x := x) h hx).2)
 unfold skipS
 cases hn : nextB s x with
 | false =>
  rw [hn] at C
  generalize Sb x = X at *
  clear HN hn
  rw [if_neg (by decide)]
  have H := hid h
  clear h
  go_enter Tryz.func82, Tryz.ntmps82
  go_wp2_with fail
  refine C.out.mono ?_
  rintro e W1 ⟨rfl, n1, rfl⟩
  go_wp2_with fail
  go_ret
  exact ⟨rfl, H.out.drewN _, Step.below (Below.drewN' _ _)⟩
 | true =>
  rw [hn] at C
  obtain ⟨t, r, hr⟩ := HN.out hn
  generalize Sb x = X at *
  clear HN hn
  rw [if_pos rfl]
  obtain ⟨⟨i, hi1, hi2, hi3⟩, _⟩ := id h
  have hlt : i < 1048576 := by rw [hr, List.length_cons] at hi1; omega
  obtain ⟨c0, c1, c2⟩ := pin_cells hi3
  have cf := pin_frozen hi3 1
  have HP := hid (fun n => pin_pass (h.drewN n) hi1 hi2 (show (w.drewN n).heap[pb]? = _ from hi3) (by rw [hr]; simp))
  clear h hi1 hi2 hi3 hr c0 c2
  go_enter Tryz.func82, Tryz.ntmps82
  go_wp2_with fail
  refine C.out.mono ?_
  rintro e W1 ⟨rfl, n1, rfl⟩
  go_wp2_with fail
  go_ret
  exact ⟨rfl, HP.out _, (Step.below (Below.drewN' w n1)).trans (step_set _ _)⟩

set_option maxHeartbeats 2000000 in
set_option maxRecDepth 100000 in
theorem must_any (w : World) (pb : Nat) (lv : Value) (ts : List Tok) (s : S) (x : List UInt8) (hx : x ≠ []) (h : PIn w pb lv ts s) (hT : ts.length ≤ 1048576) :
  Calls Tryz.prog 80 #[.pointer (some ⟨pb, 0, none⟩), .string (Sb x)] w fun e w' => e = .returned (.tuple #[]) ∧ PIn w' pb lv ts (mustS x s) ∧ Step pb none w none w' := by
 have c := skip_any w pb lv ts s x hx h hT
 unfold skipS at c
 unfold mustS
 cases hn : nextB s x with
 | true =>
  rw [hn, if_pos rfl] at c
  have C := hid c
  generalize Sb x = X at *
  rw [if_pos rfl]
  clear c h hn
  go_enter Tryz.func80, Tryz.ntmps80
  go_wp2_with fail
  refine C.out.mono ?_
  rintro e W1 ⟨rfl, hp, hs⟩
  have HP := hid (And.intro hp hs)
  clear hp hs
  go_wp2_with fail
  go_end0
  exact ⟨rfl, HP.out.1, HP.out.2⟩
 | false =>
  rw [hn, if_neg (by decide)] at c
  have C := hid c
  generalize Sb x = X at *
  rw [if_neg (by decide)]
  clear c h hn
  go_enter Tryz.func80, Tryz.ntmps80
  go_wp2_with fail
  refine C.out.mono ?_
  rintro e W1 ⟨rfl, hp, hs⟩
  obtain ⟨⟨i, hi1, hi2, hi3⟩, _⟩ := id hp
  obtain ⟨c0, c1, c2⟩ := pin_cells hi3
  have cf := pin_frozen hi3 2
  have HP := hid (pin_bad hp hi1 hi2 hi3)
  have HS := hid hs
  clear hp hs hi1 hi2 hi3 c0 c1 C
  go_wp2_with fail
  go_end0
  exact ⟨rfl, HP.out, HS.out.trans (step_set _ _)⟩
/- The document's own parser: a name, a life, a number. -/

/-- the reader of tokens that are as asked -/
theorem txt_short {ts : List Tok} {w : World} {pb : Nat} {lv : Value} {s : S} (h : PIn w pb lv ts s) (hT : ToksOk ts) (k : Nat) : (txt k s).length ≤ 64 := by
 obtain ⟨⟨i, hi1, hi2, hi3⟩, _⟩ := h
 unfold txt
 cases hr : s.rest with
 | nil => simp
 | cons t r =>
  have hm : t ∈ ts := List.mem_of_mem_drop (i := i) (by rw [hi2, hr]; simp)
  simp only
  split
  ·exact hT.short t hm
  ·simp
theorem txt_num {ts : List Tok} {w : World} {pb : Nat} {lv : Value} {s : S} (h : PIn w pb lv ts s) (hT : ToksOk ts) : (txt 2 s).length ≤ 18 ∧ ∀ c ∈ txt 2 s, 48 ≤ c.toNat ∧ c.toNat ≤ 57 := by
 obtain ⟨⟨i, hi1, hi2, hi3⟩, _⟩ := h
 unfold txt
 cases hr : s.rest with
 | nil => simp
 | cons t r =>
  have hm : t ∈ ts := List.mem_of_mem_drop (i := i) (by rw [hi2, hr]; simp)
  simp only
  split
  ·exact hT.num t hm (by assumption)
  ·simp
theorem txt_ne {k : Nat} {s : S} (h : txt k s ≠ []) : s.rest ≠ [] := by
 intro e
 apply h
 unfold txt
 rw [e]

/-- what a call that reads the state, and then alters it, may use in a later world -/
structure Hand (w : World) (pb i : Nat) (lv : Value) (ts : List Tok) (s : S) (W : World) : Prop where
 c1 : W.cell? ⟨pb, 1, none⟩ = some (.int .i64 (i : Int))
 c2 : W.cell? ⟨pb, 2, none⟩ = some (.bool s.wr)
 f1 : W.frozen? ⟨pb, 1, none⟩ = false
 f2 : W.frozen? ⟨pb, 2, none⟩ = false
 pin : PIn W pb lv ts s
 bad : PIn (W.setCell ⟨pb, 2, none⟩ (.bool true)) pb lv ts s.bad
 pass : s.rest ≠ [] → PIn (W.setCell ⟨pb, 1, none⟩ (.int .i64 ((i : Int) + 1))) pb lv ts s.pass
 step : Step pb none w none W
theorem hand_of {w W : World} {pb i : Nat} {lv : Value} {ts : List Tok} {s : S} (h : PIn w pb lv ts s) (hi1 : i + s.rest.length = ts.length) (hi2 : ts.drop i = s.rest)
  (hi3 : w.heap[pb]? = some (.cells #[lv, .int .i64 (i : Int), .bool s.wr] 99 (0, 0))) (hb : Below w.heap.size w W) : Hand w pb i lv ts s W := by
 have h3 := (hb.block pb h.lt).trans hi3
 obtain ⟨_, c1, c2⟩ := pin_cells h3
 exact ⟨c1, c2, pin_frozen h3 1, pin_frozen h3 2, h.step hb, pin_bad (h.step hb) hi1 hi2 h3, fun hne => pin_pass (h.step hb) hi1 hi2 h3 hne, Step.below hb⟩

set_option maxHeartbeats 2000000 in
set_option maxRecDepth 100000 in
theorem name_any (w : World) (pb : Nat) (lv : Value) (ts : List Tok) (s : S) (h : PIn w pb lv ts s) (hT : ToksOk ts) :
  Calls Tryz.prog 81 #[.pointer (some ⟨pb, 0, none⟩)] w fun e w' => e = .returned (.string (Sb (nameS s).1)) ∧ PIn w' pb lv ts (nameS s).2 ∧ Step pb none w none w' := by
 have C := hid (text_any w pb lv ts s 1 h hT.few)
 have HS := txt_short h hT 1
 obtain ⟨⟨i, hi1, hi2, hi3⟩, _⟩ := id h
 have hlt : i ≤ 1048576 := by have := hT.few; omega
 have HH := hid (fun W (hb : Below w.heap.size w W) => hand_of h hi1 hi2 hi3 hb)
 have CN := hid (fun W => rName_any (Sb (txt 1 s)) W (by rw [Sb_size]; omega))
 rw [bs_Sb] at CN
 have HN := hid (fun (hn : nameB (txt 1 s) = true) => txt_ne (k := 1) (s := s) (by intro e; rw [e] at hn; revert hn; decide))
 clear h hi1 hi2 hi3 HS
 unfold nameS nameOk
 cases hw : s.wr with
 | true =>
  rw [if_neg (by simp)]
  clear HN CN
  generalize Sb (txt 1 s) = X at *
  go_enter Tryz.func81, Tryz.ntmps81
  go_wp2_with fail
  refine C.out.mono ?_
  rintro e W1 ⟨rfl, n1, rfl⟩
  obtain ⟨c1, c2, f1, f2, _, hb, _, hs⟩ := HH.out _ (Below.drewN' w n1)
  rw [hw] at c2
  have HB := hid (And.intro hb (hs.trans (step_set 2 (.bool true))))
  clear hb hs HH C
  go_wp2_with fail
  go_ret
  exact ⟨rfl, HB.out.1, HB.out.2⟩
 | false =>
  cases hn : nameB (txt 1 s) with
  | false =>
   rw [hn] at CN
   rw [if_neg (by simp)]
   clear HN hn
   generalize Sb (txt 1 s) = X at *
   go_enter Tryz.func81, Tryz.ntmps81
   go_wp2_with fail
   refine C.out.mono ?_
   rintro e W1 ⟨rfl, n1, rfl⟩
   obtain ⟨_, c2, _, _, _, _, _, _⟩ := HH.out _ (Below.drewN' w n1)
   rw [hw] at c2
   go_wp2_with fail
   refine (CN.out _).mono ?_
   rintro e W2 ⟨rfl, hb2⟩
   obtain ⟨_, _, _, f2, _, hb, _, hs⟩ := HH.out _ ((Below.drewN' w n1).trans (hb2.mono (Nat.le_refl _)))
   have HB := hid (And.intro hb (hs.trans (step_set 2 (.bool true))))
   clear hb hs HH C CN hb2 c2
   go_wp2_with fail
   go_ret
   exact ⟨rfl, HB.out.1, HB.out.2⟩
  | true =>
   rw [hn] at CN
   rw [if_pos (by simp)]
   have hne := HN.out hn
   clear HN hn
   generalize Sb (txt 1 s) = X at *
   go_enter Tryz.func81, Tryz.ntmps81
   go_wp2_with fail
   refine C.out.mono ?_
   rintro e W1 ⟨rfl, n1, rfl⟩
   obtain ⟨_, c2, _, _, _, _, _, _⟩ := HH.out _ (Below.drewN' w n1)
   rw [hw] at c2
   go_wp2_with fail
   refine (CN.out _).mono ?_
   rintro e W2 ⟨rfl, hb2⟩
   obtain ⟨c1, _, f1, _, _, _, hp, hs⟩ := HH.out _ ((Below.drewN' w n1).trans (hb2.mono (Nat.le_refl _)))
   have HB := hid (And.intro (hp hne) (hs.trans (step_set 1 (.int .i64 ((i : Int) + 1)))))
   clear hp hs HH C CN hb2 c2
   go_wp2_with fail
   go_ret
   exact ⟨rfl, HB.out.1, HB.out.2⟩

theorem sb_drop (a : List UInt8) : (Sb a).extract 1 (Sb a).size = Sb (a.drop 1) := by
 have h : ((Sb a).extract 1 (Sb a).size).data = (Sb (a.drop 1)).data := by
  rw [ByteArray.data_extract, Sb_size]
  show a.toArray.extract 1 a.length = (a.drop 1).toArray
  apply Array.ext'
  simp
  exact List.take_of_length_le (by simp)
 generalize (Sb a).extract 1 (Sb a).size = x at *
 generalize Sb (a.drop 1) = y at *
 cases x; cases y
 simp at h
 rw [h]
set_option maxHeartbeats 2000000 in
set_option maxRecDepth 100000 in
theorem life_any (w : World) (pb : Nat) (lv : Value) (ts : List Tok) (s : S) (h : PIn w pb lv ts s) (hT : ToksOk ts) :
  Calls Tryz.prog 83 #[.pointer (some ⟨pb, 0, none⟩)] w fun e w' => e = .returned (.string (Sb (lifeS s).1)) ∧ PIn w' pb lv ts (lifeS s).2 ∧ Step pb none w none w' := by
 have C := hid (text_any w pb lv ts s 3 h hT.few)
 have HS := txt_short h hT 3
 obtain ⟨⟨i, hi1, hi2, hi3⟩, _⟩ := id h
 have hlt : i ≤ 1048576 := by have := hT.few; omega
 have HH := hid (fun W (hb : Below w.heap.size w W) => hand_of h hi1 hi2 hi3 hb)
 have CN := hid (fun W => rName_any (Sb ((txt 3 s).drop 1)) W (by rw [Sb_size, List.length_drop]; omega))
 rw [bs_Sb] at CN
 have HN := hid (fun (hn : 2 ≤ (txt 3 s).length) => txt_ne (k := 3) (s := s) (by intro e; rw [e] at hn; simp at hn))
 have hsz := Sb_size (txt 3 s)
 have hdr := sb_drop (txt 3 s)
 clear h hi1 hi2 hi3
 unfold lifeS lifeOk
 cases hw : s.wr with
 | true =>
  rw [if_neg (by simp)]
  clear HN CN hdr hsz HS
  generalize Sb (txt 3 s) = X at *
  go_enter Tryz.func83, Tryz.ntmps83
  go_wp2_with fail
  refine C.out.mono ?_
  rintro e W1 ⟨rfl, n1, rfl⟩
  obtain ⟨c1, c2, f1, f2, _, hb, _, hs⟩ := HH.out _ (Below.drewN' w n1)
  rw [hw] at c2
  have HB := hid (And.intro hb (hs.trans (step_set 2 (.bool true))))
  clear hb hs HH C
  go_wp2_with fail
  go_ret
  exact ⟨rfl, HB.out.1, HB.out.2⟩
 | false =>
  by_cases h2 : 2 ≤ (txt 3 s).length
  ·have hx2 : ¬ (Sb (txt 3 s)).size < 2 := by omega
   have hx1 : 1 ≤ (Sb (txt 3 s)).size := by omega
   have hne := HN.out h2
   cases hn : nameB ((txt 3 s).drop 1) with
   | false =>
    rw [hn] at CN
    rw [if_neg (by simp)]
    rw [← hdr] at CN
    clear HN hn hdr hsz HS h2
    generalize Sb (txt 3 s) = X at *
    go_enter Tryz.func83, Tryz.ntmps83
    go_wp2_with fail
    refine C.out.mono ?_
    rintro e W1 ⟨rfl, n1, rfl⟩
    obtain ⟨_, c2, _, _, _, _, _, _⟩ := HH.out _ (Below.drewN' w n1)
    rw [hw] at c2
    go_wp2_with fail
    with_reducible refine (CN.out _).mono ?_
    rintro e W2 ⟨rfl, hb2⟩
    obtain ⟨_, _, _, f2, _, hb, _, hs⟩ := HH.out _ ((Below.drewN' w n1).trans (hb2.mono (Nat.le_refl _)))
    have HB := hid (And.intro hb (hs.trans (step_set 2 (.bool true))))
    clear hb hs HH C CN hb2 c2
    go_wp2_with fail
    go_ret
    exact ⟨rfl, HB.out.1, HB.out.2⟩
   | true =>
    rw [hn] at CN
    rw [if_pos (by simp [h2])]
    have HD := hid hdr
    rw [← hdr] at CN
    rw [← hdr]
    clear HN hn hdr hsz HS h2
    generalize Sb (txt 3 s) = X at *
    go_enter Tryz.func83, Tryz.ntmps83
    go_wp2_with fail
    refine C.out.mono ?_
    rintro e W1 ⟨rfl, n1, rfl⟩
    obtain ⟨_, c2, _, _, _, _, _, _⟩ := HH.out _ (Below.drewN' w n1)
    rw [hw] at c2
    go_wp2_with fail
    with_reducible refine (CN.out _).mono ?_
    rintro e W2 ⟨rfl, hb2⟩
    obtain ⟨c1, _, f1, _, _, _, hp, hs⟩ := HH.out _ ((Below.drewN' w n1).trans (hb2.mono (Nat.le_refl _)))
    have HB := hid (And.intro (hp hne) (hs.trans (step_set 1 (.int .i64 ((i : Int) + 1)))))
    clear hp hs HH C CN hb2 c2
    go_wp2_with fail
    go_ret
    exact ⟨rfl, HB.out.1, HB.out.2⟩
  ·have hx2 : (Sb (txt 3 s)).size < 2 := by omega
   rw [if_neg (by simp [h2])]
   clear HN CN hdr h2 hsz HS
   generalize Sb (txt 3 s) = X at *
   go_enter Tryz.func83, Tryz.ntmps83
   go_wp2_with fail
   refine C.out.mono ?_
   rintro e W1 ⟨rfl, n1, rfl⟩
   obtain ⟨c1, c2, f1, f2, _, hb, _, hs⟩ := HH.out _ (Below.drewN' w n1)
   rw [hw] at c2
   have HB := hid (And.intro hb (hs.trans (step_set 2 (.bool true))))
   clear hb hs HH C
   go_wp2_with fail
   go_ret
   exact ⟨rfl, HB.out.1, HB.out.2⟩
/- The document's own parser: a number. -/

theorem valD_snoc (l : List UInt8) (c : UInt8) : valD (l ++ [c]) = 10 * valD l + (c.toNat - 48) := by simp [valD]
theorem valD_lt (l : List UInt8) (h : ∀ c ∈ l, 48 ≤ c.toNat ∧ c.toNat ≤ 57) : valD l < 10 ^ l.length := by
 suffices H : ∀ n, ∀ l : List UInt8, l.length = n → (∀ c ∈ l, 48 ≤ c.toNat ∧ c.toNat ≤ 57) → valD l < 10 ^ l.length from H _ l rfl h
 intro n
 induction n with
 | zero => intro l hl _; rw [List.eq_nil_of_length_eq_zero hl]; decide
 | succ n ih =>
  intro l hl h
  obtain ⟨m, c, rfl⟩ : ∃ m c, l = m ++ [c] := by
   have hne : l ≠ [] := by intro e; rw [e] at hl; simp at hl
   exact ⟨l.dropLast, l.getLast hne, (List.dropLast_concat_getLast hne).symm⟩
  have hm : m.length = n := by simpa using hl
  have h1 := ih m hm (fun d hd => h d (by simp [hd]))
  have h2 := h c (by simp)
  rw [valD_snoc, hl, Nat.pow_succ]
  rw [hm] at h1
  omega
theorem valD_take (l : List UInt8) (i : Nat) (c : UInt8) (h : l[i]? = some c) : valD (l.take (i + 1)) = 10 * valD (l.take i) + (c.toNat - 48) := by
 rw [List.take_add_one, h]
 exact valD_snoc _ _
theorem valD_take_lt (l : List UInt8) (h : ∀ c ∈ l, 48 ≤ c.toNat ∧ c.toNat ≤ 57) (hl : l.length ≤ 18) (i : Nat) (hi : i < l.length) : valD (l.take i) < 100000000000000000 := by
 have h1 := valD_lt (l.take i) (fun c hc => h c (List.mem_of_mem_take hc))
 rw [List.length_take, Nat.min_eq_left (by omega)] at h1
 have h2 : 10 ^ i ≤ 10 ^ 17 := Nat.pow_le_pow_right (by decide) (by omega)
 have h3 : (10 : Nat) ^ 17 = 100000000000000000 := by decide
 omega

set_option maxHeartbeats 4000000 in
set_option maxRecDepth 100000 in
theorem number_any (w : World) (pb : Nat) (lv : Value) (ts : List Tok) (s : S) (most : Nat) (_hm : most ≤ 999999999999999999) (h : PIn w pb lv ts s) (hT : ToksOk ts) :
  Calls Tryz.prog 154 #[.pointer (some ⟨pb, 0, none⟩), .int .i64 (most : Int)] w fun e w' => e = .returned (.int .i64 (numS most s).1) ∧ PIn w' pb lv ts (numS most s).2 ∧ Step pb none w none w' := by
 have C := hid (text_any w pb lv ts s 2 h hT.few)
 obtain ⟨h18, hdig⟩ := txt_num h hT
 obtain ⟨⟨i0, hi1, hi2, hi3⟩, _⟩ := id h
 have hlt0 : i0 ≤ 1048576 := by have := hT.few; omega
 have HH := hid (fun W (hb : Below w.heap.size w W) => hand_of h hi1 hi2 hi3 hb)
 have HN := hid (fun (hn : txt 2 s ≠ []) => txt_ne (k := 2) (s := s) hn)
 have hsz := Sb_size (txt 2 s)
 have HL := hid (valD_take_lt (txt 2 s) hdig h18)
 have HT := hid (valD_take (txt 2 s))
 have HV := hid (valD_lt (txt 2 s) hdig)
 have HD := hid hdig
 have HG := hid (fun i hi => at_get (Sb (txt 2 s)) i hi)
 have HE := hid (show (Sb (txt 2 s)).data.toList = txt 2 s from by simp [Sb])
 have HB := hid (show ((Sb (txt 2 s)).toList == []) = (txt 2 s).isEmpty from by
  have := sb_same (txt 2 s) []
  rw [show (Sb []).toList = [] from by rw [Lib.toList_data]; rfl] at this
  rw [this]; cases txt 2 s <;> rfl)
 have hv18 : valD (txt 2 s) < 1000000000000000000 := by
  have h1 := HV.out
  have h2 : 10 ^ (txt 2 s).length ≤ 10 ^ 18 := Nat.pow_le_pow_right (by decide) h18
  have h3 : (10 : Nat) ^ 18 = 1000000000000000000 := by decide
  omega
 clear h hi1 hi2 hi3 hdig HV
 have HR := hid (show numS most s = if (!s.wr && !(txt 2 s).isEmpty && decide (valD (txt 2 s) ≤ most)) = true then ((valD (txt 2 s) : Int), s.pass) else (0, s.bad) from rfl)
 generalize numS most s = R at *
 generalize hX : txt 2 s = X at *
 clear hX
 have hX18 : X.length ≤ 18 := h18
 generalize hL : X.length = L at *
 have HLen := hid hL
 generalize Sb X = Y at *
 clear hL
 go_enter Tryz.func154, Tryz.ntmps154
 go_wp2_with fail
 refine C.out.mono ?_
 rintro e W1 ⟨rfl, n1, rfl⟩
 clear C
 go_wp2_with fail
 go_loopg [6, 7] L (fun gf u v wx => ∃ i : Nat, v = .int .i64 (i : Int) ∧ u = .int .i64 (valD (X.take i) : Int) ∧ i ≤ L ∧ L ≤ i + gf ∧ wx = w.drewN n1)
 case atStart => exact ⟨0, rfl, rfl, by omega, by omega, rfl⟩
 case round =>
  obtain ⟨i, rfl, rfl, hi, hg, rfl⟩ := hrel
  by_cases hlt : i < L
  ·obtain ⟨y, hy, hy2⟩ := HG.out i (by omega)
   rw [HE.out] at hy2
   have e1 := HT.out i y hy2
   have e2 := HL.out i hlt
   have e3 := HD.out y (List.mem_of_getElem? hy2)
   have hlt2 : (i : Int) < (Y.size : Int) := by omega
   have hi0 : (0 : Int) ≤ (i : Int) := by omega
   have HE1 := hid e1
   clear e1 hy2 HH HN HL HT HD HG HE HB
   generalize valD (X.take i) = q at *
   go_wp2_with fail
   go_roundg (gk - 1)
   case measure => omega
   case rel => exact ⟨i + 1, by go_num, by rw [HE1.out]; congr 1; omega, by omega, by omega, rfl⟩
  ·obtain rfl : i = L := by omega
   have ht : X.take i = X := by rw [← HLen.out]; exact List.take_length
   rw [ht]
   have hnl : ¬ (i : Int) < (i : Int) := by omega
   clear HL HT HD HG HE hlt hi hg ht
   obtain ⟨c1, c2, f1, f2, _, hb, hp, hs⟩ := HH.out _ (Below.drewN' w n1)
   have HBad := hid (And.intro hb (hs.trans (step_set 2 (.bool true))))
   have HPass := hid (fun hne => And.intro (hp hne) (hs.trans (step_set 1 (.int .i64 ((i0 : Int) + 1)))))
   clear hb hp hs HH
   cases hw : s.wr with
   | true =>
    rw [hw] at c2
    have hr : R = (0, s.bad) := by rw [HR.out, hw]; rfl
    subst hr
    clear HB HN
    go_wp2_with fail
    go_ret
    exact ⟨rfl, HBad.out.1, HBad.out.2⟩
   | false =>
    rw [hw] at c2
    cases he : X.isEmpty with
    | true =>
     have hb := HB.out
     rw [he] at hb
     have hr : R = (0, s.bad) := by rw [HR.out, hw, he]; rfl
     subst hr
     clear HB HN
     go_wp2_with fail
     go_ret
     exact ⟨rfl, HBad.out.1, HBad.out.2⟩
    | false =>
     have hb := HB.out
     rw [he] at hb
     have hne := HN.out (by intro e; rw [e] at he; simp at he)
     by_cases hq : valD X ≤ most
     ·have hr : R = ((valD X : Int), s.pass) := by rw [HR.out, hw, he, if_pos (by simp [hq])]
      subst hr
      have hq2 : ¬ (most : Int) < (valD X : Int) := by omega
      have K := hid (HPass.out hne)
      clear HB HN HPass HBad he HR
      go_wp2_with fail
      go_ret
      exact ⟨rfl, K.out.1, K.out.2⟩
     ·have hr : R = (0, s.bad) := by rw [HR.out, hw, he, if_neg (by simp [hq])]
      subst hr
      have hq2 : (most : Int) < (valD X : Int) := by omega
      clear HB HN HPass he HR
      generalize valD X = q at *
      go_wp2_with fail
      go_ret
      exact ⟨rfl, HBad.out.1, HBad.out.2⟩
/- The document's own parser: trees that lie outside some blocks; the reader in later worlds. No walk. -/

/-- a world without some blocks -/
def hushL (X : List Nat) (w : World) : World := X.foldl (fun w b => hush b w) w
theorem hushL_cell : ∀ (X : List Nat) (w : World) (b o : Nat) (u : Value), (hushL X w).cell? ⟨b, o, none⟩ = some u ↔ (w.cell? ⟨b, o, none⟩ = some u ∧ b ∉ X)
 | [], w, b, o, u => by simp [hushL]
 | x :: X, w, b, o, u => by
  rw [show hushL (x :: X) w = hushL X (hush x w) from rfl, hushL_cell X (hush x w) b o u]
  constructor
  ·rintro ⟨h1, h2⟩
   have h3 := hush_cell h1
   exact ⟨hush_keeps _ _ _ _ _ h1, by simp [h2, h3]⟩
  ·rintro ⟨h1, h2⟩
   simp at h2
   refine ⟨?_, h2.2⟩
   rw [World.cell?_of_block (w := w) (a := ⟨b, o, none⟩) (hush_other x w b h2.1)]
   exact h1
/-- old blocks outside some are kept -/
theorem keepsL {X : List Nat} {w w' : World} (h : ∀ k, k < w.heap.size → k ∉ X → w'.heap[k]? = w.heap[k]?) : Keeps (hushL X w) (hushL X w') := fun b o u hc => by
 obtain ⟨h1, h2⟩ := (hushL_cell X w b o u).1 hc
 have hlt : b < w.heap.size := World.block_lt_of_cell? _ _ h1
 exact (hushL_cell X w' b o u).2 ⟨(World.cell?_of_block (w := w) (a := ⟨b, o, none⟩) (h b hlt h2)).trans h1, h2⟩
theorem keepsL_below {X : List Nat} {w w' : World} (h : Below w.heap.size w w') : Keeps (hushL X w) (hushL X w') := keepsL fun k hk _ => h.block k hk
theorem keepsL_step {X : List Nat} {w w' : World} {pb : Nat} (h : Step pb none w none w') (hp : pb ∈ X) : Keeps (hushL X w) (hushL X w') :=
 keepsL fun k hk hn => h.block k hk (fun e => hn (e ▸ hp)) (by simp)
theorem keepsL_sub {X Y : List Nat} (w : World) (h : ∀ b ∈ Y, b ∈ X) : Keeps (hushL X w) (hushL Y w) := fun b o u hc => by
 obtain ⟨h1, h2⟩ := (hushL_cell X w b o u).1 hc
 exact (hushL_cell Y w b o u).2 ⟨h1, fun hb => h2 (h b hb)⟩
theorem keepsL_add {X : List Nat} (w : World) {b : Nat} (hb : w.heap.size ≤ b) : Keeps (hushL X w) (hushL (b :: X) w) := fun c o u hc => by
 obtain ⟨h1, h2⟩ := (hushL_cell X w c o u).1 hc
 have hlt : c < w.heap.size := World.block_lt_of_cell? _ _ h1
 exact (hushL_cell (b :: X) w c o u).2 ⟨h1, by simp [h2]; omega⟩
theorem keepsL_row {X : List Nat} (w : World) {b : Nat} (hb : b ∈ X) (cs : Array Value) : Keeps (hushL X w) (hushL X (w.setRow b cs)) :=
 keepsL fun k _ hn => by
  have hne : k ≠ b := fun e => hn (e ▸ hb)
  simp [World.setRow, Array.getElem?_modify, Ne.symm hne]
theorem keepsL_cell {X : List Nat} (w : World) {b : Nat} (hb : b ∈ X) (o : Nat) (v : Value) : Keeps (hushL X w) (hushL X (w.setCell ⟨b, o, none⟩ v)) :=
 keepsL fun k _ hn => Below.heap_setCell w _ v k (fun e => hn (by simpa using e ▸ hb))
theorem flatG {α : Type} (n : Nat) : ∀ (L : List (List α)), (∀ c ∈ L, c.length = n) → ∀ (i : Nat) (c : List α), L[i]? = some c → ∀ (j : Nat) (u : α), c[j]? = some u → L.flatten[i * n + j]? = some u
 | [], _, i, c, h, _, _, _ => by simp at h
 | d :: L, hl, 0, c, h, j, u, hj => by
  simp at h
  subst h
  have hlt : j < d.length := (List.getElem?_eq_some_iff.1 hj).1
  rw [List.flatten_cons, Nat.zero_mul, Nat.zero_add, List.getElem?_append_left hlt]
  exact hj
 | d :: L, hl, i + 1, c, h, j, u, hj => by
  have hd := hl d (by simp)
  rw [List.flatten_cons, List.getElem?_append_right (by rw [hd, Nat.add_mul]; omega), hd, show (i + 1) * n + j - n = i * n + j by rw [Nat.add_mul]; omega]
  exact flatG n L (fun d hd => hl d (by simp [hd])) i c (by simpa using h) j u hj
/-- a list of cells that lies in a block outside -/
theorem lies_new {X : List Nat} {w : World} {n : Nat} {b : Nat} {xs : List (List Value)} {t : TypeId} (hn : b ∉ X) (hl : ∀ c ∈ xs, c.length = n) (h : w.heap[b]? = some (.cells xs.flatten.toArray t (0, 0))) (cap : Nat) (hc : xs.length ≤ cap) :
  Lies (hushL X w) n (.slice (some ⟨b, 0, none⟩) xs.length cap) xs := by
 refine ⟨_, cap, rfl, hc, fun _ => ⟨b, 0, rfl, fun i c hi j u hj => ?_⟩⟩
 refine (hushL_cell X w _ _ _).2 ⟨?_, hn⟩
 rw [Lib.cell_of_heap h, Nat.zero_add]
 rw [List.getElem?_toArray]
 exact flatG n xs hl i c hi j u hj

/-! ### The reader in later worlds -/
def PBox (w : World) (pb : Nat) (lv : Value) (ts : List Tok) (s : S) : Prop := ∃ i : Nat, i + s.rest.length = ts.length ∧ ts.drop i = s.rest ∧ w.heap[pb]? = some (.cells #[lv, .int .i64 (i : Int), .bool s.wr] 99 (0, 0))
theorem PIn.of {w0 w : World} {pb : Nat} {lv : Value} {ts : List Tok} {s0 s : S} (h : PIn w0 pb lv ts s0) (st : Step pb none w0 none w) (hb : PBox w pb lv ts s) : PIn w pb lv ts s := ⟨hb, h.toks.keep st.keeps⟩
theorem PBox.other {w w' : World} {pb : Nat} {lv : Value} {ts : List Tok} {s : S} (h : PBox w pb lv ts s) (e : w'.heap[pb]? = w.heap[pb]?) : PBox w' pb lv ts s := by
 obtain ⟨i, h1, h2, h3⟩ := h
 exact ⟨i, h1, h2, e.trans h3⟩
theorem PBox.lt {w : World} {pb : Nat} {lv : Value} {ts : List Tok} {s : S} (h : PBox w pb lv ts s) : pb < w.heap.size := by
 obtain ⟨i, _, _, h3⟩ := h
 exact (Array.getElem?_eq_some_iff.1 h3).1
/-- all that a walk knows of the reader: the world it began in, and now -/
structure At (w0 : World) (pb : Nat) (lv : Value) (ts : List Tok) (s0 : S) (w : World) (s : S) : Prop where
 pin0 : PIn w0 pb lv ts s0
 step : Step pb none w0 none w
 box : PBox w pb lv ts s
theorem At.pin {w0 w : World} {pb : Nat} {lv : Value} {ts : List Tok} {s0 s : S} (h : At w0 pb lv ts s0 w s) : PIn w pb lv ts s := h.pin0.of h.step h.box
theorem At.start {w : World} {pb : Nat} {lv : Value} {ts : List Tok} {s : S} (h : PIn w pb lv ts s) : At w pb lv ts s w s := ⟨h, Step.refl _ _ _, h.box⟩
theorem At.call {w0 w w' : World} {pb : Nat} {lv : Value} {ts : List Tok} {s0 s s' : S} (h : At w0 pb lv ts s0 w s) (hp : PIn w' pb lv ts s') (st : Step pb none w none w') : At w0 pb lv ts s0 w' s' := ⟨h.pin0, h.step.trans st, hp.box⟩
theorem At.below {w0 w w' : World} {pb : Nat} {lv : Value} {ts : List Tok} {s0 s : S} (h : At w0 pb lv ts s0 w s) (hb : Below w.heap.size w w') : At w0 pb lv ts s0 w' s :=
 h.call (h.pin.step hb) (Step.below hb)
theorem At.row {w0 w : World} {pb : Nat} {lv : Value} {ts : List Tok} {s0 s : S} (h : At w0 pb lv ts s0 w s) {b : Nat} (hb : w0.heap.size ≤ b) (cs : Array Value) : At w0 pb lv ts s0 (w.setRow b cs) s := by
 have hp := h.pin0.lt
 have hz : (w.setRow b cs).heap.size = w.heap.size := by simp [World.setRow]
 refine ⟨h.pin0, ⟨h.step.os, h.step.tape, h.step.output, by rw [hz]; exact h.step.size, fun k hk h1 h2 => ?_, .inl rfl⟩, h.box.other ?_⟩
 ·rw [← h.step.block k hk h1 h2]
  simp [World.setRow, Array.getElem?_modify, show b ≠ k by omega]
 ·simp [World.setRow, Array.getElem?_modify, show b ≠ pb by omega]
theorem At.cell {w0 w : World} {pb : Nat} {lv : Value} {ts : List Tok} {s0 s : S} (h : At w0 pb lv ts s0 w s) {b : Nat} (hb : w0.heap.size ≤ b) (o : Nat) (v : Value) : At w0 pb lv ts s0 (w.setCell ⟨b, o, none⟩ v) s := by
 have hp := h.pin0.lt
 refine ⟨h.pin0, ⟨h.step.os, h.step.tape, h.step.output, by simp; exact h.step.size, fun k hk h1 h2 => ?_, .inl rfl⟩, h.box.other ?_⟩
 ·rw [← h.step.block k hk h1 h2]
  exact Below.heap_setCell w _ v k (show k ≠ b by omega)
 ·exact Below.heap_setCell w _ v pb (show pb ≠ b by omega)

/-- what a call that reads a tree answers -/
def RetE (w : World) (pb : Nat) (lv : Value) (ts : List Tok) (X : List Nat) (r : PE × S) (e : Ending) (w' : World) : Prop := ∃ T : Ex, e = .returned T.val ∧ T.In (hushL X w') ∧ erE T = r.1 ∧ PIn w' pb lv ts r.2 ∧ Step pb none w none w'
def RetT (w : World) (pb : Nat) (lv : Value) (ts : List Tok) (X : List Nat) (r : PT × S) (e : Ending) (w' : World) : Prop := ∃ T : Ty, e = .returned T.val ∧ T.In (hushL X w') ∧ erT T = r.1 ∧ PIn w' pb lv ts r.2 ∧ Step pb none w none w'
/-- the blocks that are not to be touched: the reader's own among them, all old ones -/
structure Away (w : World) (pb : Nat) (X : List Nat) : Prop where
 mem : pb ∈ X
 lt : ∀ b ∈ X, b < w.heap.size
theorem Away.mono {w w' : World} {pb : Nat} {X : List Nat} (h : Away w pb X) (hs : w.heap.size ≤ w'.heap.size) : Away w' pb X := ⟨h.mem, fun b hb => Nat.lt_of_lt_of_le (h.lt b hb) hs⟩
theorem Away.add {w : World} {pb b : Nat} {X : List Nat} (h : Away w pb X) (hb : b < w.heap.size) : Away w pb (b :: X) := ⟨by simp [h.mem], fun c hc => by
 rcases List.mem_cons.1 hc with rfl | h1
 ·exact hb
 ·exact h.lt c h1⟩
theorem Away.not {w : World} {pb b : Nat} {X : List Nat} (h : Away w pb X) (hb : w.heap.size ≤ b) : b ∉ X := fun hm => by have := h.lt b hm; omega
end Go.Proofs.YtemflcojebanlaaGreatDoor.ParC

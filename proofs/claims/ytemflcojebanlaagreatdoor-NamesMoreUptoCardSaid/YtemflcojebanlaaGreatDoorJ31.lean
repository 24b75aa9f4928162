/- Texts joined: ParS, ParW. -/
import Derived.Test.YtemflcojebanlaaGreatDoorJ30
import Derived.Test.YtemflcojebanlaaGreatDoorJ29
/- The document's own parser: expressions of all kinds. -/
namespace Go.Proofs.YtemflcojebanlaaGreatDoor.ParC
open Go Go.RowKit Go.Lib Go.Sort LexP TreeP LexC TreeC PageC TextC ParP

theorem good_one (pb : Nat) (lv : Value) (ts : List Tok) (N : Nat) (hN20 : N ≤ 1048576) (hT : ToksOk ts) : ∀ n : Nat, Good pb lv ts N n 146 (oneS N n) := by
 intro n
 induction n with
 | zero =>
  intro w s X hA h hN hL
  rcases hL with hw | hL
  ·exact one_bad pb lv ts w s X hA h hw
  ·omega
 | succ n ih =>
  intro w s X hA h hN hL
  cases hw : s.wr with
  | true => rw [one_wr N (n + 1) s hw]; exact one_bad pb lv ts w s X hA h hw
  | false =>
   have hlt : s.rest.length < n + 1 := hL.resolve_left (by simp [hw])
   have hex := fun W s X1 a b c d => good_exprs hN20 hT (one_le N n) (one_wr2 N n) ih W s X1 a b c d
   have hrl := fun s => row_le (expr_le (one_le N n) N) N s
   cases h2 : (txt 2 s).isEmpty with
   | false =>
    rw [show oneS N (n + 1) s = (.mk 1 (numS 999999999999999999 s).1 [] false [], (numS 999999999999999999 s).2) by rw [oneS, if_neg (by simp [hw]), if_pos (by simp [h2])]]
    exact one_num pb lv ts N hT w s X hA h hw h2
   | true =>
    cases h3 : nextB s kBox with
    | true =>
     obtain ⟨hp, _⟩ := next_pass h3 (by decide)
     rw [show oneS N (n + 1) s = (.mk 6 0 [] false [(oneS N n s.pass).1], (oneS N n s.pass).2) by rw [oneS, if_neg (by simp [hw]), if_neg (by simp [h2]), if_pos h3]]
     exact one_box pb lv ts N hT w s X hA h hw h2 h3 _ fun W X1 a b => ih W s.pass X1 a b (by omega) (.inr (by omega))
    | false =>
     cases h4 : nextB s mAnd with
     | true =>
      obtain ⟨hp, _⟩ := next_pass h4 (by decide)
      have hk := skip_le kMut s.pass
      rw [show oneS N (n + 1) s = (.mk 5 0 [] (nextB s.pass kMut) [(placeS N n (skipS kMut s.pass)).1], (placeS N n (skipS kMut s.pass)).2) by rw [oneS, if_neg (by simp [hw]), if_neg (by simp [h2]), if_neg (by simp [h3]), if_pos h4]]
      exact one_lend pb lv ts N hT w s X hA h hw h2 h3 h4 _ fun W X1 a b => place_any pb lv ts N hT n W _ X1 a b (by omega) (.inr (by omega))
     | false =>
      cases h5 : nextB s mStar with
      | true =>
       rw [show oneS N (n + 1) s = placeS N (n + 1) s by rw [oneS, if_neg (by simp [hw]), if_neg (by simp [h2]), if_neg (by simp [h3]), if_neg (by simp [h4]), if_pos h5]]
       exact one_star pb lv ts N hT w s X hA h hw h2 h3 h4 h5 _ fun W X1 a b => place_any pb lv ts N hT (n + 1) W s X1 a b hN (.inr hlt)
      | false =>
       cases h6 : nextB s mOpen with
       | true =>
        obtain ⟨hp, _⟩ := next_pass h6 (by decide)
        have hl := hrl s.pass
        rw [show oneS N (n + 1) s = inParen N (rowS (exprS (oneS N n) N) N s.pass).1 (mustS mShut (rowS (exprS (oneS N n) N) N s.pass).2) by rw [oneS, if_neg (by simp [hw]), if_neg (by simp [h2]), if_neg (by simp [h3]), if_neg (by simp [h4]), if_neg (by simp [h5]), if_pos h6]; rfl]
        exact one_paren pb lv ts N hT w s X hA h hw h2 h3 h4 h5 h6 _ (by simp [rowS]) (fun W X1 a b => hex W s.pass X1 a b (by omega) (.inr (by omega))) (by omega)
       | false =>
        have hnl := name_le s
        cases h7 : nextB (nameS s).2 mOpen with
        | false =>
         rw [show oneS N (n + 1) s = partsS N (.mk 2 0 (nameS s).1 false []) (nameS s).2 by rw [oneS, if_neg (by simp [hw]), if_neg (by simp [h2]), if_neg (by simp [h3]), if_neg (by simp [h4]), if_neg (by simp [h5]), if_neg (by simp [h6])]; simp only [h7]; rfl]
         exact one_var pb lv ts N hT w s X hA h hw h2 h3 h4 h5 h6 h7 hN
        | true =>
         obtain ⟨hp, _⟩ := next_pass h7 (by decide)
         cases h8 : nextB (nameS s).2.pass mShut with
         | true =>
          rw [show oneS N (n + 1) s = (.mk 9 0 (nameS s).1 false [], (nameS s).2.pass.pass) by rw [oneS, if_neg (by simp [hw]), if_neg (by simp [h2]), if_neg (by simp [h3]), if_neg (by simp [h4]), if_neg (by simp [h5]), if_neg (by simp [h6])]; simp only [h7, h8]; rfl]
          exact one_call0 pb lv ts N hT w s X hA h hw h2 h3 h4 h5 h6 h7 h8
         | false =>
          rw [show oneS N (n + 1) s = (.mk 9 0 (nameS s).1 false (rowS (exprS (oneS N n) N) N (nameS s).2.pass).1, mustS mShut (rowS (exprS (oneS N n) N) N (nameS s).2.pass).2) by rw [oneS, if_neg (by simp [hw]), if_neg (by simp [h2]), if_neg (by simp [h3]), if_neg (by simp [h4]), if_neg (by simp [h5]), if_neg (by simp [h6])]; simp only [h7, h8]; rfl]
          exact one_call pb lv ts N hT w s X hA h hw h2 h3 h4 h5 h6 h7 h8 _ fun W X1 a b => hex W (nameS s).2.pass X1 a b (by omega) (.inr (by omega))
/-- THE CONTRACT of an expression -/
theorem good_ex (pb : Nat) (lv : Value) (ts : List Tok) (N : Nat) (hN20 : N ≤ 1048576) (hT : ToksOk ts) (w : World) (s : S) (X : List Nat) (hA : Away w pb X) (h : PIn w pb lv ts s) (hN : s.rest.length ≤ N) :
  Calls Tryz.prog 86 #[.pointer (some ⟨pb, 0, none⟩)] w (RetE w pb lv ts X (exS N s)) :=
 good_expr hT (one_le N (N + 1)) (one_wr2 N (N + 1)) (good_one pb lv ts N hN20 hT (N + 1)) w s X hA h hN (.inr (by omega))
/- The document's own parser: lists of statements, out of what one statement is; a block. -/

def RetS (w : World) (pb : Nat) (lv : Value) (ts : List Tok) (X : List Nat) (r : PS × S) (e : Ending) (w' : World) : Prop := ∃ T : St, e = .returned T.val ∧ T.In (hushL X w') ∧ erS T = r.1 ∧ PIn w' pb lv ts r.2 ∧ Step pb none w none w'
def GoodS (pb : Nat) (lv : Value) (ts : List Tok) (N L : Nat) (f : S → PS × S) : Prop := ∀ (w : World) (s : S) (X : List Nat), Away w pb X → PIn w pb lv ts s → s.rest.length ≤ N → s.rest.length < L →
  Calls Tryz.prog 114 #[.pointer (some ⟨pb, 0, none⟩)] w (RetS w pb lv ts X (f s))
theorem st_open {w : World} {T : St} (h : T.In w) : ∃ k n k1 n1 s1 m1 p1 l1 c1 q1 k2 n2 s2 m2 p2 l2 c2 q2 tp tl tc th ep el ec es,
  T = .mk k n (.mk k1 n1 s1 m1 (.slice p1 l1 c1) q1) (.mk k2 n2 s2 m2 (.slice p2 l2 c2) q2) (.slice tp tl tc) th (.slice ep el ec) es := by
 obtain ⟨k, n, place, expr, tv, th, ev, es⟩ := T
 rw [St.In] at h
 obtain ⟨h1, h2, h3, _, h5, _⟩ := h
 obtain ⟨k1, n1, s1, m1, p1, l1, c1, q1, rfl⟩ := ex_open h1
 obtain ⟨k2, n2, s2, m2, p2, l2, c2, q2, rfl⟩ := ex_open h2
 obtain ⟨tp, tc, rfl, _⟩ := h3
 obtain ⟨ep, ec, rfl, _⟩ := h5
 exact ⟨_, _, _, _, _, _, _, _, _, _, _, _, _, _, _, _, _, _, _, _, _, _, _, _, _, _, rfl⟩
theorem st_sz : (Tryz.prog.info? 68).map (·.size) = some 14 := by kernel_rfl
def stZ : Array Value := #[.int .i64 0, .string ⟨#[]⟩, .int .i64 0, .int .i64 0, .string ⟨#[]⟩, .bool false, .slice none 0 0, .int .i64 0, .int .i64 0, .string ⟨#[]⟩, .bool false, .slice none 0 0, .slice none 0 0, .slice none 0 0]
theorem stOk : KdOk stK 37 (.agg stZ) 200 := ⟨Tryz.underlying37, by kernel_rfl, rfl, by decide⟩
theorem stmts_step (f : S → PS × S) (x : List UInt8) (m : Nat) (s : S) (h1 : s.wr = false) (h2 : nextB s x = false) (hm : 1 ≤ m) :
  ∃ k, m = k + 1 ∧ stmtsS f x m s = ((f s).1 :: (stmtsS f x k (f s).2).1, (stmtsS f x k (f s).2).2) := by
 cases m with
 | zero => omega
 | succ k => exact ⟨k, rfl, by rw [stmtsS, if_neg (by simp [h1]), if_neg (by simp [h2])]⟩
theorem stmts_wr (f : S → PS × S) (x : List UInt8) (m : Nat) (s : S) (h1 : s.wr = true) : stmtsS f x m s = ([], s) := by
 cases m with
 | zero => rfl
 | succ k => rw [stmtsS, if_pos h1]
theorem stmts_end (f : S → PS × S) (x : List UInt8) (m : Nat) (s : S) (h1 : s.wr = false) (h2 : nextB s x = true) (hm : 1 ≤ m) : stmtsS f x m s = ([], s.pass) := by
 cases m with
 | zero => omega
 | succ k => rw [stmtsS, if_neg (by simp [h1]), if_pos h2]
theorem st_all (k : Int) (n : ByteArray) (k1 n1 : Int) (s1 : ByteArray) (m1 : Bool) (p1 : Option Addr) (l1 c1 : Nat) (k2 n2 : Int) (s2 : ByteArray) (m2 : Bool) (p2 : Option Addr) (l2 c2 : Nat) (tp : Option Addr) (tl tc : Nat) (ep : Option Addr) (el ec : Nat) :
  ∀ u ∈ ([.int .i64 k, .string n, .int .i64 k1, .int .i64 n1, .string s1, .bool m1, .slice p1 l1 c1, .int .i64 k2, .int .i64 n2, .string s2, .bool m2, .slice p2 l2 c2, .slice tp tl tc, .slice ep el ec] : List Value), u.oneCell' = true := by
 intro u hu
 simp at hu
 rcases hu with rfl | rfl | rfl | rfl | rfl | rfl | rfl | rfl | rfl | rfl | rfl | rfl | rfl | rfl <;> rfl

set_option maxHeartbeats 8000000 in
set_option maxRecDepth 100000 in
theorem stmts_any (pb : Nat) (lv : Value) (ts : List Tok) (N L : Nat) (hN20 : N ≤ 1048576) (hT : ToksOk ts) (stop : List UInt8) (hst : stop ≠ []) (f : S → PS × S) (hf : ∀ s, (f s).2.rest.length ≤ s.rest.length)
  (hpr : ∀ s, s.wr = false → s.rest.length < L → (f s).2.wr = true ∨ (f s).2.rest.length < s.rest.length) (hg : GoodS pb lv ts N L f)
  (w : World) (s : S) (X : List Nat) (hA : Away w pb X) (h : PIn w pb lv ts s) (hN : s.rest.length ≤ N) (hL : s.wr = true ∨ s.rest.length < L) :
  Calls Tryz.prog 85 #[.pointer (some ⟨pb, 0, none⟩), .string (Sb stop)] w (RetL stK erS w pb lv ts X (stmtsS f stop (N + 2) s)) := by
 have hTf := hT.few
 have HA0 := hid (At.start h)
 have HX := hid hA
 have hpb : pb < w.heap.size := hA.lt pb hA.mem
 have HG := hid hg
 generalize hR : stmtsS f stop (N + 2) s = R
 have HR := hid hR.symm
 have HL := hid hL
 have HS := hid (fun (W : World) (s1 : S) (hp : PIn W pb lv ts s1) => skip_any W pb lv ts s1 stop hst hp hTf)
 have HL0 := hid (ListIn.nil stK w.heap.size w X)
 have HY := hid (show ∀ b ∈ X, b < w.heap.size from hA.lt)
 generalize Sb stop = SP at *
 clear h hA hg hR hL
 go_enter Tryz.func85, Tryz.ntmps85
 go_wp2_with fail
 go_loopg [5, 6] (N + 2) (fun gf u v wx => ∃ (li : List St) (s1 : S), (s1.wr = true ∨ s1.rest.length + 2 ≤ gf) ∧ 1 ≤ gf ∧ li.length + gf ≤ N + 2 ∧ s1.rest.length ≤ N ∧ Hid (s1.wr = true ∨ s1.rest.length < L) ∧ Hid (R = (li.map erS ++ (stmtsS f stop gf s1).1, (stmtsS f stop gf s1).2)) ∧ Hid (ListIn stK w.heap.size wx X u li) ∧ Hid (At w pb lv ts s wx s1))
 case atStart => exact ⟨[], s, by omega, by omega, by simp, hN, HL, hid (by simpa using HR.out), HL0, HA0⟩
 case round =>
  clear HR HL0 HA0 HL
  obtain ⟨li, s1, hfu, hg1, hcount, hlenN, HLt, HP, HI, HA1⟩ := hrel
  obtain ⟨i, _, _, hi3⟩ := HA1.out.box
  obtain ⟨_, _, c2⟩ := pin_cells hi3
  have HS1 := hid (HS.out wr s1 HA1.out.pin)
  clear hi3
  cases hw : s1.wr with
  | true =>
   rw [hw] at c2
   have hr := HP.out
   rw [stmts_wr _ _ _ _ hw, List.append_nil] at hr
   have HR2 := hid hr
   clear HP HG HS HS1 hr hw
   go_wp2_with fail
   go_ret
   have hr := HR2.out
   subst hr
   obtain ⟨h1, h2⟩ := HI.out.lies HY.out
   exact ⟨_, li, rfl, h1, h2, rfl, HA1.out.pin, HA1.out.step⟩
  | false =>
   rw [hw] at c2
   cases hna : nextB s1 stop with
   | true =>
    rw [hna] at HS1
    have hr := HP.out
    rw [stmts_end _ _ _ _ hw hna hg1, List.append_nil] at hr
    have HR2 := hid hr
    have HSk := hid (show skipS stop s1 = s1.pass by unfold skipS; rw [hna]; rfl)
    clear HP HG HS hr hw hna
    go_wp2_with fail
    refine HS1.out.mono ?_
    rintro e W2 ⟨rfl, hp, hs⟩
    rw [HSk.out] at hp
    have HA2 := hid (HA1.out.call hp hs)
    have HI2 := hid (HI.out.step hs HX.out.mem HY.out)
    clear hp hs HS1 HA1 HI
    go_wp2_with fail
    go_ret
    have hr := HR2.out
    subst hr
    obtain ⟨h1, h2⟩ := HI2.out.lies HY.out
    exact ⟨_, li, rfl, h1, h2, rfl, HA2.out.pin, HA2.out.step⟩
   | false =>
    rw [hna] at HS1
    obtain ⟨g2, hg2, hpt⟩ := stmts_step f stop gk s1 hw hna hg1
    have hr := HP.out
    rw [hpt] at hr
    have HR2 := hid hr
    have HSk := hid (show skipS stop s1 = s1 by unfold skipS; rw [hna]; rfl)
    have hlt3 : s1.rest.length < L := HLt.out.resolve_left (by simp [hw])
    have HG2 := hid (fun W X1 a b => HG.out W s1 X1 a b hlenN hlt3)
    have hf3 := hf s1
    have HPr := hid (hpr s1 hw hlt3)
    have hfu2 : s1.rest.length + 2 ≤ gk := hfu.resolve_left (by simp [hw])
    clear HP hr hw hna hpt hfu
    go_wp2_with fail
    refine HS1.out.mono ?_
    rintro e W2 ⟨rfl, hp, hs⟩
    rw [HSk.out] at hp
    have HA2 := hid (HA1.out.call hp hs)
    have HI2 := hid (HI.out.step hs HX.out.mem HY.out)
    have HAw2 := hid (show Away W2 pb (blk u5 ++ X) from ⟨by simp [HX.out.mem], fun b hb => by
     rcases List.mem_append.1 hb with h | h
     ·exact (HI2.out.lt b (mem_blk h)).2
     ·exact Nat.lt_of_lt_of_le (HX.out.lt b h) HA2.out.step.size⟩)
    clear hp hs HS1 HA1 HI
    go_wp2_with fail
    refine (HG2.out W2 _ HAw2.out HA2.out.pin).mono ?_
    rintro e W3 ⟨T, rfl, hin, her, hp, hs⟩
    obtain ⟨k, n, k1, n1, t1, m1, p1, l1, c1, q1, k2, n2, t2, m2, p2, l2, c2', q2, tp, tl, tc, th, ep, el, ec, es, rfl⟩ := st_open hin
    rw [show (St.mk k n (.mk k1 n1 t1 m1 (.slice p1 l1 c1) q1) (.mk k2 n2 t2 m2 (.slice p2 l2 c2') q2) (.slice tp tl tc) th (.slice ep el ec) es).val = .agg #[.int .i64 k, .string n, .int .i64 k1, .int .i64 n1, .string t1, .bool m1, .slice p1 l1 c1, .int .i64 k2, .int .i64 n2, .string t2, .bool m2, .slice p2 l2 c2', .slice tp tl tc, .slice ep el ec] from rfl]
    have b3 : Below W3.heap.size W3 ((W3.alloc (.cells #[.int .i64 k, .string n, .int .i64 k1, .int .i64 n1, .string t1, .bool m1, .slice p1 l1 c1, .int .i64 k2, .int .i64 n2, .string t2, .bool m2, .slice p2 l2 c2', .slice tp tl tc, .slice ep el ec] 68)).alloc (.cells #[.int .i64 k, .string n, .int .i64 k1, .int .i64 n1, .string t1, .bool m1, .slice p1 l1 c1, .int .i64 k2, .int .i64 n2, .string t2, .bool m2, .slice p2 l2 c2', .slice tp tl tc, .slice ep el ec] 68)) := ((Below.refl _ W3).alloc (Nat.le_refl _) _).alloc (by simp) _
    have HA4 := hid ((HA2.out.call hp hs).below b3)
    have HI4 := hid ((HI2.out.step hs HX.out.mem HY.out).below b3 HY.out)
    have HT4 := hid (show stK.InP (hushL (blk u5 ++ X) _) _ from St.In.keep (keepsL_below b3) _ hin)
    have HN4 := hid (show ((W3.alloc (.cells #[.int .i64 k, .string n, .int .i64 k1, .int .i64 n1, .string t1, .bool m1, .slice p1 l1 c1, .int .i64 k2, .int .i64 n2, .string t2, .bool m2, .slice p2 l2 c2', .slice tp tl tc, .slice ep el ec] 68)).alloc (.cells #[.int .i64 k, .string n, .int .i64 k1, .int .i64 n1, .string t1, .bool m1, .slice p1 l1 c1, .int .i64 k2, .int .i64 n2, .string t2, .bool m2, .slice p2 l2 c2', .slice tp tl tc, .slice ep el ec] 68)).heap[W3.heap.size + 1]? = some (.cells (stK.cells (.mk k n (.mk k1 n1 t1 m1 (.slice p1 l1 c1) q1) (.mk k2 n2 t2 m2 (.slice p2 l2 c2') q2) (.slice tp tl tc) th (.slice ep el ec) es)).toArray stK.type (0, 0)) from (alloc2 _ _ _).2)
    have HB4 := hid (show w.heap.size ≤ _ from Nat.le_trans HA2.out.step.size (Nat.le_trans hs.size b3.size))
    have HO4 := hid (st_all k n k1 n1 t1 m1 p1 l1 c1 k2 n2 t2 m2 p2 l2 c2' tp tl tc ep el ec)
    have HE := hid her
    clear hin her hp hs HG2 HAw2 HA2 HI2 b3
    go_wp2_with (first | (at_builtin; refine wpList_append_kd stOk rfl _ _ rfl w.heap.size _ li rfl HI4.out (W3.heap.size + 1) (.mk k n (.mk k1 n1 t1 m1 (.slice p1 l1 c1) q1) (.mk k2 n2 t2 m2 (.slice p2 l2 c2') q2) (.slice tp tl tc) th (.slice ep el ec) es) rfl HN4.out HT4.out HO4.out ?cc HB4.out ?_))
    case cc => omega
    intro v5 W5 hl5 hg5
    have HA5 := hid (HA4.out.grown (fun g e => (HI4.out.lt g e).1) hg5)
    have HL5 := hid hl5
    clear hl5 hg5 HA4 HI4 HT4 HN4 HB4 HO4
    go_wp2_with fail
    go_roundg (gk - 1)
    case measure => omega
    case rel =>
     refine ⟨li ++ [.mk k n (.mk k1 n1 t1 m1 (.slice p1 l1 c1) q1) (.mk k2 n2 t2 m2 (.slice p2 l2 c2') q2) (.slice tp tl tc) th (.slice ep el ec) es], (f s1).2, ?_, by omega, by simp; omega, by omega, hid (.inr (by omega)), hid ?_, HL5, HA5⟩
     ·rcases HPr.out with h | h
      ·exact .inl h
      ·exact .inr (by omega)
     ·have hr := HR2.out
      rw [hg2, Nat.add_sub_cancel, List.map_append, List.append_assoc, List.map_cons, List.map_nil, HE.out]
      simpa using hr

set_option maxHeartbeats 2000000 in
set_option maxRecDepth 100000 in
theorem block_any (pb : Nat) (lv : Value) (ts : List Tok) (N L : Nat) (hN20 : N ≤ 1048576) (hT : ToksOk ts) (f : S → PS × S) (hf : ∀ s, (f s).2.rest.length ≤ s.rest.length)
  (hpr : ∀ s, s.wr = false → s.rest.length < L → (f s).2.wr = true ∨ (f s).2.rest.length < s.rest.length) (hg : GoodS pb lv ts N L f)
  (w : World) (s : S) (X : List Nat) (hA : Away w pb X) (h : PIn w pb lv ts s) (hN : s.rest.length ≤ N) (hL : s.wr = true ∨ s.rest.length < L) :
  Calls Tryz.prog 130 #[.pointer (some ⟨pb, 0, none⟩)] w (RetL stK erS w pb lv ts X (stmtsS f mEnd (N + 2) (mustS mBegin s))) := by
 have HM := hid (must_any w pb lv ts s mBegin (by decide) h hT.few)
 have hle := must_le mBegin s
 have hL2 : (mustS mBegin s).wr = true ∨ (mustS mBegin s).rest.length < L := by
  rcases hL with h | h
  ·left
   unfold mustS
   rw [next_wr h, if_neg (by simp)]
   rfl
  ·exact .inr (by omega)
 have HC := hid (fun W hp a => stmts_any pb lv ts N L hN20 hT mEnd (by decide) f hf hpr hg W (mustS mBegin s) X a hp (by omega) hL2)
 have HA0 := hid (At.start h)
 have HX := hid hA
 clear h hA hg hL hL2
 generalize stmtsS f mEnd (N + 2) (mustS mBegin s) = R at *
 generalize mustS mBegin s = s2 at *
 go_enter Tryz.func130, Tryz.ntmps130
 go_wp2_with fail
 refine HM.out.mono ?_
 rintro e W1 ⟨rfl, hp, hs⟩
 have HA1 := hid (HA0.out.call hp hs)
 have HAw := hid (HX.out.mono hs.size)
 clear hp hs HA0 HM
 go_wp2_with fail
 refine (HC.out _ HA1.out.pin HAw.out).mono ?_
 rintro e W2 ⟨v, l, rfl, h1, h2, h3, hp, hs⟩
 have HA2 := hid (HA1.out.call hp hs)
 have H := hid (And.intro h1 (And.intro h2 h3))
 clear hp hs h1 h2 h3 HC HA1
 go_wp2_with fail
 go_ret
 exact ⟨v, l, rfl, H.out.1, H.out.2.1, H.out.2.2, HA2.out.pin, HA2.out.step⟩
end Go.Proofs.YtemflcojebanlaaGreatDoor.ParC

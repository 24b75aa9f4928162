/- The document's own parser: fn. -/
import Derived.Test.YtemflcojebanlaaGreatDoorJ33
namespace Go.Proofs.YtemflcojebanlaaGreatDoor.ParC
open Go Go.RowKit Go.Lib Go.Sort LexP TreeP LexC TreeC PageC TextC ParP

theorem ListIn.form {α : Type} {K : Kd α} {base : Nat} {w : World} {Y : List Nat} {v : Value} {l : List α} (h : ListIn K base w Y v l) : ∃ p z c, v = .slice p z c := by
 obtain ⟨_, ⟨rfl, _⟩ | ⟨g, cap, cur, rfl, _⟩⟩ := h.own
 ·exact ⟨_, _, _, rfl⟩
 ·exact ⟨_, _, _, rfl⟩
theorem fn_all (x : ByteArray) (pl : Option Addr) (zl cl : Nat) (pp : Option Addr) (zp cp : Nat) (gk : Int) (gn : ByteArray) (gm : Bool) (gp : Option Addr) (gl gc : Nat) (po : Option Addr) (zo co : Nat) (pd : Option Addr) (zd cd : Nat) (ke ne : Int) (te : ByteArray) (me : Bool) (pe : Option Addr) (le ce : Nat) :
  ∀ u ∈ ([.string x, .slice pl zl cl, .slice pp zp cp, .int .i64 gk, .string gn, .bool gm, .slice gp gl gc, .slice po zo co, .slice pd zd cd, .int .i64 ke, .int .i64 ne, .string te, .bool me, .slice pe le ce] : List Value), u.oneCell' = true := by
 intro u hu
 simp at hu
 rcases hu with rfl | rfl | rfl | rfl | rfl | rfl | rfl | rfl | rfl | rfl | rfl | rfl | rfl | rfl <;> rfl
set_option maxHeartbeats 8000000 in
set_option maxRecDepth 100000 in
theorem fn_any (pb : Nat) (lv : Value) (ts : List Tok) (N : Nat) (hN20 : N ≤ 1048576) (hT : ToksOk ts) (w : World) (s : S) (X : List Nat) (hA : Away w pb X) (h : PIn w pb lv ts s) (hN : s.rest.length ≤ N) :
  Calls Tryz.prog 47 #[.pointer (some ⟨pb, 0, none⟩)] w (RetF w pb lv ts X (fnS N s)) := by
 have HMu := hid (fun (x : List UInt8) (hx : x ≠ []) W s1 hp => must_any W pb lv ts s1 x hx hp hT.few)
 have HSk := hid (fun (x : List UInt8) (hx : x ≠ []) W s1 hp => skip_any W pb lv ts s1 x hx hp hT.few)
 have HNm := hid (fun W s1 hp => name_any W pb lv ts s1 hp hT)
 have HLf := hid (fun W s1 hp => life_any W pb lv ts s1 hp hT)
 have b0 : Below w.heap.size w (w.alloc (.cells fnZ 42)) := (Below.refl _ w).alloc (Nat.le_refl _) _
 have HA0 := hid ((At.start h).below b0)
 have HK0 := hid (heap_alloc_new w (.cells fnZ 42))
 have HX := hid hA
 have hpb : pb < w.heap.size := hA.lt pb hA.mem
 generalize hR : fnS N s = R
 unfold fnS at hR
 simp only at hR
 have HR := hid hR
 have l1 := must_le kFn s
 have l2 := name_le (mustS kFn s)
 clear hR h hA b0
 go_enter Tryz.func47, Tryz.ntmps47
 go_wp2_with fail
 refine (HMu.out kFn (by decide) _ _ HA0.out.pin).mono ?_
 rintro e W1 ⟨rfl, hp, hs⟩
 have HA1 := hid (HA0.out.call hp hs)
 have HK1 := hid (heap_step hs HK0.out (by omega))
 have hz1 := hs.size
 simp at hz1
 clear hp hs HA0 HK0
 have b1 : Below W1.heap.size W1 (W1.alloc (.cells #[.string ⟨#[]⟩, .slice none 0 0, .slice none 0 0, .int .i64 0, .string ⟨#[]⟩, .bool false, .slice none 0 0, .slice none 0 0, .slice none 0 0, .int .i64 0, .int .i64 0, .string ⟨#[]⟩, .bool false, .slice none 0 0] 42)) := (Below.refl _ W1).alloc (Nat.le_refl _) _
 have HF2 := hid (show FnAt w pb lv ts s X W1.heap.size _ _ #[.string ⟨#[]⟩, .slice none 0 0, .slice none 0 0, .int .i64 0, .string ⟨#[]⟩, .bool false, .slice none 0 0, .slice none 0 0, .slice none 0 0, .int .i64 0, .int .i64 0, .string ⟨#[]⟩, .bool false, .slice none 0 0] from ⟨HA1.out.below b1, by omega, HX.out.lt, HX.out.mem, heap_below b1 HK1.out, heap_alloc_new W1 _⟩)
 clear b1 HA1 HK1
 go_wp2_with fail
 refine (HNm.out _ _ HF2.out.at1.pin).mono ?_
 rintro e W3 ⟨rfl, hp, hs⟩
 have HF3 := hid (HF2.out.call hp hs)
 clear hp hs HF2
 generalize W1.heap.size = b at *
 clear hz1
 have hB := HF3.out.own
 have hc3 : W3.cell? ⟨b, 0, none⟩ = some (.string ⟨#[]⟩) := by rw [Lib.cell_of_heap hB]; rfl
 have hf3 := frozen_of hB 0
 have HF4 := hid (HF3.out.cell 0 (.string (Sb (nameS (mustS kFn s)).1)))
 simp at HF4
 clear hB HF3
 go_upto_if 18 with (fail)
 refine (HSk.out mFrom (by decide) _ _ HF4.out.at1.pin).mono ?_
 rintro e W5 ⟨rfl, hp, hs⟩
 have HF5 := hid (HF4.out.call hp hs)
 clear hp hs HF4 hc3 hf3
 generalize hx : nameS (mustS kFn s) = x at *
 obtain ⟨nm, s1⟩ := x
 simp only at HF5 HR l2
 have Hx := hid hx
 clear hx
 have l3 := lives_le N s1
 have HLv := hid (show livesS N s1 = if nextB s1 mFrom then ((rowS lifeS N s1.pass).1, mustS mTo (rowS lifeS N s1.pass).2) else ([], s1) from rfl)
 generalize livesS N s1 = rl at *
 obtain ⟨ll, s2⟩ := rl
 simp only at HR l3 HLv
 go_upto_if 18 with (fail)
 go_cut [4] (fun u wx => ∃ (vl : Value) (li : List ByteArray), Hid (FnAt w pb lv ts s X b wx s2 #[.string (Sb nm), vl, .slice none 0 0, .int .i64 0, .string ⟨#[]⟩, .bool false, .slice none 0 0, .slice none 0 0, .slice none 0 0, .int .i64 0, .int .i64 0, .string ⟨#[]⟩, .bool false, .slice none 0 0]) ∧ Hid (Lies (hushL (b :: w.heap.size :: X) wx) 1 vl (li.map nmCells)) ∧ Hid (li.map bs = ll))
 case first =>
  cases hna : nextB s1 mFrom with
  | false =>
   have e := HLv.out
   rw [hna, if_neg (by simp), Prod.mk.injEq] at e
   obtain ⟨rfl, rfl⟩ := e
   have HF6 := hid (show FnAt w pb lv ts s X b W5 s2 _ from by
    have h := HF5.out
    rw [show skipS mFrom s2 = s2 by unfold skipS; rw [hna]; rfl] at h
    exact h)
   clear hna HLv HF5
   go_wp2_with fail
   go_meet
   exact ⟨_, [], HF6, hid lies_none, hid rfl⟩
  | true =>
   have e := HLv.out
   rw [hna, if_pos rfl, Prod.mk.injEq] at e
   obtain ⟨e1, e2⟩ := e
   have hle1 := pass_le s1
   have hle2 := life_le s1.pass
   have HF6 := hid (show FnAt w pb lv ts s X b W5 s1.pass _ from by
    have h := HF5.out
    rw [show skipS mFrom s1 = s1.pass by unfold skipS; rw [hna]; rfl] at h
    exact h)
   have HQ := hid (show rowS lifeS N s1.pass = ((lifeS s1.pass).1 :: (moreS lifeS N (lifeS s1.pass).2).1, (moreS lifeS N (lifeS s1.pass).2).2) from rfl)
   generalize rowS lifeS N s1.pass = rq at *
   have E1 := hid e1
   have E2 := hid e2
   clear hna HLv HF5 e1 e2
   go_wp2_with fail
   refine (HLf.out _ _ HF6.out.at1.pin).mono ?_
   rintro e W6 ⟨rfl, hp, hs⟩
   generalize hx : lifeS s1.pass = x at *
   obtain ⟨y, s4⟩ := x
   have HF7 := hid (HF6.out.call hp hs)
   have hB := HF7.out.own
   have hc7 : W6.cell? ⟨b, 1, none⟩ = some (.slice none 0 0) := by rw [Lib.cell_of_heap hB]; rfl
   have bA : Below W6.heap.size W6 (W6.alloc (.cells #[.string (Sb y)] 9)) := (Below.refl _ W6).alloc (Nat.le_refl _) _
   have HF8 := hid (HF7.out.below bA)
   have HLb := hid (show b + 1 ≤ (W6.alloc (.cells #[.string (Sb y)] 9)).heap.size from by have := heap_lt HF8.out.own; omega)
   have HLn := hid (ListIn.nil nmK (b + 1) (W6.alloc (.cells #[.string (Sb y)] 9)) (b :: w.heap.size :: X))
   have HN8 := hid (heap_alloc_new W6 (.cells #[.string (Sb y)] 9))
   have HY := hid (show ∀ c ∈ b :: w.heap.size :: X, c < b + 1 from fun c hc => by
    have h1 := HF8.out.lt
    rcases List.mem_cons.1 hc with rfl | hc
    ·omega
    ·rcases List.mem_cons.1 hc with rfl | hc
     ·omega
     ·have := HF8.out.old c hc
      omega)
   simp only at HQ hle2
   clear hp hs HF6 hx hB bA HF7
   go_wp2_with (first | (at_builtin; refine wpList_append_kd nmOk rfl _ _ rfl (b + 1) _ [] rfl HLn.out W6.heap.size (Sb y) rfl HN8.out trivial (nm_all _) (by simp) HLb.out ?_))
   intro v7 W7 hl7 hg7
   obtain ⟨p, z, c, rfl⟩ := hl7.form
   have HF9 := hid (HF8.out.grown (fun g e => by simp [Value.ownBlock] at e) hg7)
   have hB := HF9.out.own
   have hc9 : W7.cell? ⟨b, 1, none⟩ = some (.slice none 0 0) := by rw [Lib.cell_of_heap hB]; rfl
   have hf9 := frozen_of hB 1
   have HF10 := hid (HF9.out.cell 1 (.slice p z c))
   simp at HF10
   have HI10 := hid (hl7.cell (b := b) (by simp) HY.out 1 (.slice p z c))
   clear hl7 hg7 hB HF8 HF9 HLn HN8 HLb hc7
   go_wp2_with fail
   go_loopg [4] N (fun gf u wx => ∃ (li : List ByteArray) (s3 : S) (p : Option Addr) (z c : Nat), s3.rest.length ≤ gf ∧ li.length + s3.rest.length ≤ N + 1 ∧ Hid (rq = (li.map bs ++ (moreS lifeS gf s3).1, (moreS lifeS gf s3).2)) ∧ Hid (ListIn nmK (b + 1) wx (b :: w.heap.size :: X) (.slice p z c) li) ∧ Hid (FnAt w pb lv ts s X b wx s3 #[.string (Sb nm), .slice p z c, .slice none 0 0, .int .i64 0, .string ⟨#[]⟩, .bool false, .slice none 0 0, .slice none 0 0, .slice none 0 0, .int .i64 0, .int .i64 0, .string ⟨#[]⟩, .bool false, .slice none 0 0]))
   case atStart => exact ⟨[Sb y], s4, p, z, c, by omega, by simp; omega, by have h := HQ.out; simpa [bs_Sb] using hid h, by simpa using HI10, HF10⟩
   case round =>
    clear HQ HI10 HF10 hc9 hf9
    obtain ⟨li, s3, p1, z1, c1, hlen, hcount, HP, HI, HFx⟩ := hrel
    have HS := hid (HSk.out mComma (by decide) _ _ HFx.out.at1.pin)
    cases hna : nextB s3 mComma with
    | false =>
     rw [hna] at HS
     have hr := HP.out
     rw [more_end _ _ _ hna, List.append_nil] at hr
     have HR2 := hid hr
     have HSp := hid (show skipS mComma s3 = s3 by unfold skipS; rw [hna]; rfl)
     clear hna hr HP
     go_wp2_with fail
     refine HS.out.mono ?_
     rintro e W12 ⟨rfl, hp, hs⟩
     rw [HSp.out] at hp
     have HF12 := hid (HFx.out.call hp hs)
     have HI12 := hid (HI.out.step hs (by simp [HFx.out.mem]) HY.out)
     clear hp hs HFx HI HS
     go_wp2_with fail
     refine (HMu.out mTo (by decide) _ _ HF12.out.at1.pin).mono ?_
     rintro e W13 ⟨rfl, hp, hs⟩
     have HF13 := hid (HF12.out.call hp hs)
     have HI13 := hid (HI12.out.step hs (by simp [HF12.out.mem]) HY.out)
     clear hp hs HF12 HI12
     go_wp2_with fail
     go_meet
     have h1 := E1.out
     have h2 := E2.out
     rw [HR2.out] at h1 h2
     simp only at h1 h2
     subst h2
     exact ⟨_, li, HF13, hid (HI13.out.lies HY.out).1, hid h1.symm⟩
    | true =>
     rw [hna] at HS
     have HSp := hid (show skipS mComma s3 = s3.pass by unfold skipS; rw [hna]; rfl)
     obtain ⟨g2, hg2, hpt, hl2, hl3⟩ := more_step lifeS gk s3 hna hlen
     have hle3 := life_le s3.pass
     have hr := HP.out
     rw [hpt] at hr
     have HR2 := hid hr
     clear hna hr hpt HP
     go_wp2_with fail
     refine HS.out.mono ?_
     rintro e W12 ⟨rfl, hp, hs⟩
     rw [HSp.out] at hp
     have HF12 := hid (HFx.out.call hp hs)
     have HI12 := hid (HI.out.step hs (by simp [HFx.out.mem]) HY.out)
     clear hp hs HFx HI HS
     go_wp2_with fail
     refine (HLf.out _ _ HF12.out.at1.pin).mono ?_
     rintro e W13 ⟨rfl, hp, hs⟩
     generalize hx : lifeS s3.pass = x at *
     obtain ⟨y2, s5⟩ := x
     simp only at hle3
     have HR3 := hid (show rq = (li.map bs ++ y2 :: (moreS lifeS g2 s5).1, (moreS lifeS g2 s5).2) from HR2.out)
     have HF13 := hid (HF12.out.call hp hs)
     have HI13 := hid (HI12.out.step hs (by simp [HF12.out.mem]) HY.out)
     have hB := HF13.out.own
     have hc13 : W13.cell? ⟨b, 1, none⟩ = some (.slice p1 z1 c1) := by rw [Lib.cell_of_heap hB]; rfl
     have bA : Below W13.heap.size W13 (W13.alloc (.cells #[.string (Sb y2)] 9)) := (Below.refl _ W13).alloc (Nat.le_refl _) _
     have HF14 := hid (HF13.out.below bA)
     have HI14 := hid (HI13.out.below bA HY.out)
     have HLb := hid (show b + 1 ≤ (W13.alloc (.cells #[.string (Sb y2)] 9)).heap.size from by have := heap_lt HF14.out.own; omega)
     have HN14 := hid (heap_alloc_new W13 (.cells #[.string (Sb y2)] 9))
     clear hp hs HF12 HI12 HF13 HI13 hx hB bA HR2
     go_wp2_with (first | (at_builtin; refine wpList_append_kd nmOk rfl _ _ rfl (b + 1) _ li rfl HI14.out W13.heap.size (Sb y2) rfl HN14.out trivial (nm_all _) ?cc HLb.out ?_))
     case cc => omega
     intro v15 W15 hl15 hg15
     obtain ⟨p2, z2, c2, rfl⟩ := hl15.form
     have HF15 := hid (HF14.out.grown (fun g e => by have := (HI14.out.lt g e).1; omega) hg15)
     have hB := HF15.out.own
     have hc15 : W15.cell? ⟨b, 1, none⟩ = some (.slice p1 z1 c1) := by rw [Lib.cell_of_heap hB]; rfl
     have hf15 := frozen_of hB 1
     have HF16 := hid (HF15.out.cell 1 (.slice p2 z2 c2))
     simp at HF16
     have HI16 := hid (hl15.cell (b := b) (by simp) HY.out 1 (.slice p2 z2 c2))
     clear hl15 hg15 hB HF14 HF15 HN14 HLb hc13 HI14
     go_wp2_with fail
     go_roundg (gk - 1)
     case measure => omega
     case rel =>
      refine ⟨li ++ [Sb y2], s5, p2, z2, c2, by omega, by simp; omega, hid ?_, HI16, HF16⟩
      have hr := HR3.out
      rw [hg2, Nat.add_sub_cancel, List.map_append, List.append_assoc, List.map_cons, List.map_nil, bs_Sb]
      simpa using hr
 case rest =>
  obtain ⟨vl, li, HF6, HLi6, HMl⟩ := hcut
  obtain ⟨pl, cl, hv, _, _⟩ := id HLi6.out
  rw [List.length_map] at hv
  obtain ⟨zl, hz⟩ : ∃ z, li.length = z := ⟨_, rfl⟩
  rw [hz] at hv
  subst hv
  clear hz HLv HF5
  have HTy := hid (fun W s1 X1 a h b => good_ty pb lv ts N hN20 hT W s1 X1 a h b)
  have HmX := hid (show pb ∈ b :: w.heap.size :: X by simp [HF6.out.mem])
  go_wp2_with fail
  refine (HMu.out mOpen (by decide) _ _ HF6.out.at1.pin).mono ?_
  rintro e W7 ⟨rfl, hp, hs⟩
  have HF7 := hid (HF6.out.call hp hs)
  have HLi7 := hid (HLi6.out.keep (keepsL_step hs HmX.out))
  clear hp hs HF6 HLi6
  have l4 := must_le mOpen s2
  generalize mustS mOpen s2 = s3 at *
  go_upto_if 43 with (fail)
  refine (HSk.out mShut (by decide) _ _ HF7.out.at1.pin).mono ?_
  rintro e W8 ⟨rfl, hp, hs⟩
  have HF8 := hid (HF7.out.call hp hs)
  have HLi8 := hid (HLi7.out.keep (keepsL_step hs HmX.out))
  clear hp hs HF7 HLi7
  have l5 := params_le N s3
  have HPs := hid (show paramsS N s3 = if nextB s3 mShut then ([], s3.pass) else ((rowS (paramS N) N s3).1, mustS mShut (rowS (paramS N) N s3).2) from rfl)
  generalize paramsS N s3 = rp at *
  obtain ⟨lp, s4⟩ := rp
  simp only at HR l5 HPs
  go_upto_if 43 with (fail)
  go_cut [5, 6, 7] (fun u5 u6 u7 wx => ∃ (vp : Value) (lip : List Pa), Hid (FnAt w pb lv ts s X b wx s4 #[.string (Sb nm), .slice pl zl cl, vp, .int .i64 0, .string ⟨#[]⟩, .bool false, .slice none 0 0, .slice none 0 0, .slice none 0 0, .int .i64 0, .int .i64 0, .string ⟨#[]⟩, .bool false, .slice none 0 0]) ∧ Hid (Lies (hushL (b :: w.heap.size :: X) wx) 1 (.slice pl zl cl) (li.map nmCells)) ∧ Hid (Lies (hushL (b :: w.heap.size :: X) wx) 5 vp (lip.map Pa.cells) ∧ ∀ a ∈ lip, a.In (hushL (b :: w.heap.size :: X) wx)) ∧ Hid (lip.map erPa = lp))
  case first =>
   cases hna : nextB s3 mShut with
   | true =>
    have e := HPs.out
    rw [hna, if_pos rfl, Prod.mk.injEq] at e
    obtain ⟨rfl, rfl⟩ := e
    have HF9 := hid (show FnAt w pb lv ts s X b W8 s3.pass _ from by
     have h := HF8.out
     rw [show skipS mShut s3 = s3.pass by unfold skipS; rw [hna]; rfl] at h
     exact h)
    clear hna HPs HF8
    go_wp2_with fail
    go_meet
    exact ⟨_, [], HF9, HLi8, hid ⟨lies_none, fun a h => by simp at h⟩, hid rfl⟩
   | false =>
    have e := HPs.out
    rw [hna, if_neg (by simp), Prod.mk.injEq] at e
    obtain ⟨e1, e2⟩ := e
    have HF9 := hid (show FnAt w pb lv ts s X b W8 s3 _ from by
     have h := HF8.out
     rw [show skipS mShut s3 = s3 by unfold skipS; rw [hna]; rfl] at h
     exact h)
    generalize hq : rowS (paramS N) N s3 = rq at *
    have HQ := hid (show rq = (([] : List Pa).map erPa ++ (rowS (paramS N) N s3).1, (rowS (paramS N) N s3).2) by rw [hq]; rfl)
    have E1 := hid e1
    have E2 := hid e2
    have HLn := hid (ListIn.nil paK W8.heap.size W8 (b :: w.heap.size :: X))
    have HY := hid HF9.out.away.lt
    have HbW := hid (show b < W8.heap.size from heap_lt HF9.out.own)
    have HSt := hid (Stay.refl W8 (b :: w.heap.size :: X))
    clear hna HPs HF8 e1 e2 hq
    go_wp2_with fail
    go_loopg [5, 6, 7] (N + 1) (fun gf u5 u6 u7 wx => ∃ (bb : Bool) (g : Nat) (lip : List Pa) (s5 : S) (p : Option Addr) (z c : Nat), u5 = .bool bb ∧ Hid ((bb = true ∧ g + 1 ≤ gf ∧ s5.rest.length ≤ g ∧ lip.length + g ≤ N ∧ rq = (lip.map erPa ++ (rowS (paramS N) g s5).1, (rowS (paramS N) g s5).2)) ∨ (bb = false ∧ rq = (lip.map erPa, s5))) ∧ Hid (ListIn paK W8.heap.size wx (b :: w.heap.size :: X) (.slice p z c) lip) ∧ Hid (Stay W8 wx (b :: w.heap.size :: X)) ∧ Hid (FnAt w pb lv ts s X b wx s5 #[.string (Sb nm), .slice pl zl cl, .slice p z c, .int .i64 0, .string ⟨#[]⟩, .bool false, .slice none 0 0, .slice none 0 0, .slice none 0 0, .int .i64 0, .int .i64 0, .string ⟨#[]⟩, .bool false, .slice none 0 0]))
    case atStart => exact ⟨true, N, [], s3, none, 0, 0, rfl, hid (.inl ⟨rfl, by omega, by omega, by simp, HQ.out⟩), HLn, HSt, HF9⟩
    case round =>
     clear HQ HLn HSt HF9
     obtain ⟨bb, g, lip, s5, p1, z1, c1, rfl, HD, HI, HSy, HFx⟩ := hrel
     rcases HD.out with ⟨rfl, h1, h2, h3, h4⟩ | ⟨rfl, h1⟩
     ·have HR2 := hid h4
      clear HD h4
      go_wp2_with fail
      refine (HNm.out _ _ HFx.out.at1.pin).mono ?_
      rintro e W12 ⟨rfl, hp, hs⟩
      have HF12 := hid (HFx.out.call hp hs)
      have HI12 := hid (HI.out.step hs HmX.out HY.out)
      have HS12 := hid (HSy.out.call hs HmX.out)
      clear hp hs HFx HI HSy
      go_wp2_with fail
      have hl6 := name_le s5
      have hl7 := must_le mColon (nameS s5).2
      refine (HMu.out mColon (by decide) _ _ HF12.out.at1.pin).mono ?_
      rintro e W13 ⟨rfl, hp, hs⟩
      have HF13 := hid (HF12.out.call hp hs)
      have HI13 := hid (HI12.out.step hs HmX.out HY.out)
      have HS13 := hid (HS12.out.call hs HmX.out)
      have HAw13 := hid (show Away W13 pb (blk (.slice p1 z1 c1) ++ (b :: w.heap.size :: X)) from ⟨by have := HmX.out; simp at this; simp [this], fun q hq => by
       rcases List.mem_append.1 hq with h | h
       ·exact (HI13.out.lt q (mem_blk h)).2
       ·exact HF13.out.away.lt q h⟩)
      clear hp hs HF12 HI12 HS12
      go_wp2_with fail
      have HP2 := hid (show paramS N s5 = (⟨(nameS s5).1, (tyS N (mustS mColon (nameS s5).2)).1⟩, (tyS N (mustS mColon (nameS s5).2)).2) from rfl)
      have hl8 := param_le N s5
      generalize hps : paramS N s5 = rr at *
      obtain ⟨pp, s6⟩ := rr
      have HPS := hid hps
      refine (HTy.out W13 _ _ HAw13.out HF13.out.at1.pin (by omega)).mono ?_
      rintro e W14 ⟨T, rfl, hin, her, hp, hs⟩
      obtain ⟨tk, tn, tm, tp, tl, tc, tq, rfl⟩ := ty_open hin
      rw [Ty.val_mk]
      have hpr := HP2.out
      rw [Prod.mk.injEq] at hpr
      obtain ⟨hp1, hp2⟩ := hpr
      rw [← hp2] at hp
      rw [← her] at hp1
      generalize (nameS s5).1 = y at *
      have HE := hid (show erPa ⟨Sb y, .mk tk tn tm (.slice tp tl tc) tq⟩ = pp by rw [hp1, erPa, bs_Sb])
      have HF14 := hid (HF13.out.call hp hs)
      have hB := HF14.out.own
      have bA : Below W14.heap.size W14 (W14.alloc (.cells #[.int .i64 tk, .string tn, .bool tm, .slice tp tl tc] 34)) := (Below.refl _ W14).alloc (Nat.le_refl _) _
      have hc14 : (W14.alloc (.cells #[.int .i64 tk, .string tn, .bool tm, .slice tp tl tc] 34)).cell? ⟨b, 2, none⟩ = some (.slice p1 z1 c1) := by rw [Lib.cell_of_heap (heap_below bA hB)]; rfl
      have bB : Below W14.heap.size W14 ((W14.alloc (.cells #[.int .i64 tk, .string tn, .bool tm, .slice tp tl tc] 34)).alloc (.cells #[.string (Sb y), .int .i64 tk, .string tn, .bool tm, .slice tp tl tc] 52)) := bA.alloc (by simp) _
      have HF15 := hid (HF14.out.below bB)
      have HI15 := hid ((HI13.out.step hs HmX.out HY.out).below bB HY.out)
      have HS15 := hid ((HS13.out.call hs HmX.out).below bB)
      have HT15 := hid (show paK.InP (hushL (blk (.slice p1 z1 c1) ++ (b :: w.heap.size :: X)) _) ⟨Sb y, .mk tk tn tm (.slice tp tl tc) tq⟩ from Ty.In.keep (keepsL_below bB) _ hin)
      have HN15 := hid (alloc2 W14 (.cells #[.int .i64 tk, .string tn, .bool tm, .slice tp tl tc] 34) (.cells #[.string (Sb y), .int .i64 tk, .string tn, .bool tm, .slice tp tl tc] 52)).2
      have HB15 := hid (HS15.out.size)
      have HO15 := hid (pa_all (Sb y) tk tn tm tp tl tc)
      simp only at hl8
      clear hp hs hin her hp1 hp2 hps HP2 HF13 HI13 HS13 HAw13 hB bA bB HF14
      go_wp2_with (first | (at_builtin; refine wpList_append_kd paOk rfl _ _ rfl W8.heap.size _ lip rfl HI15.out (W14.heap.size + 1) ⟨Sb y, .mk tk tn tm (.slice tp tl tc) tq⟩ rfl HN15.out HT15.out HO15.out ?cc HB15.out ?_))
      case cc => omega
      intro v16 W16 hl16 hg16
      obtain ⟨p2, z2, c2, rfl⟩ := hl16.form
      have HF16 := hid (HF15.out.grown (fun g e => by have := (HI15.out.lt g e).1; have := HbW.out; omega) hg16)
      have HS16 := hid (HS15.out.grown (fun g e => (HI15.out.lt g e).1) hg16)
      have hB := HF16.out.own
      have hc16 : W16.cell? ⟨b, 2, none⟩ = some (.slice p1 z1 c1) := by rw [Lib.cell_of_heap hB]; rfl
      have hf16 := frozen_of hB 2
      have HF17 := hid (HF16.out.cell 2 (.slice p2 z2 c2))
      simp at HF17
      have HI17 := hid (hl16.cell (b := b) (by simp) HY.out 2 (.slice p2 z2 c2))
      have HS17 := hid (HS16.out.cell (b := b) (by simp) 2 (.slice p2 z2 c2))
      clear hl16 hg16 hB HF15 HF16 HN15 HT15 HO15 HB15 hc14 HI15 HS15 HS16
      go_wp2_with fail
      refine (HSk.out mComma (by decide) _ _ HF17.out.at1.pin).mono ?_
      rintro e W18 ⟨rfl, hp, hs⟩
      have HF18 := hid (HF17.out.call hp hs)
      have HI18 := hid (HI17.out.step hs HmX.out HY.out)
      have HS18 := hid (HS17.out.call hs HmX.out)
      clear hp hs HF17 HI17 HS17 hc16 hf16
      go_wp2_with fail
      go_roundg (gk - 1)
      case measure => omega
      case rel =>
       have hr := HR2.out
       rw [show rowS (paramS N) g s5 = ((paramS N s5).1 :: (moreS (paramS N) g (paramS N s5).2).1, (moreS (paramS N) g (paramS N s5).2).2) from rfl, HPS.out] at hr
       simp only at hr
       cases hna : nextB s6 mComma with
       | true =>
        obtain ⟨g2, hg2, hpt, hl2, hl3⟩ := more_step (paramS N) g s6 hna (by omega)
        rw [hpt] at hr
        have h := HF18.out
        rw [show skipS mComma s6 = s6.pass by unfold skipS; rw [hna]; rfl] at h
        refine ⟨true, g2, lip ++ [⟨Sb y, .mk tk tn tm (.slice tp tl tc) tq⟩], s6.pass, p2, z2, c2, rfl, hid (.inl ⟨rfl, by omega, by omega, by simp; omega, ?_⟩), HI18, HS18, hid h⟩
        rw [List.map_append, List.append_assoc, List.map_cons, List.map_nil, HE.out]
        simpa [rowS] using hr
       | false =>
        rw [more_end _ _ _ hna] at hr
        have h := HF18.out
        rw [show skipS mComma s6 = s6 by unfold skipS; rw [hna]; rfl] at h
        refine ⟨false, 0, lip ++ [⟨Sb y, .mk tk tn tm (.slice tp tl tc) tq⟩], s6, p2, z2, c2, rfl, hid (.inr ⟨rfl, ?_⟩), HI18, HS18, hid h⟩
        rw [List.map_append, List.map_cons, List.map_nil, HE.out]
        exact hr
     ·have HR2 := hid h1
      clear HD h1
      go_wp2_with fail
      refine (HMu.out mShut (by decide) _ _ HFx.out.at1.pin).mono ?_
      rintro e W12 ⟨rfl, hp, hs⟩
      have HF12 := hid (HFx.out.call hp hs)
      have HI12 := hid (HI.out.step hs HmX.out HY.out)
      have HS12 := hid (HSy.out.call hs HmX.out)
      clear hp hs HFx HI HSy
      go_wp2_with fail
      go_meet
      have h1 := E1.out
      have h2 := E2.out
      rw [HR2.out] at h1 h2
      simp only at h1 h2
      subst h2
      exact ⟨_, lip, HF12, hid (HLi8.out.keep HS12.out.keeps), hid (HI12.out.lies HY.out), hid h1.symm⟩
  case rest =>
   obtain ⟨vp, lip, HF9, HLi9, HPi9, HMp⟩ := hcut
   obtain ⟨pp, cp, hv, _, _⟩ := id HPi9.out.1
   rw [List.length_map] at hv
   obtain ⟨zp, hz⟩ : ∃ z, lip.length = z := ⟨_, rfl⟩
   rw [hz] at hv
   subst hv
   clear hz HPs HF8 HLi8
   go_wp2_with fail
   refine (HMu.out mGives (by decide) _ _ HF9.out.at1.pin).mono ?_
   rintro e W10 ⟨rfl, hp, hs⟩
   have HF10 := hid (HF9.out.call hp hs)
   have k10 := keepsL_step hs HmX.out
   have HLi10 := hid (HLi9.out.keep k10)
   have HPi10 := hid (And.intro (HPi9.out.1.keep k10) (fun a ha => Ty.In.keep k10 _ (HPi9.out.2 a ha)))
   clear hp hs k10 HF9 HLi9 HPi9
   have l6 := must_le mGives s4
   generalize mustS mGives s4 = s5 at *
   go_wp2_with fail
   have l7 : (tyS N s5).2.rest.length ≤ s5.rest.length := kind_le N _ _
   refine (HTy.out W10 s5 _ HF10.out.away HF10.out.at1.pin (by omega)).mono ?_
   generalize tyS N s5 = rg at *
   obtain ⟨pg, s6⟩ := rg
   rintro e W11 ⟨T, rfl, hin, her, hp, hs⟩
   obtain ⟨gk, gn, gm, gp, gl, gc, gq, rfl⟩ := ty_open hin
   rw [Ty.val_mk]
   simp only at HR l7 her hp
   have HF11 := hid (HF10.out.call hp hs)
   have HTh := hid (there_of4 (o := 3) HF11.out.own (by simp))
   have HF12 := hid (HF11.out.cells 3 [.int .i64 gk, .string gn, .bool gm, .slice gp gl gc] (cells_at3 HF11.out.own))
   have k11 := (keepsL_step hs HmX.out).trans (keepsL_cells (b := b) (by simp) [.int .i64 gk, .string gn, .bool gm, .slice gp gl gc] 3 W11)
   have HLi12 := hid (HLi10.out.keep k11)
   have HPi12 := hid (And.intro (HPi10.out.1.keep k11) (fun a ha => Ty.In.keep k11 _ (HPi10.out.2 a ha)))
   have HGi12 := hid (Ty.In.keep (keepsL_cells (b := b) (by simp) [.int .i64 gk, .string gn, .bool gm, .slice gp gl gc] 3 W11) _ hin)
   have HMg := hid her
   clear hp hs k11 hin her HF10 HF11 HLi10 HPi10
   go_upto_if 69 with (first | (refine wpList_store_mid (op := ⟨none, _, _, _, _, _⟩) rfl _ _ _ rfl b 3 #[.int .i64 gk, .string gn, .bool gm, .slice gp gl gc] rfl rfl HTh.out ty_sz (ty_one _ _ _ _ _ _) ?_))
   refine (HSk.out kWhere (by decide) _ _ HF12.out.at1.pin).mono ?_
   rintro e W13 ⟨rfl, hp, hs⟩
   have HF13 := hid (HF12.out.call hp hs)
   have k12 := keepsL_step hs HmX.out
   have HLi13 := hid (HLi12.out.keep k12)
   have HPi13 := hid (And.intro (HPi12.out.1.keep k12) (fun a ha => Ty.In.keep k12 _ (HPi12.out.2 a ha)))
   have HGi13 := hid (Ty.In.keep k12 _ HGi12.out)
   clear hp hs k12 HF12 HLi12 HPi12 HGi12 HTh
   have l8 := outs_le N s6
   have HOs := hid (show outsS N s6 = if nextB s6 kWhere then (flat2 (rowS outS N s6.pass).1, (rowS outS N s6.pass).2) else ([], s6) from rfl)
   generalize outsS N s6 = ro at *
   obtain ⟨lo, s7⟩ := ro
   simp only at HR l8 HOs
   go_upto_if 69 with (fail)
   go_cut [8, 9, 10] (fun u8 u9 u10 wx => ∃ (vo : Value) (lio : List ByteArray), Hid (FnAt w pb lv ts s X b wx s7 #[.string (Sb nm), .slice pl zl cl, .slice pp zp cp, .int .i64 gk, .string gn, .bool gm, .slice gp gl gc, vo, .slice none 0 0, .int .i64 0, .int .i64 0, .string ⟨#[]⟩, .bool false, .slice none 0 0]) ∧ Hid (Lies (hushL (b :: w.heap.size :: X) wx) 1 (.slice pl zl cl) (li.map nmCells)) ∧ Hid (Lies (hushL (b :: w.heap.size :: X) wx) 5 (.slice pp zp cp) (lip.map Pa.cells) ∧ ∀ a ∈ lip, a.In (hushL (b :: w.heap.size :: X) wx)) ∧ Hid ((Ty.mk gk gn gm (.slice gp gl gc) gq).In (hushL (b :: w.heap.size :: X) wx)) ∧ Hid (Lies (hushL (b :: w.heap.size :: X) wx) 1 vo (lio.map nmCells)) ∧ Hid (lio.map bs = lo))
   case first =>
    cases hna : nextB s6 kWhere with
    | false =>
     have e := HOs.out
     rw [hna, if_neg (by simp), Prod.mk.injEq] at e
     obtain ⟨rfl, rfl⟩ := e
     have HF14 := hid (show FnAt w pb lv ts s X b W13 s7 _ from by
      have h := HF13.out
      rw [show skipS kWhere s7 = s7 by unfold skipS; rw [hna]; rfl] at h
      exact h)
     clear hna HOs HF13
     go_wp2_with fail
     go_meet
     exact ⟨_, [], HF14, HLi13, HPi13, HGi13, hid lies_none, hid rfl⟩
    | true =>
     have e := HOs.out
     rw [hna, if_pos rfl, Prod.mk.injEq] at e
     obtain ⟨e1, e2⟩ := e
     have hle1 := pass_le s6
     have HF14 := hid (show FnAt w pb lv ts s X b W13 s6.pass _ from by
      have h := HF13.out
      rw [show skipS kWhere s6 = s6.pass by unfold skipS; rw [hna]; rfl] at h
      exact h)
     generalize hq : rowS outS N s6.pass = rq at *
     have HQ := hid (show rq = (([] : List (List UInt8 × List UInt8)) ++ (rowS outS N s6.pass).1, (rowS outS N s6.pass).2) by rw [hq]; rfl)
     have E1 := hid e1
     have E2 := hid e2
     have HLn := hid (ListIn.nil nmK W13.heap.size W13 (b :: w.heap.size :: X))
     have HY := hid HF14.out.away.lt
     have HbW := hid (show b < W13.heap.size from heap_lt HF14.out.own)
     have HSt := hid (Stay.refl W13 (b :: w.heap.size :: X))
     clear hna HOs HF13 e1 e2 hq
     generalize s6.pass = s8 at *
     go_wp2_with fail
     go_loopg [8, 9, 10] (N + 1) (fun gf u8 u9 u10 wx => ∃ (bb : Bool) (g : Nat) (acc : List (List UInt8 × List UInt8)) (lio : List ByteArray) (s5 : S) (p : Option Addr) (z c : Nat), u8 = .bool bb ∧ Hid ((bb = true ∧ g + 1 ≤ gf ∧ s5.rest.length ≤ g ∧ acc.length + g ≤ N ∧ rq = (acc ++ (rowS outS g s5).1, (rowS outS g s5).2)) ∨ (bb = false ∧ rq = (acc, s5))) ∧ Hid (lio.map bs = flat2 acc) ∧ Hid (ListIn nmK W13.heap.size wx (b :: w.heap.size :: X) (.slice p z c) lio) ∧ Hid (Stay W13 wx (b :: w.heap.size :: X)) ∧ Hid (FnAt w pb lv ts s X b wx s5 #[.string (Sb nm), .slice pl zl cl, .slice pp zp cp, .int .i64 gk, .string gn, .bool gm, .slice gp gl gc, .slice p z c, .slice none 0 0, .int .i64 0, .int .i64 0, .string ⟨#[]⟩, .bool false, .slice none 0 0]))
     case atStart => exact ⟨true, N, [], [], s8, none, 0, 0, rfl, hid (.inl ⟨rfl, by omega, by omega, by simp, HQ.out⟩), hid rfl, HLn, HSt, HF14⟩
     case round =>
      clear HQ HLn HSt HF14
      obtain ⟨bb, g, acc, lio, s5, p1, z1, c1, rfl, HD, HM1, HI, HSy, HFx⟩ := hrel
      rcases HD.out with ⟨rfl, h1, h2, h3, h4⟩ | ⟨rfl, h1⟩
      ·have HR2 := hid h4
       clear HD h4
       have hl6 := life_le s5
       have hl7 := must_le mColon (lifeS s5).2
       have hl8 := life_le (mustS mColon (lifeS s5).2)
       go_wp2_with fail
       refine (HLf.out _ _ HFx.out.at1.pin).mono ?_
       rintro e W12 ⟨rfl, hp, hs⟩
       have HF12 := hid (HFx.out.call hp hs)
       have HI12 := hid (HI.out.step hs HmX.out HY.out)
       have HS12 := hid (HSy.out.call hs HmX.out)
       clear hp hs HFx HI HSy
       go_wp2_with fail
       refine (HMu.out mColon (by decide) _ _ HF12.out.at1.pin).mono ?_
       rintro e W13' ⟨rfl, hp, hs⟩
       have HF13 := hid (HF12.out.call hp hs)
       have HI13 := hid (HI12.out.step hs HmX.out HY.out)
       have HS13 := hid (HS12.out.call hs HmX.out)
       clear hp hs HF12 HI12 HS12
       go_wp2_with fail
       refine (HLf.out _ _ HF13.out.at1.pin).mono ?_
       rintro e W14 ⟨rfl, hp, hs⟩
       have HPS := hid (show outS s5 = (((lifeS s5).1, (lifeS (mustS mColon (lifeS s5).2)).1), (lifeS (mustS mColon (lifeS s5).2)).2) from rfl)
       generalize (lifeS (mustS mColon (lifeS s5).2)).2 = s9 at *
       generalize (lifeS (mustS mColon (lifeS s5).2)).1 = y2 at *
       generalize (lifeS s5).1 = y1 at *
       have HF14 := hid (HF13.out.call hp hs)
       have hB := HF14.out.own
       have hc14 : W14.cell? ⟨b, 7, none⟩ = some (.slice p1 z1 c1) := by rw [Lib.cell_of_heap hB]; rfl
       have bB : Below W14.heap.size W14 (W14.alloc (.cells #[.string (Sb y1), .string (Sb y2)] 9)) := (Below.refl _ W14).alloc (Nat.le_refl _) _
       have HF15 := hid (HF14.out.below bB)
       have HI15 := hid ((HI13.out.step hs HmX.out HY.out).below bB HY.out)
       have HS15 := hid ((HS13.out.call hs HmX.out).below bB)
       have HN15 := hid (show (W14.alloc (.cells #[.string (Sb y1), .string (Sb y2)] 9)).heap[W14.heap.size]? = some (.cells (rowsK nmK [Sb y1, Sb y2]).toArray nmK.type (0, 0)) from by rw [rows2]; exact heap_alloc_new _ _)
       have HB15 := hid (HS15.out.size)
       have hlc : lio.length = 2 * acc.length := by
        have h := congrArg List.length HM1.out
        rwa [List.length_map, flat2_len] at h
       clear hp hs HF13 HI13 HS13 hB bB HF14
       go_wp2_with (first | (at_builtin; refine wpList_append_kds nmOk rfl _ _ rfl W13.heap.size _ lio rfl HI15.out W14.heap.size [Sb y1, Sb y2] 2 rfl HN15.out (fun _ _ => trivial) (nm_all2 _ _) ?cc (by simp) HB15.out ?_))
       case cc => omega
       intro v16 W16 hl16 hg16
       obtain ⟨p2, z2, c2, rfl⟩ := hl16.form
       have HF16 := hid (HF15.out.grown (fun g e => by have := (HI15.out.lt g e).1; have := HbW.out; omega) hg16)
       have HS16 := hid (HS15.out.grown (fun g e => (HI15.out.lt g e).1) hg16)
       have hB := HF16.out.own
       have hc16 : W16.cell? ⟨b, 7, none⟩ = some (.slice p1 z1 c1) := by rw [Lib.cell_of_heap hB]; rfl
       have hf16 := frozen_of hB 7
       have HF17 := hid (HF16.out.cell 7 (.slice p2 z2 c2))
       simp at HF17
       have HI17 := hid (hl16.cell (b := b) (by simp) HY.out 7 (.slice p2 z2 c2))
       have HS17 := hid (HS16.out.cell (b := b) (by simp) 7 (.slice p2 z2 c2))
       clear hl16 hg16 hB HF15 HF16 HN15 HB15 hc14 HI15 HS15 HS16 hlc
       go_wp2_with fail
       refine (HSk.out mComma (by decide) _ _ HF17.out.at1.pin).mono ?_
       rintro e W18 ⟨rfl, hp, hs⟩
       have HF18 := hid (HF17.out.call hp hs)
       have HI18 := hid (HI17.out.step hs HmX.out HY.out)
       have HS18 := hid (HS17.out.call hs HmX.out)
       clear hp hs HF17 HI17 HS17 hc16 hf16
       go_wp2_with fail
       go_roundg (gk - 1)
       case measure => omega
       case rel =>
        have hr := HR2.out
        rw [show rowS outS g s5 = ((outS s5).1 :: (moreS outS g (outS s5).2).1, (moreS outS g (outS s5).2).2) from rfl, HPS.out] at hr
        simp only at hr
        have HM2 := hid (show (lio ++ [Sb y1, Sb y2]).map bs = flat2 (acc ++ [(y1, y2)]) by rw [flat2_snoc, ← HM1.out]; simp [bs_Sb])
        cases hna : nextB s9 mComma with
        | true =>
         obtain ⟨g2, hg2, hpt, hl2, hl3⟩ := more_step outS g s9 hna (by omega)
         rw [hpt] at hr
         have h := HF18.out
         rw [show skipS mComma s9 = s9.pass by unfold skipS; rw [hna]; rfl] at h
         refine ⟨true, g2, acc ++ [(y1, y2)], lio ++ [Sb y1, Sb y2], s9.pass, p2, z2, c2, rfl, hid (.inl ⟨rfl, by omega, by omega, by simp; omega, ?_⟩), HM2, HI18, HS18, hid h⟩
         simpa [rowS] using hr
        | false =>
         rw [more_end _ _ _ hna] at hr
         have h := HF18.out
         rw [show skipS mComma s9 = s9 by unfold skipS; rw [hna]; rfl] at h
         exact ⟨false, 0, acc ++ [(y1, y2)], lio ++ [Sb y1, Sb y2], s9, p2, z2, c2, rfl, hid (.inr ⟨rfl, hr⟩), HM2, HI18, HS18, hid h⟩
      ·have HR2 := hid h1
       clear HD h1
       go_wp2_with fail
       go_meet
       have h1 := E1.out
       have h2 := E2.out
       rw [HR2.out] at h1 h2
       simp only at h1 h2
       subst h2
       have k := HSy.out.keeps
       exact ⟨_, lio, HFx, hid (HLi13.out.keep k), hid ⟨HPi13.out.1.keep k, fun a ha => Ty.In.keep k _ (HPi13.out.2 a ha)⟩, hid (Ty.In.keep k _ HGi13.out), hid (HI.out.lies HY.out).1, hid (HM1.out.trans h1.symm)⟩
   case rest =>
    obtain ⟨vo, lio, HF14, HLi14, HPi14, HGi14, HOi14, HMo⟩ := hcut
    obtain ⟨po, co, hv, _, _⟩ := id HOi14.out
    rw [List.length_map] at hv
    obtain ⟨zo, hz⟩ : ∃ z, lio.length = z := ⟨_, rfl⟩
    rw [hz] at hv
    subst hv
    clear hz HOs HF13 HLi13 HPi13 HGi13 HTy HLf
    go_wp2_with fail
    refine (HMu.out mBegin (by decide) _ _ HF14.out.at1.pin).mono ?_
    rintro e W15 ⟨rfl, hp, hs⟩
    have HF15 := hid (HF14.out.call hp hs)
    have k := keepsL_step hs HmX.out
    have HLi15 := hid (HLi14.out.keep k)
    have HPi15 := hid (And.intro (HPi14.out.1.keep k) (fun a ha => Ty.In.keep k _ (HPi14.out.2 a ha)))
    have HGi15 := hid (Ty.In.keep k _ HGi14.out)
    have HOi15 := hid (HOi14.out.keep k)
    clear hp hs k HF14 HLi14 HPi14 HGi14 HOi14
    have l9 := must_le mBegin s7
    generalize mustS mBegin s7 = s8 at *
    have HB := hid (good_stmts pb lv ts N hN20 hT kRet (by decide) W15 s8 _ HF15.out.away HF15.out.at1.pin (by omega))
    have l10 : (stmtsS (stmtS N (N + 1)) kRet (N + 2) s8).2.rest.length ≤ s8.rest.length := stmts_le (stmt_le N (N + 1)) kRet (N + 2) s8
    generalize stmtsS (stmtS N (N + 1)) kRet (N + 2) s8 = rb at *
    obtain ⟨lb, s9⟩ := rb
    simp only at HR l10
    go_wp2_with fail
    refine HB.out.mono ?_
    rintro e W16 ⟨vb, lib, rfl, hlies, hins, hmap, hp, hs⟩
    obtain ⟨pd, cd, hv, _, _⟩ := id hlies
    rw [List.length_map] at hv
    obtain ⟨zd, hz⟩ : ∃ z, lib.length = z := ⟨_, rfl⟩
    rw [hz] at hv
    subst hv
    have HMb := hid hmap
    have HF16 := hid (HF15.out.call hp hs)
    have hBx := HF16.out.own
    have hc16 : W16.cell? ⟨b, 8, none⟩ = some (.slice none 0 0) := by rw [Lib.cell_of_heap hBx]; rfl
    have hf16 := frozen_of hBx 8
    have HF17 := hid (HF16.out.cell 8 (.slice pd zd cd))
    simp at HF17
    have k0 := keepsL_cell (X := (b :: w.heap.size :: X)) W16 (b := b) (by simp) 8 (.slice pd zd cd)
    have k := (keepsL_step hs HmX.out).trans k0
    have HLi17 := hid (HLi15.out.keep k)
    have HPi17 := hid (And.intro (HPi15.out.1.keep k) (fun a ha => Ty.In.keep k _ (HPi15.out.2 a ha)))
    have HGi17 := hid (Ty.In.keep k _ HGi15.out)
    have HOi17 := hid (HOi15.out.keep k)
    have HBi17 := hid (And.intro (hlies.keep k0) (fun a ha => St.In.keep k0 _ (hins a ha)))
    clear hz hp hs k k0 hlies hins hmap hBx HB HF15 HF16 HLi15 HPi15 HGi15 HOi15
    go_wp2_with fail
    have HEx := hid (good_ex pb lv ts N hN20 hT _ s9 _ HF17.out.away HF17.out.at1.pin (by omega))
    generalize ParP.exS N s9 = re at *
    obtain ⟨ee, s10⟩ := re
    simp only at HR
    refine HEx.out.mono ?_
    rintro e W18 ⟨Te, rfl, hin, her, hp, hs⟩
    obtain ⟨ke, ne, te, me, pe, le, ce, qe, rfl⟩ := ex_open hin
    rw [Ex.val_mk]
    have HMe := hid her
    have HF18 := hid (HF17.out.call hp hs)
    have HTh := hid (there_of (o := 9) HF18.out.own (by simp))
    have HF19 := hid (HF18.out.cells 9 [.int .i64 ke, .int .i64 ne, .string te, .bool me, .slice pe le ce] (cells_at9 HF18.out.own))
    have k0 := keepsL_cells (X := (b :: w.heap.size :: X)) (b := b) (by simp) [.int .i64 ke, .int .i64 ne, .string te, .bool me, .slice pe le ce] 9 W18
    have k := (keepsL_step hs HmX.out).trans k0
    have HLi19 := hid (HLi17.out.keep k)
    have HPi19 := hid (And.intro (HPi17.out.1.keep k) (fun a ha => Ty.In.keep k _ (HPi17.out.2 a ha)))
    have HGi19 := hid (Ty.In.keep k _ HGi17.out)
    have HOi19 := hid (HOi17.out.keep k)
    have HBi19 := hid (And.intro (HBi17.out.1.keep k) (fun a ha => St.In.keep k _ (HBi17.out.2 a ha)))
    have HEi19 := hid (Ex.In.keep k0 _ hin)
    clear hp hs k k0 hin her HEx HF17 HF18 HLi17 HPi17 HGi17 HOi17 HBi17 hc16 hf16
    go_wp2_with (first | (refine wpList_store_mid (op := ⟨none, _, _, _, _, _⟩) rfl _ _ _ rfl b 9 #[.int .i64 ke, .int .i64 ne, .string te, .bool me, .slice pe le ce] rfl rfl HTh.out ex_sz (ex_one _ _ _ _ _ _ _) ?_))
    refine (HMu.out mSemi (by decide) _ _ HF19.out.at1.pin).mono ?_
    rintro e W20 ⟨rfl, hp, hs⟩
    have HF20 := hid (HF19.out.call hp hs)
    have k20 := keepsL_step hs HmX.out
    clear hp hs HF19 HTh
    go_wp2_with fail
    refine (HMu.out mEnd (by decide) _ _ HF20.out.at1.pin).mono ?_
    rintro e W21 ⟨rfl, hp, hs⟩
    have HF21 := hid (HF20.out.call hp hs)
    have K := hid (k20.trans (keepsL_step hs HmX.out))
    clear hp hs k20 HF20
    have HJ := hid (box_load (cs := [.string (Sb nm), .slice pl zl cl, .slice pp zp cp, .int .i64 gk, .string gn, .bool gm, .slice gp gl gc, .slice po zo co, .slice pd zd cd, .int .i64 ke, .int .i64 ne, .string te, .bool me, .slice pe le ce]) (HF21.out.own))
    have HO := hid (st_one (cs := [.string (Sb nm), .slice pl zl cl, .slice pp zp cp, .int .i64 gk, .string gn, .bool gm, .slice gp gl gc, .slice po zo co, .slice pd zd cd, .int .i64 ke, .int .i64 ne, .string te, .bool me, .slice pe le ce]) (fn_all _ _ _ _ _ _ _ _ _ _ _ _ _ _ _ _ _ _ _ _ _ _ _ _ _ _))
    have HK := hid HF21.out.ret
    go_wp2_with (first | (refine wpList_load_at (o := ⟨some 98, _, _, _, _, _⟩) rfl _ _ rfl b 0 rfl [.string (Sb nm), .slice pl zl cl, .slice pp zp cp, .int .i64 gk, .string gn, .bool gm, .slice gp gl gc, .slice po zo co, .slice pd zd cd, .int .i64 ke, .int .i64 ne, .string te, .bool me, .slice pe le ce] _ HJ.out Tryz.underlying42 rfl fn_sz ?_) | (refine wpList_store_row (o := ⟨none, _, _, _, _, _⟩) rfl _ _ _ rfl w.heap.size #[.string (Sb nm), .slice pl zl cl, .slice pp zp cp, .int .i64 gk, .string gn, .bool gm, .slice gp gl gc, .slice po zo co, .slice pd zd cd, .int .i64 ke, .int .i64 ne, .string te, .bool me, .slice pe le ce] rfl rfl _ _ HK.out fn_sz rfl HO.out ?_))
    refine bodyPost_ret (results_cell_row rfl _ _ w.heap.size _ #[.string (Sb nm), .slice pl zl cl, .slice pp zp cp, .int .i64 gk, .string gn, .bool gm, .slice gp gl gc, .slice po zo co, .slice pd zd cd, .int .i64 ke, .int .i64 ne, .string te, .bool me, .slice pe le ce] _ _ rfl (setRow_heap _ _ _ _ _ _ HK.out) Tryz.underlying42 rfl fn_sz) rfl ?_
    have hat := HF21.out.at1.row (b := w.heap.size) (Nat.le_refl _) #[.string (Sb nm), .slice pl zl cl, .slice pp zp cp, .int .i64 gk, .string gn, .bool gm, .slice gp gl gc, .slice po zo co, .slice pd zd cd, .int .i64 ke, .int .i64 ne, .string te, .bool me, .slice pe le ce]
    have kk := K.out.trans ((keepsL_row (X := (b :: w.heap.size :: X)) W21 (b := w.heap.size) (by simp) #[.string (Sb nm), .slice pl zl cl, .slice pp zp cp, .int .i64 gk, .string gn, .bool gm, .slice gp gl gc, .slice po zo co, .slice pd zd cd, .int .i64 ke, .int .i64 ne, .string te, .bool me, .slice pe le ce]).trans (keepsL_sub (Y := X) _ (fun c hc => by simp [hc])))
    have hr := HR.out
    subst hr
    refine ⟨⟨Sb nm, .slice pl zl cl, li, .slice pp zp cp, lip, .mk gk gn gm (.slice gp gl gc) gq, .slice po zo co, lio, .slice pd zd cd, lib, .mk ke ne te me (.slice pe le ce) qe⟩, rfl, ?_, ?_, hat.pin, hat.step⟩
    ·exact Fn.In.keep kk ⟨HLi19.out, HPi19.out, HGi19.out, HOi19.out, ⟨HBi19.out.1, (St.ins_iff _ _).2 HBi19.out.2⟩, HEi19.out⟩
    ·rw [erF, bs_Sb, HMl.out, HMp.out, HMg.out, HMo.out, erSs_map, HMb.out, HMe.out]
end Go.Proofs.YtemflcojebanlaaGreatDoor.ParC

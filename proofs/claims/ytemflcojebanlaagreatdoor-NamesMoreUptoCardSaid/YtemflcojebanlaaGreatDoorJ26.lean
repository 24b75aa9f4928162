/- Texts joined: ParE, ParF. -/
import Derived.Test.YtemflcojebanlaaGreatDoorJ25
/- The document's own parser: parts of a place. -/
namespace Go.Proofs.YtemflcojebanlaaGreatDoor.ParC
open Go Go.RowKit Go.Lib Go.Sort LexP TreeP LexC TreeC PageC TextC ParP

theorem ex_open {w : World} {T : Ex} (h : T.In w) : ∃ k n s m p len cap kids, T = .mk k n s m (.slice p len cap) kids := by
 obtain ⟨k, n, s, m, v, kids⟩ := T
 rw [Ex.In] at h
 obtain ⟨p, cap, rfl, _⟩ := h.2.1
 exact ⟨k, n, s, m, p, _, cap, kids, rfl⟩
theorem ty_open {w : World} {T : Ty} (h : T.In w) : ∃ k l m p len cap kids, T = .mk k l m (.slice p len cap) kids := by
 obtain ⟨k, l, m, v, kids⟩ := T
 rw [Ty.In] at h
 obtain ⟨p, cap, rfl, _⟩ := h.1
 exact ⟨k, l, m, p, _, cap, kids, rfl⟩
theorem alloc2 (w : World) (o1 o2 : Obj) : ((w.alloc o1).alloc o2).heap[w.heap.size]? = some o1 ∧ ((w.alloc o1).alloc o2).heap[w.heap.size + 1]? = some o2 := by
 have hs : (w.alloc o1).heap.size = w.heap.size + 1 := by simp
 exact ⟨(heap_alloc_old _ _ (by omega)).trans (heap_alloc_new _ _), by rw [← hs]; exact heap_alloc_new _ _⟩
theorem ex_sz : (Tryz.prog.info? 40).map (·.size) = some 5 := by kernel_rfl
theorem ty_sz : (Tryz.prog.info? 34).map (·.size) = some 4 := by kernel_rfl
theorem ex_one (k n : Int) (nm : ByteArray) (m : Bool) (p : Option Addr) (l c : Nat) : (#[.int .i64 k, .int .i64 n, .string nm, .bool m, .slice p l c] : Array Value).all (·.oneCell') = true := by simp [Value.oneCell']
theorem ty_one (k : Int) (nm : ByteArray) (m : Bool) (p : Option Addr) (l c : Nat) : (#[.int .i64 k, .string nm, .bool m, .slice p l c] : Array Value).all (·.oneCell') = true := by simp [Value.oneCell']
def exZ : Array Value := #[.int .i64 0, .int .i64 0, .string ⟨#[]⟩, .bool false, .slice none 0 0]
def tyZ : Array Value := #[.int .i64 0, .string ⟨#[]⟩, .bool false, .slice none 0 0]
theorem num_range (most : Nat) (hm : most ≤ 999999999999999999) (s : S) : -9223372036854775808 ≤ (numS most s).1 ∧ (numS most s).1 ≤ 9223372036854775807 := by
 unfold numS numOk
 split
 ·rename_i h
  simp at h
  simp
  omega
 ·simp
theorem parts_step (m : Nat) (e : PE) (s : S) (h : nextB s mDot = true) (hm : s.rest.length ≤ m) : ∃ k, m = k + 1 ∧ partsS m e s = partsS k (.mk 3 (numS 29 s.pass).1 [] false [e]) (numS 29 s.pass).2 ∧ (numS 29 s.pass).2.rest.length ≤ k := by
 obtain ⟨h1, _⟩ := next_pass h (by decide)
 cases m with
 | zero => omega
 | succ k =>
  refine ⟨k, rfl, by rw [partsS, if_pos h], ?_⟩
  have := num_le 29 s.pass
  omega
theorem parts_end (m : Nat) (e : PE) (s : S) (h : nextB s mDot = false) : partsS m e s = (e, s) := by
 cases m with
 | zero => rfl
 | succ k => rw [partsS, if_neg (by simp [h])]

set_option maxHeartbeats 8000000 in
set_option maxRecDepth 100000 in
theorem parts_any (w : World) (pb : Nat) (lv : Value) (ts : List Tok) (s : S) (X : List Nat) (N : Nat) (e : Ex) (hA : Away w pb X) (he : e.In (hushL X w)) (h : PIn w pb lv ts s) (hT : ToksOk ts) (hN : s.rest.length ≤ N) :
  Calls Tryz.prog 145 #[.pointer (some ⟨pb, 0, none⟩), e.val] w (RetE w pb lv ts X (partsS N (erE e) s)) := by
 generalize hR : partsS N (erE e) s = R
 have HR := hid hR
 obtain ⟨ek, en, es, em, ep, el, ec, eks, rfl⟩ := ex_open he
 have b1 : Below w.heap.size w ((w.alloc (.cells #[.int .i64 ek, .int .i64 en, .string es, .bool em, .slice ep el ec] 40)).alloc (.cells exZ 40)) := ((Below.refl _ w).alloc (Nat.le_refl _) _).alloc (by simp) _
 have HE := hid (Ex.In.keep (((keepsL_add w (Nat.le_refl _)).trans (keepsL_add (X := w.heap.size :: X) w (Nat.le_succ w.heap.size))).trans (keepsL_below b1)) _ he)
 have HAt := hid ((At.start h).below b1)
 have HA := hid hA
 have HX1 := hid (hA.not (Nat.le_refl _))
 have HX2 := hid (hA.not (Nat.le_succ w.heap.size))
 have HK1 := hid (show ((w.alloc (.cells #[.int .i64 ek, .int .i64 en, .string es, .bool em, .slice ep el ec] 40)).alloc (.cells exZ 40)).heap[w.heap.size]? = some (.cells #[.int .i64 ek, .int .i64 en, .string es, .bool em, .slice ep el ec] 40 (0, 0)) from (alloc2 _ _ _).1)
 have HK2 := hid (show ((w.alloc (.cells #[.int .i64 ek, .int .i64 en, .string es, .bool em, .slice ep el ec] 40)).alloc (.cells exZ 40)).heap[w.heap.size + 1]? = some (.cells exZ 40 (0, 0)) from (alloc2 _ _ _).2)
 clear h he hA b1
 have hF : Hid (∀ (W : World) (s1 : S), PIn W pb lv ts s1 → Calls Tryz.prog 82 #[.pointer (some ⟨pb, 0, none⟩), .string (Sb mDot)] W fun e w' => e = .returned (.bool (nextB s1 mDot)) ∧ PIn w' pb lv ts (skipS mDot s1) ∧ Step pb none W none w') := hid fun W s1 h1 => skip_any W pb lv ts s1 mDot (by decide) h1 hT.few
 have hG : Hid (∀ (W : World) (s1 : S), PIn W pb lv ts s1 → Calls Tryz.prog 154 #[.pointer (some ⟨pb, 0, none⟩), .int .i64 ((29 : Nat) : Int)] W fun e w' => e = .returned (.int .i64 (numS 29 s1).1) ∧ PIn w' pb lv ts (numS 29 s1).2 ∧ Step pb none W none w') := hid fun W s1 h1 => number_any W pb lv ts s1 29 (by decide) h1 hT
 rw [Ex.val_mk]
 clear hR
 have hTf := hT.few
 go_enter Tryz.func145, Tryz.ntmps145
 go_wp2_with fail
 go_loopg [5] N (fun gf v wx => ∃ (k n : Int) (nm : ByteArray) (m : Bool) (p : Option Addr) (l c : Nat) (kids : List Ex) (s1 : S), s1.rest.length ≤ gf ∧ Hid (R = partsS gf (erE (.mk k n nm m (.slice p l c) kids)) s1) ∧ Hid ((Ex.mk k n nm m (.slice p l c) kids).In (hushL ((w.heap.size + 1) :: w.heap.size :: X) wx)) ∧ Hid (At w pb lv ts s wx s1) ∧ Hid (wx.heap[w.heap.size]? = some (.cells #[.int .i64 k, .int .i64 n, .string nm, .bool m, .slice p l c] 40 (0, 0))) ∧ Hid (wx.heap[w.heap.size + 1]? = some (.cells exZ 40 (0, 0))))
 case atStart => exact ⟨_, _, _, _, _, _, _, _, s, hN, hid HR.out.symm, HE, HAt, HK1, HK2⟩
 case round =>
  obtain ⟨k, n, nm, m, p, l, c, kids, s1, hlen, HP, HI, HA1, H3, H4⟩ := hrel
  have HS := hid (hF.out wr s1 HA1.out.pin)
  cases hn : nextB s1 mDot with
  | false =>
   rw [hn] at HS
   have hr := HP.out
   rw [parts_end _ _ _ hn] at hr
   have HR2 := hid hr
   have HSk := hid (show skipS mDot s1 = s1 by unfold skipS; rw [hn]; rfl)
   clear hn hr HP hF hG HE HK1 HK2 HAt
   go_wp2_with fail
   refine HS.out.mono ?_
   rintro e W1 ⟨rfl, hp1, hs1⟩
   rw [HSk.out] at hp1
   have hlt3 := (Array.getElem?_eq_some_iff.1 H3.out).1
   have hlt4 := (Array.getElem?_eq_some_iff.1 H4.out).1
   have hpb : pb < w.heap.size := HA.out.lt pb HA.out.mem
   have h3 := (hs1.block w.heap.size hlt3 (by omega) (by simp)).trans H3.out
   have h4 := (hs1.block (w.heap.size + 1) hlt4 (by omega) (by simp)).trans H4.out
   have HA2 := hid (HA1.out.call hp1 hs1)
   have HI2 := hid (Ex.In.keep (keepsL_step hs1 (by simp [HA.out.mem])) _ HI.out)
   have k0 : W1.cell? ⟨w.heap.size, 0, none⟩ = some (.int .i64 k) := by rw [Lib.cell_of_heap h3]; rfl
   have k1 : W1.cell? ⟨w.heap.size, 1, none⟩ = some (.int .i64 n) := by rw [Lib.cell_of_heap h3]; rfl
   have k2 : W1.cell? ⟨w.heap.size, 2, none⟩ = some (.string nm) := by rw [Lib.cell_of_heap h3]; rfl
   have k3 : W1.cell? ⟨w.heap.size, 3, none⟩ = some (.bool m) := by rw [Lib.cell_of_heap h3]; rfl
   have k4 : W1.cell? ⟨w.heap.size, 4, none⟩ = some (.slice p l c) := by rw [Lib.cell_of_heap h3]; rfl
   have H4b := hid h4
   clear h3 h4 hp1 hs1 HS HI HA1 H3 H4 HSk
   go_wp2_with (first | (refine wpList_store_row (o := ⟨none, _, _, _, _, _⟩) rfl _ _ _ rfl (w.heap.size + 1) #[.int .i64 k, .int .i64 n, .string nm, .bool m, .slice p l c] rfl rfl _ _ H4b.out ex_sz rfl (ex_one _ _ _ _ _ _ _) ?_))
   have HA3 := HA2.out.row (b := w.heap.size + 1) (Nat.le_succ _) #[.int .i64 k, .int .i64 n, .string nm, .bool m, .slice p l c]
   have HI3 := Ex.In.keep ((keepsL_row W1 (b := w.heap.size + 1) (by simp) #[.int .i64 k, .int .i64 n, .string nm, .bool m, .slice p l c]).trans (keepsL_sub (Y := X) _ (fun b hb => by simp [hb]))) _ HI2.out
   have hr := HR2.out
   subst hr
   exact bodyPost_ret (results_cell_row rfl _ _ (w.heap.size + 1) _ #[.int .i64 k, .int .i64 n, .string nm, .bool m, .slice p l c] _ _ rfl (setRow_heap _ _ _ _ _ _ H4b.out) Tryz.underlying40 rfl ex_sz) rfl ⟨.mk k n nm m (.slice p l c) kids, rfl, HI3, rfl, HA3.pin, HA3.step⟩
  | true =>
   rw [hn] at HS
   obtain ⟨g2, hg2, hpt, hl2⟩ := parts_step gk (erE (.mk k n nm m (.slice p l c) kids)) s1 hn hlen
   have hr := HP.out
   rw [hpt] at hr
   have HR2 := hid hr
   have HSk := hid (show skipS mDot s1 = s1.pass by unfold skipS; rw [hn]; rfl)
   have HG := hid (fun W h1 => hG.out W s1.pass h1)
   have HNr := hid (num_range 29 (by decide) s1.pass)
   obtain ⟨nv, hnv⟩ : ∃ nv, (numS 29 s1.pass).1 = nv := ⟨_, rfl⟩
   rw [hnv] at HR2 HG HNr
   generalize (numS 29 s1.pass).2 = s2 at *
   clear hn hr hpt HP hF hG HE HK1 HK2 HAt hnv
   go_wp2_with fail
   refine HS.out.mono ?_
   rintro e W1 ⟨rfl, hp1, hs1⟩
   rw [HSk.out] at hp1
   have HA2 := hid (HA1.out.call hp1 hs1)
   have HI2 := hid (Ex.In.keep (keepsL_step hs1 (by simp [HA.out.mem])) _ HI.out)
   have hlt3 := (Array.getElem?_eq_some_iff.1 H3.out).1
   have hlt4 := (Array.getElem?_eq_some_iff.1 H4.out).1
   have hpb : pb < w.heap.size := HA.out.lt pb HA.out.mem
   have G3 := hid ((hs1.block w.heap.size hlt3 (by omega) (by simp)).trans H3.out)
   have G4 := hid ((hs1.block (w.heap.size + 1) hlt4 (by omega) (by simp)).trans H4.out)
   clear hp1 hs1 HS HI HA1 H3 H4 HSk hlt3 hlt4
   go_wp2_with fail
   refine (HG.out W1 HA2.out.pin).mono ?_
   rintro e W2 ⟨rfl, hp2, hs2⟩
   have HA3 := hid (HA2.out.call hp2 hs2)
   have HI3 := hid (Ex.In.keep (keepsL_step hs2 (by simp [HA.out.mem])) _ HI2.out)
   have hlt3 := (Array.getElem?_eq_some_iff.1 G3.out).1
   have hlt4 := (Array.getElem?_eq_some_iff.1 G4.out).1
   have h3 := (hs2.block w.heap.size hlt3 (by omega) (by simp)).trans G3.out
   have h4 := (hs2.block (w.heap.size + 1) hlt4 (by omega) (by simp)).trans G4.out
   have k0 : W2.cell? ⟨w.heap.size, 0, none⟩ = some (.int .i64 k) := by rw [Lib.cell_of_heap h3]; rfl
   have k1 : W2.cell? ⟨w.heap.size, 1, none⟩ = some (.int .i64 n) := by rw [Lib.cell_of_heap h3]; rfl
   have k2 : W2.cell? ⟨w.heap.size, 2, none⟩ = some (.string nm) := by rw [Lib.cell_of_heap h3]; rfl
   have k3 : W2.cell? ⟨w.heap.size, 3, none⟩ = some (.bool m) := by rw [Lib.cell_of_heap h3]; rfl
   have k4 : W2.cell? ⟨w.heap.size, 4, none⟩ = some (.slice p l c) := by rw [Lib.cell_of_heap h3]; rfl
   have hb : Below W2.heap.size W2 (W2.alloc (.cells #[.int .i64 k, .int .i64 n, .string nm, .bool m, .slice p l c] 40)) := (Below.refl _ W2).alloc (Nat.le_refl _) _
   have hlt3' := (Array.getElem?_eq_some_iff.1 h3).1
   have hlt4' := (Array.getElem?_eq_some_iff.1 h4).1
   have H3b := hid ((hb.block w.heap.size hlt3').trans h3)
   have H4b := hid ((hb.block (w.heap.size + 1) hlt4').trans h4)
   have HA4 := hid ((HA3.out.below hb).row (b := w.heap.size) (Nat.le_refl _) #[.int .i64 3, .int .i64 nv, .string ⟨#[]⟩, .bool false, .slice (some ⟨W2.heap.size, 0, none⟩) 1 1])
   have kr := keepsL_row (X := (w.heap.size + 1) :: w.heap.size :: X) (W2.alloc (.cells #[.int .i64 k, .int .i64 n, .string nm, .bool m, .slice p l c] 40)) (b := w.heap.size) (by simp) #[.int .i64 3, .int .i64 nv, .string ⟨#[]⟩, .bool false, .slice (some ⟨W2.heap.size, 0, none⟩) 1 1]
   have hX : W2.heap.size ∉ (w.heap.size + 1) :: w.heap.size :: X := by
    intro hm
    rcases List.mem_cons.1 hm with h | h
    ·omega
    rcases List.mem_cons.1 h with h | h
    ·omega
    ·have := HA.out.lt _ h; omega
   have hl := (lies_new (w := W2.alloc (.cells #[.int .i64 k, .int .i64 n, .string nm, .bool m, .slice p l c] 40)) hX (n := 5) (xs := [[.int .i64 k, .int .i64 n, .string nm, .bool m, .slice p l c]]) (t := 40) (by simp) (heap_alloc_new _ _) 1 (by simp)).keep kr
   have HI4 : Hid ((Ex.mk 3 nv ⟨#[]⟩ false (.slice (some ⟨W2.heap.size, 0, none⟩) 1 1) [.mk k n nm m (.slice p l c) kids]).In (hushL ((w.heap.size + 1) :: w.heap.size :: X) ((W2.alloc (.cells #[.int .i64 k, .int .i64 n, .string nm, .bool m, .slice p l c] 40)).setRow w.heap.size #[.int .i64 3, .int .i64 nv, .string ⟨#[]⟩, .bool false, .slice (some ⟨W2.heap.size, 0, none⟩) 1 1]))) := by
    refine hid ?_
    rw [Ex.In]
    exact ⟨HNr.out, hl, ⟨Ex.In.keep ((keepsL_below hb).trans kr) _ HI3.out, trivial⟩⟩
   clear hp2 hs2 HG HI2 HI3 HA2 HA3 G3 G4 hlt3 hlt4 h3 h4 hb hlt3' hlt4' kr hX hl
   go_wp2_with (first | (refine wpList_store_row (o := ⟨none, _, _, _, _, _⟩) rfl _ _ _ rfl w.heap.size #[.int .i64 3, .int .i64 nv, .string ⟨#[]⟩, .bool false, .slice (some ⟨W2.heap.size, 0, none⟩) 1 1] rfl rfl _ _ H3b.out ex_sz rfl (ex_one _ _ _ _ _ _ _) ?_))
   go_roundg (gk - 1)
   case measure => omega
   case rel =>
    have hz : w.heap.size + 1 ≠ w.heap.size := by omega
    exact ⟨3, nv, ⟨#[]⟩, false, some ⟨W2.heap.size, 0, none⟩, 1, 1, [.mk k n nm m (.slice p l c) kids], s2, by omega, by rw [hg2]; exact HR2, HI4, HA4, hid (setRow_heap _ _ _ _ _ _ H3b.out), hid ((setRow_other _ _ _ _ hz).trans H4b.out)⟩
/- The document's own parser: a place. -/

/-- the cells of a struct, one by one -/
theorem cells5 {w : World} {b : Nat} {c0 c1 c2 c3 c4 : Value} {t : TypeId} (h : w.heap[b]? = some (.cells #[c0, c1, c2, c3, c4] t (0, 0))) :
  w.cell? ⟨b, 0, none⟩ = some c0 ∧ w.cell? ⟨b, 1, none⟩ = some c1 ∧ w.cell? ⟨b, 2, none⟩ = some c2 ∧ w.cell? ⟨b, 3, none⟩ = some c3 ∧ w.cell? ⟨b, 4, none⟩ = some c4 := by
 refine ⟨?_, ?_, ?_, ?_, ?_⟩ <;> (rw [Lib.cell_of_heap h]; rfl)
theorem heap_lt {w : World} {b : Nat} {o : Obj} (h : w.heap[b]? = some o) : b < w.heap.size := (Array.getElem?_eq_some_iff.1 h).1
theorem heap_step {w w' : World} {pb b : Nat} {o : Obj} (st : Step pb none w none w') (h : w.heap[b]? = some o) (hne : b ≠ pb) : w'.heap[b]? = some o := (st.block b (heap_lt h) hne (by simp)).trans h
theorem heap_below {w w' : World} {b : Nat} {o : Obj} (hb : Below w.heap.size w w') (h : w.heap[b]? = some o) : w'.heap[b]? = some o := (hb.block b (heap_lt h)).trans h
/-- an expression around one that lies: its kid copied into a new block -/
theorem wrapE {W : World} {X : List Nat} {K nv : Int} {nm2 : ByteArray} {m2 : Bool} {k n : Int} {nm : ByteArray} {m : Bool} {p : Option Addr} {l c : Nat} {kids : List Ex} (hX : W.heap.size ∉ X) (h : (Ex.mk k n nm m (.slice p l c) kids).In (hushL X W)) (h1 : -9223372036854775808 ≤ nv ∧ nv ≤ 9223372036854775807) :
  (Ex.mk K nv nm2 m2 (.slice (some ⟨W.heap.size, 0, none⟩) 1 1) [.mk k n nm m (.slice p l c) kids]).In (hushL X (W.alloc (.cells #[.int .i64 k, .int .i64 n, .string nm, .bool m, .slice p l c] 40))) := by
 rw [Ex.In]
 exact ⟨h1, lies_new hX (n := 5) (xs := [[.int .i64 k, .int .i64 n, .string nm, .bool m, .slice p l c]]) (t := 40) (by simp) (heap_alloc_new _ _) 1 (by simp), ⟨Ex.In.keep (keepsL_below ((Below.refl _ W).alloc (Nat.le_refl _) _)) _ h, trivial⟩⟩
theorem ex_none (w : World) (k n : Int) (nm : ByteArray) (m : Bool) (h1 : -9223372036854775808 ≤ n ∧ n ≤ 9223372036854775807) : (Ex.mk k n nm m (.slice none 0 0) []).In w := by
 rw [Ex.In]
 exact ⟨h1, lies_none, trivial⟩

/-- the end of a call whose answer lies in its first block -/
theorem retE_row {w V : World} {pb : Nat} {lv : Value} {ts : List Tok} {X : List Nat} {s0 s' : S} {re : PE} (hA : At w pb lv ts s0 V s') (T : Ex) (hI : T.In (hushL (w.heap.size :: X) V)) (her : erE T = re) (cs : Array Value) :
  RetE w pb lv ts X (re, s') (.returned T.val) (V.setRow w.heap.size cs) := by
 have h := hA.row (b := w.heap.size) (Nat.le_refl _) cs
 exact ⟨T, rfl, Ex.In.keep ((keepsL_row V (b := w.heap.size) (by simp) cs).trans (keepsL_sub (Y := X) _ (fun b hb => by simp [hb]))) _ hI, her, h.pin, h.step⟩
theorem er_one (K nv : Int) (nm : ByteArray) (m : Bool) (v : Value) (T : Ex) (re : PE) (h : erE T = re) : erE (.mk K nv nm m v [T]) = .mk K nv (bs nm) m [re] := by rw [erE, erEs, erEs, h]

set_option maxHeartbeats 8000000 in
set_option maxRecDepth 100000 in
theorem place_bad (pb : Nat) (lv : Value) (ts : List Tok) (w : World) (s : S) (X : List Nat) (hA : Away w pb X) (h : PIn w pb lv ts s) (hw : s.wr = true) :
  Calls Tryz.prog 131 #[.pointer (some ⟨pb, 0, none⟩)] w (RetE w pb lv ts X (eNone, s)) := by
 have b1 : Below w.heap.size w (w.alloc (.cells exZ 40)) := (Below.refl _ w).alloc (Nat.le_refl _) _
 have HA0 := hid ((At.start h).below b1)
 have hpb : pb < w.heap.size := hA.lt pb hA.mem
 obtain ⟨i', _, _, hi4⟩ := h.box
 obtain ⟨_, _, c2⟩ := pin_cells hi4
 rw [hw] at c2
 clear h hA b1 hi4
 go_enter Tryz.func131, Tryz.ntmps131
 go_wp2_with fail
 refine bodyPost_ret (results_cell_row rfl _ _ w.heap.size _ exZ _ _ rfl (heap_alloc_new _ _) Tryz.underlying40 rfl ex_sz) rfl ⟨.mk 0 0 ⟨#[]⟩ false (.slice none 0 0) [], rfl, ex_none _ _ _ _ _ (by decide), rfl, HA0.out.pin, HA0.out.step⟩

set_option maxHeartbeats 8000000 in
set_option maxRecDepth 100000 in
theorem place_any (pb : Nat) (lv : Value) (ts : List Tok) (N : Nat) (hT : ToksOk ts) : ∀ (n : Nat) (w : World) (s : S) (X : List Nat), Away w pb X → PIn w pb lv ts s → s.rest.length ≤ N → (s.wr = true ∨ s.rest.length < n) →
  Calls Tryz.prog 131 #[.pointer (some ⟨pb, 0, none⟩)] w (RetE w pb lv ts X (placeS N n s)) := by
 intro n
 induction n with
 | zero =>
  intro w s X hA h hN hn
  rcases hn with hw | hn
  ·exact place_bad pb lv ts w s X hA h hw
  ·omega
 | succ n ih =>
  intro w s X hA h hN hn
  have h0 := h
  have hA0 := hA
  have HIH := hid ih
  clear ih
  have b1 : Below w.heap.size w (w.alloc (.cells exZ 40)) := (Below.refl _ w).alloc (Nat.le_refl _) _
  have HA0 := hid ((At.start h).below b1)
  have HA := hid hA
  have hpb : pb < w.heap.size := hA.lt pb hA.mem
  have HAw := hid ((hA.mono (w' := w.alloc (.cells exZ 40)) (by simp)).add (b := w.heap.size) (by simp))
  have HK := hid (heap_alloc_new w (.cells exZ 40))
  obtain ⟨i, _, _, hi3⟩ := HA0.out.box
  obtain ⟨_, _, c2⟩ := pin_cells hi3
  have HS1 := hid (skip_any _ pb lv ts s mStar (by decide) HA0.out.pin hT.few)
  obtain ⟨i', _, _, hi4⟩ := h.box
  obtain ⟨_, _, c2'⟩ := pin_cells hi4
  clear h hA b1 hi3 hi4
  rw [placeS]
  cases hw : s.wr with
  | true =>
   rw [if_pos rfl]
   exact place_bad pb lv ts w s X hA0 h0 hw
  | false =>
   rw [hw] at c2 c2'
   rw [if_neg (by simp)]
   have hlt : s.rest.length < n + 1 := by
    rcases hn with h | h
    ·rw [hw] at h; cases h
    ·exact h
   cases hst : nextB s mStar with
   | true =>
    rw [hst] at HS1
    rw [if_pos rfl]
    obtain ⟨hp1, _⟩ := next_pass hst (by decide)
    have HSk := hid (show skipS mStar s = s.pass by unfold skipS; rw [hst]; rfl)
    have HP := hid (fun W X1 a b => HIH.out W s.pass X1 a b (by omega) (.inr (by omega)))
    generalize placeS N n s.pass = r at *
    generalize s.pass = s1 at *
    obtain ⟨re, rs⟩ := r
    clear HIH hst hp1
    go_enter Tryz.func131, Tryz.ntmps131
    go_wp2_with fail
    refine HS1.out.mono ?_
    rintro e W1 ⟨rfl, hp1, hs1⟩
    rw [HSk.out] at hp1
    have HA1 := hid (HA0.out.call hp1 hs1)
    have HK1 := hid (heap_step hs1 HK.out (by omega))
    have HAw1 := hid (HAw.out.mono hs1.size)
    clear hp1 hs1 HS1 HSk c2 c2' HA0 HK HAw
    go_wp2_with fail
    refine (HP.out W1 _ HAw1.out HA1.out.pin).mono ?_
    rintro e W2 ⟨T, rfl, hin, her, hp2, hs2⟩
    obtain ⟨k, n2, nm, m, p, l, c, kids, rfl⟩ := ex_open hin
    rw [Ex.val_mk]
    have HA2 := hid (HA1.out.call hp2 hs2)
    have HK2 := hid (heap_step hs2 HK1.out (by omega))
    have hX2 := HAw1.out.not (b := W2.heap.size) hs2.size
    have b3 : Below W2.heap.size W2 (W2.alloc (.cells #[.int .i64 k, .int .i64 n2, .string nm, .bool m, .slice p l c] 40)) := (Below.refl _ W2).alloc (Nat.le_refl _) _
    have b4 : Below W2.heap.size W2 ((W2.alloc (.cells #[.int .i64 k, .int .i64 n2, .string nm, .bool m, .slice p l c] 40)).alloc (.cells #[.int .i64 k, .int .i64 n2, .string nm, .bool m, .slice p l c] 40)) := b3.alloc (by simp) _
    have HK4 := hid (heap_below b4 HK2.out)
    have hX3 : (W2.alloc (.cells #[.int .i64 k, .int .i64 n2, .string nm, .bool m, .slice p l c] 40)).heap.size ∉ w.heap.size :: X := HAw1.out.not (by have := hs2.size; simp; omega)
    have HI := hid (wrapE (K := 4) (nv := 0) (nm2 := ⟨#[]⟩) (m2 := false) hX3 (Ex.In.keep (keepsL_below b3) _ hin) (by decide))
    have HA4 := hid (HA2.out.below b4)
    have HE := hid her
    clear hin her hp2 hs2 hX2 b3 b4 HP HA1 HA2 HK1 HK2 HAw1 hX3
    go_wp2_with (first | (refine wpList_store_row (o := ⟨none, _, _, _, _, _⟩) rfl _ _ _ rfl w.heap.size #[.int .i64 4, .int .i64 0, .string ⟨#[]⟩, .bool false, .slice (some ⟨W2.heap.size + 1, 0, none⟩) 1 1] rfl rfl _ _ HK4.out ex_sz rfl (ex_one _ _ _ _ _ _ _) ?_))
    exact bodyPost_ret (results_cell_row rfl _ _ w.heap.size _ #[.int .i64 4, .int .i64 0, .string ⟨#[]⟩, .bool false, .slice (some ⟨W2.heap.size + 1, 0, none⟩) 1 1] _ _ rfl (setRow_heap _ _ _ _ _ _ HK4.out) Tryz.underlying40 rfl ex_sz) rfl (retE_row HA4.out (.mk 4 0 ⟨#[]⟩ false (.slice (some ⟨W2.heap.size + 1, 0, none⟩) 1 1) [.mk k n2 nm m (.slice p l c) kids]) (by have := HI.out; simpa using this) (er_one _ _ _ _ _ _ _ HE.out) _)
   | false =>
    rw [hst] at HS1
    rw [if_neg (by simp)]
    have HSk := hid (show skipS mStar s = s by unfold skipS; rw [hst]; rfl)
    cases hop : nextB s mOpen with
    | true =>
     rw [if_pos rfl]
     obtain ⟨hp1, _⟩ := next_pass hop (by decide)
     have HS2 := hid (fun W hp => skip_any W pb lv ts s mOpen (by decide) hp hT.few)
     rw [hop] at HS2
     have HSk2 := hid (show skipS mOpen s = s.pass by unfold skipS; rw [hop]; rfl)
     have HP := hid (fun W X1 a b => HIH.out W s.pass X1 a b (by omega) (.inr (by omega)))
     have hle := place_le N n s.pass
     generalize placeS N n s.pass = r at *
     generalize s.pass = s1 at *
     obtain ⟨re, rs⟩ := r
     have HM := hid (fun W hp => must_any W pb lv ts rs mShut (by decide) hp hT.few)
     have hle2 := must_le mShut rs
     simp only at hle ⊢
     generalize mustS mShut rs = s3 at *
     have HQ := hid (fun W X1 e a b c => parts_any W pb lv ts s3 X1 N e a b c hT (by omega))
     clear HIH hst hp1 hop hle hle2
     go_enter Tryz.func131, Tryz.ntmps131
     go_wp2_with fail
     refine HS1.out.mono ?_
     rintro e W1 ⟨rfl, hp1, hs1⟩
     rw [HSk.out] at hp1
     have HA1 := hid (HA0.out.call hp1 hs1)
     have HK1 := hid (heap_step hs1 HK.out (by omega))
     have HAw1 := hid (HAw.out.mono hs1.size)
     clear hp1 hs1 HS1 HSk c2 c2' HA0 HK HAw
     go_wp2_with fail
     refine (HS2.out _ HA1.out.pin).mono ?_
     rintro e W2 ⟨rfl, hp2, hs2⟩
     rw [HSk2.out] at hp2
     have HA2 := hid (HA1.out.call hp2 hs2)
     have HK2 := hid (heap_step hs2 HK1.out (by omega))
     have HAw2 := hid (HAw1.out.mono hs2.size)
     clear hp2 hs2 HS2 HSk2 HA1 HK1 HAw1
     go_wp2_with fail
     refine (HP.out W2 _ HAw2.out HA2.out.pin).mono ?_
     rintro e W3 ⟨T, rfl, hin, her, hp3, hs3⟩
     obtain ⟨k, n2, nm, m, p, l, c, kids, rfl⟩ := ex_open hin
     rw [Ex.val_mk]
     have b4 : Below W3.heap.size W3 (W3.alloc (.cells #[.int .i64 k, .int .i64 n2, .string nm, .bool m, .slice p l c] 40)) := (Below.refl _ W3).alloc (Nat.le_refl _) _
     have HA4 := hid ((HA2.out.call hp3 hs3).below b4)
     have HK4 := hid (heap_below b4 (heap_step hs3 HK2.out (by omega)))
     have HI4 := hid (Ex.In.keep (keepsL_below b4) _ hin)
     have HB4 := hid (heap_alloc_new W3 (.cells #[.int .i64 k, .int .i64 n2, .string nm, .bool m, .slice p l c] 40))
     have HAw4 := hid ((HAw2.out.mono hs3.size).mono b4.size)
     have HSZ := hid (show pb < W3.heap.size by have := HA2.out.step.size; have := hs3.size; omega)
     have HSW := hid (show w.heap.size ≤ W3.heap.size by have := HA2.out.step.size; have := hs3.size; omega)
     have HE := hid her
     clear hin her hp3 hs3 HP HA2 HK2 HAw2 b4
     go_wp2_with fail
     refine (HM.out _ HA4.out.pin).mono ?_
     rintro e W5 ⟨rfl, hp5, hs5⟩
     have HA5 := hid (HA4.out.call hp5 hs5)
     have HK5 := hid (heap_step hs5 HK4.out (by omega))
     have HI5 := hid (Ex.In.keep (keepsL_step hs5 (by simp [HA.out.mem])) _ HI4.out)
     have hb5 := heap_step hs5 HB4.out (by have := HSZ.out; omega)
     have HAw5 := hid (HAw4.out.mono hs5.size)
     obtain ⟨k0, k1, k2, k3, k4⟩ := cells5 hb5
     clear hp5 hs5 hb5 HM HA4 HK4 HI4 HB4 HAw4
     go_wp2_with fail
     refine Calls.mono (show Calls _ _ #[.pointer (some ⟨pb, 0, none⟩), (Ex.mk k n2 nm m (.slice p l c) kids).val] W5 _ from HQ.out W5 _ _ HAw5.out HI5.out HA5.out.pin) ?_
     rintro e W6 ⟨T6, rfl, hin6, her6, hp6, hs6⟩
     rw [HE.out] at her6 hp6
     obtain ⟨k', n', nm', m', p', l', c', kids', rfl⟩ := ex_open hin6
     rw [Ex.val_mk]
     have HA6 := hid (HA5.out.call hp6 hs6)
     have HK6 := hid (heap_step hs6 HK5.out (by omega))
     have HI6 := hid hin6
     have HE6 := hid her6
     clear hin6 her6 hp6 hs6 HQ HA5 HK5 HI5 HAw5 HE k0 k1 k2 k3 k4
     go_wp2_with (first | (refine wpList_store_row (o := ⟨none, _, _, _, _, _⟩) rfl _ _ _ rfl w.heap.size #[.int .i64 k', .int .i64 n', .string nm', .bool m', .slice p' l' c'] rfl rfl _ _ HK6.out ex_sz rfl (ex_one _ _ _ _ _ _ _) ?_))
     exact bodyPost_ret (results_cell_row rfl _ _ w.heap.size _ #[.int .i64 k', .int .i64 n', .string nm', .bool m', .slice p' l' c'] _ _ rfl (setRow_heap _ _ _ _ _ _ HK6.out) Tryz.underlying40 rfl ex_sz) rfl (by have h := retE_row (X := X) HA6.out (.mk k' n' nm' m' (.slice p' l' c') kids') HI6.out HE6.out #[.int .i64 k', .int .i64 n', .string nm', .bool m', .slice p' l' c']; exact h)
    | false =>
     rw [if_neg (by simp)]
     have HS2 := hid (fun W hp => skip_any W pb lv ts s mOpen (by decide) hp hT.few)
     rw [hop] at HS2
     have HSk2 := hid (show skipS mOpen s = s by unfold skipS; rw [hop]; rfl)
     have HM := hid (fun W hp => name_any W pb lv ts s hp hT)
     have hle2 := name_le s
     generalize nameS s = r at *
     obtain ⟨x, s3⟩ := r
     simp only at hle2 HM ⊢
     have HQ := hid (fun W X1 e a b c => parts_any W pb lv ts s3 X1 N e a b c hT (by omega))
     have HBS := hid (bs_Sb x)
     generalize Sb x = xs at *
     clear HIH hst hop hle2
     go_enter Tryz.func131, Tryz.ntmps131
     go_wp2_with fail
     refine HS1.out.mono ?_
     rintro e W1 ⟨rfl, hp1, hs1⟩
     rw [HSk.out] at hp1
     have HA1 := hid (HA0.out.call hp1 hs1)
     have HK1 := hid (heap_step hs1 HK.out (by omega))
     have HAw1 := hid (HAw.out.mono hs1.size)
     clear hp1 hs1 HS1 HSk c2 c2' HA0 HK HAw
     go_wp2_with fail
     refine (HS2.out _ HA1.out.pin).mono ?_
     rintro e W2 ⟨rfl, hp2, hs2⟩
     rw [HSk2.out] at hp2
     have HA2 := hid (HA1.out.call hp2 hs2)
     have HK2 := hid (heap_step hs2 HK1.out (by omega))
     have HAw2 := hid (HAw1.out.mono hs2.size)
     clear hp2 hs2 HS2 HSk2 HA1 HK1 HAw1
     go_wp2_with fail
     refine (HM.out _ HA2.out.pin).mono ?_
     rintro e W5 ⟨rfl, hp5, hs5⟩
     have HA5 := hid (HA2.out.call hp5 hs5)
     have HK5 := hid (heap_step hs5 HK2.out (by omega))
     have HAw5 := hid (HAw2.out.mono hs5.size)
     clear hp5 hs5 HM HA2 HK2 HAw2
     go_wp2_with fail
     refine Calls.mono (show Calls _ _ #[.pointer (some ⟨pb, 0, none⟩), (Ex.mk 2 0 xs false (.slice none 0 0) []).val] W5 _ from HQ.out W5 _ _ HAw5.out (ex_none _ _ _ _ _ (by decide)) HA5.out.pin) ?_
     rintro e W6 ⟨T6, rfl, hin6, her6, hp6, hs6⟩
     rw [erE, show erEs [] = [] from rfl, HBS.out] at her6 hp6
     obtain ⟨k', n', nm', m', p', l', c', kids', rfl⟩ := ex_open hin6
     rw [Ex.val_mk]
     have HA6 := hid (HA5.out.call hp6 hs6)
     have HK6 := hid (heap_step hs6 HK5.out (by omega))
     have HI6 := hid hin6
     have HE6 := hid her6
     clear hin6 her6 hp6 hs6 HQ HA5 HK5 HAw5
     go_wp2_with (first | (refine wpList_store_row (o := ⟨none, _, _, _, _, _⟩) rfl _ _ _ rfl w.heap.size #[.int .i64 k', .int .i64 n', .string nm', .bool m', .slice p' l' c'] rfl rfl _ _ HK6.out ex_sz rfl (ex_one _ _ _ _ _ _ _) ?_))
     exact bodyPost_ret (results_cell_row rfl _ _ w.heap.size _ #[.int .i64 k', .int .i64 n', .string nm', .bool m', .slice p' l' c'] _ _ rfl (setRow_heap _ _ _ _ _ _ HK6.out) Tryz.underlying40 rfl ex_sz) rfl (by have h := retE_row (X := X) HA6.out (.mk k' n' nm' m' (.slice p' l' c') kids') HI6.out HE6.out #[.int .i64 k', .int .i64 n', .string nm', .bool m', .slice p' l' c']; exact h)
end Go.Proofs.YtemflcojebanlaaGreatDoor.ParC

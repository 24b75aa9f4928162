/- Texts joined: TreeTX, TreeTY, NmT, NmU. -/
import Derived.Test.YtemflcojebanlaaGreatDoorJ22
import Derived.Test.YtemflcojebanlaaGreatDoorJ10
/- Contract of tree.depth. -/
namespace Go.Proofs.YtemflcojebanlaaGreatDoor.TreeC
open Go Go.RowKit Go.Lib Go.Sort LexP TreeP LexC

/-- what the gauge shows, and what is still to be seen -/
def Todo (lim d x R : Nat) : Prop := max d x ≤ R ∧ Capped lim (max d x) R
theorem Todo.step {lim d d' a b R : Nat} (h : Todo lim d (max a b) R) (h1 : d ≤ d') (h2 : d' ≤ max d a) (h3 : Capped lim d' (max d a)) : Todo lim d' b R := by
 unfold Todo Capped at *
 omega
theorem Todo.le {lim d x R : Nat} (h : Todo lim d x R) : max d x ≤ R := h.1
theorem deepAt_oneT (t : Ty) : deepAt deepT 0 [t] = deepT t := by simp only [deepAt]; omega
theorem deepAt_oneE (t : Ex) : deepAt deepE 0 [t] = deepE t := by simp only [deepAt]; omega
theorem deepAt_zeroS (l : List St) : deepAt deepS 0 l = deepSs l := by rw [deepAt_st]; omega
theorem wAll_oneT (t : Ty) : wAll wT [t] = wT t := rfl
theorem wAll_oneE (t : Ex) : wAll nE [t] ≤ wE t := by have := nE_le t; simp only [wAll]; omega
theorem lies_single {w : World} {b : Nat} {c : List Value} (h : BoxAt w b c) : Lies w c.length (.slice (some ⟨b, 0, none⟩) 1 1) [c] := lies_one h

/-- one type, laid into a block of its own, is shown to the gauge -/
theorem show_type (t : Ty) (gb dc lim nb : Nat) (W : World) (hlim : lim ≤ 9223372036854775807) (hg : GaugeAt W gb dc lim) (hn : nb ≠ gb) (hb : BoxAt W nb t.cells) (hin : t.In (hush gb W)) (hw : wT t ≤ 1048576) (hd : max dc (deepT t) ≤ 4194304) :
  Calls Tryz.prog 62 #[.pointer (some ⟨gb, 0, none⟩), .agg #[.int .i64 0, .slice (some ⟨nb, 0, none⟩) 1 1], .func (.func 63) #[] #[]] W fun r w' => r = .returned (.tuple #[]) ∧
   ∃ d', dc ≤ d' ∧ d' ≤ max dc (deepT t) ∧ GaugeAt w' gb d' lim ∧ Capped lim d' (max dc (deepT t)) ∧ BelowX gb W.heap.size W w' := by
 have hbx : BoxAt (hush gb W) nb t.cells := fun j u hj => hush_in (hb j u hj) hn
 have h := sound_tySize ⟨0, .slice (some ⟨nb, 0, none⟩) 1 1, [t]⟩ gb dc lim W hg ⟨by
  have := lies_single hbx
  obtain ⟨k, l, m, v, kids⟩ := t
  exact this, by rw [Ty.Ins, Ty.Ins]; exact ⟨hin, trivial⟩, by intro x hx; rw [List.mem_singleton] at hx; rw [hx]; exact hw, by show 1 ≤ _; omega⟩ (by show wAll wT [t] ≤ _; rw [wAll_oneT]; exact hw) (by show max dc (deepAt deepT 0 [t]) ≤ _; rw [deepAt_oneT]; exact hd) hlim (opensT gb lim W) inT_ok
 dsimp only at h
 rw [deepAt_oneT] at h
 exact h
theorem show_expr (t : Ex) (gb dc lim nb : Nat) (W : World) (hlim : lim ≤ 9223372036854775807) (hg : GaugeAt W gb dc lim) (hn : nb ≠ gb) (hb : BoxAt W nb t.cells) (hin : t.In (hush gb W)) (hw : wE t ≤ 1048576) (hd : max dc (deepE t) ≤ 4194304) :
  Calls Tryz.prog 66 #[.pointer (some ⟨gb, 0, none⟩), .agg #[.int .i64 0, .slice (some ⟨nb, 0, none⟩) 1 1], .func (.func 67) #[] #[]] W fun r w' => r = .returned (.tuple #[]) ∧
   ∃ d', dc ≤ d' ∧ d' ≤ max dc (deepE t) ∧ GaugeAt w' gb d' lim ∧ Capped lim d' (max dc (deepE t)) ∧ BelowX gb W.heap.size W w' := by
 have hbx : BoxAt (hush gb W) nb t.cells := fun j u hj => hush_in (hb j u hj) hn
 have h := sound_exSize ⟨0, .slice (some ⟨nb, 0, none⟩) 1 1, [t]⟩ gb dc lim W hg ⟨by
  have := lies_single hbx
  obtain ⟨k, n, l, m, v, kids⟩ := t
  exact this, by rw [Ex.Ins, Ex.Ins]; exact ⟨hin, trivial⟩, by intro x hx; rw [List.mem_singleton] at hx; rw [hx]; exact hw, by show 1 ≤ _; omega⟩ (by show wAll nE [t] ≤ _; have := wAll_oneE t; omega) (by show max dc (deepAt deepE 0 [t]) ≤ _; rw [deepAt_oneE]; exact hd) hlim (opensE gb lim W) inE_ok
 dsimp only at h
 rw [deepAt_oneE] at h
 exact h
theorem show_stmts (l : List St) (v : Value) (gb dc lim : Nat) (W : World) (hlim : lim ≤ 9223372036854775807) (hg : GaugeAt W gb dc lim) (hl : Lies (hush gb W) 14 v (l.map St.cells)) (hin : St.Ins (hush gb W) l) (hw : wSs l ≤ 1048576) (hd : max dc (deepSs l) ≤ 4194304) :
  Calls Tryz.prog 64 #[.pointer (some ⟨gb, 0, none⟩), .agg #[.int .i64 0, v], .func (.func 65) #[.pointer (some ⟨gb, 0, none⟩)] #[]] W fun r w' => r = .returned (.tuple #[]) ∧
   ∃ d', dc ≤ d' ∧ d' ≤ max dc (deepSs l) ∧ GaugeAt w' gb d' lim ∧ Capped lim d' (max dc (deepSs l)) ∧ BelowX gb W.heap.size W w' := by
 have hlen := wSs_len l
 have h := sound_stSize ⟨0, v, l⟩ gb dc lim W hg ⟨hl, hin, fun x hx => by have := mem_wS (l := l) hx; omega, by show l.length ≤ _; omega⟩ (by show wAll nS l ≤ _; rw [wAll_st]; have := nSs_le l; omega) (by show max dc (deepAt deepS 0 l) ≤ _; rw [deepAt_zeroS]; exact hd) hlim (opensS gb lim W hlim) inS_ok
 dsimp only at h
 rw [deepAt_zeroS] at h
 exact h

theorem deepFs_snd (f : TreeP.Fn) (l : List TreeP.Fn) : max (deepF f) (deepFs l) = max (deepPs f.pars) (max (deepT f.gives) (max (deepSs f.body) (max (deepE f.value) (deepFs l)))) := by unfold deepF; omega

set_option maxHeartbeats 8000000 in
set_option maxRecDepth 100000 in
theorem depth_any (l : List TreeP.Fn) (lim : Nat) (w : World) (v : Value) (hlim : lim ≤ 9223372036854775807) (hw : wFs l ≤ 1048576) (hin : ProgIn w v l) :
  Calls Tryz.prog 37 #[v, .int .i64 (lim : Int)] w fun r w' => ∃ d' : Nat, r = .returned (.int .i64 (d' : Int)) ∧ d' ≤ deepFs l ∧ Capped lim d' (deepFs l) ∧ Below w.heap.size w w' := by
 obtain ⟨hl, hI⟩ := hin
 have hlen := wFs_len l
 obtain ⟨p, cap, rfl, hcap, hx⟩ := id hl
 rw [List.length_map] at *
 have hLR := deepFs_le l
 obtain ⟨R, hR⟩ : ∃ R, deepFs l = R := ⟨_, rfl⟩
 rw [hR] at hLR ⊢
 generalize hL : l.length = L at *
 have HR := hid hR
 have HL := hid hL
 have HX := hid hl
 have HI := hid hI
 have HW := hid hw
 have HLI := hid hlim
 have hR4 : R ≤ 1048576 := by omega
 have hL4 : L ≤ 1048576 := by omega
 clear hx hL hl hI hR hLR hcap
 have G0 := hid (GaugeAt.new w lim)
 have B0 := hid (show Below w.heap.size w (w.alloc (.cells #[.int .i64 0, .int .i64 (lim : Int)] 119 (0, 0))) from (Below.refl _ _).alloc (Nat.le_refl _) _)
 have T0 : Hid (Todo lim 0 (deepFs (l.drop 0)) R) := hid (by rw [List.drop_zero, HR.out]; exact ⟨by omega, .inl (by omega)⟩)
 obtain ⟨gb, hgb⟩ : ∃ gb, w.heap.size = gb := ⟨_, rfl⟩
 rw [hgb] at G0 B0
 have HGB := hid hgb
 clear hw hlim
 go_enter Tryz.func37, Tryz.ntmps37
 go_wp2_with fail
 clear hgb
 generalize World.alloc w _ = W0 at *
 go_loopg [14] L (fun gf v wx => ∃ i dc : Nat, v = .int .i64 (i : Int) ∧ i ≤ L ∧ L ≤ i + gf ∧ Hid (GaugeAt wx gb dc lim) ∧ Hid (Below gb w wx) ∧ Hid (Todo lim dc (deepFs (l.drop i)) R))
 case atStart => exact ⟨0, 0, rfl, by omega, by omega, G0, B0, T0⟩
 case round =>
  obtain ⟨i, dc, rfl, hi, hg, HG, HB, HT⟩ := hrel
  clear G0 B0 T0
  have HB' : Below w.heap.size w wr := by rw [HGB.out]; exact HB.out
  by_cases hlt : i < L
  ·obtain ⟨f, ht⟩ : ∃ f, l[i]? = some f := ⟨l[i]'(by rw [HL.out]; exact hlt), List.getElem?_eq_getElem _⟩
   obtain ⟨b, off, cap', e, _, hx⟩ := Lies.at (HX.out.keep (Keeps.of_below HB')) (i := i) (by rw [List.length_map, HL.out]; exact hlt)
   injection e with e1 e2 e3
   subst e1
   clear e2 e3
   have hx' : ∀ (j : Nat) (u : Value), (TreeP.Fn.cells f)[j]? = some u → wr.cell? ⟨b, off + i * 14 + j, none⟩ = some u := hx i (TreeP.Fn.cells f) (by rw [List.getElem?_map, ht]; rfl)
   have hws := wFs_get l i f ht
   have hinF : f.In w := HI.out f (List.mem_of_getElem? ht)
   have hT := HT.out
   rw [drop_cons ht, deepFs, deepFs_snd] at hT
   have ho := fn_ones hinF
   unfold Ones at ho
   have hz := fnSize f
   obtain ⟨_, ⟨iP, iPs⟩, iG, _, ⟨iB, iBs⟩, iV⟩ := hinF
   obtain ⟨_, _, z2, _, z8⟩ := fn_one f
   obtain ⟨pp, pcap, hpv, hpcap, _⟩ := id iP
   rw [List.length_map] at hpv hpcap
   have hHI : ∀ W : World, Below gb w W → Keeps w (hush gb W) := fun W hb => hush_old (by rw [HGB.out]; exact hb) (by rw [HGB.out]; exact Nat.le_refl _)
   have gcE : ∃ (a : Int) (s : ByteArray) (m : Bool) (q : Option Addr) (x y : Nat), f.gives.cells = [.int .i64 a, .string s, .bool m, .slice q x y] := by
    generalize f.gives = g at iG
    obtain ⟨a, s, m, v, k⟩ := g
    rw [Ty.In] at iG
    obtain ⟨q, c, rfl, _⟩ := iG.1
    exact ⟨a, s, m, q, _, c, rfl⟩
   have vcE : ∃ (a n : Int) (s : ByteArray) (m : Bool) (q : Option Addr) (x y : Nat), f.value.cells = [.int .i64 a, .int .i64 n, .string s, .bool m, .slice q x y] := by
    generalize f.value = g at iV
    obtain ⟨a, n, s, m, v, k⟩ := g
    rw [Ex.In] at iV
    obtain ⟨q, c, rfl, _⟩ := iV.2.1
    exact ⟨a, n, s, m, q, _, c, rfl⟩
   obtain ⟨bp, bcap, hbv, hbcap, _⟩ := id iB
   rw [List.length_map] at hbv hbcap
   have hwf := hws
   unfold wF at hwf
   have q5 := wPas_len f.pars
   have tcE : Hid (∀ (k : Nat) (pa : Pa), f.pars[k]? = some pa → ∃ (a : Int) (s : ByteArray) (m : Bool) (q : Option Addr) (x y : Nat), pa.type.cells = [.int .i64 a, .string s, .bool m, .slice q x y]) := hid fun k pa hp => by
    have h := iPs pa (List.mem_of_getElem? hp)
    unfold Pa.In at h
    generalize pa.type = g at h
    obtain ⟨a, s, m, v, k⟩ := g
    rw [Ty.In] at h
    obtain ⟨q, c, rfl, _⟩ := h.1
    exact ⟨a, s, m, q, _, c, rfl⟩
   have C4 : Hid (∀ (k : Nat) (pa : Pa), f.pars[k]? = some pa → ∀ (W : World) (nb dk : Nat), Below gb w W → GaugeAt W gb dk lim → nb ≠ gb → BoxAt W nb pa.type.cells → max dk (deepT pa.type) ≤ 4194304 → Calls Tryz.prog 62 #[.pointer (some ⟨gb, 0, none⟩), .agg #[.int .i64 0, .slice (some ⟨nb, 0, none⟩) 1 1], .func (.func 63) #[] #[]] W fun r w' => r = .returned (.tuple #[]) ∧
     ∃ d', dk ≤ d' ∧ d' ≤ max dk (deepT pa.type) ∧ GaugeAt w' gb d' lim ∧ Capped lim d' (max dk (deepT pa.type)) ∧ BelowX gb W.heap.size W w') := hid fun k pa hp W nb dk hb hg hn hbx hd => by
    have := wPas_get f.pars k pa hp
    unfold wPa at this
    have hw := HW.out
    exact show_type pa.type gb dk lim nb W HLI.out hg hn hbx (Ty.In.keep (hHI W hb) _ (iPs pa (List.mem_of_getElem? hp))) (by omega) hd
   have C1 : Hid (∀ (W : World) (nb dk : Nat), Below gb w W → GaugeAt W gb dk lim → nb ≠ gb → BoxAt W nb f.gives.cells → max dk (deepT f.gives) ≤ 4194304 → Calls Tryz.prog 62 #[.pointer (some ⟨gb, 0, none⟩), .agg #[.int .i64 0, .slice (some ⟨nb, 0, none⟩) 1 1], .func (.func 63) #[] #[]] W fun r w' => r = .returned (.tuple #[]) ∧
     ∃ d', dk ≤ d' ∧ d' ≤ max dk (deepT f.gives) ∧ GaugeAt w' gb d' lim ∧ Capped lim d' (max dk (deepT f.gives)) ∧ BelowX gb W.heap.size W w') := hid fun W nb dk hb hg hn hbx hd => by
    have hw := HW.out
    exact show_type f.gives gb dk lim nb W HLI.out hg hn hbx (Ty.In.keep (hHI W hb) _ iG) (by omega) hd
   have C3 : Hid (∀ (W : World) (nb dk : Nat), Below gb w W → GaugeAt W gb dk lim → nb ≠ gb → BoxAt W nb f.value.cells → max dk (deepE f.value) ≤ 4194304 → Calls Tryz.prog 66 #[.pointer (some ⟨gb, 0, none⟩), .agg #[.int .i64 0, .slice (some ⟨nb, 0, none⟩) 1 1], .func (.func 67) #[] #[]] W fun r w' => r = .returned (.tuple #[]) ∧
     ∃ d', dk ≤ d' ∧ d' ≤ max dk (deepE f.value) ∧ GaugeAt w' gb d' lim ∧ Capped lim d' (max dk (deepE f.value)) ∧ BelowX gb W.heap.size W w') := hid fun W nb dk hb hg hn hbx hd => by
    have hw := HW.out
    exact show_expr f.value gb dk lim nb W HLI.out hg hn hbx (Ex.In.keep (hHI W hb) _ iV) (by omega) hd
   have C2 : Hid (∀ (W : World) (dk : Nat), Below gb w W → GaugeAt W gb dk lim → max dk (deepSs f.body) ≤ 4194304 → Calls Tryz.prog 64 #[.pointer (some ⟨gb, 0, none⟩), .agg #[.int .i64 0, .slice bp f.body.length bcap], .func (.func 65) #[.pointer (some ⟨gb, 0, none⟩)] #[]] W fun r w' => r = .returned (.tuple #[]) ∧
     ∃ d', dk ≤ d' ∧ d' ≤ max dk (deepSs f.body) ∧ GaugeAt w' gb d' lim ∧ Capped lim d' (max dk (deepSs f.body)) ∧ BelowX gb W.heap.size W w') := hid fun W dk hb hg hd => by
    have hw := HW.out
    exact show_stmts f.body _ gb dk lim W HLI.out hg (by rw [← hbv]; exact iB.keep (hHI W hb)) (St.Ins.keep (hHI W hb) _ iBs) (by omega) hd
   have PON : Hid (∀ (k : Nat) (pa : Pa), f.pars[k]? = some pa → (Pa.cells pa).toArray.all (·.oneCell') = true) := hid fun k pa hp => pa_ones (iPs pa (List.mem_of_getElem? hp))
   have HGC : Hid (∀ (j : Nat) (u : Value), f.gives.cells[j]? = some u → (TreeP.Fn.cells f)[3 + j]? = some u) := hid fun j u h => fn_gives h
   have HVC : Hid (∀ (j : Nat) (u : Value), f.value.cells[j]? = some u → (TreeP.Fn.cells f)[9 + j]? = some u) := hid fun j u h => fn_value h
   have Z1 := hid (tySize f.gives)
   have Z2 := hid (exSize f.value)
   rw [hpv] at z2 iP
   rw [hbv] at z8
   have hQ4 : f.pars.length ≤ 1048576 := by have := HW.out; omega
   generalize hDL : deepFs (l.drop (i + 1)) = DL at *
   have HDL := hid hDL
   clear hDL
   generalize deepT f.gives = D1 at *
   generalize deepSs f.body = D2 at *
   generalize deepE f.value = D3 at *
   generalize f.gives.cells = gcs at *
   generalize f.value.cells = vcs at *
   obtain ⟨g1, g2, g3, g4, g5, g6, rfl⟩ := gcE
   obtain ⟨v1, v2, v3, v4, v5, v6, v7, rfl⟩ := vcE
   generalize TreeP.Fn.cells f = fcs at *
   generalize f.body.length = BL at *
   generalize f.pars = pars at *
   generalize hQ : pars.length = Q at *
   have HQ := hid hQ
   have HTT := hid hT
   have IP := hid iP
   have HX' := hid hx'
   have H1C := hid ho
   have Y2 := hid z2
   have Y8 := hid z8
   have ZF := hid hz
   have ZA : Hid ((Tryz.prog.info? 42).map (·.size) = some fcs.toArray.size) := hid (by rw [List.size_toArray]; exact hz)
   have ZO : Hid ((#[.string ⟨#[]⟩, .slice none 0 0, .slice none 0 0, .int .i64 0, .string ⟨#[]⟩, .bool false, .slice none 0 0, .slice none 0 0, .slice none 0 0, .int .i64 0, .int .i64 0, .string ⟨#[]⟩, .bool false, .slice none 0 0] : Array Value).size = fcs.toArray.size) := hid (by
    rw [show (Tryz.prog.info? 42).map (·.size) = some 14 by kernel_rfl] at hz
    exact Option.some.inj hz)
   have hb2 : Below wr.heap.size wr ((wr.alloc (.cells #[.string ⟨#[]⟩, .slice none 0 0, .slice none 0 0, .int .i64 0, .string ⟨#[]⟩, .bool false, .slice none 0 0, .slice none 0 0, .slice none 0 0, .int .i64 0, .int .i64 0, .string ⟨#[]⟩, .bool false, .slice none 0 0] 42 (0, 0))).setRow wr.heap.size fcs.toArray) := rowed_below' _ _ _
   have hX2 : BoxAt ((wr.alloc (.cells #[.string ⟨#[]⟩, .slice none 0 0, .slice none 0 0, .int .i64 0, .string ⟨#[]⟩, .bool false, .slice none 0 0, .slice none 0 0, .slice none 0 0, .int .i64 0, .int .i64 0, .string ⟨#[]⟩, .bool false, .slice none 0 0] 42 (0, 0))).setRow wr.heap.size fcs.toArray) wr.heap.size fcs := rowed_box' _ _ _ _
   have XX := hid hX2
   have B2 := hid (HB.out.trans (hb2.mono (by have := HB'.size; rw [HGB.out] at this; exact this)))
   have G2 := hid (HG.out.below hb2 HG.out.lt)
   have hfg : wr.heap.size ≠ gb := by have := HG.out.lt; omega
   have l2 := box_get hX2 z2
   clear hx hx' ht hws iP iPs iG iB iBs iV z2 z8 hpv hbv hT hwf ho hz hQ hHI hb2 hX2 HB' hpcap hbcap q5
   go_wp2_with (first | (with_reducible refine wpList_load_at (o := ⟨some 17, _, _, _, _, _⟩) rfl _ _ rfl b (off + i * 14) rfl fcs _ HX'.out Tryz.underlying42 rfl ZF.out ?_) | (with_reducible refine wpList_store_row (o := ⟨none, _, _, _, _, _⟩) rfl _ _ _ rfl wr.heap.size fcs.toArray rfl rfl _ _ (heap_alloc_new _ _) ZA.out ZO.out H1C.out ?_))
   generalize World.setRow _ _ _ = W2 at *
   generalize wr.heap.size = fb at *
   clear ZF ZA ZO H1C HX' HG l2
   obtain ⟨go, rfl⟩ : ∃ go : Nat, go = gk := ⟨_, rfl⟩
   go_loopg [21] Q (fun gf v wx => ∃ k dk : Nat, v = .int .i64 (k : Int) ∧ k ≤ Q ∧ Q ≤ k + gf ∧ Hid (GaugeAt wx gb dk lim) ∧ Hid (Below gb w wx) ∧ Hid (BoxAt wx fb fcs) ∧ Hid (Todo lim dk (max (deepPs (pars.drop k)) (max D1 (max D2 (max D3 DL)))) R))
   case atStart => exact ⟨0, dc, rfl, by omega, by omega, G2, B2, XX, HTT⟩
   case round =>
    obtain ⟨k, dk, rfl, hk, hgk, HGk, HBk, HXk, HTk⟩ := hrel
    clear G2 B2 XX HTT
    by_cases hkQ : k < Q
    ·obtain ⟨pa, hpa⟩ : ∃ pa, pars[k]? = some pa := ⟨pars[k]'(by rw [HQ.out]; exact hkQ), List.getElem?_eq_getElem _⟩
     obtain ⟨b2, off2, cap2, e, _, hx2⟩ := Lies.at (IP.out.keep (Keeps.of_below (w := w) (by rw [HGB.out]; exact HBk.out))) (i := k) (by rw [List.length_map, HQ.out]; exact hkQ)
     injection e with e1 e2 e3
     subst e1
     clear e2 e3
     have hx3 : ∀ (j : Nat) (u : Value), (Pa.cells pa)[j]? = some u → wr.cell? ⟨b2, off2 + k * 5 + j, none⟩ = some u := hx2 k (Pa.cells pa) (by rw [List.getElem?_map, hpa]; rfl)
     have ht3 : ∀ (j : Nat) (u : Value), pa.type.cells[j]? = some u → (Pa.cells pa)[1 + j]? = some u := fun j u h => pa_type h
     have cD := C4.out k pa hpa
     have hTk := HTk.out
     rw [drop_cons hpa, deepPs] at hTk
     rw [show max (max (deepT pa.type) (deepPs (pars.drop (k + 1)))) (max D1 (max D2 (max D3 DL))) = max (deepT pa.type) (max (deepPs (pars.drop (k + 1))) (max D1 (max D2 (max D3 DL)))) by omega] at hTk
     have ZP := hid (paSize pa)
     have ZT := hid (tySize pa.type)
     have hop := PON.out k pa hpa
     obtain ⟨t1, t2, t3, t4, t5, t6, htc⟩ := tcE.out k pa hpa
     rw [htc] at ht3 cD ZT
     generalize deepT pa.type = q at *
     generalize hDR : deepPs (pars.drop (k + 1)) = DR at *
     have HDR := hid hDR
     clear hDR
     generalize Pa.cells pa = pcs at *
     have hb2 : Below wr.heap.size wr ((wr.alloc (.cells #[.string ⟨#[]⟩, .int .i64 0, .string ⟨#[]⟩, .bool false, .slice none 0 0] 52 (0, 0))).setRow wr.heap.size pcs.toArray) := rowed_below' _ _ _
     have hX2 : BoxAt ((wr.alloc (.cells #[.string ⟨#[]⟩, .int .i64 0, .string ⟨#[]⟩, .bool false, .slice none 0 0] 52 (0, 0))).setRow wr.heap.size pcs.toArray) wr.heap.size pcs := rowed_box' _ _ _ _
     have hsz : ((wr.alloc (.cells #[.string ⟨#[]⟩, .int .i64 0, .string ⟨#[]⟩, .bool false, .slice none 0 0] 52 (0, 0))).setRow wr.heap.size pcs.toArray).heap.size = wr.heap.size + 1 := by simp
     have HX3 := hid hx3
     have H1C := hid hop
     have ZA : Hid ((Tryz.prog.info? 52).map (·.size) = some pcs.toArray.size) := hid (by rw [List.size_toArray]; exact ZP.out)
     have ZO : Hid ((#[.string ⟨#[]⟩, .int .i64 0, .string ⟨#[]⟩, .bool false, .slice none 0 0] : Array Value).size = pcs.toArray.size) := hid (by
      have hz := ZA.out
      rw [show (Tryz.prog.info? 52).map (·.size) = some 5 by kernel_rfl] at hz
      exact Option.some.inj hz)
     have HT3 : Hid (∀ (j : Nat) (u : Value), [Value.int .i64 t1, .string t2, .bool t3, .slice t4 t5 t6][j]? = some u → ((wr.alloc (.cells #[.string ⟨#[]⟩, .int .i64 0, .string ⟨#[]⟩, .bool false, .slice none 0 0] 52 (0, 0))).setRow wr.heap.size pcs.toArray).cell? ⟨wr.heap.size, 1 + j, none⟩ = some u) := hid fun j u h => hX2 _ u (ht3 j u h)
     have hbg : gb ≤ wr.heap.size := Nat.le_of_lt HGk.out.lt
     have B2 := hid (HBk.out.trans (hb2.mono hbg))
     have G2 := hid (HGk.out.below hb2 HGk.out.lt)
     have X2 := hid (HXk.out.later hb2)
     have CW : Hid (∀ WB : World, Below gb w WB → GaugeAt WB gb dk lim → BoxAt WB (wr.heap.size + 1) [.int .i64 t1, .string t2, .bool t3, .slice t4 t5 t6] → Calls Tryz.prog 62 #[.pointer (some ⟨gb, 0, none⟩), .agg #[.int .i64 0, .slice (some ⟨wr.heap.size + 1, 0, none⟩) 1 1], .func (.func 63) #[] #[]] WB fun r w' => r = .returned (.tuple #[]) ∧
       ∃ d', dk ≤ d' ∧ d' ≤ max dk q ∧ GaugeAt w' gb d' lim ∧ Capped lim d' (max dk q) ∧ BelowX gb WB.heap.size WB w') := hid fun WB h1 h2 h3 => cD WB (wr.heap.size + 1) dk h1 h2 (by omega) h3 (by have := hTk.1; omega)
     have HSZ := hid hsz
     have HTT := hid hTk
     clear hx2 hx3 ht3 cD hpa hop htc hb2 hX2 hsz hTk HTk
     go_wp2_with (first | (with_reducible refine wpList_load_at (o := ⟨some 24, _, _, _, _, _⟩) rfl _ _ rfl b2 (off2 + k * 5) rfl pcs _ HX3.out Tryz.underlying52 rfl ZP.out ?_) | (with_reducible refine wpList_store_row (o := ⟨none, _, _, _, _, _⟩) rfl _ _ _ rfl wr.heap.size pcs.toArray rfl rfl _ _ (heap_alloc_new _ _) ZA.out ZO.out H1C.out ?_) | (with_reducible refine wpList_load_at (o := ⟨some 26, _, _, _, _, _⟩) rfl _ _ rfl wr.heap.size 1 rfl [.int .i64 t1, .string t2, .bool t3, .slice t4 t5 t6] _ HT3.out Tryz.underlying34 rfl ZT.out ?_))
     clear ZA ZO ZP ZT H1C HX3 HT3
     generalize World.setRow _ _ _ = WA at *
     have hbx := BoxAt.new WA [.int .i64 t1, .string t2, .bool t3, .slice t4 t5 t6] 34
     rw [HSZ.out] at hbx
     have hba : Below WA.heap.size WA (WA.alloc (.cells [Value.int .i64 t1, .string t2, .bool t3, .slice t4 t5 t6].toArray 34 (0, 0))) := (Below.refl _ _).alloc (Nat.le_refl _) _
     have hga : gb ≤ WA.heap.size := Nat.le_of_lt G2.out.lt
     have B3 := hid (B2.out.trans (hba.mono hga))
     have G3 := hid (G2.out.below hba G2.out.lt)
     have X3 := hid (X2.out.later hba)
     with_reducible refine (CW.out _ B3.out G3.out hbx).mono ?_
     rintro e W5 ⟨rfl, d', h1, h2, h3, h4, h5⟩
     have G5 := hid h3
     have B5 := hid (((BelowX.of (gb := gb) B3.out).trans (h5.mono (Nat.le_of_lt G3.out.lt))).below (Nat.le_refl gb))
     have X5 := hid (h5.box X3.out hfg)
     have T5 := hid (HTT.out.step h1 h2 h4)
     clear h1 h2 h3 h4 h5 hbx hba hga B3 G3 X3 B2 G2 X2 CW
     go_wp2_with fail
     go_roundg (gk - 1)
     case measure => omega
     case rel => exact ⟨k + 1, d', by go_num, by omega, by omega, G5, B5, X5, by rw [HDR.out]; exact T5⟩
    ·obtain rfl : k = Q := by omega
     have hTk := HTk.out
     rw [← HQ.out, List.drop_length, deepPs] at hTk
     rw [show max 0 (max D1 (max D2 (max D3 DL))) = max D1 (max D2 (max D3 DL)) by omega] at hTk
     have T0 := hid hTk
     have P1 : Hid (∀ (j : Nat) (u : Value), [Value.int .i64 g1, .string g2, .bool g3, .slice g4 g5 g6][j]? = some u → wr.cell? ⟨fb, 3 + j, none⟩ = some u) := hid fun j u h => HXk.out _ u (HGC.out j u h)
     have hbg : gb ≤ wr.heap.size := Nat.le_of_lt HGk.out.lt
     clear hTk HTk
     go_wp2_with (with_reducible refine wpList_load_at (o := ⟨some 32, _, _, _, _, _⟩) rfl _ _ rfl fb 3 rfl [.int .i64 g1, .string g2, .bool g3, .slice g4 g5 g6] _ P1.out Tryz.underlying34 rfl Z1.out ?_)
     have hbx := BoxAt.new wr [.int .i64 g1, .string g2, .bool g3, .slice g4 g5 g6] 34
     have hba : Below wr.heap.size wr (wr.alloc (.cells [Value.int .i64 g1, .string g2, .bool g3, .slice g4 g5 g6].toArray 34 (0, 0))) := (Below.refl _ _).alloc (Nat.le_refl _) _
     have B3 := hid (HBk.out.trans (hba.mono hbg))
     have G3 := hid (HGk.out.below hba HGk.out.lt)
     have X3 := hid (HXk.out.later hba)
     with_reducible refine (C1.out _ wr.heap.size dk B3.out G3.out (by have := HGk.out.lt; omega) hbx (by have := T0.out.le; omega)).mono ?_
     rintro e W5 ⟨rfl, d', h1, h2, h3, h4, h5⟩
     have G5 := hid h3
     have B5 := hid (((BelowX.of (gb := gb) B3.out).trans (h5.mono (Nat.le_of_lt G3.out.lt))).below (Nat.le_refl gb))
     have X5 := hid (h5.box X3.out hfg)
     have T5 := hid (T0.out.step h1 h2 h4)
     clear h1 h2 h3 h4 h5 hbx hba B3 G3 X3 HBk HGk HXk P1 C1 C4 T0 hbg
     have l8 := box_get X5.out Y8.out
     go_wp2_with fail
     with_reducible refine (C2.out _ d' B5.out G5.out (by have := T5.out.le; omega)).mono ?_
     rintro e W6 ⟨rfl, d2, h1, h2, h3, h4, h5⟩
     have G6 := hid h3
     have B6 := hid (((BelowX.of (gb := gb) B5.out).trans (h5.mono (Nat.le_of_lt G5.out.lt))).below (Nat.le_refl gb))
     have X6 := hid (h5.box X5.out hfg)
     have T6 := hid (T5.out.step h1 h2 h4)
     clear h1 h2 h3 h4 h5 B5 G5 X5 T5 l8
     have P2 : Hid (∀ (j : Nat) (u : Value), [Value.int .i64 v1, .int .i64 v2, .string v3, .bool v4, .slice v5 v6 v7][j]? = some u → W6.cell? ⟨fb, 9 + j, none⟩ = some u) := hid fun j u h => X6.out _ u (HVC.out j u h)
     go_wp2_with (with_reducible refine wpList_load_at (o := ⟨some 42, _, _, _, _, _⟩) rfl _ _ rfl fb 9 rfl [.int .i64 v1, .int .i64 v2, .string v3, .bool v4, .slice v5 v6 v7] _ P2.out Tryz.underlying40 rfl Z2.out ?_)
     have hbx := BoxAt.new W6 [.int .i64 v1, .int .i64 v2, .string v3, .bool v4, .slice v5 v6 v7] 40
     have hba : Below W6.heap.size W6 (W6.alloc (.cells [Value.int .i64 v1, .int .i64 v2, .string v3, .bool v4, .slice v5 v6 v7].toArray 40 (0, 0))) := (Below.refl _ _).alloc (Nat.le_refl _) _
     have B7 := hid (B6.out.trans (hba.mono (Nat.le_of_lt G6.out.lt)))
     have G7 := hid (G6.out.below hba G6.out.lt)
     with_reducible refine (C3.out _ W6.heap.size d2 B7.out G7.out (by have := G6.out.lt; omega) hbx (by have := T6.out.le; omega)).mono ?_
     rintro e W8 ⟨rfl, d3, h1, h2, h3, h4, h5⟩
     have G8 := hid h3
     have B8 := hid (((BelowX.of (gb := gb) B7.out).trans (h5.mono (Nat.le_of_lt G7.out.lt))).below (Nat.le_refl gb))
     have T8 := hid (T6.out.step h1 h2 h4)
     clear h1 h2 h3 h4 h5 hbx hba B7 G7 B6 G6 X6 T6 P2
     go_wp2_with fail
     go_roundg (go - 1)
     case measure => omega
     case rel => exact ⟨i + 1, d3, by go_num, by omega, by omega, G8, B8, by rw [HDL.out]; exact T8⟩
  ·obtain rfl : i = L := by omega
   have hT := HT.out
   rw [← HL.out, List.drop_length, deepFs] at hT
   have K := hid hT
   have c0 := HG.out.deepest
   clear HT hT
   go_wp2_with fail
   go_ret
   exact ⟨dc, rfl, by have := K.out.1; omega, by have := K.out.2; rw [Nat.max_zero] at this; exact this, by rw [HGB.out]; exact HB.out⟩
/- Contracts of tree.Deep, tree.Right. -/

set_option maxHeartbeats 2000000 in
theorem tRight_any (l : List TreeP.Fn) (w : World) (v : Value) (hw : wFs l ≤ 1048576) (hin : ProgIn w v l) (T : Tabs w) :
  Calls Tryz.prog 22 #[v] w fun r w' => r = .returned (.bool (rightP l)) ∧ Below w.heap.size w w' := by
 have hd := depth_any l 40 w v (by omega) hw hin
 rw [show ((40 : Nat) : Int) = 40 from rfl] at hd
 have HD := hid hd
 have HC : Hid (∀ W, Below w.heap.size w W → Calls Tryz.prog 38 #[v, .func (.func 39) #[] #[]] W fun r w' => r = .returned (.bool (l.all rightF && decide (l.length ≤ 30))) ∧ Below W.heap.size W w') :=
  hid fun W hb => rightAll_any l W v (hin.keep (Keeps.of_below hb)) hw (T.below hb)
 have hR : rightP l = (l.all rightF && decide (l.length ≤ 30) && decide (deepFs l ≤ 40)) := rfl
 rw [hR]
 have hle := deepFs_le l
 have hle2 : deepFs l ≤ 1048576 := by omega
 generalize (l.all rightF && decide (l.length ≤ 30)) = A at *
 generalize deepFs l = D at *
 obtain ⟨R, hRR⟩ : ∃ R, (A && decide (D ≤ 40)) = R := ⟨_, rfl⟩
 rw [hRR]
 have HRR := hid hRR
 clear hRR
 clear hd hin hw T hR hle
 go_enter Tryz.func22, Tryz.ntmps22
 go_wp2_with fail
 with_reducible refine HD.out.mono ?_
 rintro e W ⟨d', rfl, h1, h2, h3⟩
 have e := Capped.le h2
 have HB := hid h3
 by_cases hd : d' ≤ 40
 ·have e2 : decide (D ≤ 40) = true := by rw [← e]; simpa using hd
  have K : Hid (A = R) := hid (by rw [← HRR.out, e2, Bool.and_true])
  have CC := hid (HC.out W h3)
  clear h1 h2 h3 e e2 HC HD
  go_wp2_with fail
  with_reducible refine CC.out.mono ?_
  rintro e W2 ⟨rfl, h4⟩
  have HB2 := hid (HB.out.trans (h4.mono HB.out.size))
  clear h4
  go_wp2_with fail
  go_ret
  exact ⟨ret_bool K.out, HB2.out⟩
 ·have e2 : decide (D ≤ 40) = false := by rw [← e]; simpa using hd
  have K : Hid (false = R) := hid (by rw [← HRR.out, e2, Bool.and_false])
  clear h1 h2 h3 e e2 HC HD
  go_wp2_with fail
  go_ret
  exact ⟨ret_bool K.out, HB.out⟩
end Go.Proofs.YtemflcojebanlaaGreatDoor.TreeC
/- Contracts of names.endsInMain, names.Check. -/
namespace Go.Proofs.YtemflcojebanlaaGreatDoor.NmC
open Go Go.RowKit Go.Lib Go.Sort Go.Maps LexP TreeP LexC TreeC NmP ErrAs

/-- why the last function is no main; 0: it is one -/
def lastC (l : List TreeP.Fn) : Int := match l.getLast? with
 | none => 4
 | some f => if mainB f then (if bareB f then 0 else 5) else 4
theorem goN_end (l : List TreeP.Fn) : goN l [] = if lastC l = 0 then (0, -1) else (lastC l, (l.length : Int)) := by
 rw [goN]
 unfold lastC
 cases h : l.getLast? with
 | none =>
  have : l = [] := by simpa using h
  subst this
  rfl
 | some f =>
  simp only
  cases mainB f <;> cases bareB f <;> rfl
set_option maxHeartbeats 8000000 in
set_option maxRecDepth 100000 in
theorem endsInMain_any (l : List TreeP.Fn) (v : Value) (ab : Nat) (p : Int) (w : World) (hl : l.length ≤ 1048576) (hin : ProgIn w v l) (hp : w.cell? ⟨ab, 0, none⟩ = some (.int .i64 p)) :
  Calls Tryz.prog 25 #[v, .func (.func 23) #[] #[.pointer (some ⟨ab, 0, none⟩)]] w (FoPost w p (lastC l)) := by
 have CW := hid (fun (c : Int) (W : World) (k : Below w.heap.size w W) => wrong_any c p ab W (later k hp))
 obtain ⟨q, cap, rfl, hcap, _⟩ := id hin.1
 rw [List.length_map] at *
 have HX := hid hin.1
 have HI := hid hin.2
 generalize hL : l.length = L at *
 have HL := hid hL
 clear hin hp
 cases L with
 | zero =>
  have hnil : l = [] := List.length_eq_zero_iff.1 hL
  subst hnil
  go_enter Tryz.func25, Tryz.ntmps25
  go_wp2_with fail
  refine (CW.out 4 w (Below.refl _ _)).mono ?_
  rintro e W9 ⟨rfl, hf9, hb9⟩
  go_wp2_with fail
  go_ret
  exact ⟨hb9, fun h => absurd h (by decide), fun _ => ⟨_, rfl, hf9⟩⟩
 | succ m =>
  obtain ⟨f, ht⟩ : ∃ f, l[m]? = some f := ⟨l[m]'(by rw [hL]; omega), List.getElem?_eq_getElem _⟩
  have hlast : l.getLast? = some f := by rw [List.getLast?_eq_getElem?, hL]; exact ht
  obtain ⟨R, hR⟩ : ∃ R, lastC l = R := ⟨_, rfl⟩
  rw [hR]
  unfold lastC at hR
  rw [hlast] at hR
  simp only at hR
  obtain ⟨b, off, cap', e, _, hx⟩ := Lies.at HX.out (i := m) (by rw [List.length_map, HL.out]; omega)
  injection e with e1 e2 e3
  subst e1
  clear e2 e3
  have hx' := hx m _ (by rw [List.getElem?_map, ht]; rfl)
  have hfi := HI.out f (List.mem_of_getElem? ht)
  obtain ⟨⟨pl', cll', el, _⟩, ⟨⟨pp', cp', ep, _⟩, _⟩, _⟩ := id hfi
  obtain ⟨nm, pl, zl, cll, li, pp, zp, cp, pars, gik, gn, gm, pg, zg, cg, gq, po, zo, co, lio, pd, zd, cd, lib, ke, ne, te, me, pe, ze, ce, qe, rfl⟩ := fn_parts hfi
  simp only [List.length_map] at el ep
  injection el with e1 e2 e3
  subst e1 e2 e3
  injection ep with e1 e2 e3
  subst e1 e2 e3
  unfold mainB bareB at hR
  simp only at hR
  rw [show (Ty.mk gik gn gm (.slice pg zg cg) gq).kind = gik from rfl, show (bs nm == [109, 97, 105, 110]) = (nm.toList == [109, 97, 105, 110]) by rw [Lib.toList_data]] at hR
  generalize li.length = NL at *
  generalize pars.length = NP at *
  have x0 : w.cell? ⟨b, off + m * 14, none⟩ = some (.string nm) := hx' 0 _ rfl
  have x1 : w.cell? ⟨b, off + m * 14 + 1, none⟩ = some (.slice pl NL cll) := hx' 1 _ rfl
  have x2 : w.cell? ⟨b, off + m * 14 + 2, none⟩ = some (.slice pp NP cp) := hx' 2 _ rfl
  have x3 : w.cell? ⟨b, off + m * 14 + 3, none⟩ = some (.int .i64 gik) := hx' 3 _ rfl
  have x4 : w.cell? ⟨b, off + m * 14 + 4, none⟩ = some (.string gn) := hx' 4 _ rfl
  have x5 : w.cell? ⟨b, off + m * 14 + 5, none⟩ = some (.bool gm) := hx' 5 _ rfl
  have x6 : w.cell? ⟨b, off + m * 14 + 6, none⟩ = some (.slice pg zg cg) := hx' 6 _ rfl
  have x7 : w.cell? ⟨b, off + m * 14 + 7, none⟩ = some (.slice po zo co) := hx' 7 _ rfl
  have x8 : w.cell? ⟨b, off + m * 14 + 8, none⟩ = some (.slice pd zd cd) := hx' 8 _ rfl
  have x9 : w.cell? ⟨b, off + m * 14 + 9, none⟩ = some (.int .i64 ke) := hx' 9 _ rfl
  have x10 : w.cell? ⟨b, off + m * 14 + 10, none⟩ = some (.int .i64 ne) := hx' 10 _ rfl
  have x11 : w.cell? ⟨b, off + m * 14 + 11, none⟩ = some (.string te) := hx' 11 _ rfl
  have x12 : w.cell? ⟨b, off + m * 14 + 12, none⟩ = some (.bool me) := hx' 12 _ rfl
  have x13 : w.cell? ⟨b, off + m * 14 + 13, none⟩ = some (.slice pe ze ce) := hx' 13 _ rfl
  have B1 := hid (show Below w.heap.size w (w.alloc (.cells #[.string nm, .slice pl NL cll, .slice pp NP cp, .int .i64 gik, .string gn, .bool gm, .slice pg zg cg, .slice po zo co, .slice pd zd cd, .int .i64 ke, .int .i64 ne, .string te, .bool me, .slice pe ze ce] 42)) from (Below.refl _ _).alloc (Nat.le_refl _) _)
  have im : (((m + 1 : Nat) : Int) == 0) = false := by simp; omega
  have im1 : ((m + 1 : Nat) : Int) - 1 = (m : Int) := by omega
  clear hx hx' hfi ht hlast hL HX HI
  cases hn : (nm.toList == [109, 97, 105, 110]) with
  | false =>
   rw [hn] at hR
   simp only [Bool.false_eq_true, if_false] at hR
   subst hR
   go_enter Tryz.func25, Tryz.ntmps25
   go_wp2_with fail
   refine (CW.out 4 _ B1.out).mono ?_
   rintro e W9 ⟨rfl, hf9, hb9⟩
   go_wp2_with fail
   go_ret
   rw [World.size_alloc] at hf9
   exact ⟨B1.out.trans (hb9.mono B1.out.size), fun h => absurd h (by decide), fun _ => ⟨_, rfl, hf9⟩⟩
  | true =>
   rw [hn, if_pos rfl] at hR
   by_cases hbare : NL = 0 ∧ NP = 0 ∧ gik = 1
   ·obtain ⟨rfl, rfl, rfl⟩ := hbare
    simp only [beq_self_eq_true, Bool.and_self, if_true] at hR
    subst hR
    go_enter Tryz.func25, Tryz.ntmps25
    go_wp2_with fail
    go_ret
    exact ⟨B1.out, fun _ => rfl, fun h => absurd rfl h⟩
   ·have hf : (NL == 0 && NP == 0 && gik == 1) = false := by
     rw [← Bool.not_eq_true]
     intro h
     simp only [Bool.and_eq_true, beq_iff_eq] at h
     exact hbare ⟨h.1.1, h.1.2, h.2⟩
    rw [hf] at hR
    simp only [Bool.false_eq_true, if_false] at hR
    subst hR
    by_cases hN : NL = 0
    ·subst hN
     by_cases hP : NP = 0
     ·subst hP
      have hk2 : (gik != 1) = true := by
       have : gik ≠ 1 := fun h => hbare ⟨rfl, rfl, h⟩
       simp [this]
      go_enter Tryz.func25, Tryz.ntmps25
      go_wp2_with fail
      refine (CW.out 5 _ B1.out).mono ?_
      rintro e W9 ⟨rfl, hf9, hb9⟩
      go_wp2_with fail
      go_ret
      rw [World.size_alloc] at hf9
      exact ⟨B1.out.trans (hb9.mono B1.out.size), fun h => absurd h (by decide), fun _ => ⟨_, rfl, hf9⟩⟩
     ·have hk2 : (0 : Int) < (NP : Int) := by omega
      go_enter Tryz.func25, Tryz.ntmps25
      go_wp2_with fail
      refine (CW.out 5 _ B1.out).mono ?_
      rintro e W9 ⟨rfl, hf9, hb9⟩
      go_wp2_with fail
      go_ret
      rw [World.size_alloc] at hf9
      exact ⟨B1.out.trans (hb9.mono B1.out.size), fun h => absurd h (by decide), fun _ => ⟨_, rfl, hf9⟩⟩
    ·have hk2 : (0 : Int) < (NL : Int) := by omega
     go_enter Tryz.func25, Tryz.ntmps25
     go_wp2_with fail
     refine (CW.out 5 _ B1.out).mono ?_
     rintro e W9 ⟨rfl, hf9, hb9⟩
     go_wp2_with fail
     go_ret
     rw [World.size_alloc] at hf9
     exact ⟨B1.out.trans (hb9.mono B1.out.size), fun h => absurd h (by decide), fun _ => ⟨_, rfl, hf9⟩⟩
/- Contract of names.Check. -/

/-- what Check answers of a program of which the document says a code, and a place -/
def CkPost (w : World) (ca : Int × Int) (r : Ending) (w' : World) : Prop :=
 Below w.heap.size w w' ∧ ((ca = (2, -1) ∧ r = .returned (.iface 55 (.int .i64 2))) ∨ (ca = (0, -1) ∧ r = .returned .nilIface) ∨
  (0 < ca.1 ∧ 0 ≤ ca.2 ∧ ∃ b, r = .returned (.iface 56 (.pointer (some ⟨b, 0, none⟩))) ∧ FaultAt w' b ca.2 ca.1))
theorem formedN_right {l : List TreeP.Fn} (h : rightP l = true) : ∀ f ∈ l, rightF f = true := by
 unfold rightP at h
 simp only [Bool.and_eq_true, List.all_eq_true] at h
 exact h.1.1
theorem lastC_rng (l : List TreeP.Fn) : lastC l = 0 ∨ lastC l = 4 ∨ lastC l = 5 := by
 unfold lastC
 split
 ·exact .inr (.inl rfl)
 ·split
  ·split <;> simp
  ·simp
theorem box_set {W : World} {B : Nat} {v : Value} {t : TypeId} (h : W.heap[B]? = some (.cells #[v] t (0, 0))) (v' : Value) : (W.setCell ⟨B, 0, none⟩ v').heap[B]? = some (.cells #[v'] t (0, 0)) := by
 simp only [World.setCell, Array.getElem?_modify, if_true, h]
 rfl
set_option maxHeartbeats 8000000 in
set_option maxRecDepth 100000 in
theorem check_any (l : List TreeP.Fn) (v : Value) (w : World) (hw : wFs l ≤ 1048576) (hin : ProgIn w v l) (T : Tabs w) :
  Calls Tryz.prog 10 #[v] w (CkPost w (checkN l)) := by
 have hmk := @run_makeMap Tryz.prog
 have hlen := wFs_len l
 have CR := hid (tRight_any l w v (by omega) hin T)
 have CM := hid (fun (ab : Nat) (p : Int) (W : World) (k : Below w.heap.size w W) (hp : W.cell? ⟨ab, 0, none⟩ = some (.int .i64 p)) => endsInMain_any l v ab p W (by omega) (hin.keep (Keeps.of_below k)) hp)
 obtain ⟨ca, hR⟩ : ∃ ca, checkN l = ca := ⟨_, rfl⟩
 rw [hR]
 obtain ⟨q, hq⟩ : ∃ q, rightP l = q := ⟨_, rfl⟩
 unfold checkN at hR
 rw [hq] at CR hR
 cases q with
 | false =>
  have K : ca = (2, -1) := by rw [← hR]; rfl
  subst K
  clear hR hq hin CM
  go_enter Tryz.func10, Tryz.ntmps10
  go_wp2_with fail
  refine CR.out.mono ?_
  rintro e W1 ⟨rfl, hb1⟩
  go_wp2_with fail
  go_ret
  exact ⟨hb1, .inl ⟨rfl, rfl⟩⟩
 | true =>
  rw [if_pos rfl] at hR
  have hall := formedN_right hq
  obtain ⟨p, cap, rfl, hcap, hx⟩ := id hin.1
  rw [List.length_map] at *
  have HS := hid hR
  have HX := hid hin.1
  have HI := hid hin.2
  have HRT := hid hall
  have HSZ := hid (fun (i : Nat) (f : TreeP.Fn) (h : l[i]? = some f) => wFs_get l i f h)
  generalize hL : l.length = L at *
  have HL := hid hL
  have hLb : L ≤ 1048576 := by omega
  clear hx hL hin hR hall hq T
  go_enter Tryz.func10, Tryz.ntmps10
  go_wp2_with fail
  refine CR.out.mono ?_
  rintro e W1 ⟨rfl, hb1⟩
  have B1 := hid hb1
  have hab := hb1.size
  clear CR hb1
  go_wp2_with fail
  have A0 := hid (ahead_made (W1.alloc (.cells #[.int .i64 0] 3)))
  have B2 := hid ((B1.out.alloc B1.out.size (.cells #[.int .i64 0] 3)).alloc (by rw [World.size_alloc]; omega) (.map #[] 0))
  have H0 : Hid (((W1.alloc (.cells #[.int .i64 0] 3)).alloc (.map #[] 0)).heap[W1.heap.size]? = some (.cells #[.int .i64 ((0 : Nat) : Int)] 3 (0, 0))) := hid ((heap_alloc_old _ _ (by rw [World.size_alloc]; omega)).trans (heap_alloc_new _ _))
  rw [World.size_alloc] at A0
  generalize World.alloc (World.alloc W1 _) _ = W2 at *
  generalize W1.heap.size = ab at *
  go_loopg [17] L (fun gf u wx => ∃ i : Nat, u = .int .i64 (i : Int) ∧ i ≤ L ∧ L ≤ i + gf ∧ Hid (goN (l.take i) (l.drop i) = ca) ∧ Hid (AheadAt wx (ab + 1) (l.take i)) ∧ Hid (wx.heap[ab]? = some (.cells #[.int .i64 (i : Int)] 3 (0, 0))) ∧ Hid (Below w.heap.size w wx))
  case atStart => exact ⟨0, rfl, by omega, by omega, HS, A0, H0, B2⟩
  case round =>
   obtain ⟨i, rfl, hi, hg, HG, HA, HC, HB⟩ := hrel
   clear A0 H0 B2 HS B1
   have hcell : wr.cell? ⟨ab, 0, none⟩ = some (.int .i64 (i : Int)) := cell_of_row wr ab 0 _ _ _ HC.out
   have hfz : wr.frozen? ⟨ab, 0, none⟩ = false := by unfold World.frozen?; rw [HC.out]; rfl
   by_cases hlt : i < L
   ·obtain ⟨f, ht⟩ : ∃ f, l[i]? = some f := ⟨l[i]'(by rw [HL.out]; exact hlt), List.getElem?_eq_getElem _⟩
    obtain ⟨b, off, cap', e, _, hx⟩ := Lies.at (HX.out.keep (Keeps.of_below HB.out)) (i := i) (by rw [List.length_map, HL.out]; exact hlt)
    injection e with e1 e2 e3
    subst e1
    clear e2 e3
    have hx' := hx i _ (by rw [List.getElem?_map, ht]; rfl)
    have hfi := (HI.out f (List.mem_of_getElem? ht)).keep (Keeps.of_below HB.out)
    have hgo := goN_drop ht
    rw [HG.out, formed_eq f _ (HRT.out f (List.mem_of_getElem? ht))] at hgo
    have hwf := HSZ.out i f ht
    have hrg := formedN_rng f (l.take i)
    rw [formed_eq f _ (HRT.out f (List.mem_of_getElem? ht))] at hrg
    have CF := fun (W : World) (h : Below wr.heap.size wr W) => formed_any f (l.take i) (ab + 1) ab (i : Int) W (by omega) (hfi.keep (Keeps.of_below h)) (HA.out.below h) (later h hcell)
    have hnone : formedP f (l.take i) = 0 → parsN (bs f.name) (l.take i) = none := fun h => by
     unfold formedP headP at h
     cases hp : parsN (bs f.name) (l.take i) with
     | none => rfl
     | some x => rw [hp] at h; simp at h
    have hnsz : f.name.size ≤ 1048576 := by unfold wF at hwf; omega
    have hpsz : f.pars.length ≤ 1048576 := by have := wPas_len f.pars; unfold wF at hwf; omega
    have htk : l.take (i + 1) = l.take i ++ [f] := by rw [List.take_add_one, ht]; rfl
    have htl : (l.take i).length ≤ 4194304 := by rw [List.length_take, HL.out]; omega
    obtain ⟨⟨_, _, ep, _⟩, _⟩ := id hfi.2.1
    have HNS := hid hnsz
    have HTL := hid htl
    have HNN := hid hnone
    have HPS := hid hpsz
    generalize formedP f (l.take i) = code at *
    obtain ⟨nm, pl, zl, cll, li, pp, zp, cp, pars, gik, gn, gm, pg, zg, cg, gq, po, zo, co, lio, pd, zd, cd, lib, ke, ne, te, me, pe, ze, ce, qe, rfl⟩ := fn_parts hfi
    simp only [List.length_map] at ep
    injection ep with e1 e2 e3
    subst e1 e2 e3
    rw [fn_val] at CF
    have x0 : wr.cell? ⟨b, off + i * 14, none⟩ = some (.string nm) := hx' 0 _ rfl
    have x1 : wr.cell? ⟨b, off + i * 14 + 1, none⟩ = some (.slice pl zl cll) := hx' 1 _ rfl
    have x2 : wr.cell? ⟨b, off + i * 14 + 2, none⟩ = some (.slice pp pars.length cp) := hx' 2 _ rfl
    have x3 : wr.cell? ⟨b, off + i * 14 + 3, none⟩ = some (.int .i64 gik) := hx' 3 _ rfl
    have x4 : wr.cell? ⟨b, off + i * 14 + 4, none⟩ = some (.string gn) := hx' 4 _ rfl
    have x5 : wr.cell? ⟨b, off + i * 14 + 5, none⟩ = some (.bool gm) := hx' 5 _ rfl
    have x6 : wr.cell? ⟨b, off + i * 14 + 6, none⟩ = some (.slice pg zg cg) := hx' 6 _ rfl
    have x7 : wr.cell? ⟨b, off + i * 14 + 7, none⟩ = some (.slice po zo co) := hx' 7 _ rfl
    have x8 : wr.cell? ⟨b, off + i * 14 + 8, none⟩ = some (.slice pd zd cd) := hx' 8 _ rfl
    have x9 : wr.cell? ⟨b, off + i * 14 + 9, none⟩ = some (.int .i64 ke) := hx' 9 _ rfl
    have x10 : wr.cell? ⟨b, off + i * 14 + 10, none⟩ = some (.int .i64 ne) := hx' 10 _ rfl
    have x11 : wr.cell? ⟨b, off + i * 14 + 11, none⟩ = some (.string te) := hx' 11 _ rfl
    have x12 : wr.cell? ⟨b, off + i * 14 + 12, none⟩ = some (.bool me) := hx' 12 _ rfl
    have x13 : wr.cell? ⟨b, off + i * 14 + 13, none⟩ = some (.slice pe ze ce) := hx' 13 _ rfl
    have hb2 : Below wr.heap.size wr (wr.alloc (.cells #[.string nm, .slice pl zl cll, .slice pp pars.length cp, .int .i64 gik, .string gn, .bool gm, .slice pg zg cg, .slice po zo co, .slice pd zd cd, .int .i64 ke, .int .i64 ne, .string te, .bool me, .slice pe ze ce] 42)) := (Below.refl _ _).alloc (Nat.le_refl _) _
    have X2 : Hid (BoxAt (wr.alloc (.cells #[.string nm, .slice pl zl cll, .slice pp pars.length cp, .int .i64 gik, .string gn, .bool gm, .slice pg zg cg, .slice po zo co, .slice pd zd cd, .int .i64 ke, .int .i64 ne, .string te, .bool me, .slice pe ze ce] 42)) wr.heap.size [.string nm, .slice pl zl cll, .slice pp pars.length cp, .int .i64 gik, .string gn, .bool gm, .slice pg zg cg, .slice po zo co, .slice pd zd cd, .int .i64 ke, .int .i64 ne, .string te, .bool me, .slice pe ze ce]) := hid (BoxAt.new wr _ _)
    have C1 := hid (CF _ hb2)
    have HA2 := hid (HA.out.below hb2)
    have HC2 := hid ((hb2.block ab ((Array.getElem?_eq_some_iff.1 HC.out).1)).trans HC.out)
    have HB2 := hid (HB.out.trans (hb2.mono HB.out.size))
    have HGO := hid hgo
    have HTK := hid htk
    clear hx hx' hfi ht hgo hwf CF hnone hnsz hpsz htk htl hb2 HG
    go_wp2_with fail
    refine C1.out.mono ?_
    rintro e W3 ⟨hb3, h1, h2⟩
    have HB3 := hid (HB2.out.trans (hb3.mono HB2.out.size))
    have HA3 := hid (HA2.out.below hb3)
    have HC3 := hid ((hb3.block ab ((Array.getElem?_eq_some_iff.1 HC2.out).1)).trans HC2.out)
    have X3 := hid (X2.out.later hb3)
    clear C1 hb3 HA2 HC2 X2 hcell hfz HA HC
    by_cases hc : code = 0
    ·have := h1 hc
     subst this
     have c3 : W3.cell? ⟨ab, 0, none⟩ = some (.int .i64 (i : Int)) := cell_of_row W3 ab 0 _ _ _ HC3.out
     have f3 : W3.frozen? ⟨ab, 0, none⟩ = false := by unfold World.frozen?; rw [HC3.out]; rfl
     have d0 := box_get X3.out (j := 0) rfl
     have d2 := box_get X3.out (j := 2) rfl
     have HG3 : Hid (goN (l.take (i + 1)) (l.drop (i + 1)) = ca) := hid (by rw [HGO.out, if_pos hc])
     have HCC := hid hc
     clear h1 h2 HGO hc
     go_wp2_with (at_mapUpdate; refine wpList_put_ahead rfl _ _ _ rfl (ab + 1) (l.take i) (TreeP.Fn.mk nm (.slice pl zl cll) li (.slice pp pars.length cp) pars (.mk gik gn gm (.slice pg zg cg) gq) (.slice po zo co) lio (.slice pd zd cd) lib (.mk ke ne te me (.slice pe ze ce) qe)) rfl rfl rfl HA3.out HNS.out HTL.out (HNN.out HCC.out) HPS.out ?_; intro w4 ha4 hg4; have c4 := (hg4.cell_far ⟨ab, 0, none⟩ (World.block_lt_of_cell? _ _ c3) (by simp)).trans c3; have f4 := (hg4.frozen_far ⟨ab, 0, none⟩ (World.block_lt_of_cell? _ _ c3) (by simp)).trans f3)
     have HB4 := hid ((HB3.out.grown hg4 HB3.out.size (fun r hr => by injection hr with hr; omega)).setCell (p := ⟨ab, 0, none⟩) hab (.int .i64 ((i : Int) + 1)))
     have HA4 : Hid (AheadAt (w4.setCell ⟨ab, 0, none⟩ (.int .i64 ((i : Int) + 1))) (ab + 1) (l.take (i + 1))) := hid (by
      rw [HTK.out]
      obtain ⟨D, h1, h2⟩ := ha4
      exact ⟨D, h1.setCell (by show ab + 1 ≠ ab; omega) _, h2⟩)
     have HC4 : Hid ((w4.setCell ⟨ab, 0, none⟩ (.int .i64 ((i : Int) + 1))).heap[ab]? = some (.cells #[.int .i64 ((i + 1 : Nat) : Int)] 3 (0, 0))) := hid (box_set ((hg4.block ab (World.block_lt_of_cell? _ _ c3) (by simp)).trans HC3.out) _)
     clear ha4 hg4 c4 f4 c3 f3 d0 d2
     go_wp2_with fail
     go_roundg (gk - 1)
     case measure => omega
     case rel => exact ⟨i + 1, by go_num, by omega, by omega, HG3, HA4, HC4, HB4⟩
    ·obtain ⟨bb, rfl, hf⟩ := h2 hc
     have hca := HGO.out
     rw [if_neg hc] at hca
     subst hca
     clear h1 h2 HGO
     go_wp2_with fail
     go_ret
     exact ⟨HB3.out, .inr (.inr ⟨by simp only; omega, by simp only; omega, bb, rfl, hf⟩)⟩
   ·obtain rfl : i = L := by omega
    have hgo : goN l [] = ca := by have := HG.out; rw [← HL.out, List.take_length, List.drop_length] at this; exact this
    rw [goN_end, HL.out] at hgo
    have hrg := lastC_rng l
    have C1 := hid (CM.out ab (i : Int) wr HB.out hcell)
    generalize lastC l = c at *
    have HGO := hid hgo
    have HRG := hid hrg
    clear HG hgo hrg CM
    go_wp2_with fail
    refine C1.out.mono ?_
    rintro e W3 ⟨hb3, h1, h2⟩
    have B3 := hid (HB.out.trans (hb3.mono HB.out.size))
    by_cases hc : c = 0
    ·have := h1 hc
     subst this
     have hca := HGO.out
     rw [if_pos hc] at hca
     go_wp2_with fail
     go_ret
     exact ⟨B3.out, .inr (.inl ⟨hca.symm, rfl⟩)⟩
    ·obtain ⟨b, rfl, hf⟩ := h2 hc
     have hca := HGO.out
     rw [if_neg hc] at hca
     subst hca
     go_wp2_with fail
     go_ret
     exact ⟨B3.out, .inr (.inr ⟨by simp only; have := HRG.out; omega, by simp only; omega, b, rfl, hf⟩)⟩
end Go.Proofs.YtemflcojebanlaaGreatDoor.NmC

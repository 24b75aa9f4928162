/- Texts joined: TextF, PageM, TreeTX, TreeTY. -/
import Derived.Test.YtjkdcladjjpmoaaGreatDoorJ22
import Derived.Test.YtjkdcladjjpmoaaGreatDoorJ23
import Derived.Test.YtjkdcladjjpmoaaGreatDoorJ17
import Derived.Test.YtjkdcladjjpmoaaGreatDoorJ12
/- How long a function's text is at most; contract of lienbookref02.lives. -/
namespace Go.Proofs.YtjkdcladjjpmoaaGreatDoor.TextC
open Go Go.RowKit Go.Lib Go.Sort Go.Proofs.YtjkdcladjjpmoaaGreatDoor.LexP Go.Proofs.YtjkdcladjjpmoaaGreatDoor.TreeP Go.Proofs.YtjkdcladjjpmoaaGreatDoor.LexC Go.Proofs.YtjkdcladjjpmoaaGreatDoor.TreeC Go.Proofs.YtjkdcladjjpmoaaGreatDoor.PageC

theorem life_len (s : ByteArray) : (lifeB s).length = 1 + s.size := by
  unfold lifeB
  rw [List.length_append, show (bs s).length = s.size from (size_eq s).symm]
  rfl
theorem lens_lives : ∀ l : List ByteArray, lens (l.map lifeB) ≤ 3 * wNs l
  | [] => by simp [lens]
  | s :: l => by rw [List.map_cons, lens, wNs, life_len]; have := lens_lives l; omega
theorem pa_len (p : Pa) : (textPa p).length + 2 ≤ 2 * wPa p := by
  unfold textPa wPa
  have := len_T p.type
  rw [List.length_append, List.length_append, show (bs p.name).length = p.name.size from (size_eq _).symm]
  simp only [List.length_cons, List.length_nil]
  omega
theorem lens_pars : ∀ l : List Pa, lens (l.map textPa) ≤ 2 * wPas l
  | [] => by simp [lens]
  | s :: l => by rw [List.map_cons, lens, wPas]; have := lens_pars l; have := pa_len s; omega
theorem lens_pairs : ∀ l : List ByteArray, lens (pairs l) ≤ 3 * wNs l
  | [] => by simp [pairs, lens]
  | [x] => by simp [pairs, lens]
  | a :: b :: l => by
    rw [pairs, lens, wNs, wNs, List.length_append, List.length_append, life_len, life_len]
    have := lens_pairs l
    simp only [List.length_cons, List.length_nil]
    omega
theorem len_F (f : TreeP.Fn) (h : wF f ≤ 1048576) : (textF f).length ≤ 5000000000000 := by
  unfold wF at h
  have h1 := row_len (f.lives.map lifeB)
  have h2 := lens_lives f.lives
  have h3 := row_len (f.pars.map textPa)
  have h4 := lens_pars f.pars
  have h5 := len_T f.gives
  have h6 := row_len (pairs f.outs)
  have h7 := lens_pairs f.outs
  have h8 := len_num f.body [9] (by simp only [List.length_cons, List.length_nil]; omega)
  have h9 := len_E f.value
  have h10 : (bs f.name).length = f.name.size := (size_eq _).symm
  unfold textF
  repeat' split
  all_goals (simp only [List.length_append, List.length_cons, List.length_nil]; omega)
theorem len_Fs : ∀ l : List TreeP.Fn, wFs l ≤ 1048576 → (textFs l).length ≤ l.length * 5000000000000
  | [], _ => by simp [textFs]
  | f :: l, h => by
    rw [wFs] at h
    have h1 := len_F f (by omega)
    have h2 := len_Fs l (by omega)
    rw [textFs, List.length_append, List.length_cons]
    omega

set_option maxHeartbeats 8000000 in
set_option maxRecDepth 100000 in
theorem lives_r (l : List ByteArray) (v : Value) (w : World) (hl : Lies w 1 v (l.map nmCells)) (hn : l.length ≤ 1048576) (hs : ∀ s ∈ l, s.size ≤ 1048576) :
    Calls Tryz.prog 48 #[v] w fun e w' => ∃ u, e = .returned u ∧ Lies w' 1 u ((strs (l.map lifeB)).map fun x => [x]) ∧ Below w.heap.size w w' := by
  obtain ⟨i0, hinf, hi0⟩ := Option.map_eq_some_iff.1 str_info
  have hz0 : i0.zero = some (.string ⟨#[]⟩) := by rw [Prod.mk.injEq] at hi0; exact hi0.1
  have hz1 : i0.size = 1 := by rw [Prod.mk.injEq, Prod.mk.injEq] at hi0; exact hi0.2.1
  have hz2 : i0.bytes = 16 := by rw [Prod.mk.injEq, Prod.mk.injEq] at hi0; exact hi0.2.2
  clear hi0
  obtain ⟨p, cap, rfl, hcap, hqq⟩ := id hl
  rw [List.length_map] at *
  have O0 : Hid (w.ownsRow w.heap.size 9 1 (.slice none 0 0) 0 (strs ((l.map lifeB).take 0))) := hid (by rw [List.take_zero]; exact World.ownsRow_nil _ _ _ _)
  have B0 := hid (Below.refl w.heap.size w)
  have HTS := hid (fun (i : Nat) (x : ByteArray) (h : l[i]? = some x) => (show (l.map lifeB)[i]? = some (lifeB x) by rw [List.getElem?_map, h]; rfl))
  have HTL := hid (show (l.map lifeB).length = l.length from List.length_map ..)
  generalize l.map lifeB = ts at *
  generalize hL : l.length = L at *
  have HL := hid hL
  have HX := hid hl
  have HSZ := hid hs
  clear hl hL hs hqq hcap
  go_enter Tryz.func48, Tryz.ntmps48
  go_wp2_with fail
  go_loopg [3, 4] L (fun gf u v wx => ∃ i : Nat, v = .int .i64 (i : Int) ∧ i ≤ L ∧ L ≤ i + gf ∧ Hid (wx.ownsRow w.heap.size 9 1 u i (strs (ts.take i))) ∧ Hid (Below w.heap.size w wx))
  case atStart => exact ⟨0, rfl, by omega, by omega, O0, B0⟩
  case round =>
    obtain ⟨i, rfl, hi, hg, HO, HB⟩ := hrel
    clear O0 B0
    by_cases hlt : i < L
    · obtain ⟨x, ht⟩ : ∃ x, l[i]? = some x := ⟨l[i]'(by rw [HL.out]; exact hlt), List.getElem?_eq_getElem _⟩
      obtain ⟨b, off, cap', e, hcc, hx⟩ := Lies.at (HX.out.keep (Keeps.of_below HB.out)) (i := i) (by rw [List.length_map, HL.out]; exact hlt)
      injection e with e1 e2 e3
      subst e1
      clear e2 e3 hcc
      have hc : wr.cell? ⟨b, off + i, none⟩ = some (.string x) := by
        have := hx i [.string x] (by rw [List.getElem?_map, ht]; rfl) 0 _ rfl
        rw [Nat.mul_one, Nat.add_zero] at this
        exact this
      have hsn : strs (ts.take (i + 1)) = strs (ts.take i) ++ [.string (Sb [39] ++ x)] := by
        rw [List.take_add_one, HTS.out i x ht, ← Sb_bs x, Sb_app, Sb_bs]
        exact strs_snoc _ _
      have hxs := HSZ.out x (List.mem_of_getElem? ht)
      have HSN := hid hsn
      have hs3 : w.heap.size ≤ wr.heap.size := HB.out.size
      clear hx ht hsn
      go_wp2_with (at_builtin; refine wpList_append_own _ rfl _ _ 46 rfl w.heap.size 9 i0 _ 1 16 Tryz.underlying46 hinf hz0 hz1 hz2 rfl (by decide) _ _ _ rfl (HO.out.alloc _) ⟨wr.heap.size, 0, none⟩ 1 1 [.string (⟨#[39]⟩ ++ x)] rfl rfl ?c1 ?c2 ?c3 ?c4 ?c5 ?_)
      case c1 =>
        intro j u hj
        match j, hj with
        | 0, hj => simp at hj; subst hj; simp [Addr.add]
      case c2 => intro u hu; simp at hu; subst hu; rfl
      case c3 => unfold maxLen; omega
      case c4 => omega
      case c5 => rw [show (wr.alloc _).heap.size = wr.heap.size + 1 from Array.size_push ..]; omega
      intro v' w2 hown' hgrow _
      have g1 : Below w.heap.size wr w2 := ((Below.refl _ _).alloc (by omega) _).grown hgrow (by rw [show (wr.alloc _).heap.size = wr.heap.size + 1 from Array.size_push ..]; omega) (fun k hk => (HO.out.lt k hk).1)
      have G1 := hid (HB.out.trans g1)
      have K : Hid (w2.ownsRow w.heap.size 9 1 v' (i + 1) (strs (ts.take (i + 1)))) := hid (by rw [HSN.out]; exact hown')
      clear hown' hgrow g1
      go_wp2_with fail
      go_roundg (gk - 1)
      case measure => omega
      case rel => exact ⟨i + 1, by go_num, by omega, by omega, K, G1⟩
    · obtain rfl : i = L := by omega
      have hown := HO.out
      have hle : ts.length = i := HTL.out
      rw [← hle, List.take_length] at hown
      have KL := hid (owns_strs hown)
      clear hown hle HO HTS HTL
      go_wp2_with fail
      go_ret
      exact ⟨_, rfl, KL.out, HB.out⟩
end Go.Proofs.YtjkdcladjjpmoaaGreatDoor.TextC
/- Contract of (*tree.page).fn, of any right function. -/
namespace Go.Proofs.YtjkdcladjjpmoaaGreatDoor.PageC
open Go Go.RowKit Go.Lib Go.Sort Go.Proofs.YtjkdcladjjpmoaaGreatDoor.LexP Go.Proofs.YtjkdcladjjpmoaaGreatDoor.TreeP Go.Proofs.YtjkdcladjjpmoaaGreatDoor.LexC Go.Proofs.YtjkdcladjjpmoaaGreatDoor.TreeC

theorem Ctx.keeps2 {w0 : World} {pb : Nat} {r : Option Nat} {w : World} (h : Ctx w0 pb r w) : Keeps w0 (hush2 pb r w) := fun b o u hc => by
  have hlt : b < w0.heap.size := World.block_lt_of_cell? _ _ hc
  exact hush2_in (h.keeps _ _ _ hc) (by have := h.page; omega) (fun e => by have := h.row b e.symm; omega)
theorem wNs_mem {l : List ByteArray} {x : ByteArray} (h : x ∈ l) : x.size ≤ wNs l := by
  obtain ⟨i, hi, e⟩ := List.mem_iff_getElem.1 h
  have := wNs_get l i x (by rw [List.getElem?_eq_getElem hi, e])
  omega
theorem wPas_mem {l : List Pa} {x : Pa} (h : x ∈ l) : wPa x ≤ wPas l := by
  obtain ⟨i, hi, e⟩ := List.mem_iff_getElem.1 h
  exact wPas_get l i x (by rw [List.getElem?_eq_getElem hi, e])

set_option maxHeartbeats 4000000 in
theorem fn_any (pb : Nat) (w0 : World) (hf : Fmt w0) (hcl : Collects w0) (f : TreeP.Fn) (r : Option Nat) (T : List UInt8) (w : World) (hw : wF f ≤ 1048576) (hr : rightF f = true) (hin : f.In w0) (hp : Page w pb r T) (hc : Ctx w0 pb r w) :
    Calls Tryz.prog 43 #[.pointer (some ⟨pb, 0, none⟩), .agg (TreeP.Fn.cells f).toArray] w (Prints pb r w (T ++ textF f)) := by
  have hwf := hw
  unfold wF at hwf
  unfold rightF at hr
  simp only [Bool.and_eq_true] at hr
  obtain ⟨⟨⟨⟨⟨⟨⟨⟨⟨r1, r2⟩, r3⟩, r4⟩, r5⟩, r6⟩, r7⟩, r8⟩, r9⟩, r10⟩ := hr
  obtain ⟨iL, ⟨iP, iPs⟩, iG, iO, ⟨iB, iBs⟩, iV⟩ := hin
  obtain ⟨z0, z1, z2, z7, z8⟩ := fn_one f
  have hlives : f.lives.length ≤ 30 := by unfold namesB at r3; simp only [Bool.and_eq_true] at r3; simpa using r3.2
  have houts : f.outs.length ≤ 30 := by unfold namesB at r6; simp only [Bool.and_eq_true] at r6; simpa using r6.2
  have hpars : f.pars.length ≤ 30 := by simpa using r4
  have heven : f.outs.length % 2 = 0 := by simpa using r7
  have hbody : rightSs f.body = true := by unfold rightL at r8; simp only [Bool.and_eq_true] at r8; exact r8.1
  obtain ⟨lp, lc, hlv, _, _⟩ := id iL
  rw [List.length_map] at hlv
  obtain ⟨op, oc, hov, _, _⟩ := id iO
  rw [List.length_map] at hov
  rw [hlv] at z1 iL
  rw [hov] at z7 iO
  have hnm : f.name.size ≤ 1048576 := by omega
  have sT : Says pb w0 95 #[.pointer (some ⟨pb, 0, none⟩), .agg f.gives.cells.toArray] (textT f.gives) := fun W r T h1 h2 => typ_any pb w0 (wT f.gives) f.gives r T W (Nat.le_refl _) (by omega) r5 iG h1 h2
  have sE : Says pb w0 101 #[.pointer (some ⟨pb, 0, none⟩), .agg f.value.cells.toArray] (textE f.value) := fun W r T h1 h2 => expr_any pb w0 hf (wE f.value) f.value r T W (Nat.le_refl _) (by omega) r10 iV h1 h2
  have sB : Says pb w0 100 #[.pointer (some ⟨pb, 0, none⟩), f.bodyV, .string ⟨#[9]⟩] (textSs [9] f.body) := fun W r T h1 h2 => stmts_any pb w0 hf (wSs f.body) f.body f.bodyV ⟨#[9]⟩ r T W (Nat.le_refl _) (by show 1 + _ ≤ _; omega) hbody iB iBs h1 h2
  have sL : Says pb w0 91 #[.pointer (some ⟨pb, 0, none⟩), .slice lp f.lives.length lc, .func (.func 92) #[.pointer (some ⟨pb, 0, none⟩)] #[]] (TreeP.row (f.lives.map lifeB)) := fun W r T h1 h2 =>
    row_names pb w0 lifeB f.lives _ r T W h1 h2 (iL.keep h2.keeps2) (by omega) fun x hx W r2 T _ h3 _ => life_any pb x r2 T W h3 (by have := wNs_mem hx; omega)
  have sP : Says pb w0 93 #[.pointer (some ⟨pb, 0, none⟩), f.parsV, .func (.func 94) #[.pointer (some ⟨pb, 0, none⟩)] #[]] (TreeP.row (f.pars.map textPa)) := fun W r T h1 h2 =>
    row_paSize pb w0 textPa f.pars _ r T W h1 h2 iP (by omega) (fun x hx => pa_ones (iPs x hx)) fun x hx W r2 T h3 h4 => by
      have h5 := List.all_eq_true.1 r1 x hx
      unfold rightPa at h5
      simp only [Bool.and_eq_true] at h5
      exact param_any pb w0 x r2 T W (by have := wPas_mem hx; omega) h5.2 (iPs x hx) h3 h4
  have hgc : ∀ (j : Nat) (u : Value), f.gives.cells[j]? = some u → (TreeP.Fn.cells f)[3 + j]? = some u := fun j u h => fn_gives h
  have hvc : ∀ (j : Nat) (u : Value), f.value.cells[j]? = some u → (TreeP.Fn.cells f)[9 + j]? = some u := fun j u h => fn_value h
  have cases_out : 0 < f.outs.length → (∀ W, Below w0.heap.size w0 W → Calls Tryz.prog 98 #[.slice op f.outs.length oc, .int .i64 2] W fun e W1 => ∃ fv, e = .returned fv ∧ Below W.heap.size W W1 ∧ Calls Tryz.prog 97 #[fv] W1 fun e W2 => ∃ u, e = .returned u ∧ Below W1.heap.size W1 W2 ∧ ∀ (pb : Nat) (r : Option Nat), pb < W1.heap.size → (∀ g, r = some g → g < W1.heap.size) → Lies (hush2 pb r W2) 1 u ((pairsV (.slice op f.outs.length oc) f.outs.length).map fun x => [x])) ∧
      (∀ (u : Value) (r : Option Nat) (T : List UInt8) (W : World), Page W pb r T → Ctx w0 pb r W → Lies (hush2 pb r W) 1 u ((pairsV (.slice op f.outs.length oc) f.outs.length).map fun x => [x]) → Calls Tryz.prog 96 #[.pointer (some ⟨pb, 0, none⟩), u, .func (.func 99) #[.pointer (some ⟨pb, 0, none⟩)] #[]] W (Prints pb r W (T ++ TreeP.row (pairs f.outs)))) := fun hpos => by
    refine ⟨fun W hb => hcl f.outs _ W iO heven houts hpos hb, fun u r T W h1 h2 h3 => ?_⟩
    rw [← pairs_text iO heven hpos]
    refine row_pairs pb w0 (pairText w0) (pairsV (.slice op f.outs.length oc) f.outs.length) u r T W h1 h2 h3 ?_ fun x hx W r2 T _ h4 h5 => ?_
    · unfold pairsV
      split
      · rw [List.length_map, List.length_range]; omega
      · simp
    · obtain ⟨b, off, cap, e, _, _⟩ := Lies.at iO (i := 0) (by rw [List.length_map]; exact hpos)
      injection e with e1 _ _
      subst e1
      unfold pairsV at hx
      dsimp only at hx
      obtain ⟨i, hi, rfl⟩ := List.mem_map.1 hx
      rw [List.mem_range] at hi
      obtain ⟨a, c, h6, h7, h8, h9⟩ := pair_at iO (i := i) (by omega)
      rw [h8]
      exact out_any pb w0 a c _ r2 T W h4 h5 h9 (by have := wNs_mem (List.mem_of_getElem? h6); omega) (by have := wNs_mem (List.mem_of_getElem? h7); omega)
  by_cases hl : f.lives.length = 0 <;> by_cases ho : f.outs.length = 0
  · exact fn_00 pb w0 r T w _ _ hp hc f.name hnm z0 lp _ lc z1 hl f.parsV z2 _ sP f.gives.cells hgc (tySize _) _ sT op _ oc z7 ho f.bodyV z8 _ sB f.value.cells hvc (exSize _) _ sE (by
      unfold textF; rw [if_pos hl, if_pos ho]; simp only [List.append_assoc, List.nil_append])
  · obtain ⟨c1, c2⟩ := cases_out (by omega)
    exact fn_01 pb w0 r T w _ _ hp hc f.name hnm z0 lp _ lc z1 hl f.parsV z2 _ sP f.gives.cells hgc (tySize _) _ sT op _ oc z7 (by omega) houts _ _ c1 c2 f.bodyV z8 _ sB f.value.cells hvc (exSize _) _ sE (by
      unfold textF; rw [if_pos hl, if_neg ho]; simp only [List.append_assoc, List.nil_append])
  · exact fn_10 pb w0 r T w _ _ hp hc f.name hnm z0 lp _ lc z1 (by omega) hlives _ sL f.parsV z2 _ sP f.gives.cells hgc (tySize _) _ sT op _ oc z7 ho f.bodyV z8 _ sB f.value.cells hvc (exSize _) _ sE (by
      unfold textF; rw [if_neg hl, if_pos ho]; simp only [List.append_assoc, List.nil_append])
  · obtain ⟨c1, c2⟩ := cases_out (by omega)
    exact fn_11 pb w0 r T w _ _ hp hc f.name hnm z0 lp _ lc z1 (by omega) hlives _ sL f.parsV z2 _ sP f.gives.cells hgc (tySize _) _ sT op _ oc z7 (by omega) houts _ _ c1 c2 f.bodyV z8 _ sB f.value.cells hvc (exSize _) _ sE (by
      unfold textF; rw [if_neg hl, if_neg ho]; simp only [List.append_assoc])
end Go.Proofs.YtjkdcladjjpmoaaGreatDoor.PageC
/- Contract of tree.depth. -/
namespace Go.Proofs.YtjkdcladjjpmoaaGreatDoor.TreeC
open Go Go.RowKit Go.Lib Go.Sort Go.Proofs.YtjkdcladjjpmoaaGreatDoor.LexP Go.Proofs.YtjkdcladjjpmoaaGreatDoor.TreeP Go.Proofs.YtjkdcladjjpmoaaGreatDoor.LexC

/-- what the gauge shows, and what is still to be seen -/
def Todo (lim d x R : Nat) : Prop := max d x ≤ R ∧ Capped lim (max d x) R
theorem Todo.step {lim d d' a b R : Nat} (h : Todo lim d (max a b) R) (h1 : d ≤ d') (h2 : d' ≤ max d a) (h3 : Capped lim d' (max d a)) : Todo lim d' b R := by
  unfold Todo Capped at *
  omega
theorem Todo.le {lim d x R : Nat} (h : Todo lim d x R) : max d x ≤ R := h.1
theorem deepAt_oneT (t : Ty) : deepAt deepT 0 [t] = deepT t := by simp only [deepAt]; omega
theorem deepAt_oneE (t : Ex) : deepAt deepE 0 [t] = deepE t := by simp only [deepAt]; omega
theorem deepAt_zeroS (l : List St) : deepAt deepS 0 l = deepSs l := by rw [deepAt_st]; omega
theorem wAll_oneT (t : Ty) : wAll wT [t] = wT t := rfl
theorem wAll_oneE (t : Ex) : wAll nE [t] ≤ wE t := by have := nE_le t; simp only [wAll]; omega
theorem lies_single {w : World} {b : Nat} {c : List Value} (h : BoxAt w b c) : Lies w c.length (.slice (some ⟨b, 0, none⟩) 1 1) [c] := lies_one h

/-- one type, laid into a block of its own, is shown to the gauge -/
theorem show_type (t : Ty) (gb dc lim nb : Nat) (W : World) (hlim : lim ≤ 9223372036854775807) (hg : GaugeAt W gb dc lim) (hn : nb ≠ gb) (hb : BoxAt W nb t.cells) (hin : t.In (hush gb W)) (hw : wT t ≤ 1048576) (hd : max dc (deepT t) ≤ 4194304) :
    Calls Tryz.prog 69 #[.pointer (some ⟨gb, 0, none⟩), .agg #[.int .i64 0, .slice (some ⟨nb, 0, none⟩) 1 1], .func (.func 70) #[] #[]] W fun r w' => r = .returned (.tuple #[]) ∧
      ∃ d', dc ≤ d' ∧ d' ≤ max dc (deepT t) ∧ GaugeAt w' gb d' lim ∧ Capped lim d' (max dc (deepT t)) ∧ BelowX gb W.heap.size W w' := by
  have hbx : BoxAt (hush gb W) nb t.cells := fun j u hj => hush_in (hb j u hj) hn
  have h := sound_tySize ⟨0, .slice (some ⟨nb, 0, none⟩) 1 1, [t]⟩ gb dc lim W hg ⟨by
    have := lies_single hbx
    obtain ⟨k, l, m, v, kids⟩ := t
    exact this, by rw [Ty.Ins, Ty.Ins]; exact ⟨hin, trivial⟩, by intro x hx; rw [List.mem_singleton] at hx; rw [hx]; exact hw, by show 1 ≤ _; omega⟩ (by show wAll wT [t] ≤ _; rw [wAll_oneT]; exact hw) (by show max dc (deepAt deepT 0 [t]) ≤ _; rw [deepAt_oneT]; exact hd) hlim (opensT gb lim W) inT_ok
  dsimp only at h
  rw [deepAt_oneT] at h
  exact h
theorem show_expr (t : Ex) (gb dc lim nb : Nat) (W : World) (hlim : lim ≤ 9223372036854775807) (hg : GaugeAt W gb dc lim) (hn : nb ≠ gb) (hb : BoxAt W nb t.cells) (hin : t.In (hush gb W)) (hw : wE t ≤ 1048576) (hd : max dc (deepE t) ≤ 4194304) :
    Calls Tryz.prog 73 #[.pointer (some ⟨gb, 0, none⟩), .agg #[.int .i64 0, .slice (some ⟨nb, 0, none⟩) 1 1], .func (.func 74) #[] #[]] W fun r w' => r = .returned (.tuple #[]) ∧
      ∃ d', dc ≤ d' ∧ d' ≤ max dc (deepE t) ∧ GaugeAt w' gb d' lim ∧ Capped lim d' (max dc (deepE t)) ∧ BelowX gb W.heap.size W w' := by
  have hbx : BoxAt (hush gb W) nb t.cells := fun j u hj => hush_in (hb j u hj) hn
  have h := sound_exSize ⟨0, .slice (some ⟨nb, 0, none⟩) 1 1, [t]⟩ gb dc lim W hg ⟨by
    have := lies_single hbx
    obtain ⟨k, n, l, m, v, kids⟩ := t
    exact this, by rw [Ex.Ins, Ex.Ins]; exact ⟨hin, trivial⟩, by intro x hx; rw [List.mem_singleton] at hx; rw [hx]; exact hw, by show 1 ≤ _; omega⟩ (by show wAll nE [t] ≤ _; have := wAll_oneE t; omega) (by show max dc (deepAt deepE 0 [t]) ≤ _; rw [deepAt_oneE]; exact hd) hlim (opensE gb lim W) inE_ok
  dsimp only at h
  rw [deepAt_oneE] at h
  exact h
theorem show_stmts (l : List St) (v : Value) (gb dc lim : Nat) (W : World) (hlim : lim ≤ 9223372036854775807) (hg : GaugeAt W gb dc lim) (hl : Lies (hush gb W) 14 v (l.map St.cells)) (hin : St.Ins (hush gb W) l) (hw : wSs l ≤ 1048576) (hd : max dc (deepSs l) ≤ 4194304) :
    Calls Tryz.prog 71 #[.pointer (some ⟨gb, 0, none⟩), .agg #[.int .i64 0, v], .func (.func 72) #[.pointer (some ⟨gb, 0, none⟩)] #[]] W fun r w' => r = .returned (.tuple #[]) ∧
      ∃ d', dc ≤ d' ∧ d' ≤ max dc (deepSs l) ∧ GaugeAt w' gb d' lim ∧ Capped lim d' (max dc (deepSs l)) ∧ BelowX gb W.heap.size W w' := by
  have hlen := wSs_len l
  have h := sound_stSize ⟨0, v, l⟩ gb dc lim W hg ⟨hl, hin, fun x hx => by have := mem_wS (l := l) hx; omega, by show l.length ≤ _; omega⟩ (by show wAll nS l ≤ _; rw [wAll_st]; have := nSs_le l; omega) (by show max dc (deepAt deepS 0 l) ≤ _; rw [deepAt_zeroS]; exact hd) hlim (opensS gb lim W hlim) inS_ok
  dsimp only at h
  rw [deepAt_zeroS] at h
  exact h

theorem deepFs_snd (f : TreeP.Fn) (l : List TreeP.Fn) : max (deepF f) (deepFs l) = max (deepPs f.pars) (max (deepT f.gives) (max (deepSs f.body) (max (deepE f.value) (deepFs l)))) := by unfold deepF; omega

set_option maxHeartbeats 8000000 in
set_option maxRecDepth 100000 in
theorem depth_any (l : List TreeP.Fn) (lim : Nat) (w : World) (v : Value) (hlim : lim ≤ 9223372036854775807) (hw : wFs l ≤ 1048576) (hin : ProgIn w v l) :
    Calls Tryz.prog 35 #[v, .int .i64 (lim : Int)] w fun r w' => ∃ d' : Nat, r = .returned (.int .i64 (d' : Int)) ∧ d' ≤ deepFs l ∧ Capped lim d' (deepFs l) ∧ Below w.heap.size w w' := by
  obtain ⟨hl, hI⟩ := hin
  have hlen := wFs_len l
  obtain ⟨p, cap, rfl, hcap, hx⟩ := id hl
  rw [List.length_map] at *
  have hLR := deepFs_le l
  obtain ⟨R, hR⟩ : ∃ R, deepFs l = R := ⟨_, rfl⟩
  rw [hR] at hLR ⊢
  generalize hL : l.length = L at *
  have HR := hid hR
  have HL := hid hL
  have HX := hid hl
  have HI := hid hI
  have HW := hid hw
  have HLI := hid hlim
  have hR4 : R ≤ 1048576 := by omega
  have hL4 : L ≤ 1048576 := by omega
  clear hx hL hl hI hR hLR hcap
  have G0 := hid (GaugeAt.new w lim)
  have B0 := hid (show Below w.heap.size w (w.alloc (.cells #[.int .i64 0, .int .i64 (lim : Int)] 113 (0, 0))) from (Below.refl _ _).alloc (Nat.le_refl _) _)
  have T0 : Hid (Todo lim 0 (deepFs (l.drop 0)) R) := hid (by rw [List.drop_zero, HR.out]; exact ⟨by omega, .inl (by omega)⟩)
  obtain ⟨gb, hgb⟩ : ∃ gb, w.heap.size = gb := ⟨_, rfl⟩
  rw [hgb] at G0 B0
  have HGB := hid hgb
  clear hw hlim
  go_enter Tryz.func35, Tryz.ntmps35
  go_wp2_with fail
  clear hgb
  generalize World.alloc w _ = W0 at *
  go_loopg [14] L (fun gf v wx => ∃ i dc : Nat, v = .int .i64 (i : Int) ∧ i ≤ L ∧ L ≤ i + gf ∧ Hid (GaugeAt wx gb dc lim) ∧ Hid (Below gb w wx) ∧ Hid (Todo lim dc (deepFs (l.drop i)) R))
  case atStart => exact ⟨0, 0, rfl, by omega, by omega, G0, B0, T0⟩
  case round =>
    obtain ⟨i, dc, rfl, hi, hg, HG, HB, HT⟩ := hrel
    clear G0 B0 T0
    have HB' : Below w.heap.size w wr := by rw [HGB.out]; exact HB.out
    by_cases hlt : i < L
    · obtain ⟨f, ht⟩ : ∃ f, l[i]? = some f := ⟨l[i]'(by rw [HL.out]; exact hlt), List.getElem?_eq_getElem _⟩
      obtain ⟨b, off, cap', e, _, hx⟩ := Lies.at (HX.out.keep (Keeps.of_below HB')) (i := i) (by rw [List.length_map, HL.out]; exact hlt)
      injection e with e1 e2 e3
      subst e1
      clear e2 e3
      have hx' : ∀ (j : Nat) (u : Value), (TreeP.Fn.cells f)[j]? = some u → wr.cell? ⟨b, off + i * 14 + j, none⟩ = some u := hx i (TreeP.Fn.cells f) (by rw [List.getElem?_map, ht]; rfl)
      have hws := wFs_get l i f ht
      have hinF : f.In w := HI.out f (List.mem_of_getElem? ht)
      have hT := HT.out
      rw [drop_cons ht, deepFs, deepFs_snd] at hT
      have ho := fn_ones hinF
      unfold Ones at ho
      have hz := fnSize f
      obtain ⟨_, ⟨iP, iPs⟩, iG, _, ⟨iB, iBs⟩, iV⟩ := hinF
      obtain ⟨_, _, z2, _, z8⟩ := fn_one f
      obtain ⟨pp, pcap, hpv, hpcap, _⟩ := id iP
      rw [List.length_map] at hpv hpcap
      have hHI : ∀ W : World, Below gb w W → Keeps w (hush gb W) := fun W hb => hush_old (by rw [HGB.out]; exact hb) (by rw [HGB.out]; exact Nat.le_refl _)
      have gcE : ∃ (a : Int) (s : ByteArray) (m : Bool) (q : Option Addr) (x y : Nat), f.gives.cells = [.int .i64 a, .string s, .bool m, .slice q x y] := by
        generalize f.gives = g at iG
        obtain ⟨a, s, m, v, k⟩ := g
        rw [Ty.In] at iG
        obtain ⟨q, c, rfl, _⟩ := iG.1
        exact ⟨a, s, m, q, _, c, rfl⟩
      have vcE : ∃ (a n : Int) (s : ByteArray) (m : Bool) (q : Option Addr) (x y : Nat), f.value.cells = [.int .i64 a, .int .i64 n, .string s, .bool m, .slice q x y] := by
        generalize f.value = g at iV
        obtain ⟨a, n, s, m, v, k⟩ := g
        rw [Ex.In] at iV
        obtain ⟨q, c, rfl, _⟩ := iV.2.1
        exact ⟨a, n, s, m, q, _, c, rfl⟩
      obtain ⟨bp, bcap, hbv, hbcap, _⟩ := id iB
      rw [List.length_map] at hbv hbcap
      have hwf := hws
      unfold wF at hwf
      have q5 := wPas_len f.pars
      have tcE : Hid (∀ (k : Nat) (pa : Pa), f.pars[k]? = some pa → ∃ (a : Int) (s : ByteArray) (m : Bool) (q : Option Addr) (x y : Nat), pa.type.cells = [.int .i64 a, .string s, .bool m, .slice q x y]) := hid fun k pa hp => by
        have h := iPs pa (List.mem_of_getElem? hp)
        unfold Pa.In at h
        generalize pa.type = g at h
        obtain ⟨a, s, m, v, k⟩ := g
        rw [Ty.In] at h
        obtain ⟨q, c, rfl, _⟩ := h.1
        exact ⟨a, s, m, q, _, c, rfl⟩
      have C4 : Hid (∀ (k : Nat) (pa : Pa), f.pars[k]? = some pa → ∀ (W : World) (nb dk : Nat), Below gb w W → GaugeAt W gb dk lim → nb ≠ gb → BoxAt W nb pa.type.cells → max dk (deepT pa.type) ≤ 4194304 → Calls Tryz.prog 69 #[.pointer (some ⟨gb, 0, none⟩), .agg #[.int .i64 0, .slice (some ⟨nb, 0, none⟩) 1 1], .func (.func 70) #[] #[]] W fun r w' => r = .returned (.tuple #[]) ∧
          ∃ d', dk ≤ d' ∧ d' ≤ max dk (deepT pa.type) ∧ GaugeAt w' gb d' lim ∧ Capped lim d' (max dk (deepT pa.type)) ∧ BelowX gb W.heap.size W w') := hid fun k pa hp W nb dk hb hg hn hbx hd => by
        have := wPas_get f.pars k pa hp
        unfold wPa at this
        have hw := HW.out
        exact show_type pa.type gb dk lim nb W HLI.out hg hn hbx (Ty.In.keep (hHI W hb) _ (iPs pa (List.mem_of_getElem? hp))) (by omega) hd
      have C1 : Hid (∀ (W : World) (nb dk : Nat), Below gb w W → GaugeAt W gb dk lim → nb ≠ gb → BoxAt W nb f.gives.cells → max dk (deepT f.gives) ≤ 4194304 → Calls Tryz.prog 69 #[.pointer (some ⟨gb, 0, none⟩), .agg #[.int .i64 0, .slice (some ⟨nb, 0, none⟩) 1 1], .func (.func 70) #[] #[]] W fun r w' => r = .returned (.tuple #[]) ∧
          ∃ d', dk ≤ d' ∧ d' ≤ max dk (deepT f.gives) ∧ GaugeAt w' gb d' lim ∧ Capped lim d' (max dk (deepT f.gives)) ∧ BelowX gb W.heap.size W w') := hid fun W nb dk hb hg hn hbx hd => by
        have hw := HW.out
        exact show_type f.gives gb dk lim nb W HLI.out hg hn hbx (Ty.In.keep (hHI W hb) _ iG) (by omega) hd
      have C3 : Hid (∀ (W : World) (nb dk : Nat), Below gb w W → GaugeAt W gb dk lim → nb ≠ gb → BoxAt W nb f.value.cells → max dk (deepE f.value) ≤ 4194304 → Calls Tryz.prog 73 #[.pointer (some ⟨gb, 0, none⟩), .agg #[.int .i64 0, .slice (some ⟨nb, 0, none⟩) 1 1], .func (.func 74) #[] #[]] W fun r w' => r = .returned (.tuple #[]) ∧
          ∃ d', dk ≤ d' ∧ d' ≤ max dk (deepE f.value) ∧ GaugeAt w' gb d' lim ∧ Capped lim d' (max dk (deepE f.value)) ∧ BelowX gb W.heap.size W w') := hid fun W nb dk hb hg hn hbx hd => by
        have hw := HW.out
        exact show_expr f.value gb dk lim nb W HLI.out hg hn hbx (Ex.In.keep (hHI W hb) _ iV) (by omega) hd
      have C2 : Hid (∀ (W : World) (dk : Nat), Below gb w W → GaugeAt W gb dk lim → max dk (deepSs f.body) ≤ 4194304 → Calls Tryz.prog 71 #[.pointer (some ⟨gb, 0, none⟩), .agg #[.int .i64 0, .slice bp f.body.length bcap], .func (.func 72) #[.pointer (some ⟨gb, 0, none⟩)] #[]] W fun r w' => r = .returned (.tuple #[]) ∧
          ∃ d', dk ≤ d' ∧ d' ≤ max dk (deepSs f.body) ∧ GaugeAt w' gb d' lim ∧ Capped lim d' (max dk (deepSs f.body)) ∧ BelowX gb W.heap.size W w') := hid fun W dk hb hg hd => by
        have hw := HW.out
        exact show_stmts f.body _ gb dk lim W HLI.out hg (by rw [← hbv]; exact iB.keep (hHI W hb)) (St.Ins.keep (hHI W hb) _ iBs) (by omega) hd
      have PON : Hid (∀ (k : Nat) (pa : Pa), f.pars[k]? = some pa → (Pa.cells pa).toArray.all (·.oneCell') = true) := hid fun k pa hp => pa_ones (iPs pa (List.mem_of_getElem? hp))
      have HGC : Hid (∀ (j : Nat) (u : Value), f.gives.cells[j]? = some u → (TreeP.Fn.cells f)[3 + j]? = some u) := hid fun j u h => fn_gives h
      have HVC : Hid (∀ (j : Nat) (u : Value), f.value.cells[j]? = some u → (TreeP.Fn.cells f)[9 + j]? = some u) := hid fun j u h => fn_value h
      have Z1 := hid (tySize f.gives)
      have Z2 := hid (exSize f.value)
      rw [hpv] at z2 iP
      rw [hbv] at z8
      have hQ4 : f.pars.length ≤ 1048576 := by have := HW.out; omega
      generalize hDL : deepFs (l.drop (i + 1)) = DL at *
      have HDL := hid hDL
      clear hDL
      generalize deepT f.gives = D1 at *
      generalize deepSs f.body = D2 at *
      generalize deepE f.value = D3 at *
      generalize f.gives.cells = gcs at *
      generalize f.value.cells = vcs at *
      obtain ⟨g1, g2, g3, g4, g5, g6, rfl⟩ := gcE
      obtain ⟨v1, v2, v3, v4, v5, v6, v7, rfl⟩ := vcE
      generalize TreeP.Fn.cells f = fcs at *
      generalize f.body.length = BL at *
      generalize f.pars = pars at *
      generalize hQ : pars.length = Q at *
      have HQ := hid hQ
      have HTT := hid hT
      have IP := hid iP
      have HX' := hid hx'
      have H1C := hid ho
      have Y2 := hid z2
      have Y8 := hid z8
      have ZF := hid hz
      have ZA : Hid ((Tryz.prog.info? 53).map (·.size) = some fcs.toArray.size) := hid (by rw [List.size_toArray]; exact hz)
      have ZO : Hid ((#[.string ⟨#[]⟩, .slice none 0 0, .slice none 0 0, .int .i64 0, .string ⟨#[]⟩, .bool false, .slice none 0 0, .slice none 0 0, .slice none 0 0, .int .i64 0, .int .i64 0, .string ⟨#[]⟩, .bool false, .slice none 0 0] : Array Value).size = fcs.toArray.size) := hid (by
        rw [show (Tryz.prog.info? 53).map (·.size) = some 14 by kernel_rfl] at hz
        exact Option.some.inj hz)
      have hb2 : Below wr.heap.size wr ((wr.alloc (.cells #[.string ⟨#[]⟩, .slice none 0 0, .slice none 0 0, .int .i64 0, .string ⟨#[]⟩, .bool false, .slice none 0 0, .slice none 0 0, .slice none 0 0, .int .i64 0, .int .i64 0, .string ⟨#[]⟩, .bool false, .slice none 0 0] 53 (0, 0))).setRow wr.heap.size fcs.toArray) := rowed_below' _ _ _
      have hX2 : BoxAt ((wr.alloc (.cells #[.string ⟨#[]⟩, .slice none 0 0, .slice none 0 0, .int .i64 0, .string ⟨#[]⟩, .bool false, .slice none 0 0, .slice none 0 0, .slice none 0 0, .int .i64 0, .int .i64 0, .string ⟨#[]⟩, .bool false, .slice none 0 0] 53 (0, 0))).setRow wr.heap.size fcs.toArray) wr.heap.size fcs := rowed_box' _ _ _ _
      have XX := hid hX2
      have B2 := hid (HB.out.trans (hb2.mono (by have := HB'.size; rw [HGB.out] at this; exact this)))
      have G2 := hid (HG.out.below hb2 HG.out.lt)
      have hfg : wr.heap.size ≠ gb := by have := HG.out.lt; omega
      have l2 := box_get hX2 z2
      clear hx hx' ht hws iP iPs iG iB iBs iV z2 z8 hpv hbv hT hwf ho hz hQ hHI hb2 hX2 HB' hpcap hbcap q5
      go_wp2_with (first | (with_reducible refine wpList_load_at (o := ⟨some 17, _, _, _, _, _⟩) rfl _ _ rfl b (off + i * 14) rfl fcs _ HX'.out Tryz.underlying53 rfl ZF.out ?_) | (with_reducible refine wpList_store_row (o := ⟨none, _, _, _, _, _⟩) rfl _ _ _ rfl wr.heap.size fcs.toArray rfl rfl _ _ (heap_alloc_new _ _) ZA.out ZO.out H1C.out ?_))
      generalize World.setRow _ _ _ = W2 at *
      generalize wr.heap.size = fb at *
      clear ZF ZA ZO H1C HX' HG l2
      obtain ⟨go, rfl⟩ : ∃ go : Nat, go = gk := ⟨_, rfl⟩
      go_loopg [21] Q (fun gf v wx => ∃ k dk : Nat, v = .int .i64 (k : Int) ∧ k ≤ Q ∧ Q ≤ k + gf ∧ Hid (GaugeAt wx gb dk lim) ∧ Hid (Below gb w wx) ∧ Hid (BoxAt wx fb fcs) ∧ Hid (Todo lim dk (max (deepPs (pars.drop k)) (max D1 (max D2 (max D3 DL)))) R))
      case atStart => exact ⟨0, dc, rfl, by omega, by omega, G2, B2, XX, HTT⟩
      case round =>
        obtain ⟨k, dk, rfl, hk, hgk, HGk, HBk, HXk, HTk⟩ := hrel
        clear G2 B2 XX HTT
        by_cases hkQ : k < Q
        · obtain ⟨pa, hpa⟩ : ∃ pa, pars[k]? = some pa := ⟨pars[k]'(by rw [HQ.out]; exact hkQ), List.getElem?_eq_getElem _⟩
          obtain ⟨b2, off2, cap2, e, _, hx2⟩ := Lies.at (IP.out.keep (Keeps.of_below (w := w) (by rw [HGB.out]; exact HBk.out))) (i := k) (by rw [List.length_map, HQ.out]; exact hkQ)
          injection e with e1 e2 e3
          subst e1
          clear e2 e3
          have hx3 : ∀ (j : Nat) (u : Value), (Pa.cells pa)[j]? = some u → wr.cell? ⟨b2, off2 + k * 5 + j, none⟩ = some u := hx2 k (Pa.cells pa) (by rw [List.getElem?_map, hpa]; rfl)
          have ht3 : ∀ (j : Nat) (u : Value), pa.type.cells[j]? = some u → (Pa.cells pa)[1 + j]? = some u := fun j u h => pa_type h
          have cD := C4.out k pa hpa
          have hTk := HTk.out
          rw [drop_cons hpa, deepPs] at hTk
          rw [show max (max (deepT pa.type) (deepPs (pars.drop (k + 1)))) (max D1 (max D2 (max D3 DL))) = max (deepT pa.type) (max (deepPs (pars.drop (k + 1))) (max D1 (max D2 (max D3 DL)))) by omega] at hTk
          have ZP := hid (paSize pa)
          have ZT := hid (tySize pa.type)
          have hop := PON.out k pa hpa
          obtain ⟨t1, t2, t3, t4, t5, t6, htc⟩ := tcE.out k pa hpa
          rw [htc] at ht3 cD ZT
          generalize deepT pa.type = q at *
          generalize hDR : deepPs (pars.drop (k + 1)) = DR at *
          have HDR := hid hDR
          clear hDR
          generalize Pa.cells pa = pcs at *
          have hb2 : Below wr.heap.size wr ((wr.alloc (.cells #[.string ⟨#[]⟩, .int .i64 0, .string ⟨#[]⟩, .bool false, .slice none 0 0] 59 (0, 0))).setRow wr.heap.size pcs.toArray) := rowed_below' _ _ _
          have hX2 : BoxAt ((wr.alloc (.cells #[.string ⟨#[]⟩, .int .i64 0, .string ⟨#[]⟩, .bool false, .slice none 0 0] 59 (0, 0))).setRow wr.heap.size pcs.toArray) wr.heap.size pcs := rowed_box' _ _ _ _
          have hsz : ((wr.alloc (.cells #[.string ⟨#[]⟩, .int .i64 0, .string ⟨#[]⟩, .bool false, .slice none 0 0] 59 (0, 0))).setRow wr.heap.size pcs.toArray).heap.size = wr.heap.size + 1 := by simp
          have HX3 := hid hx3
          have H1C := hid hop
          have ZA : Hid ((Tryz.prog.info? 59).map (·.size) = some pcs.toArray.size) := hid (by rw [List.size_toArray]; exact ZP.out)
          have ZO : Hid ((#[.string ⟨#[]⟩, .int .i64 0, .string ⟨#[]⟩, .bool false, .slice none 0 0] : Array Value).size = pcs.toArray.size) := hid (by
            have hz := ZA.out
            rw [show (Tryz.prog.info? 59).map (·.size) = some 5 by kernel_rfl] at hz
            exact Option.some.inj hz)
          have HT3 : Hid (∀ (j : Nat) (u : Value), [Value.int .i64 t1, .string t2, .bool t3, .slice t4 t5 t6][j]? = some u → ((wr.alloc (.cells #[.string ⟨#[]⟩, .int .i64 0, .string ⟨#[]⟩, .bool false, .slice none 0 0] 59 (0, 0))).setRow wr.heap.size pcs.toArray).cell? ⟨wr.heap.size, 1 + j, none⟩ = some u) := hid fun j u h => hX2 _ u (ht3 j u h)
          have hbg : gb ≤ wr.heap.size := Nat.le_of_lt HGk.out.lt
          have B2 := hid (HBk.out.trans (hb2.mono hbg))
          have G2 := hid (HGk.out.below hb2 HGk.out.lt)
          have X2 := hid (HXk.out.later hb2)
          have CW : Hid (∀ WB : World, Below gb w WB → GaugeAt WB gb dk lim → BoxAt WB (wr.heap.size + 1) [.int .i64 t1, .string t2, .bool t3, .slice t4 t5 t6] → Calls Tryz.prog 69 #[.pointer (some ⟨gb, 0, none⟩), .agg #[.int .i64 0, .slice (some ⟨wr.heap.size + 1, 0, none⟩) 1 1], .func (.func 70) #[] #[]] WB fun r w' => r = .returned (.tuple #[]) ∧
              ∃ d', dk ≤ d' ∧ d' ≤ max dk q ∧ GaugeAt w' gb d' lim ∧ Capped lim d' (max dk q) ∧ BelowX gb WB.heap.size WB w') := hid fun WB h1 h2 h3 => cD WB (wr.heap.size + 1) dk h1 h2 (by omega) h3 (by have := hTk.1; omega)
          have HSZ := hid hsz
          have HTT := hid hTk
          clear hx2 hx3 ht3 cD hpa hop htc hb2 hX2 hsz hTk HTk
          go_wp2_with (first | (with_reducible refine wpList_load_at (o := ⟨some 24, _, _, _, _, _⟩) rfl _ _ rfl b2 (off2 + k * 5) rfl pcs _ HX3.out Tryz.underlying59 rfl ZP.out ?_) | (with_reducible refine wpList_store_row (o := ⟨none, _, _, _, _, _⟩) rfl _ _ _ rfl wr.heap.size pcs.toArray rfl rfl _ _ (heap_alloc_new _ _) ZA.out ZO.out H1C.out ?_) | (with_reducible refine wpList_load_at (o := ⟨some 26, _, _, _, _, _⟩) rfl _ _ rfl wr.heap.size 1 rfl [.int .i64 t1, .string t2, .bool t3, .slice t4 t5 t6] _ HT3.out Tryz.underlying45 rfl ZT.out ?_))
          clear ZA ZO ZP ZT H1C HX3 HT3
          generalize World.setRow _ _ _ = WA at *
          have hbx := BoxAt.new WA [.int .i64 t1, .string t2, .bool t3, .slice t4 t5 t6] 45
          rw [HSZ.out] at hbx
          have hba : Below WA.heap.size WA (WA.alloc (.cells [Value.int .i64 t1, .string t2, .bool t3, .slice t4 t5 t6].toArray 45 (0, 0))) := (Below.refl _ _).alloc (Nat.le_refl _) _
          have hga : gb ≤ WA.heap.size := Nat.le_of_lt G2.out.lt
          have B3 := hid (B2.out.trans (hba.mono hga))
          have G3 := hid (G2.out.below hba G2.out.lt)
          have X3 := hid (X2.out.later hba)
          with_reducible refine (CW.out _ B3.out G3.out hbx).mono ?_
          rintro e W5 ⟨rfl, d', h1, h2, h3, h4, h5⟩
          have G5 := hid h3
          have B5 := hid (((BelowX.of (gb := gb) B3.out).trans (h5.mono (Nat.le_of_lt G3.out.lt))).below (Nat.le_refl gb))
          have X5 := hid (h5.box X3.out hfg)
          have T5 := hid (HTT.out.step h1 h2 h4)
          clear h1 h2 h3 h4 h5 hbx hba hga B3 G3 X3 B2 G2 X2 CW
          go_wp2_with fail
          go_roundg (gk - 1)
          case measure => omega
          case rel => exact ⟨k + 1, d', by go_num, by omega, by omega, G5, B5, X5, by rw [HDR.out]; exact T5⟩
        · obtain rfl : k = Q := by omega
          have hTk := HTk.out
          rw [← HQ.out, List.drop_length, deepPs] at hTk
          rw [show max 0 (max D1 (max D2 (max D3 DL))) = max D1 (max D2 (max D3 DL)) by omega] at hTk
          have T0 := hid hTk
          have P1 : Hid (∀ (j : Nat) (u : Value), [Value.int .i64 g1, .string g2, .bool g3, .slice g4 g5 g6][j]? = some u → wr.cell? ⟨fb, 3 + j, none⟩ = some u) := hid fun j u h => HXk.out _ u (HGC.out j u h)
          have hbg : gb ≤ wr.heap.size := Nat.le_of_lt HGk.out.lt
          clear hTk HTk
          go_wp2_with (with_reducible refine wpList_load_at (o := ⟨some 32, _, _, _, _, _⟩) rfl _ _ rfl fb 3 rfl [.int .i64 g1, .string g2, .bool g3, .slice g4 g5 g6] _ P1.out Tryz.underlying45 rfl Z1.out ?_)
          have hbx := BoxAt.new wr [.int .i64 g1, .string g2, .bool g3, .slice g4 g5 g6] 45
          have hba : Below wr.heap.size wr (wr.alloc (.cells [Value.int .i64 g1, .string g2, .bool g3, .slice g4 g5 g6].toArray 45 (0, 0))) := (Below.refl _ _).alloc (Nat.le_refl _) _
          have B3 := hid (HBk.out.trans (hba.mono hbg))
          have G3 := hid (HGk.out.below hba HGk.out.lt)
          have X3 := hid (HXk.out.later hba)
          with_reducible refine (C1.out _ wr.heap.size dk B3.out G3.out (by have := HGk.out.lt; omega) hbx (by have := T0.out.le; omega)).mono ?_
          rintro e W5 ⟨rfl, d', h1, h2, h3, h4, h5⟩
          have G5 := hid h3
          have B5 := hid (((BelowX.of (gb := gb) B3.out).trans (h5.mono (Nat.le_of_lt G3.out.lt))).below (Nat.le_refl gb))
          have X5 := hid (h5.box X3.out hfg)
          have T5 := hid (T0.out.step h1 h2 h4)
          clear h1 h2 h3 h4 h5 hbx hba B3 G3 X3 HBk HGk HXk P1 C1 C4 T0 hbg
          have l8 := box_get X5.out Y8.out
          go_wp2_with fail
          with_reducible refine (C2.out _ d' B5.out G5.out (by have := T5.out.le; omega)).mono ?_
          rintro e W6 ⟨rfl, d2, h1, h2, h3, h4, h5⟩
          have G6 := hid h3
          have B6 := hid (((BelowX.of (gb := gb) B5.out).trans (h5.mono (Nat.le_of_lt G5.out.lt))).below (Nat.le_refl gb))
          have X6 := hid (h5.box X5.out hfg)
          have T6 := hid (T5.out.step h1 h2 h4)
          clear h1 h2 h3 h4 h5 B5 G5 X5 T5 l8
          have P2 : Hid (∀ (j : Nat) (u : Value), [Value.int .i64 v1, .int .i64 v2, .string v3, .bool v4, .slice v5 v6 v7][j]? = some u → W6.cell? ⟨fb, 9 + j, none⟩ = some u) := hid fun j u h => X6.out _ u (HVC.out j u h)
          go_wp2_with (with_reducible refine wpList_load_at (o := ⟨some 42, _, _, _, _, _⟩) rfl _ _ rfl fb 9 rfl [.int .i64 v1, .int .i64 v2, .string v3, .bool v4, .slice v5 v6 v7] _ P2.out Tryz.underlying51 rfl Z2.out ?_)
          have hbx := BoxAt.new W6 [.int .i64 v1, .int .i64 v2, .string v3, .bool v4, .slice v5 v6 v7] 51
          have hba : Below W6.heap.size W6 (W6.alloc (.cells [Value.int .i64 v1, .int .i64 v2, .string v3, .bool v4, .slice v5 v6 v7].toArray 51 (0, 0))) := (Below.refl _ _).alloc (Nat.le_refl _) _
          have B7 := hid (B6.out.trans (hba.mono (Nat.le_of_lt G6.out.lt)))
          have G7 := hid (G6.out.below hba G6.out.lt)
          with_reducible refine (C3.out _ W6.heap.size d2 B7.out G7.out (by have := G6.out.lt; omega) hbx (by have := T6.out.le; omega)).mono ?_
          rintro e W8 ⟨rfl, d3, h1, h2, h3, h4, h5⟩
          have G8 := hid h3
          have B8 := hid (((BelowX.of (gb := gb) B7.out).trans (h5.mono (Nat.le_of_lt G7.out.lt))).below (Nat.le_refl gb))
          have T8 := hid (T6.out.step h1 h2 h4)
          clear h1 h2 h3 h4 h5 hbx hba B7 G7 B6 G6 X6 T6 P2
          go_wp2_with fail
          go_roundg (go - 1)
          case measure => omega
          case rel => exact ⟨i + 1, d3, by go_num, by omega, by omega, G8, B8, by rw [HDL.out]; exact T8⟩
    · obtain rfl : i = L := by omega
      have hT := HT.out
      rw [← HL.out, List.drop_length, deepFs] at hT
      have K := hid hT
      have c0 := HG.out.deepest
      clear HT hT
      go_wp2_with fail
      go_ret
      exact ⟨dc, rfl, by have := K.out.1; omega, by have := K.out.2; rw [Nat.max_zero] at this; exact this, by rw [HGB.out]; exact HB.out⟩
end Go.Proofs.YtjkdcladjjpmoaaGreatDoor.TreeC
/- Contracts of tree.Deep, tree.Right. -/
namespace Go.Proofs.YtjkdcladjjpmoaaGreatDoor.TreeC
open Go Go.RowKit Go.Lib Go.Sort Go.Proofs.YtjkdcladjjpmoaaGreatDoor.LexP Go.Proofs.YtjkdcladjjpmoaaGreatDoor.TreeP Go.Proofs.YtjkdcladjjpmoaaGreatDoor.LexC

set_option maxHeartbeats 2000000 in
theorem tDeep_any (l : List TreeP.Fn) (w : World) (v : Value) (hw : wFs l ≤ 1048576) (hin : ProgIn w v l) :
    Calls Tryz.prog 15 #[v] w fun r w' => r = .returned (.int .i64 (deepFs l : Int)) ∧ Below w.heap.size w w' := by
  have hd := depth_any l 9223372036854775807 w v (Nat.le_refl _) hw hin
  have hle := deepFs_le l
  rw [show ((9223372036854775807 : Nat) : Int) = 9223372036854775807 from rfl] at hd
  have HD := hid hd
  have HL : Hid (deepFs l ≤ 1048576) := hid (by omega)
  clear hd hin hw hle
  go_enter Tryz.func15, Tryz.ntmps15
  go_wp2_with fail
  with_reducible refine HD.out.mono ?_
  rintro e W ⟨d', rfl, h1, h2, h3⟩
  have e : d' = deepFs l := by
    have := HL.out
    rcases h2 with h2 | ⟨h2, _⟩
    · exact h2
    · omega
  subst e
  have HB := hid h3
  clear h1 h2 h3
  go_wp2_with fail
  go_ret
  exact ⟨rfl, HB.out⟩

set_option maxHeartbeats 2000000 in
theorem tRight_any (l : List TreeP.Fn) (w : World) (v : Value) (hw : wFs l ≤ 1048576) (hin : ProgIn w v l) (T : Tabs w) :
    Calls Tryz.prog 13 #[v] w fun r w' => r = .returned (.bool (rightP l)) ∧ Below w.heap.size w w' := by
  have hd := depth_any l 40 w v (by omega) hw hin
  rw [show ((40 : Nat) : Int) = 40 from rfl] at hd
  have HD := hid hd
  have HC : Hid (∀ W, Below w.heap.size w W → Calls Tryz.prog 36 #[v, .func (.func 37) #[] #[]] W fun r w' => r = .returned (.bool (l.all rightF && decide (l.length ≤ 30))) ∧ Below W.heap.size W w') :=
    hid fun W hb => rightAll_any l W v (hin.keep (Keeps.of_below hb)) hw (T.below hb)
  have hR : rightP l = (l.all rightF && decide (l.length ≤ 30) && decide (deepFs l ≤ 40)) := rfl
  rw [hR]
  have hle := deepFs_le l
  have hle2 : deepFs l ≤ 1048576 := by omega
  generalize (l.all rightF && decide (l.length ≤ 30)) = A at *
  generalize deepFs l = D at *
  obtain ⟨R, hRR⟩ : ∃ R, (A && decide (D ≤ 40)) = R := ⟨_, rfl⟩
  rw [hRR]
  have HRR := hid hRR
  clear hRR
  clear hd hin hw T hR hle
  go_enter Tryz.func13, Tryz.ntmps13
  go_wp2_with fail
  with_reducible refine HD.out.mono ?_
  rintro e W ⟨d', rfl, h1, h2, h3⟩
  have e := Capped.le h2
  have HB := hid h3
  by_cases hd : d' ≤ 40
  · have e2 : decide (D ≤ 40) = true := by rw [← e]; simpa using hd
    have K : Hid (A = R) := hid (by rw [← HRR.out, e2, Bool.and_true])
    have CC := hid (HC.out W h3)
    clear h1 h2 h3 e e2 HC HD
    go_wp2_with fail
    with_reducible refine CC.out.mono ?_
    rintro e W2 ⟨rfl, h4⟩
    have HB2 := hid (HB.out.trans (h4.mono HB.out.size))
    clear h4
    go_wp2_with fail
    go_ret
    exact ⟨ret_bool K.out, HB2.out⟩
  · have e2 : decide (D ≤ 40) = false := by rw [← e]; simpa using hd
    have K : Hid (false = R) := hid (by rw [← HRR.out, e2, Bool.and_false])
    clear h1 h2 h3 e e2 HC HD
    go_wp2_with fail
    go_ret
    exact ⟨ret_bool K.out, HB.out⟩
end Go.Proofs.YtjkdcladjjpmoaaGreatDoor.TreeC

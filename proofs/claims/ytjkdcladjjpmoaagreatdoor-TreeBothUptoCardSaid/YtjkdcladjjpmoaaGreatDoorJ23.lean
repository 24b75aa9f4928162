/- Contract of (*tree.page).fn, out of one of slices.Chunk and slices.Collect. -/
import Derived.Test.YtjkdcladjjpmoaaGreatDoorJ21
namespace Go.Proofs.YtjkdcladjjpmoaaGreatDoor.PageC
open Go Go.RowKit Go.Lib Go.Sort Go.Proofs.YtjkdcladjjpmoaaGreatDoor.LexP Go.Proofs.YtjkdcladjjpmoaaGreatDoor.TreeP Go.Proofs.YtjkdcladjjpmoaaGreatDoor.LexC Go.Proofs.YtjkdcladjjpmoaaGreatDoor.TreeC

/-- a list's elements, two by two, as slices of their own -/
def pairsV (v : Value) (n : Nat) : List Value := match v with
  | .slice (some a) _ _ => (List.range (n / 2)).map fun i => .slice (some ⟨a.block, a.off + 2 * i, none⟩) 2 2
  | _ => []
/-- what slices.Collect(slices.Chunk(l, 2)) hands back, in whatever comes of this world -/
def Collects (w0 : World) : Prop := ∀ (outs : List ByteArray) (v : Value) (W : World), Lies w0 1 v (outs.map nmCells) → outs.length % 2 = 0 → outs.length ≤ 30 → 0 < outs.length → Below w0.heap.size w0 W →
  Calls Tryz.prog 98 #[v, .int .i64 2] W fun e W1 => ∃ fv, e = .returned fv ∧ Below W.heap.size W W1 ∧
    Calls Tryz.prog 97 #[fv] W1 fun e W2 => ∃ u, e = .returned u ∧ Below W1.heap.size W1 W2 ∧
      ∀ (pb : Nat) (r : Option Nat), pb < W1.heap.size → (∀ g, r = some g → g < W1.heap.size) → Lies (hush2 pb r W2) 1 u ((pairsV v outs.length).map fun x => [x])
/-- the text of two lives that lie in a slice -/
def pairText (w0 : World) (v : Value) : List UInt8 := match v with
  | .slice (some a) _ _ => match w0.cell? a, w0.cell? ⟨a.block, a.off + 1, none⟩ with
    | some (.string x), some (.string y) => lifeB x ++ ([58, 32] ++ lifeB y)
    | _, _ => []
  | _ => []
theorem lies_nm {w0 : World} {b off cap n : Nat} {l : List ByteArray} (h : Lies w0 1 (.slice (some ⟨b, off, none⟩) n cap) (l.map nmCells)) {i : Nat} {s : ByteArray} (hi : l[i]? = some s) : w0.cell? ⟨b, off + i, none⟩ = some (.string s) := by
  obtain ⟨b', off', cap', e, _, hx⟩ := Lies.at h (i := i) (by rw [List.length_map]; exact (List.getElem?_eq_some_iff.1 hi).1)
  injection e with e1 _ _
  injection e1 with e1
  injection e1 with e1 e2 _
  subst e1; subst e2
  have := hx i [.string s] (by rw [List.getElem?_map, hi]; rfl) 0 _ rfl
  rw [Nat.mul_one, Nat.add_zero] at this
  exact this
theorem pairs_get : ∀ (l : List ByteArray) (i : Nat) (a b : ByteArray), l[2 * i]? = some a → l[2 * i + 1]? = some b → (pairs l)[i]? = some (lifeB a ++ [58, 32] ++ lifeB b)
  | [], i, a, b, h, _ => by simp at h
  | [x], 0, a, b, _, h => by simp at h
  | [x], i + 1, a, b, h, _ => by simp at h
  | x :: y :: l, 0, a, b, h1, h2 => by
    simp at h1 h2
    subst h1; subst h2
    rw [pairs]; rfl
  | x :: y :: l, i + 1, a, b, h1, h2 => by
    rw [pairs, List.getElem?_cons_succ]
    exact pairs_get l i a b (by rw [show 2 * (i + 1) = 2 * i + 1 + 1 by omega] at h1; simpa using h1) (by rw [show 2 * (i + 1) + 1 = 2 * i + 1 + 1 + 1 by omega] at h2; simpa using h2)
theorem pairs_len : ∀ l : List ByteArray, (pairs l).length = l.length / 2
  | [] => rfl
  | [x] => by simp [pairs]
  | x :: y :: l => by rw [pairs, List.length_cons, pairs_len l, List.length_cons, List.length_cons]; omega
theorem pair_at {w0 : World} {b off cap n : Nat} {l : List ByteArray} (h : Lies w0 1 (.slice (some ⟨b, off, none⟩) n cap) (l.map nmCells)) {i : Nat} (hi : 2 * i + 1 < l.length) :
    ∃ x y, l[2 * i]? = some x ∧ l[2 * i + 1]? = some y ∧ pairText w0 (.slice (some ⟨b, off + 2 * i, none⟩) 2 2) = lifeB x ++ ([58, 32] ++ lifeB y) ∧ Lies w0 1 (.slice (some ⟨b, off + 2 * i, none⟩) 2 2) [[.string x], [.string y]] := by
  have e0 := List.getElem?_eq_getElem (show 2 * i < l.length by omega)
  have e1 := List.getElem?_eq_getElem hi
  have c0 := lies_nm h e0
  have c1 := lies_nm h e1
  refine ⟨_, _, e0, e1, ?_, ⟨some ⟨b, off + 2 * i, none⟩, 2, rfl, Nat.le_refl _, fun _ => ⟨b, off + 2 * i, rfl, fun j c hj a u hu => ?_⟩⟩⟩
  · unfold pairText
    simp only [c0, show off + 2 * i + 1 = off + (2 * i + 1) by omega, c1]
  · match j, hj with
    | 0, hj =>
      simp at hj; subst hj
      match a, hu with
      | 0, hu => simp at hu; subst hu; exact c0
      | a + 1, hu => simp at hu
    | 1, hj =>
      simp at hj; subst hj
      match a, hu with
      | 0, hu => simp at hu; subst hu; exact c1
      | a + 1, hu => simp at hu
    | j + 2, hj => simp at hj
theorem pairs_text {w0 : World} {v : Value} {l : List ByteArray} (h : Lies w0 1 v (l.map nmCells)) (he : l.length % 2 = 0) (hp : 0 < l.length) : (pairsV v l.length).map (pairText w0) = pairs l := by
  obtain ⟨b, off, cap, rfl, _, _⟩ := Lies.at h (i := 0) (by rw [List.length_map]; exact hp)
  unfold pairsV
  apply List.ext_getElem?
  intro i
  dsimp only
  rw [List.map_map, List.getElem?_map]
  by_cases hi : i < l.length / 2
  · obtain ⟨x, y, h1, h2, h3, _⟩ := pair_at h (i := i) (by omega)
    rw [List.getElem?_range hi, pairs_get l i x y h1 h2]
    show some (pairText w0 (.slice (some ⟨b, off + 2 * i, none⟩) 2 2)) = _
    rw [h3]
    simp only [List.append_assoc]
  · rw [List.getElem?_eq_none (by rw [List.length_range]; omega), List.getElem?_eq_none (by rw [pairs_len]; omega)]
    rfl

section
variable (pb : Nat) (w0 : World) (r : Option Nat) (T : List UInt8) (w : World) (fcs : List Value)

set_option maxHeartbeats 8000000 in
set_option maxRecDepth 100000 in
theorem fn_00 (RT : List UInt8) (hp : Page w pb r T) (hc : Ctx w0 pb r w) (name : ByteArray) (hn : name.size ≤ 1048576) (y0 : fcs[0]? = some (.string name)) (lp : Option Addr) (ln lc : Nat) (y1 : fcs[1]? = some (.slice lp ln lc)) (hl0 : ln = 0) (pv : Value) (y2 : fcs[2]? = some pv) (xpa : List UInt8) (hpa : Says pb w0 93 #[.pointer (some ⟨pb, 0, none⟩), pv, .func (.func 94) #[.pointer (some ⟨pb, 0, none⟩)] #[]] xpa) (gcs : List Value) (hgc : ∀ (j : Nat) (u : Value), gcs[j]? = some u → fcs[3 + j]? = some u) (hgz : (Tryz.prog.info? 45).map (·.size) = some gcs.length) (xty : List UInt8) (hty : Says pb w0 95 #[.pointer (some ⟨pb, 0, none⟩), .agg gcs.toArray] xty) (op : Option Addr) (on oc : Nat) (y7 : fcs[7]? = some (.slice op on oc)) (ho0 : on = 0) (bv : Value) (y8 : fcs[8]? = some bv) (xbo : List UInt8) (hbo : Says pb w0 100 #[.pointer (some ⟨pb, 0, none⟩), bv, .string ⟨#[9]⟩] xbo) (vcs : List Value) (hvc : ∀ (j : Nat) (u : Value), vcs[j]? = some u → fcs[9 + j]? = some u) (hvz : (Tryz.prog.info? 51).map (·.size) = some vcs.length) (xex : List UInt8) (hex : Says pb w0 101 #[.pointer (some ⟨pb, 0, none⟩), .agg vcs.toArray] xex) (hrt : RT = ([102, 110, 32] ++ bs name) ++ [40] ++ xpa ++ [41, 32, 45, 62, 32] ++ xty ++ [32, 123, 10] ++ xbo ++ [9, 114, 101, 116, 32] ++ xex ++ [59, 10, 125, 10]) :
    Calls Tryz.prog 43 #[.pointer (some ⟨pb, 0, none⟩), .agg fcs.toArray] w (Prints pb r w (T ++ RT)) := by
  subst hl0
  subst ho0
  have PR := hid (preB_of hp hc 53 fcs)
  have HRT := hid hrt
  have Y0 := hid y0
  have Y1 := hid y1
  have Y2 := hid y2
  have Y7 := hid y7
  have Y8 := hid y8
  have HPA := hid hpa
  have HTY := hid hty
  have HGC := hid hgc
  have HGZ := hid hgz
  have HBO := hid hbo
  have HEX := hid hex
  have HVC := hid hvc
  have HVZ := hid hvz
  clear hrt hp hc y0 y1 y2 y7 y8 hpa hty hgc hgz hbo hex hvc hvz
  go_enter Tryz.func43, Tryz.ntmps43
  have hp0 := put2 pb r T ⟨#[102, 110, 32]⟩ name _ PR.out.page (by decide) hn
  rw [PR.out.size] at hp0
  have HQ := hid hp0
  clear hp0
  have l0 := box_get (box_unhush PR.out.box) Y0.out
  go_wp2_with fail
  with_reducible refine HQ.out.mono ?_
  rintro e W1 ⟨rfl, r1, h1, h2⟩
  have C1 := hid (PR.out.ctx.step h2)
  have S1 := hid (PR.out.step.trans h2)
  have X1 := hid (PR.out.box.keep h2.keeps)
  have P1 := hid h1
  clear h1 h2 HQ l0
  have HQ := hid (put1 pb r1 _ ⟨#[40]⟩ W1 P1.out (by decide))
  have l0 := box_get (box_unhush X1.out) Y1.out
  go_wp2_with fail
  with_reducible refine HQ.out.mono ?_
  rintro e W2 ⟨rfl, r2, h1, h2⟩
  have C2 := hid (C1.out.step h2)
  have S2 := hid (S1.out.trans h2)
  have X2 := hid (X1.out.keep h2.keeps)
  have P2 := hid h1
  clear h1 h2 HQ l0
  have CK := hid (HPA.out W2 r2 _ P2.out C2.out)
  have l0 := box_get (box_unhush X2.out) Y2.out
  go_wp2_with fail
  with_reducible refine CK.out.mono ?_
  rintro e W3 ⟨rfl, r3, h1, h2⟩
  have C3 := hid (C2.out.step h2)
  have S3 := hid (S2.out.trans h2)
  have X3 := hid (X2.out.keep h2.keeps)
  have P3 := hid h1
  clear h1 h2 CK l0
  have HQ := hid (put1 pb r3 _ ⟨#[41, 32, 45, 62, 32]⟩ W3 P3.out (by decide))
  go_wp2_with fail
  with_reducible refine HQ.out.mono ?_
  rintro e W4 ⟨rfl, r4, h1, h2⟩
  have C4 := hid (C3.out.step h2)
  have S4 := hid (S3.out.trans h2)
  have X4 := hid (X3.out.keep h2.keeps)
  have P4 := hid h1
  clear h1 h2 HQ 
  have CK := hid (HTY.out W4 r4 _ P4.out C4.out)
  have HL : Hid (∀ (j : Nat) (u : Value), gcs[j]? = some u → W4.cell? ⟨w.heap.size, 3 + j, none⟩ = some u) := hid fun j u h => box_get (box_unhush X4.out) (HGC.out j u h)
  go_wp2_with (with_reducible refine wpList_load_at (o := ⟨some 39, _, _, _, _, _⟩) rfl _ _ rfl w.heap.size 3 rfl gcs _ HL.out Tryz.underlying45 rfl HGZ.out ?_)
  with_reducible refine CK.out.mono ?_
  rintro e W5 ⟨rfl, r5, h1, h2⟩
  have C5 := hid (C4.out.step h2)
  have S5 := hid (S4.out.trans h2)
  have X5 := hid (X4.out.keep h2.keeps)
  have P5 := hid h1
  clear h1 h2 CK HL
  have HQ := hid (put1 pb r5 _ ⟨#[32, 123, 10]⟩ W5 P5.out (by decide))
  have l0 := box_get (box_unhush X5.out) Y7.out
  go_wp2_with fail
  with_reducible refine HQ.out.mono ?_
  rintro e W6 ⟨rfl, r6, h1, h2⟩
  have C6 := hid (C5.out.step h2)
  have S6 := hid (S5.out.trans h2)
  have X6 := hid (X5.out.keep h2.keeps)
  have P6 := hid h1
  clear h1 h2 HQ l0
  have CK := hid (HBO.out W6 r6 _ P6.out C6.out)
  have l0 := box_get (box_unhush X6.out) Y8.out
  go_wp2_with fail
  with_reducible refine CK.out.mono ?_
  rintro e W7 ⟨rfl, r7, h1, h2⟩
  have C7 := hid (C6.out.step h2)
  have S7 := hid (S6.out.trans h2)
  have X7 := hid (X6.out.keep h2.keeps)
  have P7 := hid h1
  clear h1 h2 CK l0
  have HQ := hid (put1 pb r7 _ ⟨#[9, 114, 101, 116, 32]⟩ W7 P7.out (by decide))
  go_wp2_with fail
  with_reducible refine HQ.out.mono ?_
  rintro e W8 ⟨rfl, r8, h1, h2⟩
  have C8 := hid (C7.out.step h2)
  have S8 := hid (S7.out.trans h2)
  have X8 := hid (X7.out.keep h2.keeps)
  have P8 := hid h1
  clear h1 h2 HQ 
  have CK := hid (HEX.out W8 r8 _ P8.out C8.out)
  have HL : Hid (∀ (j : Nat) (u : Value), vcs[j]? = some u → W8.cell? ⟨w.heap.size, 9 + j, none⟩ = some u) := hid fun j u h => box_get (box_unhush X8.out) (HVC.out j u h)
  go_wp2_with (with_reducible refine wpList_load_at (o := ⟨some 68, _, _, _, _, _⟩) rfl _ _ rfl w.heap.size 9 rfl vcs _ HL.out Tryz.underlying51 rfl HVZ.out ?_)
  with_reducible refine CK.out.mono ?_
  rintro e W9 ⟨rfl, r9, h1, h2⟩
  have C9 := hid (C8.out.step h2)
  have S9 := hid (S8.out.trans h2)
  have X9 := hid (X8.out.keep h2.keeps)
  have P9 := hid h1
  clear h1 h2 CK HL
  have HQ := hid (put1 pb r9 _ ⟨#[59, 10, 125, 10]⟩ W9 P9.out (by decide))
  go_wp2_with fail
  with_reducible refine HQ.out.mono ?_
  rintro e W10 ⟨rfl, r10, h1, h2⟩
  have C10 := hid (C9.out.step h2)
  have S10 := hid (S9.out.trans h2)
  have X10 := hid (X9.out.keep h2.keeps)
  have P10 := hid h1
  clear h1 h2 HQ 
  have PE : Hid (Page W10 pb r10 (T ++ RT)) := hid (by
    have h3 : Page W10 pb r10 (T ++ ([102, 110, 32] ++ bs name) ++ [40] ++ xpa ++ [41, 32, 45, 62, 32] ++ xty ++ [32, 123, 10] ++ xbo ++ [9, 114, 101, 116, 32] ++ xex ++ [59, 10, 125, 10]) := P10.out
    rw [HRT.out]
    simpa only [List.append_assoc] using h3)
  go_wp2_with fail
  go_end0
  exact ⟨rfl, r10, PE.out, S10.out⟩

set_option maxHeartbeats 8000000 in
set_option maxRecDepth 100000 in
theorem fn_10 (RT : List UInt8) (hp : Page w pb r T) (hc : Ctx w0 pb r w) (name : ByteArray) (hn : name.size ≤ 1048576) (y0 : fcs[0]? = some (.string name)) (lp : Option Addr) (ln lc : Nat) (y1 : fcs[1]? = some (.slice lp ln lc)) (hl0 : 0 < ln) (hl1 : ln ≤ 30) (xlv : List UInt8) (hlv : Says pb w0 91 #[.pointer (some ⟨pb, 0, none⟩), .slice lp ln lc, .func (.func 92) #[.pointer (some ⟨pb, 0, none⟩)] #[]] xlv) (pv : Value) (y2 : fcs[2]? = some pv) (xpa : List UInt8) (hpa : Says pb w0 93 #[.pointer (some ⟨pb, 0, none⟩), pv, .func (.func 94) #[.pointer (some ⟨pb, 0, none⟩)] #[]] xpa) (gcs : List Value) (hgc : ∀ (j : Nat) (u : Value), gcs[j]? = some u → fcs[3 + j]? = some u) (hgz : (Tryz.prog.info? 45).map (·.size) = some gcs.length) (xty : List UInt8) (hty : Says pb w0 95 #[.pointer (some ⟨pb, 0, none⟩), .agg gcs.toArray] xty) (op : Option Addr) (on oc : Nat) (y7 : fcs[7]? = some (.slice op on oc)) (ho0 : on = 0) (bv : Value) (y8 : fcs[8]? = some bv) (xbo : List UInt8) (hbo : Says pb w0 100 #[.pointer (some ⟨pb, 0, none⟩), bv, .string ⟨#[9]⟩] xbo) (vcs : List Value) (hvc : ∀ (j : Nat) (u : Value), vcs[j]? = some u → fcs[9 + j]? = some u) (hvz : (Tryz.prog.info? 51).map (·.size) = some vcs.length) (xex : List UInt8) (hex : Says pb w0 101 #[.pointer (some ⟨pb, 0, none⟩), .agg vcs.toArray] xex) (hrt : RT = ([102, 110, 32] ++ bs name) ++ [91] ++ xlv ++ [93] ++ [40] ++ xpa ++ [41, 32, 45, 62, 32] ++ xty ++ [32, 123, 10] ++ xbo ++ [9, 114, 101, 116, 32] ++ xex ++ [59, 10, 125, 10]) :
    Calls Tryz.prog 43 #[.pointer (some ⟨pb, 0, none⟩), .agg fcs.toArray] w (Prints pb r w (T ++ RT)) := by
  have hd1 : decide ((ln : Int) > 0) = true := decide_eq_true (by omega)
  subst ho0
  have PR := hid (preB_of hp hc 53 fcs)
  have HRT := hid hrt
  have Y0 := hid y0
  have Y1 := hid y1
  have Y2 := hid y2
  have Y7 := hid y7
  have Y8 := hid y8
  have HPA := hid hpa
  have HTY := hid hty
  have HGC := hid hgc
  have HGZ := hid hgz
  have HBO := hid hbo
  have HEX := hid hex
  have HVC := hid hvc
  have HVZ := hid hvz
  have HLV := hid hlv
  clear hrt hp hc y0 y1 y2 y7 y8 hpa hty hgc hgz hbo hex hvc hvz hlv
  go_enter Tryz.func43, Tryz.ntmps43
  have hp0 := put2 pb r T ⟨#[102, 110, 32]⟩ name _ PR.out.page (by decide) hn
  rw [PR.out.size] at hp0
  have HQ := hid hp0
  clear hp0
  have l0 := box_get (box_unhush PR.out.box) Y0.out
  go_wp2_with fail
  with_reducible refine HQ.out.mono ?_
  rintro e W1 ⟨rfl, r1, h1, h2⟩
  have C1 := hid (PR.out.ctx.step h2)
  have S1 := hid (PR.out.step.trans h2)
  have X1 := hid (PR.out.box.keep h2.keeps)
  have P1 := hid h1
  clear h1 h2 HQ l0
  have HQ := hid (put1 pb r1 _ ⟨#[91]⟩ W1 P1.out (by decide))
  have l0 := box_get (box_unhush X1.out) Y1.out
  go_wp2_with fail
  with_reducible refine HQ.out.mono ?_
  rintro e W2 ⟨rfl, r2, h1, h2⟩
  have C2 := hid (C1.out.step h2)
  have S2 := hid (S1.out.trans h2)
  have X2 := hid (X1.out.keep h2.keeps)
  have P2 := hid h1
  clear h1 h2 HQ l0
  have CK := hid (HLV.out W2 r2 _ P2.out C2.out)
  have l0 := box_get (box_unhush X2.out) Y1.out
  go_wp2_with fail
  with_reducible refine CK.out.mono ?_
  rintro e W3 ⟨rfl, r3, h1, h2⟩
  have C3 := hid (C2.out.step h2)
  have S3 := hid (S2.out.trans h2)
  have X3 := hid (X2.out.keep h2.keeps)
  have P3 := hid h1
  clear h1 h2 CK l0
  have HQ := hid (put1 pb r3 _ ⟨#[93]⟩ W3 P3.out (by decide))
  go_wp2_with fail
  with_reducible refine HQ.out.mono ?_
  rintro e W4 ⟨rfl, r4, h1, h2⟩
  have C4 := hid (C3.out.step h2)
  have S4 := hid (S3.out.trans h2)
  have X4 := hid (X3.out.keep h2.keeps)
  have P4 := hid h1
  clear h1 h2 HQ 
  have HQ := hid (put1 pb r4 _ ⟨#[40]⟩ W4 P4.out (by decide))
  go_wp2_with fail
  with_reducible refine HQ.out.mono ?_
  rintro e W5 ⟨rfl, r5, h1, h2⟩
  have C5 := hid (C4.out.step h2)
  have S5 := hid (S4.out.trans h2)
  have X5 := hid (X4.out.keep h2.keeps)
  have P5 := hid h1
  clear h1 h2 HQ 
  have CK := hid (HPA.out W5 r5 _ P5.out C5.out)
  have l0 := box_get (box_unhush X5.out) Y2.out
  go_wp2_with fail
  with_reducible refine CK.out.mono ?_
  rintro e W6 ⟨rfl, r6, h1, h2⟩
  have C6 := hid (C5.out.step h2)
  have S6 := hid (S5.out.trans h2)
  have X6 := hid (X5.out.keep h2.keeps)
  have P6 := hid h1
  clear h1 h2 CK l0
  have HQ := hid (put1 pb r6 _ ⟨#[41, 32, 45, 62, 32]⟩ W6 P6.out (by decide))
  go_wp2_with fail
  with_reducible refine HQ.out.mono ?_
  rintro e W7 ⟨rfl, r7, h1, h2⟩
  have C7 := hid (C6.out.step h2)
  have S7 := hid (S6.out.trans h2)
  have X7 := hid (X6.out.keep h2.keeps)
  have P7 := hid h1
  clear h1 h2 HQ 
  have CK := hid (HTY.out W7 r7 _ P7.out C7.out)
  have HL : Hid (∀ (j : Nat) (u : Value), gcs[j]? = some u → W7.cell? ⟨w.heap.size, 3 + j, none⟩ = some u) := hid fun j u h => box_get (box_unhush X7.out) (HGC.out j u h)
  go_wp2_with (with_reducible refine wpList_load_at (o := ⟨some 39, _, _, _, _, _⟩) rfl _ _ rfl w.heap.size 3 rfl gcs _ HL.out Tryz.underlying45 rfl HGZ.out ?_)
  with_reducible refine CK.out.mono ?_
  rintro e W8 ⟨rfl, r8, h1, h2⟩
  have C8 := hid (C7.out.step h2)
  have S8 := hid (S7.out.trans h2)
  have X8 := hid (X7.out.keep h2.keeps)
  have P8 := hid h1
  clear h1 h2 CK HL
  have HQ := hid (put1 pb r8 _ ⟨#[32, 123, 10]⟩ W8 P8.out (by decide))
  have l0 := box_get (box_unhush X8.out) Y7.out
  go_wp2_with fail
  with_reducible refine HQ.out.mono ?_
  rintro e W9 ⟨rfl, r9, h1, h2⟩
  have C9 := hid (C8.out.step h2)
  have S9 := hid (S8.out.trans h2)
  have X9 := hid (X8.out.keep h2.keeps)
  have P9 := hid h1
  clear h1 h2 HQ l0
  have CK := hid (HBO.out W9 r9 _ P9.out C9.out)
  have l0 := box_get (box_unhush X9.out) Y8.out
  go_wp2_with fail
  with_reducible refine CK.out.mono ?_
  rintro e W10 ⟨rfl, r10, h1, h2⟩
  have C10 := hid (C9.out.step h2)
  have S10 := hid (S9.out.trans h2)
  have X10 := hid (X9.out.keep h2.keeps)
  have P10 := hid h1
  clear h1 h2 CK l0
  have HQ := hid (put1 pb r10 _ ⟨#[9, 114, 101, 116, 32]⟩ W10 P10.out (by decide))
  go_wp2_with fail
  with_reducible refine HQ.out.mono ?_
  rintro e W11 ⟨rfl, r11, h1, h2⟩
  have C11 := hid (C10.out.step h2)
  have S11 := hid (S10.out.trans h2)
  have X11 := hid (X10.out.keep h2.keeps)
  have P11 := hid h1
  clear h1 h2 HQ 
  have CK := hid (HEX.out W11 r11 _ P11.out C11.out)
  have HL : Hid (∀ (j : Nat) (u : Value), vcs[j]? = some u → W11.cell? ⟨w.heap.size, 9 + j, none⟩ = some u) := hid fun j u h => box_get (box_unhush X11.out) (HVC.out j u h)
  go_wp2_with (with_reducible refine wpList_load_at (o := ⟨some 68, _, _, _, _, _⟩) rfl _ _ rfl w.heap.size 9 rfl vcs _ HL.out Tryz.underlying51 rfl HVZ.out ?_)
  with_reducible refine CK.out.mono ?_
  rintro e W12 ⟨rfl, r12, h1, h2⟩
  have C12 := hid (C11.out.step h2)
  have S12 := hid (S11.out.trans h2)
  have X12 := hid (X11.out.keep h2.keeps)
  have P12 := hid h1
  clear h1 h2 CK HL
  have HQ := hid (put1 pb r12 _ ⟨#[59, 10, 125, 10]⟩ W12 P12.out (by decide))
  go_wp2_with fail
  with_reducible refine HQ.out.mono ?_
  rintro e W13 ⟨rfl, r13, h1, h2⟩
  have C13 := hid (C12.out.step h2)
  have S13 := hid (S12.out.trans h2)
  have X13 := hid (X12.out.keep h2.keeps)
  have P13 := hid h1
  clear h1 h2 HQ 
  have PE : Hid (Page W13 pb r13 (T ++ RT)) := hid (by
    have h3 : Page W13 pb r13 (T ++ ([102, 110, 32] ++ bs name) ++ [91] ++ xlv ++ [93] ++ [40] ++ xpa ++ [41, 32, 45, 62, 32] ++ xty ++ [32, 123, 10] ++ xbo ++ [9, 114, 101, 116, 32] ++ xex ++ [59, 10, 125, 10]) := P13.out
    rw [HRT.out]
    simpa only [List.append_assoc] using h3)
  go_wp2_with fail
  go_end0
  exact ⟨rfl, r13, PE.out, S13.out⟩

set_option maxHeartbeats 8000000 in
set_option maxRecDepth 100000 in
theorem fn_01 (RT : List UInt8) (hp : Page w pb r T) (hc : Ctx w0 pb r w) (name : ByteArray) (hn : name.size ≤ 1048576) (y0 : fcs[0]? = some (.string name)) (lp : Option Addr) (ln lc : Nat) (y1 : fcs[1]? = some (.slice lp ln lc)) (hl0 : ln = 0) (pv : Value) (y2 : fcs[2]? = some pv) (xpa : List UInt8) (hpa : Says pb w0 93 #[.pointer (some ⟨pb, 0, none⟩), pv, .func (.func 94) #[.pointer (some ⟨pb, 0, none⟩)] #[]] xpa) (gcs : List Value) (hgc : ∀ (j : Nat) (u : Value), gcs[j]? = some u → fcs[3 + j]? = some u) (hgz : (Tryz.prog.info? 45).map (·.size) = some gcs.length) (xty : List UInt8) (hty : Says pb w0 95 #[.pointer (some ⟨pb, 0, none⟩), .agg gcs.toArray] xty) (op : Option Addr) (on oc : Nat) (y7 : fcs[7]? = some (.slice op on oc)) (ho0 : 0 < on) (ho1 : on ≤ 30) (xou : List UInt8) (pvs : List Value) (hch : ∀ W, Below w0.heap.size w0 W → Calls Tryz.prog 98 #[.slice op on oc, .int .i64 2] W fun e W1 => ∃ fv, e = .returned fv ∧ Below W.heap.size W W1 ∧ Calls Tryz.prog 97 #[fv] W1 fun e W2 => ∃ u, e = .returned u ∧ Below W1.heap.size W1 W2 ∧ ∀ (pb : Nat) (r : Option Nat), pb < W1.heap.size → (∀ g, r = some g → g < W1.heap.size) → Lies (hush2 pb r W2) 1 u (pvs.map fun x => [x])) (hrp : ∀ (u : Value) (r : Option Nat) (T : List UInt8) (W : World), Page W pb r T → Ctx w0 pb r W → Lies (hush2 pb r W) 1 u (pvs.map fun x => [x]) → Calls Tryz.prog 96 #[.pointer (some ⟨pb, 0, none⟩), u, .func (.func 99) #[.pointer (some ⟨pb, 0, none⟩)] #[]] W (Prints pb r W (T ++ xou))) (bv : Value) (y8 : fcs[8]? = some bv) (xbo : List UInt8) (hbo : Says pb w0 100 #[.pointer (some ⟨pb, 0, none⟩), bv, .string ⟨#[9]⟩] xbo) (vcs : List Value) (hvc : ∀ (j : Nat) (u : Value), vcs[j]? = some u → fcs[9 + j]? = some u) (hvz : (Tryz.prog.info? 51).map (·.size) = some vcs.length) (xex : List UInt8) (hex : Says pb w0 101 #[.pointer (some ⟨pb, 0, none⟩), .agg vcs.toArray] xex) (hrt : RT = ([102, 110, 32] ++ bs name) ++ [40] ++ xpa ++ [41, 32, 45, 62, 32] ++ xty ++ [32, 119, 104, 101, 114, 101, 32] ++ xou ++ [32, 123, 10] ++ xbo ++ [9, 114, 101, 116, 32] ++ xex ++ [59, 10, 125, 10]) :
    Calls Tryz.prog 43 #[.pointer (some ⟨pb, 0, none⟩), .agg fcs.toArray] w (Prints pb r w (T ++ RT)) := by
  subst hl0
  have hd2 : decide ((on : Int) > 0) = true := decide_eq_true (by omega)
  have PR := hid (preB_of hp hc 53 fcs)
  have HRT := hid hrt
  have Y0 := hid y0
  have Y1 := hid y1
  have Y2 := hid y2
  have Y7 := hid y7
  have Y8 := hid y8
  have HPA := hid hpa
  have HTY := hid hty
  have HGC := hid hgc
  have HGZ := hid hgz
  have HBO := hid hbo
  have HEX := hid hex
  have HVC := hid hvc
  have HVZ := hid hvz
  have HCH := hid hch
  have HRP := hid hrp
  clear hrt hp hc y0 y1 y2 y7 y8 hpa hty hgc hgz hbo hex hvc hvz hch hrp
  go_enter Tryz.func43, Tryz.ntmps43
  have hp0 := put2 pb r T ⟨#[102, 110, 32]⟩ name _ PR.out.page (by decide) hn
  rw [PR.out.size] at hp0
  have HQ := hid hp0
  clear hp0
  have l0 := box_get (box_unhush PR.out.box) Y0.out
  go_wp2_with fail
  with_reducible refine HQ.out.mono ?_
  rintro e W1 ⟨rfl, r1, h1, h2⟩
  have C1 := hid (PR.out.ctx.step h2)
  have S1 := hid (PR.out.step.trans h2)
  have X1 := hid (PR.out.box.keep h2.keeps)
  have P1 := hid h1
  clear h1 h2 HQ l0
  have HQ := hid (put1 pb r1 _ ⟨#[40]⟩ W1 P1.out (by decide))
  have l0 := box_get (box_unhush X1.out) Y1.out
  go_wp2_with fail
  with_reducible refine HQ.out.mono ?_
  rintro e W2 ⟨rfl, r2, h1, h2⟩
  have C2 := hid (C1.out.step h2)
  have S2 := hid (S1.out.trans h2)
  have X2 := hid (X1.out.keep h2.keeps)
  have P2 := hid h1
  clear h1 h2 HQ l0
  have CK := hid (HPA.out W2 r2 _ P2.out C2.out)
  have l0 := box_get (box_unhush X2.out) Y2.out
  go_wp2_with fail
  with_reducible refine CK.out.mono ?_
  rintro e W3 ⟨rfl, r3, h1, h2⟩
  have C3 := hid (C2.out.step h2)
  have S3 := hid (S2.out.trans h2)
  have X3 := hid (X2.out.keep h2.keeps)
  have P3 := hid h1
  clear h1 h2 CK l0
  have HQ := hid (put1 pb r3 _ ⟨#[41, 32, 45, 62, 32]⟩ W3 P3.out (by decide))
  go_wp2_with fail
  with_reducible refine HQ.out.mono ?_
  rintro e W4 ⟨rfl, r4, h1, h2⟩
  have C4 := hid (C3.out.step h2)
  have S4 := hid (S3.out.trans h2)
  have X4 := hid (X3.out.keep h2.keeps)
  have P4 := hid h1
  clear h1 h2 HQ 
  have CK := hid (HTY.out W4 r4 _ P4.out C4.out)
  have HL : Hid (∀ (j : Nat) (u : Value), gcs[j]? = some u → W4.cell? ⟨w.heap.size, 3 + j, none⟩ = some u) := hid fun j u h => box_get (box_unhush X4.out) (HGC.out j u h)
  go_wp2_with (with_reducible refine wpList_load_at (o := ⟨some 39, _, _, _, _, _⟩) rfl _ _ rfl w.heap.size 3 rfl gcs _ HL.out Tryz.underlying45 rfl HGZ.out ?_)
  with_reducible refine CK.out.mono ?_
  rintro e W5 ⟨rfl, r5, h1, h2⟩
  have C5 := hid (C4.out.step h2)
  have S5 := hid (S4.out.trans h2)
  have X5 := hid (X4.out.keep h2.keeps)
  have P5 := hid h1
  clear h1 h2 CK HL
  have HQ := hid (put1 pb r5 _ ⟨#[32, 119, 104, 101, 114, 101, 32]⟩ W5 P5.out (by decide))
  have l0 := box_get (box_unhush X5.out) Y7.out
  go_wp2_with fail
  with_reducible refine HQ.out.mono ?_
  rintro e W6 ⟨rfl, r6, h1, h2⟩
  have C6 := hid (C5.out.step h2)
  have S6 := hid (S5.out.trans h2)
  have X6 := hid (X5.out.keep h2.keeps)
  have P6 := hid h1
  clear h1 h2 HQ l0
  have l0 := box_get (box_unhush X6.out) Y7.out
  have CK := hid (HCH.out W6 C6.out.below)
  go_wp2_with fail
  with_reducible refine CK.out.mono ?_
  rintro e Wc ⟨fv, rfl, hb, hcol⟩
  have Pc := hid (P6.out.below hb)
  have Cc := hid (C6.out.then hb)
  have Sc := hid (S6.out.then hb)
  have Xc := hid (X6.out.keep (Step.below (pb := pb) (r := r6) hb).keeps)
  have HCOL := hid hcol
  clear hb hcol CK l0
  go_wp2_with fail
  with_reducible refine HCOL.out.mono ?_
  rintro e Wd ⟨u, rfl, hb, hli⟩
  have hlo := hli pb r6 Pc.out.lt Pc.out.rowlt
  have P7 := hid (Pc.out.below hb)
  have C7 := hid (Cc.out.then hb)
  have S7 := hid (Sc.out.then hb)
  have X7 := hid (Xc.out.keep (Step.below (pb := pb) (r := r6) hb).keeps)
  have CR := hid (HRP.out u r6 _ Wd P7.out C7.out hlo)
  clear hb hli hlo HCOL Pc Cc Sc Xc
  go_wp2_with fail
  with_reducible refine CR.out.mono ?_
  rintro e W8 ⟨rfl, r8, h1, h2⟩
  have C8 := hid (C7.out.step h2)
  have S8 := hid (S7.out.trans h2)
  have X8 := hid (X7.out.keep h2.keeps)
  have P8 := hid h1
  clear h1 h2 CR
  have HQ := hid (put1 pb r8 _ ⟨#[32, 123, 10]⟩ W8 P8.out (by decide))
  go_wp2_with fail
  with_reducible refine HQ.out.mono ?_
  rintro e W9 ⟨rfl, r9, h1, h2⟩
  have C9 := hid (C8.out.step h2)
  have S9 := hid (S8.out.trans h2)
  have X9 := hid (X8.out.keep h2.keeps)
  have P9 := hid h1
  clear h1 h2 HQ 
  have CK := hid (HBO.out W9 r9 _ P9.out C9.out)
  have l0 := box_get (box_unhush X9.out) Y8.out
  go_wp2_with fail
  with_reducible refine CK.out.mono ?_
  rintro e W10 ⟨rfl, r10, h1, h2⟩
  have C10 := hid (C9.out.step h2)
  have S10 := hid (S9.out.trans h2)
  have X10 := hid (X9.out.keep h2.keeps)
  have P10 := hid h1
  clear h1 h2 CK l0
  have HQ := hid (put1 pb r10 _ ⟨#[9, 114, 101, 116, 32]⟩ W10 P10.out (by decide))
  go_wp2_with fail
  with_reducible refine HQ.out.mono ?_
  rintro e W11 ⟨rfl, r11, h1, h2⟩
  have C11 := hid (C10.out.step h2)
  have S11 := hid (S10.out.trans h2)
  have X11 := hid (X10.out.keep h2.keeps)
  have P11 := hid h1
  clear h1 h2 HQ 
  have CK := hid (HEX.out W11 r11 _ P11.out C11.out)
  have HL : Hid (∀ (j : Nat) (u : Value), vcs[j]? = some u → W11.cell? ⟨w.heap.size, 9 + j, none⟩ = some u) := hid fun j u h => box_get (box_unhush X11.out) (HVC.out j u h)
  go_wp2_with (with_reducible refine wpList_load_at (o := ⟨some 68, _, _, _, _, _⟩) rfl _ _ rfl w.heap.size 9 rfl vcs _ HL.out Tryz.underlying51 rfl HVZ.out ?_)
  with_reducible refine CK.out.mono ?_
  rintro e W12 ⟨rfl, r12, h1, h2⟩
  have C12 := hid (C11.out.step h2)
  have S12 := hid (S11.out.trans h2)
  have X12 := hid (X11.out.keep h2.keeps)
  have P12 := hid h1
  clear h1 h2 CK HL
  have HQ := hid (put1 pb r12 _ ⟨#[59, 10, 125, 10]⟩ W12 P12.out (by decide))
  go_wp2_with fail
  with_reducible refine HQ.out.mono ?_
  rintro e W13 ⟨rfl, r13, h1, h2⟩
  have C13 := hid (C12.out.step h2)
  have S13 := hid (S12.out.trans h2)
  have X13 := hid (X12.out.keep h2.keeps)
  have P13 := hid h1
  clear h1 h2 HQ 
  have PE : Hid (Page W13 pb r13 (T ++ RT)) := hid (by
    have h3 : Page W13 pb r13 (T ++ ([102, 110, 32] ++ bs name) ++ [40] ++ xpa ++ [41, 32, 45, 62, 32] ++ xty ++ [32, 119, 104, 101, 114, 101, 32] ++ xou ++ [32, 123, 10] ++ xbo ++ [9, 114, 101, 116, 32] ++ xex ++ [59, 10, 125, 10]) := P13.out
    rw [HRT.out]
    simpa only [List.append_assoc] using h3)
  go_wp2_with fail
  go_end0
  exact ⟨rfl, r13, PE.out, S13.out⟩

set_option maxHeartbeats 8000000 in
set_option maxRecDepth 100000 in
theorem fn_11 (RT : List UInt8) (hp : Page w pb r T) (hc : Ctx w0 pb r w) (name : ByteArray) (hn : name.size ≤ 1048576) (y0 : fcs[0]? = some (.string name)) (lp : Option Addr) (ln lc : Nat) (y1 : fcs[1]? = some (.slice lp ln lc)) (hl0 : 0 < ln) (hl1 : ln ≤ 30) (xlv : List UInt8) (hlv : Says pb w0 91 #[.pointer (some ⟨pb, 0, none⟩), .slice lp ln lc, .func (.func 92) #[.pointer (some ⟨pb, 0, none⟩)] #[]] xlv) (pv : Value) (y2 : fcs[2]? = some pv) (xpa : List UInt8) (hpa : Says pb w0 93 #[.pointer (some ⟨pb, 0, none⟩), pv, .func (.func 94) #[.pointer (some ⟨pb, 0, none⟩)] #[]] xpa) (gcs : List Value) (hgc : ∀ (j : Nat) (u : Value), gcs[j]? = some u → fcs[3 + j]? = some u) (hgz : (Tryz.prog.info? 45).map (·.size) = some gcs.length) (xty : List UInt8) (hty : Says pb w0 95 #[.pointer (some ⟨pb, 0, none⟩), .agg gcs.toArray] xty) (op : Option Addr) (on oc : Nat) (y7 : fcs[7]? = some (.slice op on oc)) (ho0 : 0 < on) (ho1 : on ≤ 30) (xou : List UInt8) (pvs : List Value) (hch : ∀ W, Below w0.heap.size w0 W → Calls Tryz.prog 98 #[.slice op on oc, .int .i64 2] W fun e W1 => ∃ fv, e = .returned fv ∧ Below W.heap.size W W1 ∧ Calls Tryz.prog 97 #[fv] W1 fun e W2 => ∃ u, e = .returned u ∧ Below W1.heap.size W1 W2 ∧ ∀ (pb : Nat) (r : Option Nat), pb < W1.heap.size → (∀ g, r = some g → g < W1.heap.size) → Lies (hush2 pb r W2) 1 u (pvs.map fun x => [x])) (hrp : ∀ (u : Value) (r : Option Nat) (T : List UInt8) (W : World), Page W pb r T → Ctx w0 pb r W → Lies (hush2 pb r W) 1 u (pvs.map fun x => [x]) → Calls Tryz.prog 96 #[.pointer (some ⟨pb, 0, none⟩), u, .func (.func 99) #[.pointer (some ⟨pb, 0, none⟩)] #[]] W (Prints pb r W (T ++ xou))) (bv : Value) (y8 : fcs[8]? = some bv) (xbo : List UInt8) (hbo : Says pb w0 100 #[.pointer (some ⟨pb, 0, none⟩), bv, .string ⟨#[9]⟩] xbo) (vcs : List Value) (hvc : ∀ (j : Nat) (u : Value), vcs[j]? = some u → fcs[9 + j]? = some u) (hvz : (Tryz.prog.info? 51).map (·.size) = some vcs.length) (xex : List UInt8) (hex : Says pb w0 101 #[.pointer (some ⟨pb, 0, none⟩), .agg vcs.toArray] xex) (hrt : RT = ([102, 110, 32] ++ bs name) ++ [91] ++ xlv ++ [93] ++ [40] ++ xpa ++ [41, 32, 45, 62, 32] ++ xty ++ [32, 119, 104, 101, 114, 101, 32] ++ xou ++ [32, 123, 10] ++ xbo ++ [9, 114, 101, 116, 32] ++ xex ++ [59, 10, 125, 10]) :
    Calls Tryz.prog 43 #[.pointer (some ⟨pb, 0, none⟩), .agg fcs.toArray] w (Prints pb r w (T ++ RT)) := by
  have hd1 : decide ((ln : Int) > 0) = true := decide_eq_true (by omega)
  have hd2 : decide ((on : Int) > 0) = true := decide_eq_true (by omega)
  have PR := hid (preB_of hp hc 53 fcs)
  have HRT := hid hrt
  have Y0 := hid y0
  have Y1 := hid y1
  have Y2 := hid y2
  have Y7 := hid y7
  have Y8 := hid y8
  have HPA := hid hpa
  have HTY := hid hty
  have HGC := hid hgc
  have HGZ := hid hgz
  have HBO := hid hbo
  have HEX := hid hex
  have HVC := hid hvc
  have HVZ := hid hvz
  have HLV := hid hlv
  have HCH := hid hch
  have HRP := hid hrp
  clear hrt hp hc y0 y1 y2 y7 y8 hpa hty hgc hgz hbo hex hvc hvz hlv hch hrp
  go_enter Tryz.func43, Tryz.ntmps43
  have hp0 := put2 pb r T ⟨#[102, 110, 32]⟩ name _ PR.out.page (by decide) hn
  rw [PR.out.size] at hp0
  have HQ := hid hp0
  clear hp0
  have l0 := box_get (box_unhush PR.out.box) Y0.out
  go_wp2_with fail
  with_reducible refine HQ.out.mono ?_
  rintro e W1 ⟨rfl, r1, h1, h2⟩
  have C1 := hid (PR.out.ctx.step h2)
  have S1 := hid (PR.out.step.trans h2)
  have X1 := hid (PR.out.box.keep h2.keeps)
  have P1 := hid h1
  clear h1 h2 HQ l0
  have HQ := hid (put1 pb r1 _ ⟨#[91]⟩ W1 P1.out (by decide))
  have l0 := box_get (box_unhush X1.out) Y1.out
  go_wp2_with fail
  with_reducible refine HQ.out.mono ?_
  rintro e W2 ⟨rfl, r2, h1, h2⟩
  have C2 := hid (C1.out.step h2)
  have S2 := hid (S1.out.trans h2)
  have X2 := hid (X1.out.keep h2.keeps)
  have P2 := hid h1
  clear h1 h2 HQ l0
  have CK := hid (HLV.out W2 r2 _ P2.out C2.out)
  have l0 := box_get (box_unhush X2.out) Y1.out
  go_wp2_with fail
  with_reducible refine CK.out.mono ?_
  rintro e W3 ⟨rfl, r3, h1, h2⟩
  have C3 := hid (C2.out.step h2)
  have S3 := hid (S2.out.trans h2)
  have X3 := hid (X2.out.keep h2.keeps)
  have P3 := hid h1
  clear h1 h2 CK l0
  have HQ := hid (put1 pb r3 _ ⟨#[93]⟩ W3 P3.out (by decide))
  go_wp2_with fail
  with_reducible refine HQ.out.mono ?_
  rintro e W4 ⟨rfl, r4, h1, h2⟩
  have C4 := hid (C3.out.step h2)
  have S4 := hid (S3.out.trans h2)
  have X4 := hid (X3.out.keep h2.keeps)
  have P4 := hid h1
  clear h1 h2 HQ 
  have HQ := hid (put1 pb r4 _ ⟨#[40]⟩ W4 P4.out (by decide))
  go_wp2_with fail
  with_reducible refine HQ.out.mono ?_
  rintro e W5 ⟨rfl, r5, h1, h2⟩
  have C5 := hid (C4.out.step h2)
  have S5 := hid (S4.out.trans h2)
  have X5 := hid (X4.out.keep h2.keeps)
  have P5 := hid h1
  clear h1 h2 HQ 
  have CK := hid (HPA.out W5 r5 _ P5.out C5.out)
  have l0 := box_get (box_unhush X5.out) Y2.out
  go_wp2_with fail
  with_reducible refine CK.out.mono ?_
  rintro e W6 ⟨rfl, r6, h1, h2⟩
  have C6 := hid (C5.out.step h2)
  have S6 := hid (S5.out.trans h2)
  have X6 := hid (X5.out.keep h2.keeps)
  have P6 := hid h1
  clear h1 h2 CK l0
  have HQ := hid (put1 pb r6 _ ⟨#[41, 32, 45, 62, 32]⟩ W6 P6.out (by decide))
  go_wp2_with fail
  with_reducible refine HQ.out.mono ?_
  rintro e W7 ⟨rfl, r7, h1, h2⟩
  have C7 := hid (C6.out.step h2)
  have S7 := hid (S6.out.trans h2)
  have X7 := hid (X6.out.keep h2.keeps)
  have P7 := hid h1
  clear h1 h2 HQ 
  have CK := hid (HTY.out W7 r7 _ P7.out C7.out)
  have HL : Hid (∀ (j : Nat) (u : Value), gcs[j]? = some u → W7.cell? ⟨w.heap.size, 3 + j, none⟩ = some u) := hid fun j u h => box_get (box_unhush X7.out) (HGC.out j u h)
  go_wp2_with (with_reducible refine wpList_load_at (o := ⟨some 39, _, _, _, _, _⟩) rfl _ _ rfl w.heap.size 3 rfl gcs _ HL.out Tryz.underlying45 rfl HGZ.out ?_)
  with_reducible refine CK.out.mono ?_
  rintro e W8 ⟨rfl, r8, h1, h2⟩
  have C8 := hid (C7.out.step h2)
  have S8 := hid (S7.out.trans h2)
  have X8 := hid (X7.out.keep h2.keeps)
  have P8 := hid h1
  clear h1 h2 CK HL
  have HQ := hid (put1 pb r8 _ ⟨#[32, 119, 104, 101, 114, 101, 32]⟩ W8 P8.out (by decide))
  have l0 := box_get (box_unhush X8.out) Y7.out
  go_wp2_with fail
  with_reducible refine HQ.out.mono ?_
  rintro e W9 ⟨rfl, r9, h1, h2⟩
  have C9 := hid (C8.out.step h2)
  have S9 := hid (S8.out.trans h2)
  have X9 := hid (X8.out.keep h2.keeps)
  have P9 := hid h1
  clear h1 h2 HQ l0
  have l0 := box_get (box_unhush X9.out) Y7.out
  have CK := hid (HCH.out W9 C9.out.below)
  go_wp2_with fail
  with_reducible refine CK.out.mono ?_
  rintro e Wc ⟨fv, rfl, hb, hcol⟩
  have Pc := hid (P9.out.below hb)
  have Cc := hid (C9.out.then hb)
  have Sc := hid (S9.out.then hb)
  have Xc := hid (X9.out.keep (Step.below (pb := pb) (r := r9) hb).keeps)
  have HCOL := hid hcol
  clear hb hcol CK l0
  go_wp2_with fail
  with_reducible refine HCOL.out.mono ?_
  rintro e Wd ⟨u, rfl, hb, hli⟩
  have hlo := hli pb r9 Pc.out.lt Pc.out.rowlt
  have P10 := hid (Pc.out.below hb)
  have C10 := hid (Cc.out.then hb)
  have S10 := hid (Sc.out.then hb)
  have X10 := hid (Xc.out.keep (Step.below (pb := pb) (r := r9) hb).keeps)
  have CR := hid (HRP.out u r9 _ Wd P10.out C10.out hlo)
  clear hb hli hlo HCOL Pc Cc Sc Xc
  go_wp2_with fail
  with_reducible refine CR.out.mono ?_
  rintro e W11 ⟨rfl, r11, h1, h2⟩
  have C11 := hid (C10.out.step h2)
  have S11 := hid (S10.out.trans h2)
  have X11 := hid (X10.out.keep h2.keeps)
  have P11 := hid h1
  clear h1 h2 CR
  have HQ := hid (put1 pb r11 _ ⟨#[32, 123, 10]⟩ W11 P11.out (by decide))
  go_wp2_with fail
  with_reducible refine HQ.out.mono ?_
  rintro e W12 ⟨rfl, r12, h1, h2⟩
  have C12 := hid (C11.out.step h2)
  have S12 := hid (S11.out.trans h2)
  have X12 := hid (X11.out.keep h2.keeps)
  have P12 := hid h1
  clear h1 h2 HQ 
  have CK := hid (HBO.out W12 r12 _ P12.out C12.out)
  have l0 := box_get (box_unhush X12.out) Y8.out
  go_wp2_with fail
  with_reducible refine CK.out.mono ?_
  rintro e W13 ⟨rfl, r13, h1, h2⟩
  have C13 := hid (C12.out.step h2)
  have S13 := hid (S12.out.trans h2)
  have X13 := hid (X12.out.keep h2.keeps)
  have P13 := hid h1
  clear h1 h2 CK l0
  have HQ := hid (put1 pb r13 _ ⟨#[9, 114, 101, 116, 32]⟩ W13 P13.out (by decide))
  go_wp2_with fail
  with_reducible refine HQ.out.mono ?_
  rintro e W14 ⟨rfl, r14, h1, h2⟩
  have C14 := hid (C13.out.step h2)
  have S14 := hid (S13.out.trans h2)
  have X14 := hid (X13.out.keep h2.keeps)
  have P14 := hid h1
  clear h1 h2 HQ 
  have CK := hid (HEX.out W14 r14 _ P14.out C14.out)
  have HL : Hid (∀ (j : Nat) (u : Value), vcs[j]? = some u → W14.cell? ⟨w.heap.size, 9 + j, none⟩ = some u) := hid fun j u h => box_get (box_unhush X14.out) (HVC.out j u h)
  go_wp2_with (with_reducible refine wpList_load_at (o := ⟨some 68, _, _, _, _, _⟩) rfl _ _ rfl w.heap.size 9 rfl vcs _ HL.out Tryz.underlying51 rfl HVZ.out ?_)
  with_reducible refine CK.out.mono ?_
  rintro e W15 ⟨rfl, r15, h1, h2⟩
  have C15 := hid (C14.out.step h2)
  have S15 := hid (S14.out.trans h2)
  have X15 := hid (X14.out.keep h2.keeps)
  have P15 := hid h1
  clear h1 h2 CK HL
  have HQ := hid (put1 pb r15 _ ⟨#[59, 10, 125, 10]⟩ W15 P15.out (by decide))
  go_wp2_with fail
  with_reducible refine HQ.out.mono ?_
  rintro e W16 ⟨rfl, r16, h1, h2⟩
  have C16 := hid (C15.out.step h2)
  have S16 := hid (S15.out.trans h2)
  have X16 := hid (X15.out.keep h2.keeps)
  have P16 := hid h1
  clear h1 h2 HQ 
  have PE : Hid (Page W16 pb r16 (T ++ RT)) := hid (by
    have h3 : Page W16 pb r16 (T ++ ([102, 110, 32] ++ bs name) ++ [91] ++ xlv ++ [93] ++ [40] ++ xpa ++ [41, 32, 45, 62, 32] ++ xty ++ [32, 119, 104, 101, 114, 101, 32] ++ xou ++ [32, 123, 10] ++ xbo ++ [9, 114, 101, 116, 32] ++ xex ++ [59, 10, 125, 10]) := P16.out
    rw [HRT.out]
    simpa only [List.append_assoc] using h3)
  go_wp2_with fail
  go_end0
  exact ⟨rfl, r16, PE.out, S16.out⟩
end
end Go.Proofs.YtjkdcladjjpmoaaGreatDoor.PageC

/- Texts joined: PageJ, TextB, TextC. -/
import Derived.Test.YtjkdcladjjpmoaaGreatDoorJ20
import Derived.Test.YtjkdcladjjpmoaaGreatDoorJ19
import Derived.Test.YtjkdcladjjpmoaaGreatDoorJ14
import Derived.Test.YtjkdcladjjpmoaaGreatDoorJ03
import Derived.BigQuiet
import Derived.Deep.QuietTactic
/- Contract of (*tree.page).stmts, of any right statements. -/
namespace Go.Proofs.YtjkdcladjjpmoaaGreatDoor.PageC
open Go Go.RowKit Go.Lib Go.Sort Go.Proofs.YtjkdcladjjpmoaaGreatDoor.LexP Go.Proofs.YtjkdcladjjpmoaaGreatDoor.TreeP Go.Proofs.YtjkdcladjjpmoaaGreatDoor.LexC Go.Proofs.YtjkdcladjjpmoaaGreatDoor.TreeC

theorem bs_tab (s : ByteArray) : bs (s ++ ⟨#[9]⟩) = bs s ++ [9] := by
  show (s ++ ⟨#[9]⟩ : ByteArray).data.toList = _
  simp [bs]
theorem size_tab (s : ByteArray) : (s ++ ⟨#[9]⟩ : ByteArray).size = s.size + 1 := by
  rw [size_eq, size_eq, show (s ++ ⟨#[9]⟩ : ByteArray).data.toList = bs (s ++ ⟨#[9]⟩) from rfl, bs_tab, List.length_append]
  rfl
theorem rightSs_mem : ∀ {l : List St}, rightSs l = true → ∀ x ∈ l, rightS x = true
  | [], _, x, hx => by simp at hx
  | t :: ts, h, x, hx => by
    rw [rightSs, Bool.and_eq_true] at h
    rcases List.mem_cons.1 hx with rfl | hx
    · exact h.1
    · exact rightSs_mem h.2 x hx
/-- a statement's text, without the tabs ahead -/
def bodyS (tabs : List UInt8) : St → List UInt8
  | .mk k name place expr _ thn _ els =>
    if k = 1 then [108, 101, 116, 32] ++ (bs name ++ [32, 61, 32]) ++ textE expr ++ [59, 10]
    else if k = 2 then textE place ++ [32, 61, 32] ++ textE expr ++ [59, 10]
    else if k = 3 then [105, 102, 32] ++ textE expr ++ [32, 123, 10] ++ textSs (tabs ++ [9]) thn ++ (tabs ++ [125, 32, 101, 108, 115, 101, 32, 123, 10]) ++ textSs (tabs ++ [9]) els ++ (tabs ++ [125, 10])
    else [114, 101, 112, 101, 97, 116, 32] ++ textE expr ++ [32, 123, 10] ++ textSs (tabs ++ [9]) thn ++ (tabs ++ [125, 10])
theorem textS_body (tabs : List UInt8) (s : St) : textS tabs s = tabs ++ bodyS tabs s := by
  obtain ⟨k, name, place, expr, tv, thn, ev, els⟩ := s
  rw [textS, bodyS]
  by_cases k1 : k = 1
  · rw [if_pos k1, if_pos k1]; simp only [List.append_assoc]
  rw [if_neg k1, if_neg k1]
  by_cases k2 : k = 2
  · rw [if_pos k2, if_pos k2]; simp only [List.append_assoc]
  rw [if_neg k2, if_neg k2]
  by_cases k3 : k = 3
  · rw [if_pos k3, if_pos k3]; simp only [List.append_assoc]
  rw [if_neg k3, if_neg k3]; simp only [List.append_assoc]
theorem textSs_snoc (tabs : List UInt8) : ∀ (l : List St) (i : Nat) (x : St), l[i]? = some x → textSs tabs (l.take (i + 1)) = textSs tabs (l.take i) ++ textS tabs x
  | [], i, x, h => by simp at h
  | y :: l, 0, x, h => by simp at h; subst h; simp [textSs]
  | y :: l, i + 1, x, h => by rw [List.take_succ_cons, List.take_succ_cons, textSs, textSs, textSs_snoc tabs l i x (by simpa using h), List.append_assoc]

theorem stmt_says (pb : Nat) (w0 : World) (hf : Fmt w0) (N : Nat) (_hN : N ≤ 1048576) (x : St) (tabs : ByteArray) (hw : wS x ≤ N) (ht : tabs.size + N ≤ 1048576) (hr : rightS x = true) (hin : x.In w0)
    (IH : ∀ (l : List St) (v : Value), wSs l + 5 ≤ wS x → rightSs l = true → Lies w0 14 v (l.map St.cells) → St.Ins w0 l → Says pb w0 100 #[.pointer (some ⟨pb, 0, none⟩), v, .string (tabs ++ ⟨#[9]⟩)] (textSs (bs (tabs ++ ⟨#[9]⟩)) l)) :
    Says pb w0 151 #[.pointer (some ⟨pb, 0, none⟩), .agg (St.cells x).toArray, .string tabs] (bodyS (bs tabs) x) := by
  intro w r T hp hc
  obtain ⟨k, name, place, expr, tv, thn, ev, els⟩ := x
  rw [wS] at hw IH
  rw [rightS] at hr
  rw [St.In] at hin
  simp only [Bool.and_eq_true] at hr
  have hnm : name.size ≤ 1048576 := by omega
  have htb : tabs.size ≤ 1048576 := by omega
  have hE : ∀ e : Ex, rightE e = true → e.In w0 → wE e ≤ 1048576 → Says pb w0 101 #[.pointer (some ⟨pb, 0, none⟩), .agg e.cells.toArray] (textE e) := fun e h1 h2 h3 W r T h4 h5 => expr_any pb w0 hf (wE e) e r T W (Nat.le_refl _) h3 h1 h2 h4 h5
  have y0 : (St.cells (.mk k name place expr tv thn ev els))[0]? = some (.int .i64 k) := rfl
  have y1 : (St.cells (.mk k name place expr tv thn ev els))[1]? = some (.string name) := rfl
  have y12 : (St.mk k name place expr tv thn ev els).cells[12]? = some tv := St.cells_tv ..
  have y13 : (St.mk k name place expr tv thn ev els).cells[13]? = some ev := St.cells_ev ..
  have yp : ∀ (j : Nat) (u : Value), place.cells[j]? = some u → (St.mk k name place expr tv thn ev els).cells[2 + j]? = some u := fun j u h => St.cells_place h
  have ye : ∀ (j : Nat) (u : Value), expr.cells[j]? = some u → (St.mk k name place expr tv thn ev els).cells[7 + j]? = some u := fun j u h => St.cells_expr h
  have sE := hE expr hr.1.1.1 hin.2.1 (by omega)
  have sT := IH thn tv (by omega) hr.1.1.2.1 hin.2.2.1 hin.2.2.2.1
  have sL := IH els ev (by omega) hr.1.2.1 hin.2.2.2.2.1 hin.2.2.2.2.2
  rw [bs_tab] at sT sL
  have ha := hr.2
  unfold askS at ha
  rw [bodyS]
  by_cases k1 : k = 1
  · subst k1
    rw [if_pos rfl]
    exact stmt_1 pb w0 r T w _ tabs _ hp hc y0 name hnm y1 _ _ sE (exSize expr) ye rfl
  rw [if_neg k1] at ha ⊢
  by_cases k2 : k = 2
  · subst k2
    rw [if_pos rfl] at ha ⊢
    simp only [Bool.and_eq_true] at ha
    exact stmt_2 pb w0 r T w _ tabs _ hp hc y0 _ _ (hE place ha.1.2 hin.1 (by omega)) (exSize place) yp _ _ sE (exSize expr) ye rfl
  rw [if_neg k2] at ha ⊢
  by_cases k3 : k = 3
  · subst k3
    rw [if_pos rfl]
    exact stmt_3 pb w0 r T w _ tabs _ hp hc y0 htb _ _ sE (exSize expr) ye _ _ sT _ _ sL y12 y13 rfl
  rw [if_neg k3] at ha ⊢
  by_cases k4 : k = 4
  · subst k4
    exact stmt_4 pb w0 r T w _ tabs _ hp hc y0 htb _ _ sE (exSize expr) ye _ _ sT y12 rfl
  · rw [if_neg k4] at ha
    cases ha

set_option maxHeartbeats 8000000 in
set_option maxRecDepth 100000 in
theorem stmts_loop (pb : Nat) (w0 : World) (l : List St) (v : Value) (tabs : ByteArray) (r : Option Nat) (T : List UInt8) (w : World) (h : Page w pb r T) (hc : Ctx w0 pb r w) (hl : Lies w0 14 v (l.map St.cells)) (hin : St.Ins w0 l) (hn : l.length ≤ 1048576) (ht : tabs.size ≤ 1048576)
    (H : ∀ x ∈ l, Says pb w0 151 #[.pointer (some ⟨pb, 0, none⟩), .agg (St.cells x).toArray, .string tabs] (bodyS (bs tabs) x)) :
    Calls Tryz.prog 100 #[.pointer (some ⟨pb, 0, none⟩), v, .string tabs] w (Prints pb r w (T ++ textSs (bs tabs) l)) := by
  obtain ⟨p, cap, rfl, hcap, _⟩ := id hl
  rw [List.length_map] at *
  generalize hL : l.length = L at *
  have HL := hid hL
  have HX := hid hl
  have HH := hid H
  have HI := hid hin
  have P0 : Hid (Page w pb r (T ++ textSs (bs tabs) (l.take 0))) := hid (by rw [List.take_zero, textSs, List.append_nil]; exact h)
  have S0 := hid (Step.refl pb r w)
  have HC := hid hc
  clear hL hl H hin h hc hcap
  go_enter Tryz.func100, Tryz.ntmps100
  go_wp2_with fail
  go_loopg [10] L (fun gf v wx => ∃ (i : Nat) (r' : Option Nat), v = .int .i64 (i : Int) ∧ i ≤ L ∧ L ≤ i + gf ∧ Hid (Page wx pb r' (T ++ textSs (bs tabs) (l.take i))) ∧ Hid (Step pb r w r' wx))
  case atStart => exact ⟨0, r, rfl, by omega, by omega, P0, S0⟩
  case round =>
    obtain ⟨i, r', rfl, hi, hg, HP, HST⟩ := hrel
    clear P0 S0
    by_cases hlt : i < L
    · obtain ⟨x, hx0⟩ : ∃ x, l[i]? = some x := ⟨l[i]'(by rw [HL.out]; exact hlt), List.getElem?_eq_getElem _⟩
      have hcx := HC.out.step HST.out
      obtain ⟨b, off, cap', e, hcc, hx⟩ := Lies.at (HX.out.keep hcx.keeps) (i := i) (by rw [List.length_map, HL.out]; exact hlt)
      injection e with e1 e2 e3
      subst e1
      clear e2 e3 hcc
      have hx' : ∀ (j : Nat) (u : Value), (St.cells x)[j]? = some u → wr.cell? ⟨b, off + i * 14 + j, none⟩ = some u := hx i _ (by rw [List.getElem?_map, hx0]; rfl)
      have hj := textSs_snoc (bs tabs) l i x hx0
      rw [textS_body, ← List.append_assoc] at hj
      have hz := stSize x
      have ho := st_ones ((St.ins_iff w0 l).1 HI.out x (List.mem_of_getElem? hx0))
      unfold Ones at ho
      have hcl := HH.out x (List.mem_of_getElem? hx0)
      generalize St.cells x = fcs at *
      generalize bodyS (bs tabs) x = tx at *
      have hb2 : Below wr.heap.size wr ((wr.alloc (.cells #[.int .i64 0, .string ⟨#[]⟩, .int .i64 0, .int .i64 0, .string ⟨#[]⟩, .bool false, .slice none 0 0, .int .i64 0, .int .i64 0, .string ⟨#[]⟩, .bool false, .slice none 0 0, .slice none 0 0, .slice none 0 0] 111 (0, 0))).setRow wr.heap.size fcs.toArray) := rowed_below' _ _ _
      have hX2 : BoxAt ((wr.alloc (.cells #[.int .i64 0, .string ⟨#[]⟩, .int .i64 0, .int .i64 0, .string ⟨#[]⟩, .bool false, .slice none 0 0, .int .i64 0, .int .i64 0, .string ⟨#[]⟩, .bool false, .slice none 0 0, .slice none 0 0, .slice none 0 0] 111 (0, 0))).setRow wr.heap.size fcs.toArray) wr.heap.size fcs := rowed_box' _ _ _ _
      have HX2 := hid (box_hush2 (pb := pb) (r := r') hX2 (by have := HP.out.lt; omega) (fun e => by have := HP.out.rowlt _ e.symm; omega))
      have P2 := hid (HP.out.below hb2)
      have C2 := hid (hcx.then hb2)
      have S2 := hid (HST.out.then hb2)
      have ZF := hid hz
      have ZA : Hid ((Tryz.prog.info? 111).map (·.size) = some fcs.toArray.size) := hid (by rw [List.size_toArray]; exact hz)
      have ZO : Hid ((#[.int .i64 0, .string ⟨#[]⟩, .int .i64 0, .int .i64 0, .string ⟨#[]⟩, .bool false, .slice none 0 0, .int .i64 0, .int .i64 0, .string ⟨#[]⟩, .bool false, .slice none 0 0, .slice none 0 0, .slice none 0 0] : Array Value).size = fcs.toArray.size) := hid (by
        rw [show (Tryz.prog.info? 111).map (·.size) = some 14 by kernel_rfl] at hz
        exact Option.some.inj hz)
      have H1C := hid ho
      have HXX := hid hx'
      have HCL := hid hcl
      have HJ := hid hj
      have hcp := put1 pb r' _ tabs _ P2.out ht
      rw [show ((wr.alloc (.cells #[.int .i64 0, .string ⟨#[]⟩, .int .i64 0, .int .i64 0, .string ⟨#[]⟩, .bool false, .slice none 0 0, .int .i64 0, .int .i64 0, .string ⟨#[]⟩, .bool false, .slice none 0 0, .slice none 0 0, .slice none 0 0] 111 (0, 0))).setRow wr.heap.size fcs.toArray).heap.size = wr.heap.size + 1 by simp] at hcp
      have CP := hid hcp
      clear hx hx' hx0 hj hz ho hcl hb2 hX2 hcx HP HST hcp
      go_wp2_with (first | (with_reducible refine wpList_load_at (o := ⟨some 13, _, _, _, _, _⟩) rfl _ _ rfl b (off + i * 14) rfl fcs _ HXX.out Tryz.underlying111 rfl ZF.out ?_) | (with_reducible refine wpList_store_row (o := ⟨none, _, _, _, _, _⟩) rfl _ _ _ rfl wr.heap.size fcs.toArray rfl rfl _ _ (heap_alloc_new _ _) ZA.out ZO.out H1C.out ?_))
      with_reducible refine CP.out.mono ?_
      rintro e W5 ⟨rfl, r2, hp5, hs5⟩
      have C5 := hid (C2.out.step hs5)
      have X5 := hid (box_unhush (HX2.out.keep hs5.keeps))
      have S5 := hid (S2.out.trans hs5)
      have CC := hid (HCL.out W5 r2 _ hp5 C5.out)
      have XE5 : Hid (∀ (j : Nat) (u : Value), fcs[j]? = some u → W5.cell? ⟨wr.heap.size, 0 + j, none⟩ = some u) := hid fun j u h => by rw [Nat.zero_add]; exact X5.out j u h
      clear hp5 hs5 CP S2 C2 P2 HX2
      go_wp2_with (with_reducible refine wpList_load_at (o := ⟨some 19, _, _, _, _, _⟩) rfl _ _ rfl wr.heap.size 0 rfl fcs _ XE5.out Tryz.underlying111 rfl ZF.out ?_)
      with_reducible refine CC.out.mono ?_
      rintro e W6 ⟨rfl, r3, hp6, hs6⟩
      have P6 : Hid (Page W6 pb r3 (T ++ textSs (bs tabs) (l.take (i + 1)))) := hid (by
        rw [HJ.out, ← List.append_assoc, ← List.append_assoc]; exact hp6)
      have S6 := hid (S5.out.trans hs6)
      clear hp6 hs6 CC
      go_wp2_with fail
      go_roundg (gk - 1)
      case measure => omega
      case rel => exact ⟨i + 1, r3, by go_num, by omega, by omega, P6, S6⟩
    · obtain rfl : i = L := by omega
      have K : Hid (Page wr pb r' (T ++ textSs (bs tabs) l)) := hid (by have := HP.out; rw [← HL.out, List.take_length] at this; exact this)
      go_wp2_with fail
      go_end0
      exact ⟨rfl, r', K.out, HST.out⟩

theorem stmts_any (pb : Nat) (w0 : World) (hf : Fmt w0) : ∀ (n : Nat) (l : List St) (v : Value) (tabs : ByteArray) (r : Option Nat) (T : List UInt8) (w : World), wSs l ≤ n → tabs.size + n ≤ 1048576 → rightSs l = true → Lies w0 14 v (l.map St.cells) → St.Ins w0 l → Page w pb r T → Ctx w0 pb r w →
    Calls Tryz.prog 100 #[.pointer (some ⟨pb, 0, none⟩), v, .string tabs] w (Prints pb r w (T ++ textSs (bs tabs) l)) := by
  intro n
  induction n using Nat.strongRecOn with
  | ind n ih =>
    intro l v tabs r T w hw ht hr hl hin hp hc
    have hlen := wSs_len l
    refine stmts_loop pb w0 l v tabs r T w hp hc hl hin (by omega) (by omega) fun x hx => ?_
    have hwx := mem_wS (l := l) hx
    refine stmt_says pb w0 hf n (by omega) x tabs (by omega) ht (rightSs_mem hr x hx) ((St.ins_iff w0 l).1 hin x hx) fun l2 v2 h1 h2 h3 h4 W r2 T2 h5 h6 => ?_
    exact ih (n - 1) (by omega) l2 v2 (tabs ++ ⟨#[9]⟩) r2 T2 W (by omega) (by rw [size_tab]; omega) h2 h3 h4 h5 h6
end Go.Proofs.YtjkdcladjjpmoaaGreatDoor.PageC
/- How long texts are at most; contract of lienbookref02.digits. -/
namespace Go.Proofs.YtjkdcladjjpmoaaGreatDoor.TextC
open Go Go.RowKit Go.Lib Go.Sort Go.Proofs.YtjkdcladjjpmoaaGreatDoor.LexP Go.Proofs.YtjkdcladjjpmoaaGreatDoor.TreeP Go.Proofs.YtjkdcladjjpmoaaGreatDoor.LexC Go.Proofs.YtjkdcladjjpmoaaGreatDoor.TreeC Go.Proofs.YtjkdcladjjpmoaaGreatDoor.PageC

theorem head_len (ts : List (List UInt8)) : (ts.headD []).length ≤ lens ts := by
  cases ts with
  | nil => simp
  | cons x l => rw [lens]; show x.length ≤ _; omega
theorem two_len (ts : List (List UInt8)) : (ts.headD []).length + ((ts.drop 1).headD []).length ≤ lens ts := by
  cases ts with
  | nil => simp
  | cons x l => rw [lens]; have := head_len l; show x.length + (l.headD []).length ≤ _; omega
theorem mut_len (b : Bool) : (mutB b).length ≤ 4 := by cases b <;> decide
theorem inP_len (s : List UInt8) (b : Bool) : (inP s b).length ≤ s.length + 2 := by
  cases b
  · show s.length ≤ _; omega
  · unfold inP; rw [if_pos rfl]; simp
theorem dec_len (n : Nat) : (dec n).length ≤ 20 := by
  have := decB_len 20 n []
  unfold dec
  simp at this
  exact this
mutual
theorem len_T : ∀ t : Ty, (textT t).length + 2 ≤ 2 * wT t
  | .mk k life m v kids => by
    have h := len_Ts kids
    have h1 := row_len (textTs kids)
    have h2 := head_len (textTs kids)
    have h3 := mut_len m
    have h4 : (bs life).length = life.size := (size_eq life).symm
    rw [textT, wT]
    by_cases k1 : k = 1
    · rw [if_pos k1]; simp only [List.length_cons, List.length_nil]; omega
    rw [if_neg k1]
    by_cases k2 : k = 2
    · rw [if_pos k2]; simp only [List.length_append, List.length_cons, List.length_nil]; omega
    rw [if_neg k2]
    by_cases k3 : k = 3
    · rw [if_pos k3]; simp only [List.length_append, List.length_cons, List.length_nil]; omega
    rw [if_neg k3]; simp only [List.length_append, List.length_cons, List.length_nil]; omega
theorem len_Ts : ∀ l : List Ty, lens (textTs l) ≤ 2 * wTs l
  | [] => by simp [textTs, lens]
  | t :: ts => by
    have h1 := len_T t
    have h2 := len_Ts ts
    rw [textTs, lens, wTs]; omega
end
theorem joinE_len (k num : Int) (name : List UInt8) (m : Bool) (k0 : Int) (s0 s1 : Nat) (ts : List (List UInt8)) : (joinE k num name m k0 s0 s1 ts).length + 2 ≤ 5 * (6 + name.length) + lens ts := by
  have h1 := row_len ts
  have h2 := head_len ts
  have h3 := two_len ts
  have h4 := mut_len m
  have h5 := dec_len num.toNat
  have h6 := inP_len (ts.headD []) (k0 == 4)
  have h7 := inP_len (ts.headD []) (k0 == 8)
  have h8 := inP_len (ts.headD []) (asideB (strK 8 name) s0 0)
  have h9 := inP_len ((ts.drop 1).headD []) (asideB (strK 8 name) s1 1)
  unfold joinE
  repeat' (split)
  all_goals (try simp only [List.length_append, List.length_cons, List.length_nil]); omega
mutual
theorem len_E : ∀ x : Ex, (textE x).length + 2 ≤ 5 * wE x
  | .mk k num name m v kids => by
    have h := len_Es kids
    have h4 : (bs name).length = name.size := (size_eq name).symm
    have := joinE_len k num (bs name) m (kindAt 0 kids) (strAt 0 kids) (strAt 1 kids) (textEs kids)
    rw [textE, wE]
    omega
theorem len_Es : ∀ l : List Ex, lens (textEs l) ≤ 5 * wEs l
  | [] => by simp [textEs, lens]
  | t :: ts => by
    have h1 := len_E t
    have h2 := len_Es ts
    rw [textEs, lens, wEs]; omega
end

/-! ### digits -/
theorem dig_ext : ∀ d : Nat, d < 10 → (⟨#[48, 49, 50, 51, 52, 53, 54, 55, 56, 57]⟩ : ByteArray).extract d (d + 1) = Sb [UInt8.ofNat (48 + d)] := by
  intro d hd
  have : d = 0 ∨ d = 1 ∨ d = 2 ∨ d = 3 ∨ d = 4 ∨ d = 5 ∨ d = 6 ∨ d = 7 ∨ d = 8 ∨ d = 9 := by omega
  rcases this with rfl | rfl | rfl | rfl | rfl | rfl | rfl | rfl | rfl | rfl <;> rfl
set_option maxHeartbeats 4000000 in
theorem digits_r (n : Nat) (w : World) (hn : n ≤ 999999999999999999) : Calls Tryz.prog 108 #[.int .i64 (n : Int)] w fun e w' => e = .returned (.string (Sb (dec n))) ∧ w = w' := by
  obtain ⟨R, hR⟩ : ∃ R, dec n = R := ⟨_, rfl⟩
  rw [hR]
  have D0 : Hid (decB 20 n [] = R) := hid (by rw [← hR]; rfl)
  have U0 : Hid ((⟨#[]⟩ : ByteArray) = Sb []) := hid rfl
  clear hR
  go_enter Tryz.func108, Tryz.ntmps108
  go_wp2_with fail
  go_loopg [0, 3] 20 (fun gf u v wx => ∃ (m : Nat) (acc : List UInt8) (s : ByteArray), u = .int .i64 (m : Int) ∧ v = .string s ∧ m ≤ 999999999999999999 ∧ acc.length + gf ≤ 20 ∧ m < 10 ^ gf ∧ 0 < gf ∧ Hid (decB gf m acc = R) ∧ Hid (s = Sb acc) ∧ wx = w)
  case atStart => exact ⟨n, [], _, rfl, rfl, hn, by simp, by
    have : (10 : Nat) ^ 20 = 100000000000000000000 := by decide
    omega, by decide, D0, U0, rfl⟩
  case round =>
    obtain ⟨m, acc, s, rfl, rfl, hm, hl, hp, hg, HD, HS, rfl⟩ := hrel
    have hss : s.size ≤ 20 := by rw [HS.out, Sb_size]; omega
    obtain ⟨g', rfl⟩ : ∃ g', gk = g' + 1 := ⟨gk - 1, by omega⟩
    have hd := HD.out
    rw [decB] at hd
    have K0 := hid (show (⟨#[48, 49, 50, 51, 52, 53, 54, 55, 56, 57]⟩ : ByteArray).extract (m % 10) (m % 10 + 1) ++ s = Sb (UInt8.ofNat (48 + m % 10) :: acc) by rw [dig_ext _ (by omega), HS.out, Sb_app]; rfl)
    by_cases h0 : m / 10 = 0
    · rw [if_pos h0] at hd
      have KR := hid hd
      have e0 : ((m : Int) / 10 == 0) = true := by simp; omega
      clear hd HD HS D0 U0 h0 hp
      go_wp2_with fail
      go_ret
      exact ⟨by show Ending.returned (.string _) = _; rw [K0.out, KR.out], rfl⟩
    · rw [if_neg h0] at hd
      have KR := hid hd
      have e0 : ((m : Int) / 10 == 0) = false := by simp; omega
      have hg2 : 0 < g' := by
        rcases Nat.eq_zero_or_pos g' with e | e
        · subst e; simp at hp; omega
        · exact e
      have hp2 : m / 10 < 10 ^ g' := by rw [Nat.pow_succ] at hp; omega
      have HP2 := hid hp2
      clear hd HD HS D0 U0 h0 hp hp2
      go_wp2_with fail
      go_roundg g'
      case measure => omega
      case rel => exact ⟨m / 10, UInt8.ofNat (48 + m % 10) :: acc, _, rfl, rfl, by omega, by rw [List.length_cons]; omega, HP2.out, hg2, KR, K0, rfl⟩
end Go.Proofs.YtjkdcladjjpmoaaGreatDoor.TextC
/- Contract of lienbookref02.Type. -/
namespace Go.Proofs.YtjkdcladjjpmoaaGreatDoor.TextC
open Go Go.RowKit Go.Lib Go.Sort Go.Proofs.YtjkdcladjjpmoaaGreatDoor.LexP Go.Proofs.YtjkdcladjjpmoaaGreatDoor.TreeP Go.Proofs.YtjkdcladjjpmoaaGreatDoor.LexC Go.Proofs.YtjkdcladjjpmoaaGreatDoor.TreeC Go.Proofs.YtjkdcladjjpmoaaGreatDoor.PageC

theorem below_drewN (w : World) (n : Nat) : Below w.heap.size w (w.drewN n) := ⟨rfl, rfl, rfl, Nat.le_refl _, fun _ _ => rfl⟩
theorem str_info : (Tryz.prog.info? 9).map (fun i => (i.zero, i.size, i.bytes)) = some (some (.string ⟨#[]⟩), 1, 16) := by kernel_rfl
theorem strs_snoc (l : List (List UInt8)) (t : List UInt8) : strs (l ++ [t]) = strs l ++ [.string (Sb t)] := by simp [strs]
theorem strs_len (l : List (List UInt8)) : (strs l).length = l.length := by simp [strs]
theorem owns_strs {w : World} {base : Nat} {e : TypeId} {v : Value} {l : List (List UInt8)} (h : w.ownsRow base e 1 v l.length (strs l)) : Lies w 1 v ((strs l).map fun x => [x]) := by
  obtain ⟨h1, ⟨rfl, h2⟩ | ⟨g, cap, cur, rfl, h3, h4, h5, h6, h7, h8⟩⟩ := id h
  · have : l = [] := List.eq_nil_of_length_eq_zero h2
    subst this
    exact lies_none
  · refine ⟨some ⟨g, 0, none⟩, cap, by simp [strs], by simp [strs]; exact h5, fun _ => ⟨g, 0, rfl, fun i c hi j u hj => ?_⟩⟩
    rw [List.getElem?_map] at hi
    obtain ⟨x, hx, rfl⟩ := Option.map_eq_some_iff.1 hi
    match j, hj with
    | 0, hj =>
      simp at hj; subst hj
      rw [Nat.zero_add, Nat.mul_one, Nat.add_zero]
      exact owns_cell h hx
    | j + 1, hj => simp at hj
theorem owns_at {w : World} {base : Nat} {e : TypeId} {v : Value} {l : List (List UInt8)} (h : w.ownsRow base e 1 v l.length (strs l)) {i : Nat} {t : List UInt8} (ht : l[i]? = some t) :
    ∃ g cap, v = .slice (some ⟨g, 0, none⟩) l.length cap ∧ w.cell? ⟨g, i, none⟩ = some (.string (Sb t)) := by
  obtain ⟨_, ⟨rfl, h2⟩ | ⟨g, cap, cur, rfl, _⟩⟩ := id h
  · have : l = [] := List.eq_nil_of_length_eq_zero h2
    subst this
    simp at ht
  · exact ⟨g, cap, rfl, owns_cell h (by unfold strs; rw [List.getElem?_map, ht]; rfl)⟩

set_option maxHeartbeats 8000000 in
set_option maxRecDepth 100000 in
/-- the kids' texts, gathered: what holds ahead of the choice of the kind -/
theorem type_r : ∀ (n : Nat) (t : Ty) (w : World), wT t ≤ n → n ≤ 1048576 → rightT t = true → t.In w →
    Calls Tryz.prog 49 #[.agg (Ty.cells t).toArray] w fun e w' => e = .returned (.string (Sb (textT t))) ∧ Below w.heap.size w w' := by
  intro n
  induction n using Nat.strongRecOn with
  | ind n ih =>
    intro t w hw hn hr hin
    obtain ⟨i0, hinf, hi0⟩ := Option.map_eq_some_iff.1 str_info
    have hz0 : i0.zero = some (.string ⟨#[]⟩) := by rw [Prod.mk.injEq] at hi0; exact hi0.1
    have hz1 : i0.size = 1 := by rw [Prod.mk.injEq, Prod.mk.injEq] at hi0; exact hi0.2.1
    have hz2 : i0.bytes = 16 := by rw [Prod.mk.injEq, Prod.mk.injEq] at hi0; exact hi0.2.2
    clear hi0
    obtain ⟨k, life, m, v, kids⟩ := t
    rw [wT] at hw
    rw [rightT, Bool.and_eq_true] at hr
    rw [Ty.In] at hin
    have hlen := wTs_len kids
    have hlens := len_Ts kids
    have hk : k = 1 ∨ (k = 2 ∧ kids.length = 1) ∨ (k = 3 ∧ 2 ≤ kids.length) ∨ (k = 4 ∧ kids.length = 1) := by
      have h := hr.2
      by_cases h4 : k = 4
      · rw [if_pos h4] at h; simp at h; omega
      · rw [if_neg h4] at h; simp at h; omega
    have hmem : ∀ x ∈ kids, ∀ W, Below w.heap.size w W → Calls Tryz.prog 49 #[.agg (Ty.cells x).toArray] W fun e w' => e = .returned (.string (Sb (textT x))) ∧ Below W.heap.size W w' := fun x hx W hb => by
      have := mem_wT (l := kids) hx
      exact ih (wT x) (by omega) x W (Nat.le_refl _) (by omega) (rightTs_mem hr.1 x hx) (Ty.In.keep (Keeps.of_below hb) x ((Ty.ins_iff _ _).1 hin.2 x hx))
    obtain ⟨q, cap, rfl, hcap, hqq⟩ := id hin.1
    rw [List.length_map] at *
    show Calls _ _ #[.agg #[.int .i64 k, .string life, .bool m, .slice q kids.length cap]] _ _
    have hb0 : Below w.heap.size w (w.alloc (.cells #[.int .i64 k, .string life, .bool m, .slice q kids.length cap] 45 (0, 0))) := (Below.refl _ _).alloc (Nat.le_refl _) _
    have B0 := hid hb0
    have X0 := hid (BoxAt.new w [.int .i64 k, .string life, .bool m, .slice q kids.length cap] 45)
    have O0 : Hid ((w.alloc (.cells #[.int .i64 k, .string life, .bool m, .slice q kids.length cap] 45 (0, 0))).ownsRow (w.heap.size + 1) 9 1 (.slice none 0 0) 0 (strs ((kids.map textT).take 0))) := hid (by rw [List.take_zero]; exact World.ownsRow_nil _ _ _ _)
    have HI := hid hin.1
    have HM := hid hmem
    have HK := hid hk
    have HLE := hid (show lens (kids.map textT) ≤ 2097152 by rw [← textTs_map]; omega)
    have hls : life.size ≤ 1048576 := by omega
    have hkl : kids.length ≤ 1048576 := by omega
    obtain ⟨R, hR⟩ : ∃ R, textT (.mk k life m (.slice q kids.length cap) kids) = R := ⟨_, rfl⟩
    rw [hR]
    rw [textT, textTs_map] at hR
    have HR := hid hR
    have HTS := hid (fun (i : Nat) (x : Ty) (h : kids[i]? = some x) => (show (kids.map textT)[i]? = some (textT x) by rw [List.getElem?_map, h]; rfl))
    have HTL := hid (show (kids.map textT).length = kids.length from List.length_map ..)
    generalize kids.map textT = ts at *
    generalize hL : kids.length = L at *
    have HL := hid hL
    clear ih hw hn hr hin hlen hlens hk hmem hcap hqq hb0 hR hL
    go_enter Tryz.func49, Tryz.ntmps49
    go_wp2_with fail
    generalize World.alloc w _ = W0 at *
    go_loopg [3, 4] L (fun gf u v wx => ∃ i : Nat, v = .int .i64 (i : Int) ∧ i ≤ L ∧ L ≤ i + gf ∧ Hid (wx.ownsRow (w.heap.size + 1) 9 1 u i (strs (ts.take i))) ∧ Hid (BoxAt wx w.heap.size [.int .i64 k, .string life, .bool m, .slice q L cap]) ∧ Hid (Below w.heap.size w wx))
    case atStart => exact ⟨0, rfl, by omega, by omega, O0, X0, B0⟩
    case round =>
      obtain ⟨i, rfl, hi, hg, HO, HX, HB⟩ := hrel
      clear O0 X0 B0
      have l3 := box_get HX.out (j := 3) rfl
      by_cases hlt : i < L
      · obtain ⟨x, ht⟩ : ∃ x, kids[i]? = some x := ⟨kids[i]'(by rw [HL.out]; exact hlt), List.getElem?_eq_getElem _⟩
        obtain ⟨b, off, cap', e, hcc, hx⟩ := Lies.at (HI.out.keep (Keeps.of_below HB.out)) (i := i) (by rw [List.length_map, HL.out]; exact hlt)
        injection e with e1 e2 e3
        subst e1
        clear e2 e3 hcc
        have hx' : ∀ (j : Nat) (u : Value), (Ty.cells x)[j]? = some u → wr.cell? ⟨b, off + i * 4 + j, none⟩ = some u := hx i _ (by rw [List.getElem?_map, ht]; rfl)
        have hsn : strs (ts.take (i + 1)) = strs (ts.take i) ++ [.string (Sb (textT x))] := by
          rw [List.take_add_one, HTS.out i x ht]
          exact strs_snoc _ _
        have hz := tySize x
        have hcx := HM.out x (List.mem_of_getElem? ht) wr HB.out
        generalize Ty.cells x = fcs at *
        generalize Sb (textT x) = sx at *
        have CC := hid hcx
        have HXX := hid hx'
        have HSN := hid hsn
        have ZF := hid hz
        clear hx hx' ht hsn hz hcx
        go_wp2_with (with_reducible refine wpList_load_at (o := ⟨some 17, _, _, _, _, _⟩) rfl _ _ rfl b (off + i * 4) rfl fcs _ HXX.out Tryz.underlying45 rfl ZF.out ?_)
        with_reducible refine CC.out.mono ?_
        rintro e W3 ⟨rfl, hb3⟩
        have HO3 := hid (owns_below HO.out hb3)
        have B3 := hid (HB.out.trans (hb3.mono HB.out.size))
        have X3 := hid (HX.out.later hb3)
        have hs3 : w.heap.size + 1 ≤ W3.heap.size := by
          have : w.heap.size < W3.heap.size := World.block_lt_of_cell? _ _ (box_get X3.out (j := 0) rfl)
          omega
        clear hb3 CC l3
        go_wp2_with (at_builtin; refine wpList_append_own _ rfl _ _ 46 rfl (w.heap.size + 1) 9 i0 _ 1 16 Tryz.underlying46 hinf hz0 hz1 hz2 rfl (by decide) _ _ _ rfl (HO3.out.alloc _) ⟨W3.heap.size, 0, none⟩ 1 1 [.string sx] rfl rfl ?c1 ?c2 ?c3 ?c4 ?c5 ?_)
        case c1 =>
          intro j u hj
          match j, hj with
          | 0, hj => simp at hj; subst hj; simp [Addr.add]
        case c2 => intro u hu; simp at hu; subst hu; rfl
        case c3 => unfold maxLen; omega
        case c4 => omega
        case c5 => rw [show (W3.alloc _).heap.size = W3.heap.size + 1 from Array.size_push ..]; omega
        intro v' w2 hown' hgrow _
        have g1 : Below (w.heap.size + 1) W3 w2 := ((Below.refl _ _).alloc (by omega) _).grown hgrow (by rw [show (W3.alloc _).heap.size = W3.heap.size + 1 from Array.size_push ..]; omega) (fun k hk => (HO3.out.lt k hk).1)
        have G1 := hid (B3.out.trans (g1.mono (Nat.le_succ _)))
        have G2 : Hid (BoxAt w2 w.heap.size [.int .i64 k, .string life, .bool m, .slice (some ⟨b, off, none⟩) L cap]) := hid fun j u hj => (g1.cell (p := ⟨w.heap.size, j, none⟩) (Nat.lt_succ_self _)).trans (X3.out j u hj)
        have K : Hid (w2.ownsRow (w.heap.size + 1) 9 1 v' (i + 1) (strs (ts.take (i + 1)))) := hid (by rw [HSN.out]; exact hown')
        clear hown' hgrow g1
        go_wp2_with fail
        go_roundg (gk - 1)
        case measure => omega
        case rel => exact ⟨i + 1, by go_num, by omega, by omega, K, G2, G1⟩
      · obtain rfl : i = L := by omega
        have hown := HO.out
        have hle : ts.length = i := HTL.out
        rw [← hle, List.take_length] at hown
        have l0 := box_get HX.out (j := 0) rfl
        have HK' := HK.out
        clear HO HK HM
        rcases HK' with rfl | ⟨rfl, h1⟩ | ⟨rfl, h1⟩ | ⟨rfl, h1⟩
        · have K : Hid (R = [105, 110, 116]) := hid HR.out.symm
          clear HR hown
          go_wp2_with fail
          go_ret
          exact ⟨by rw [K.out]; rfl, HB.out⟩
        · obtain ⟨tc, rfl⟩ : ∃ tc, ts = [tc] := List.length_eq_one_iff.1 (hle.trans h1)
          have K : Hid (R = [98, 111, 120, 32] ++ tc) := hid HR.out.symm
          have hsz : (Sb tc).size ≤ 2097152 := by rw [Sb_size]; have := HLE.out; simp only [lens] at this; omega
          subst h1
          obtain ⟨g, gc, rfl, hc0⟩ := owns_at (l := [tc]) hown (i := 0) rfl
          have E : Hid (Sb [98, 111, 120, 32] ++ Sb tc = Sb R) := hid (by rw [Sb_app, K.out])
          generalize Sb tc = sc at *
          clear HR hown hle
          go_wp2_with fail
          go_ret
          exact ⟨by rw [← E.out]; rfl, HB.out⟩
        · have hrow := row_r ts _ wr (owns_strs (by rw [← hle] at *; exact hown)) (by omega) (by have := HLE.out; omega)
          have E : Hid (Sb [40] ++ Sb (TreeP.row ts) ++ Sb [41] = Sb R) := hid (by rw [Sb_app, Sb_app]; exact congrArg Sb HR.out)
          have hsz : (Sb (TreeP.row ts)).size ≤ 2097152 := by rw [Sb_size]; have := HLE.out; have := row_len ts; omega
          generalize Sb (TreeP.row ts) = sr at *
          have HROW := hid hrow
          clear HR hown hle hrow HTS HTL
          go_wp2_with fail
          with_reducible refine HROW.out.mono ?_
          rintro e W5 ⟨rfl, rfl⟩
          clear HROW
          go_wp2_with fail
          go_ret
          exact ⟨by rw [← E.out]; rfl, HB.out⟩
        · obtain ⟨tc, rfl⟩ : ∃ tc, ts = [tc] := List.length_eq_one_iff.1 (hle.trans h1)
          have hsz : (Sb tc).size ≤ 2097152 := by rw [Sb_size]; have := HLE.out; simp only [lens] at this; omega
          subst h1
          obtain ⟨g, gc, rfl, hc0⟩ := owns_at (l := [tc]) hown (i := 0) rfl
          have E : Hid (Sb [38, 39] ++ life ++ Sb [32] ++ Sb (mutB m) ++ Sb tc = Sb R) := hid (by
            rw [← Sb_bs life, Sb_app, Sb_app, Sb_app, Sb_app]; exact congrArg Sb HR.out)
          have CM := hid (fun d os => Calls.regrown_of ((mut_r m (grow (redrawn wr d) os)).mono fun e w' h => ⟨h.1, below_of_eq h.2⟩))
          have hms : (Sb (mutB m)).size ≤ 4 := by rw [Sb_size]; exact mut_len m
          have l1 := box_get HX.out (j := 1) rfl
          have l2 := box_get HX.out (j := 2) rfl
          generalize Sb tc = sc at *
          generalize Sb (mutB m) = sm at *
          clear HR hown hle HTS HTL
          go_wp2_with fail
          have n1 : ¬ 9223372036854775807 < 2 + life.size := by omega
          have n2 : ¬ 9223372036854775807 < 2 + life.size + 1 := by omega
          have n3 : ¬ 9223372036854775807 < 2 + life.size + 1 + sm.size := by omega
          have n4 : ¬ 9223372036854775807 < 2 + life.size + 1 + sm.size + sc.size := by omega
          have k0 := cell_regrown hc0
          have k1 := cell_regrown l1
          have k2 := cell_regrown l2
          refine wp_region_quiet_below (by kernel_rfl) (by kernel_rfl) ?_
          repeat (go_big_quiet_step (with_reducible exact CM.out _ _))
          refine wpQuiet_nil ?_
          intro _ hw'
          obtain ⟨⟨dq, osq⟩, hw''⟩ := hw'
          subst hw''
          go_wp2_with fail
          go_ret
          exact ⟨by rw [← E.out]; rfl, HB.out.trans ((below_regrown wr dq osq).mono HB.out.size)⟩
end Go.Proofs.YtjkdcladjjpmoaaGreatDoor.TextC

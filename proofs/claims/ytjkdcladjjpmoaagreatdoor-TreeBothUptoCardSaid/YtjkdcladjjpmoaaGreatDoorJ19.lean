/- Texts joined: TextA, PageE, PageF. -/
import Derived.Test.YtjkdcladjjpmoaaGreatDoorJ18
import Derived.Test.YtjkdcladjjpmoaaGreatDoorJ11
import Derived.IntWalk
import Derived.Deep.RegionHeld3
import Derived.Test.YtjkdcladjjpmoaaGreatDoorJ08
/- Contracts of lienbookref02.row, in, mut, digits: the document's own text. -/
namespace Go.Proofs.YtjkdcladjjpmoaaGreatDoor.TextC
open Go Go.RowKit Go.Lib Go.Sort Go.Proofs.YtjkdcladjjpmoaaGreatDoor.LexP Go.Proofs.YtjkdcladjjpmoaaGreatDoor.TreeP Go.Proofs.YtjkdcladjjpmoaaGreatDoor.LexC Go.Proofs.YtjkdcladjjpmoaaGreatDoor.TreeC Go.Proofs.YtjkdcladjjpmoaaGreatDoor.PageC

/-- a text, as a string -/
def Sb (l : List UInt8) : ByteArray := ⟨l.toArray⟩
theorem Sb_app (a b : List UInt8) : Sb a ++ Sb b = Sb (a ++ b) := by
  have h : (Sb a ++ Sb b).data = (Sb (a ++ b)).data := by
    show (Sb a ++ Sb b).data = (a ++ b).toArray
    simp [Sb]
  generalize Sb a ++ Sb b = x at *
  generalize Sb (a ++ b) = y at *
  cases x; cases y
  simp at h
  rw [h]
theorem Sb_bs (s : ByteArray) : Sb (bs s) = s := by
  cases s
  simp [Sb, bs]
theorem bs_Sb (l : List UInt8) : bs (Sb l) = l := by simp [Sb, bs]
/-- texts, as cells -/
def strs (l : List (List UInt8)) : List Value := l.map fun t => .string (Sb t)

theorem Sb_size (l : List UInt8) : (Sb l).size = l.length := by show l.toArray.size = _; exact List.size_toArray ..
/-- how long texts are, each with a comma and a blank -/
def lens : List (List UInt8) → Nat
  | [] => 0
  | x :: l => x.length + 2 + lens l
theorem row_len : ∀ l : List (List UInt8), (TreeP.row l).length ≤ lens l
  | [] => by simp [TreeP.row]
  | [x] => by rw [TreeP.row, lens, lens]; omega
  | x :: y :: l => by
    have h := row_len (y :: l)
    rw [TreeP.row, lens, List.length_append, List.length_append]
    simp only [List.length_cons, List.length_nil] at *
    omega
theorem lens_take : ∀ (l : List (List UInt8)) (i : Nat), lens (l.take i) ≤ lens l
  | [], i => by simp
  | x :: l, 0 => by simp [lens]
  | x :: l, i + 1 => by rw [List.take_succ_cons, lens, lens]; have := lens_take l i; omega
theorem lens_mem : ∀ {l : List (List UInt8)} {x : List UInt8}, x ∈ l → x.length + 2 ≤ lens l
  | y :: l, x, h => by
    rw [lens]
    rcases List.mem_cons.1 h with rfl | h
    · omega
    · have := lens_mem h; omega
theorem in_r (l : List UInt8) (b : Bool) (w : World) (hs : l.length ≤ 1000000000000000) : Calls Tryz.prog 109 #[.string (Sb l), .bool b] w fun e w' => e = .returned (.string (Sb (inP l b))) ∧ w = w' := by
  have h : Sb [40] ++ Sb l ++ Sb [41] = Sb (inP l true) := by rw [Sb_app, Sb_app]; rfl
  have h0 : Sb l = Sb (inP l false) := rfl
  have hz := Sb_size l
  have hz2 : (Sb l).size ≤ 1000000000000000 := by omega
  clear hz hs
  cases b
  · rw [← h0]
    clear h h0
    go_enter Tryz.func109, Tryz.ntmps109
    go_wp2_with fail
    go_ret
    exact ⟨rfl, rfl⟩
  · rw [← h]
    clear h h0
    generalize Sb l = s at *
    go_enter Tryz.func109, Tryz.ntmps109
    go_wp2_with fail
    go_ret
    exact ⟨rfl, rfl⟩
theorem mut_r (m : Bool) (w : World) : Calls Tryz.prog 107 #[.bool m] w fun e w' => e = .returned (.string (Sb (mutB m))) ∧ w = w' := by
  cases m
  · go_enter Tryz.func107, Tryz.ntmps107
    go_wp2_with fail
    go_ret
    exact ⟨rfl, rfl⟩
  · go_enter Tryz.func107, Tryz.ntmps107
    go_wp2_with fail
    go_ret
    exact ⟨rfl, rfl⟩
set_option maxHeartbeats 4000000 in
theorem row_r (l : List (List UInt8)) (v : Value) (w : World) (hl : Lies w 1 v ((strs l).map fun x => [x])) (hn : l.length ≤ 1048576) (hb : lens l ≤ 1000000000000000) :
    Calls Tryz.prog 47 #[v] w fun e w' => e = .returned (.string (Sb (TreeP.row l))) ∧ w = w' := by
  have hlen : ((strs l).map fun x => [x]).length = l.length := by simp [strs]
  obtain ⟨p, cap, rfl, hcap, _⟩ := id hl
  rw [hlen] at *
  generalize hL : l.length = L at *
  have HL := hid hL
  have HX := hid hl
  have U0 : Hid (Sb [] = Sb (TreeP.row (l.take 0))) := hid (by rw [List.take_zero]; rfl)
  obtain ⟨R, hR⟩ : ∃ R, Sb (TreeP.row l) = R := ⟨_, rfl⟩
  rw [hR]
  have HR := hid hR
  clear hL hl hcap hlen hR
  go_enter Tryz.func47, Tryz.ntmps47
  go_wp2_with fail
  go_loopg [3, 4] L (fun gf u v wx => ∃ (i : Nat) (s : ByteArray), u = .string s ∧ v = .int .i64 (i : Int) ∧ i ≤ L ∧ L ≤ i + gf ∧ Hid (s = Sb (TreeP.row (l.take i))) ∧ wx = w)
  case atStart => exact ⟨0, _, rfl, rfl, by omega, by omega, U0, rfl⟩
  case round =>
    obtain ⟨i, s, rfl, rfl, hi, hg, HS, rfl⟩ := hrel
    clear U0
    by_cases hlt : i < L
    · obtain ⟨x, ht⟩ : ∃ x, l[i]? = some x := ⟨l[i]'(by rw [HL.out]; exact hlt), List.getElem?_eq_getElem _⟩
      obtain ⟨b, off, cap', e, hcc, hx⟩ := Lies.at HX.out (i := i) (by rw [show ((strs l).map fun x => [x]).length = l.length by simp [strs], HL.out]; exact hlt)
      injection e with e1 e2 e3
      subst e1
      clear e2 e3 hcc
      have hc : wr.cell? ⟨b, off + i, none⟩ = some (.string (Sb x)) := by
        have := hx i [.string (Sb x)] (by unfold strs; rw [List.getElem?_map, List.getElem?_map, ht]; rfl) 0 _ rfl
        rw [Nat.mul_one, Nat.add_zero] at this
        exact this
      have hj : Sb (TreeP.row (l.take (i + 1))) = if i = 0 then Sb x else s ++ Sb [44, 32] ++ Sb x := by
        rw [List.take_add_one, ht]
        rw [show (some x).toList = [x] from rfl, row_snoc]
        by_cases h0 : i = 0
        · subst h0; simp
        · rw [if_neg h0, if_neg, HS.out, Sb_app, Sb_app, List.append_assoc]
          intro e
          have := congrArg List.length e
          rw [List.length_take, HL.out, List.length_nil] at this
          omega
      have HJ := hid hj
      have hss : s.size ≤ 1000000000000000 := by
        rw [HS.out, Sb_size]
        have := row_len (l.take i); have := lens_take l i
        omega
      have hsx : (Sb x).size ≤ 1000000000000000 := by
        rw [Sb_size]
        have := lens_mem (List.mem_of_getElem? ht)
        omega
      generalize Sb x = sx at *
      clear hx ht hj
      by_cases h0 : i = 0
      · subst h0
        rw [Nat.add_zero] at hc
        have K : Hid (s ++ sx = Sb (TreeP.row (l.take (0 + 1)))) := hid (by
          rw [HJ.out, if_pos rfl, HS.out]
          show Sb [] ++ sx = sx
          rw [← Sb_bs sx, Sb_app]; rfl)
        clear HS HJ
        go_wp2_with fail
        go_roundg (gk - 1)
        case measure => omega
        case rel => exact ⟨0 + 1, _, rfl, by go_num, by omega, by omega, K, rfl⟩
      · have K : Hid (s ++ Sb [44, 32] ++ sx = Sb (TreeP.row (l.take (i + 1)))) := hid (by rw [HJ.out, if_neg h0])
        have hpos : decide ((i : Int) > 0) = true := decide_eq_true (by omega)
        clear HS HJ
        go_wp2_with fail
        go_roundg (gk - 1)
        case measure => omega
        case rel => exact ⟨i + 1, _, rfl, by go_num, by omega, by omega, K, rfl⟩
    · obtain rfl : i = L := by omega
      have K : Hid (s = R) := hid (by rw [HS.out, ← HR.out, ← HL.out, List.take_length])
      go_wp2_with fail
      go_ret
      exact ⟨by show Ending.returned (.string s) = _; rw [K.out], rfl⟩
end Go.Proofs.YtjkdcladjjpmoaaGreatDoor.TextC
/- Contracts of tree.mut, (*tree.page).life, out, typ, param. -/
namespace Go.Proofs.YtjkdcladjjpmoaaGreatDoor.PageC
open Go Go.RowKit Go.Lib Go.Sort Go.Proofs.YtjkdcladjjpmoaaGreatDoor.LexP Go.Proofs.YtjkdcladjjpmoaaGreatDoor.TreeP Go.Proofs.YtjkdcladjjpmoaaGreatDoor.LexC Go.Proofs.YtjkdcladjjpmoaaGreatDoor.TreeC

theorem cell_alloc_old (w : World) (o : Obj) {a : Addr} (h : a.block < w.heap.size) : (w.alloc o).cell? a = w.cell? a := World.cell?_of_block (Below.heap_alloc w o a.block h)
theorem Step.drew {pb : Nat} {r r' : Option Nat} {a w : World} (h : Step pb r a r' w) : Step pb r a r' w.drew := ⟨h.os, h.tape, h.output, h.size, h.block, h.row⟩
theorem Page.drew {w : World} {pb : Nat} {r : Option Nat} {t : List UInt8} (h : Page w pb r t) : Page w.drew pb r t := h.below (Below.drew (Below.refl _ _))
theorem Ctx.drew {w0 w : World} {pb : Nat} {r : Option Nat} (h : Ctx w0 pb r w) : Ctx w0 pb r w.drew := h.then (Below.drew (Below.refl _ _))
/-- as put_new, behind a draw -/
theorem put_newd (pb : Nat) (r : Option Nat) (T : List UInt8) (ss : List ByteArray) (w : World) (h : Page w pb r T) (hs : ∀ s ∈ ss, s.size ≤ 1048576) (hn : ss.length ≤ 1048576) :
    Calls Tryz.prog 90 #[.pointer (some ⟨pb, 0, none⟩), .slice (some ⟨w.heap.size, 0, none⟩) ss.length ss.length] (w.alloc (.cells (ss.map Value.string).toArray 9 (0, 0))).drew (Prints pb r w (T ++ joined ss)) := by
  have hb : Below w.heap.size w (w.alloc (.cells (ss.map Value.string).toArray 9 (0, 0))).drew := ((Below.refl _ _).alloc (Nat.le_refl _) _).drew
  have hx := (new_box (pb := pb) (r := r) h.lt h.rowlt (ss.map Value.string) 9).keep (Step.refl pb r (w.alloc (.cells (ss.map Value.string).toArray 9 (0, 0)))).drew.keeps
  refine (put_any pb r T ss _ (.slice (some ⟨w.heap.size, 0, none⟩) ss.length ss.length) (h.below hb) ?_ hs hn).mono ?_
  · have := lies_cells (w := hush2 pb r (w.alloc (.cells (ss.map Value.string).toArray 9 (0, 0))).drew) (b := w.heap.size) (xs := ss.map nmCells) (size := 1) (by intro c hc; obtain ⟨s, _, rfl⟩ := List.mem_map.1 hc; rfl) (by
      rw [flat_nm]
      exact hx)
    rw [List.length_map] at this
    exact this
  · rintro e w' ⟨h1, r', h2, h3⟩
    exact ⟨h1, r', h2, (Step.below hb).trans h3⟩
def mutS (m : Bool) : ByteArray := if m then ⟨#[109, 117, 116, 32]⟩ else ⟨#[]⟩
theorem mutS_bs (m : Bool) : bs (mutS m) = mutB m := by cases m <;> rfl
theorem mutS_size (m : Bool) : (mutS m).size ≤ 1048576 := by cases m <;> decide
theorem mut_any (m : Bool) (w : World) : Calls Tryz.prog 148 #[.bool m] w fun e w' => e = .returned (.string (mutS m)) ∧ w = w' := by
  cases m
  · go_enter Tryz.func148, Tryz.ntmps148
    go_wp2_with fail
    go_ret
    exact ⟨rfl, rfl⟩
  · go_enter Tryz.func148, Tryz.ntmps148
    go_wp2_with fail
    go_ret
    exact ⟨rfl, rfl⟩

theorem mut_still (m : Bool) (w : World) : Calls Tryz.prog 148 #[.bool m] w fun e w' => e = .returned (.string (mutS m)) ∧ w' = w := (mut_any m w).mono fun _ _ h => ⟨h.1, h.2.symm⟩

set_option maxHeartbeats 2000000 in
theorem life_any (pb : Nat) (s : ByteArray) (r : Option Nat) (T : List UInt8) (w : World) (h : Page w pb r T) (hs : s.size ≤ 1048576) :
    Calls Tryz.prog 92 #[.pointer (some ⟨pb, 0, none⟩), .string s] w (Prints pb r w (T ++ lifeB s)) := by
  have HC := hid (put2 pb r T ⟨#[39]⟩ s w h (by decide) hs)
  clear h
  go_enter Tryz.func92, Tryz.ntmps92
  go_wp2_with fail
  with_reducible refine HC.out.mono ?_
  rintro e W ⟨rfl, r', h1, h2⟩
  have H1 := hid h1
  have H2 := hid h2
  clear h1 h2 HC
  go_wp2_with fail
  go_end0
  exact ⟨rfl, r', H1.out, H2.out⟩

set_option maxHeartbeats 2000000 in
theorem out_any (pb : Nat) (w0 : World) (a b : ByteArray) (v : Value) (r : Option Nat) (T : List UInt8) (w : World) (h : Page w pb r T) (hc : Ctx w0 pb r w) (hl : Lies w0 1 v [[.string a], [.string b]]) (ha : a.size ≤ 1048576) (hb : b.size ≤ 1048576) :
    Calls Tryz.prog 99 #[.pointer (some ⟨pb, 0, none⟩), v] w (Prints pb r w (T ++ (lifeB a ++ ([58, 32] ++ lifeB b)))) := by
  obtain ⟨bk, off, cap, rfl, _, hx⟩ := Lies.at hl (i := 0) (by simp)
  have e0 : w0.cell? ⟨bk, off, none⟩ = some (.string a) := by have := hx 0 _ rfl 0 _ rfl; rw [Nat.zero_mul] at this; exact this
  have e1 : w0.cell? ⟨bk, off + 1, none⟩ = some (.string b) := by have := hx 1 _ rfl 0 _ rfl; exact this
  have c0 := hc.keeps _ _ _ e0
  have E1 := hid e1
  have HC := hid hc
  have HA := hid (life_any pb a r T w h ha)
  have HB := hid hb
  show Calls _ _ #[_, .slice (some ⟨bk, off, none⟩) 2 cap] _ _
  clear h hl hx e0 e1 hc hb
  go_enter Tryz.func99, Tryz.ntmps99
  go_wp2_with fail
  with_reducible refine HA.out.mono ?_
  rintro e W ⟨rfl, r1, h1, h2⟩
  have C1 := hid (HC.out.step h2)
  have S1 := hid h2
  have HP := hid (put1 pb r1 _ ⟨#[58, 32]⟩ W h1 (by decide))
  clear h1 h2 HA c0
  go_wp2_with fail
  with_reducible refine HP.out.mono ?_
  rintro e W2 ⟨rfl, r2, h1, h2⟩
  have C2 := hid (C1.out.step h2)
  have S2 := hid (S1.out.trans h2)
  have HQ := hid (life_any pb b r2 _ W2 h1 HB.out)
  have c1 := C2.out.keeps _ _ _ E1.out
  clear h1 h2 HP
  go_wp2_with fail
  with_reducible refine HQ.out.mono ?_
  rintro e W3 ⟨rfl, r3, h1, h2⟩
  have S3 := hid (S2.out.trans h2)
  have P3 : Hid (Page W3 pb r3 (T ++ (lifeB a ++ ([58, 32] ++ lifeB b)))) := hid (by
    have h3 : Page W3 pb r3 (T ++ lifeB a ++ [58, 32] ++ lifeB b) := h1
    rw [← List.append_assoc, ← List.append_assoc]; exact h3)
  clear h1 h2 HQ c1
  go_wp2_with fail
  go_end0
  exact ⟨rfl, r3, P3.out, S3.out⟩

theorem rightTs_mem : ∀ {l : List Ty}, rightTs l = true → ∀ x ∈ l, rightT x = true
  | [], _, x, hx => by simp at hx
  | t :: ts, h, x, hx => by
    rw [rightTs, Bool.and_eq_true] at h
    rcases List.mem_cons.1 hx with rfl | hx
    · exact h.1
    · exact rightTs_mem h.2 x hx
theorem textTs_map : ∀ l : List Ty, textTs l = l.map textT
  | [] => rfl
  | t :: ts => by rw [textTs, textTs_map ts]; rfl

set_option maxHeartbeats 8000000 in
set_option maxRecDepth 100000 in
theorem typ_any (pb : Nat) (w0 : World) : ∀ (n : Nat) (t : Ty) (r : Option Nat) (T : List UInt8) (w : World), wT t ≤ n → n ≤ 1048576 → rightT t = true → t.In w0 → Page w pb r T → Ctx w0 pb r w →
    Calls Tryz.prog 95 #[.pointer (some ⟨pb, 0, none⟩), .agg (Ty.cells t).toArray] w (Prints pb r w (T ++ textT t)) := by
  intro n
  induction n using Nat.strongRecOn with
  | ind n ih =>
    intro t r T w hw hn hr hin hp hc
    obtain ⟨k, life, m, v, kids⟩ := t
    rw [wT] at hw
    rw [rightT, Bool.and_eq_true] at hr
    rw [Ty.In] at hin
    have hlen := wTs_len kids
    obtain ⟨q, cap, rfl, hcap, hqq⟩ := id hin.1
    rw [List.length_map] at *
    have hkids : ∀ x ∈ kids, ∀ W r T, Page W pb r T → Ctx w0 pb r W → Calls Tryz.prog 95 #[.pointer (some ⟨pb, 0, none⟩), .agg (Ty.cells x).toArray] W (Prints pb r W (T ++ textT x)) := fun x hx W r T h1 h2 => by
      have := mem_wT (l := kids) hx
      exact ih (wT x) (by omega) x r T W (Nat.le_refl _) (by omega) (rightTs_mem hr.1 x hx) ((Ty.ins_iff _ _).1 hin.2 x hx) h1 h2
    have hx0 := new_box (pb := pb) (r := r) hp.lt hp.rowlt [.int .i64 k, .string life, .bool m, .slice q kids.length cap] 45
    have hba : Below w.heap.size w (w.alloc (.cells [Value.int .i64 k, .string life, .bool m, .slice q kids.length cap].toArray 45 (0, 0))) := (Below.refl _ _).alloc (Nat.le_refl _) _
    have hsz : (w.alloc (.cells [Value.int .i64 k, .string life, .bool m, .slice q kids.length cap].toArray 45 (0, 0))).heap.size = w.heap.size + 1 := Array.size_push ..
    have hls : life.size ≤ 1048576 := by omega
    have hkl : kids.length ≤ 1048576 := by omega
    have X0 := hid hx0
    have P0 := hid (hp.below hba)
    have C0 := hid (hc.then hba)
    have S0 : Hid (Step pb r w r (w.alloc (.cells [Value.int .i64 k, .string life, .bool m, .slice q kids.length cap].toArray 45 (0, 0)))) := hid (.below hba)
    have HK := hid hkids
    have HI := hid hin.1
    have HIN := hid hin.2
    show Calls _ _ #[_, .agg #[.int .i64 k, .string life, .bool m, .slice q kids.length cap]] _ _
    have hk : k = 1 ∨ (k = 2 ∧ kids.length = 1) ∨ (k = 3 ∧ 2 ≤ kids.length) ∨ (k = 4 ∧ kids.length = 1) := by
      have h := hr.2
      by_cases h4 : k = 4
      · rw [if_pos h4] at h; simp at h; omega
      · rw [if_neg h4] at h; simp at h; omega
    clear ih hw hr hin hp hc hkids hx0 hba hqq
    rcases hk with rfl | ⟨rfl, h1⟩ | ⟨rfl, h1⟩ | ⟨rfl, h1⟩
    · have HP := put1 pb r T ⟨#[105, 110, 116]⟩ _ P0.out (by decide)
      rw [hsz] at HP
      have HP' := hid HP
      have e : textT (.mk 1 life m (.slice q kids.length cap) kids) = [105, 110, 116] := by rw [textT]; rfl
      rw [e]
      clear HP hsz e HK HI
      go_enter Tryz.func95, Tryz.ntmps95
      go_wp2_with fail
      with_reducible refine HP'.out.mono ?_
      rintro e W ⟨rfl, r1, h1, h2⟩
      have S1 := hid (S0.out.trans h2)
      have P1 := hid h1
      clear h1 h2 HP'
      go_wp2_with fail
      go_end0
      exact ⟨rfl, r1, P1.out, S1.out⟩
    · rw [h1] at X0 P0 C0 S0 HI hsz ⊢
      obtain ⟨c, rfl⟩ := List.length_eq_one_iff.1 h1
      have e : textT (.mk 2 life m (.slice q 1 cap) [c]) = [98, 111, 120, 32] ++ textT c := by rw [textT, textTs_map]; rfl
      rw [e]
      have HP := put1 pb r T ⟨#[98, 111, 120, 32]⟩ _ P0.out (by decide)
      rw [hsz] at HP
      have HP' := hid HP
      obtain ⟨b, off, cap', e2, hcc, hx⟩ := Lies.at HI.out (i := 0) (by simp)
      injection e2 with e1 e3 e4
      subst e1
      clear e3 e4 hcc
      have hx' : ∀ (j : Nat) (u : Value), (Ty.cells c)[j]? = some u → w0.cell? ⟨b, off + 0 + j, none⟩ = some u := fun j u h => by have := hx 0 _ rfl j u h; rw [Nat.zero_mul] at this; exact this
      have CK := hid (HK.out c (by simp))
      have HX := hid hx'
      have ZF := hid (tySize c)
      generalize Ty.cells c = ccs at *
      generalize textT c = tc at *
      clear HP hsz e HK HI hx hx' hlen hcap h1
      go_enter Tryz.func95, Tryz.ntmps95
      go_wp2_with fail
      with_reducible refine HP'.out.mono ?_
      rintro e W ⟨rfl, r1, h1, h2⟩
      have C1 := hid (C0.out.step h2)
      have S1 := hid (S0.out.trans h2)
      have l3 := box_get (box_unhush (X0.out.keep h2.keeps)) (j := 3) rfl
      have CC := hid (CK.out W r1 _ h1 C1.out)
      have HXW : Hid (∀ (j : Nat) (u : Value), ccs[j]? = some u → W.cell? ⟨b, off + 0 + j, none⟩ = some u) := hid fun j u h => C1.out.keeps _ _ _ (HX.out j u h)
      clear h1 h2 HP'
      go_wp2_with (first | (with_reducible refine wpList_load_at (o := ⟨some 20, _, _, _, _, _⟩) rfl _ _ rfl b (off + 0) rfl ccs _ HXW.out Tryz.underlying45 rfl ZF.out ?_) | (with_reducible refine wpList_load_at (o := ⟨some 20, _, _, _, _, _⟩) rfl _ _ rfl b off rfl ccs _ HXW.out Tryz.underlying45 rfl ZF.out ?_))
      with_reducible refine CC.out.mono ?_
      rintro e W2 ⟨rfl, r2, h1, h2⟩
      have S2 := hid (S1.out.trans h2)
      have P2 : Hid (Page W2 pb r2 (T ++ ([98, 111, 120, 32] ++ tc))) := hid (by rw [← List.append_assoc]; exact h1)
      clear h1 h2 CC l3
      go_wp2_with fail
      go_end0
      exact ⟨rfl, r2, P2.out, S2.out⟩
    · have e : textT (.mk 3 life m (.slice q kids.length cap) kids) = [40] ++ TreeP.row (kids.map textT) ++ [41] := by rw [textT, textTs_map]; rfl
      rw [e]
      have HP := put1 pb r T ⟨#[40]⟩ _ P0.out (by decide)
      rw [hsz] at HP
      have HP' := hid HP
      have HL4 := hid (show kids.length ≤ 1048576 from hkl)
      have H1S := hid (fun x (hx : x ∈ kids) => ty_ones ((Ty.ins_iff _ _).1 HIN.out x hx))
      have HR := fun (W : World) (r : Option Nat) (T : List UInt8) h1 h2 => row_tySize pb w0 textT kids (.slice q kids.length cap) r T W h1 h2 HI.out HL4.out H1S.out HK.out
      have HRR := hid HR
      generalize TreeP.row (kids.map textT) = RT at *
      generalize kids.length = L at *
      clear HP hsz e HK HI hlen hcap h1 HR HL4 H1S HIN
      go_enter Tryz.func95, Tryz.ntmps95
      go_wp2_with fail
      with_reducible refine HP'.out.mono ?_
      rintro e W ⟨rfl, r1, h1, h2⟩
      have C1 := hid (C0.out.step h2)
      have S1 := hid (S0.out.trans h2)
      have X1 := hid (X0.out.keep h2.keeps)
      have l3 := box_get (box_unhush X1.out) (j := 3) rfl
      have CC := hid (HRR.out W r1 _ h1 C1.out)
      clear h1 h2 HP'
      go_wp2_with fail
      with_reducible refine CC.out.mono ?_
      rintro e W2 ⟨rfl, r2, h1, h2⟩
      have S2 := hid (S1.out.trans h2)
      have HP2 := hid (put1 pb r2 _ ⟨#[41]⟩ W2 h1 (by decide))
      clear h1 h2 CC l3
      go_wp2_with fail
      with_reducible refine HP2.out.mono ?_
      rintro e W3 ⟨rfl, r3, h1, h2⟩
      have S3 := hid (S2.out.trans h2)
      have P3 : Hid (Page W3 pb r3 (T ++ ([40] ++ RT ++ [41]))) := hid (by rw [← List.append_assoc, ← List.append_assoc]; exact h1)
      clear h1 h2 HP2
      go_wp2_with fail
      go_end0
      exact ⟨rfl, r3, P3.out, S3.out⟩
    · rw [h1] at X0 P0 C0 S0 HI hsz ⊢
      obtain ⟨c, rfl⟩ := List.length_eq_one_iff.1 h1
      have e : textT (.mk 4 life m (.slice q 1 cap) [c]) = [38, 39] ++ bs life ++ [32] ++ mutB m ++ textT c := by rw [textT, textTs_map]; rfl
      rw [e]
      obtain ⟨RT, hRT⟩ : ∃ RT, [38, 39] ++ bs life ++ [32] ++ mutB m ++ textT c = RT := ⟨_, rfl⟩
      rw [hRT]
      have HMU := hid (fun W => mut_any m W)
      obtain ⟨b, off, cap', e2, hcc, hx⟩ := Lies.at HI.out (i := 0) (by simp)
      injection e2 with e1 e3 e4
      subst e1
      clear e3 e4 hcc
      have hx' : ∀ (j : Nat) (u : Value), (Ty.cells c)[j]? = some u → w0.cell? ⟨b, off + 0 + j, none⟩ = some u := fun j u h => by have := hx 0 _ rfl j u h; rw [Nat.zero_mul] at this; exact this
      have CK := hid (HK.out c (by simp))
      have HX := hid hx'
      have ZF := hid (tySize c)
      have l1 := box_get (box_unhush X0.out) (j := 1) rfl
      have l2 := box_get (box_unhush X0.out) (j := 2) rfl
      have hmb := mutS_bs m
      have hms := mutS_size m
      generalize Ty.cells c = ccs at *
      generalize textT c = tc at *
      generalize mutS m = ms at *
      generalize mutB m = mb at *
      have HMB := hid hmb
      have HRT := hid hRT
      clear hRT hsz e HK HI hx hx' hlen hcap h1 hmb
      go_enter Tryz.func95, Tryz.ntmps95
      go_wp2_with fail
      generalize hW0 : World.alloc w _ = W0 at *
      have hsz : W0.heap.size = w.heap.size + 1 := by rw [← hW0]; exact Array.size_push ..
      have hp4 := put_newd pb r T [⟨#[38, 39]⟩, life, ⟨#[32]⟩, ms] W0 P0.out (by
        intro s hs
        simp only [List.mem_cons, List.not_mem_nil, or_false] at hs
        rcases hs with rfl | rfl | rfl | rfl
        · decide
        · exact hls
        · decide
        · exact hms) (by show 4 ≤ _; decide)
      rw [joined4, HMB.out] at hp4
      have hp5 : Calls Tryz.prog 90 #[.pointer (some ⟨pb, 0, none⟩), .slice (some ⟨W0.heap.size, 0, none⟩) 4 4] (W0.alloc (.cells #[.string ⟨#[38, 39]⟩, .string life, .string ⟨#[32]⟩, .string ms] 9 (0, 0))).drew (Prints pb r W0 (T ++ (bs ⟨#[38, 39]⟩ ++ (bs life ++ (bs ⟨#[32]⟩ ++ mb))))) := hp4
      have HP4 := hid hp5
      clear hp4 hp5 hsz hW0
      have hltb : w.heap.size < W0.heap.size := World.block_lt_of_cell? _ _ l1
      have HLT := hid hltb
      have HL1 := hid l1
      have HL2 := hid l2
      go_region_held3 (fun w' => w'.cell? ⟨w.heap.size, 1, none⟩ = some (.string life) ∧ w'.cell? ⟨w.heap.size, 2, none⟩ = some (.bool m))
        (first | go_keep | exact ⟨(cell_alloc_old _ _ HLT.out).trans HL1.out, (cell_alloc_old _ _ HLT.out).trans HL2.out⟩ | exact ⟨box_get (box_unhush (X0.out.keep h2.keeps)) (j := 1) rfl, box_get (box_unhush (X0.out.keep h2.keeps)) (j := 2) rfl⟩)
        (first | (go_at_call 148; (with_reducible refine (HMU.out _).mono ?_); rintro e W ⟨rfl, rfl⟩) | (go_at_call 90; (with_reducible refine HP4.out.mono ?_); rintro e W ⟨rfl, r1, h1, h2⟩))
      have C1 := hid (C0.out.step h2)
      have S1 := hid (S0.out.trans h2)
      have l3 := box_get (box_unhush (X0.out.keep h2.keeps)) (j := 3) rfl
      have CC := hid (CK.out W r1 _ h1 C1.out)
      have HXW : Hid (∀ (j : Nat) (u : Value), ccs[j]? = some u → W.cell? ⟨b, off + 0 + j, none⟩ = some u) := hid fun j u h => C1.out.keeps _ _ _ (HX.out j u h)
      clear h1 h2 l1 l2 HL1 HL2 HP4 hltb
      go_wp2_with (first | (with_reducible refine wpList_load_at (o := ⟨some 50, _, _, _, _, _⟩) rfl _ _ rfl b (off + 0) rfl ccs _ HXW.out Tryz.underlying45 rfl ZF.out ?_) | (with_reducible refine wpList_load_at (o := ⟨some 50, _, _, _, _, _⟩) rfl _ _ rfl b off rfl ccs _ HXW.out Tryz.underlying45 rfl ZF.out ?_))
      with_reducible refine CC.out.mono ?_
      rintro e W2 ⟨rfl, r2, h1, h2⟩
      have S2 := hid (S1.out.trans h2)
      have P2 : Hid (Page W2 pb r2 (T ++ RT)) := hid (by
        have h3 : Page W2 pb r2 (T ++ ([38, 39] ++ (bs life ++ ([32] ++ mb))) ++ tc) := h1
        rw [← HRT.out]
        simpa only [List.append_assoc] using h3)
      clear h1 h2 CC l3
      go_wp2_with fail
      go_end0
      exact ⟨rfl, r2, P2.out, S2.out⟩
end Go.Proofs.YtjkdcladjjpmoaaGreatDoor.PageC
/- Contracts of (*tree.page).param, kid. -/
namespace Go.Proofs.YtjkdcladjjpmoaaGreatDoor.PageC
open Go Go.RowKit Go.Lib Go.Sort Go.Proofs.YtjkdcladjjpmoaaGreatDoor.LexP Go.Proofs.YtjkdcladjjpmoaaGreatDoor.TreeP Go.Proofs.YtjkdcladjjpmoaaGreatDoor.LexC Go.Proofs.YtjkdcladjjpmoaaGreatDoor.TreeC

set_option maxHeartbeats 4000000 in
set_option maxRecDepth 100000 in
theorem param_any (pb : Nat) (w0 : World) (p : Pa) (r : Option Nat) (T : List UInt8) (w : World) (hw : wPa p ≤ 1048576) (hr : rightT p.type = true) (hin : p.In w0) (hp : Page w pb r T) (hc : Ctx w0 pb r w) :
    Calls Tryz.prog 94 #[.pointer (some ⟨pb, 0, none⟩), .agg (Pa.cells p).toArray] w (Prints pb r w (T ++ textPa p)) := by
  obtain ⟨name, type⟩ := p
  unfold wPa at hw
  dsimp only at hw hr
  obtain ⟨RT, hRT⟩ : ∃ RT, textPa ⟨name, type⟩ = RT := ⟨_, rfl⟩
  rw [hRT]
  have hrt : RT = bs name ++ [58, 32] ++ textT type := hRT.symm
  have hx0 := new_box (pb := pb) (r := r) hp.lt hp.rowlt (Pa.cells ⟨name, type⟩) 59
  have hba : Below w.heap.size w (w.alloc (.cells (Pa.cells ⟨name, type⟩).toArray 59 (0, 0))) := (Below.refl _ _).alloc (Nat.le_refl _) _
  have hsz : (w.alloc (.cells (Pa.cells ⟨name, type⟩).toArray 59 (0, 0))).heap.size = w.heap.size + 1 := Array.size_push ..
  have hcells : ∀ (j : Nat) (u : Value), (Ty.cells type)[j]? = some u → (Pa.cells ⟨name, type⟩)[1 + j]? = some u := fun j u h => pa_type (p := ⟨name, type⟩) h
  have h0 : (Pa.cells ⟨name, type⟩)[0]? = some (.string name) := rfl
  have hz := paSize ⟨name, type⟩
  have ho := pa_ones hin
  unfold Ones at ho
  have hty := fun (W : World) (r : Option Nat) (T : List UInt8) h1 h2 => typ_any pb w0 (wT type) type r T W (Nat.le_refl _) (by omega) hr hin h1 h2
  have HP0 := put2 pb r T name ⟨#[58, 32]⟩ _ (hp.below hba) (by omega) (by decide)
  rw [hsz] at HP0
  have HP := hid HP0
  have C0 := hid (hc.then hba)
  have S0 : Hid (Step pb r w r (w.alloc (.cells (Pa.cells ⟨name, type⟩).toArray 59 (0, 0)))) := hid (.below hba)
  have X0 := hid hx0
  have l0 := box_get (box_unhush hx0) h0
  have ZF := hid (tySize type)
  have ZS := hid hz
  have ZO := hid ho
  have HCE := hid hcells
  have HTY := hid hty
  have HRT := hid hrt
  generalize Pa.cells ⟨name, type⟩ = fcs at *
  generalize Ty.cells type = tcs at *
  generalize textT type = tt at *
  clear hrt hRT hty hz ho hcells h0 hx0 hba hsz HP0 hp hc hin hr
  go_enter Tryz.func94, Tryz.ntmps94
  go_wp2_with fail
  with_reducible refine HP.out.mono ?_
  rintro e W ⟨rfl, r1, h1, h2⟩
  have C1 := hid (C0.out.step h2)
  have S1 := hid (S0.out.trans h2)
  have CC := hid (HTY.out W r1 _ h1 C1.out)
  have HX1 : Hid (∀ (j : Nat) (u : Value), tcs[j]? = some u → W.cell? ⟨w.heap.size, 1 + j, none⟩ = some u) := hid fun j u h => box_get (box_unhush (X0.out.keep h2.keeps)) (HCE.out j u h)
  clear h1 h2 HP l0
  go_wp2_with (with_reducible refine wpList_load_at (o := ⟨some 11, _, _, _, _, _⟩) rfl _ _ rfl w.heap.size 1 rfl tcs _ HX1.out Tryz.underlying45 rfl ZF.out ?_)
  with_reducible refine CC.out.mono ?_
  rintro e W2 ⟨rfl, r2, h1, h2⟩
  have S2 := hid (S1.out.trans h2)
  have P2 : Hid (Page W2 pb r2 (T ++ RT)) := hid (by
    have h3 : Page W2 pb r2 (T ++ (bs name ++ [58, 32]) ++ tt) := h1
    rw [HRT.out]
    simpa only [List.append_assoc] using h3)
  clear h1 h2 CC
  go_wp2_with fail
  go_end0
  exact ⟨rfl, r2, P2.out, S2.out⟩

set_option maxHeartbeats 4000000 in
set_option maxRecDepth 100000 in
theorem kid_any (pb : Nat) (w0 : World) (x t : Ex) (i : Nat) (r : Option Nat) (T : List UInt8) (w : World) (hx : x.In w0) (ht : x.kids[i]? = some t) (hlen : x.kids.length ≤ 1048576) (hp : Page w pb r T) (hc : Ctx w0 pb r w)
    (HT : ∀ W r T, Page W pb r T → Ctx w0 pb r W → Calls Tryz.prog 101 #[.pointer (some ⟨pb, 0, none⟩), .agg (Ex.cells t).toArray] W (Prints pb r W (T ++ textE t))) :
    Calls Tryz.prog 153 #[.pointer (some ⟨pb, 0, none⟩), .agg (Ex.cells x).toArray, .int .i64 (i : Int)] w (Prints pb r w (T ++ inP (textE t) (parensB x.kind x.str t i))) := by
  have hx0 := new_box (pb := pb) (r := r) hp.lt hp.rowlt (Ex.cells x) 51
  have hba : Below w.heap.size w (w.alloc (.cells (Ex.cells x).toArray 51 (0, 0))) := (Below.refl _ _).alloc (Nat.le_refl _) _
  have hC := fun W (h : Below w0.heap.size w0 W) => inParens_any x t i W (Ex.In.keep (Keeps.of_below h) x hx) ht hlen
  have hz := exSize x
  have ho := ex_ones hx
  unfold Ones at ho
  have hzt := exSize t
  obtain ⟨k, num, name, m, v, kids⟩ := x
  have y4 : (Ex.cells (.mk k num name m v kids))[4]? = some v := rfl
  rw [Ex.In] at hx
  have ht' : kids[i]? = some t := ht
  have hlt : i < kids.length := (List.getElem?_eq_some_iff.1 ht').1
  have hlen' : kids.length ≤ 1048576 := hlen
  obtain ⟨b, off, cap, rfl, hcap, hcx⟩ := Lies.at hx.2.1 (i := i) (by rw [List.length_map]; exact hlt)
  rw [List.length_map] at *
  have hct : ∀ (j : Nat) (u : Value), (Ex.cells t)[j]? = some u → w0.cell? ⟨b, off + i * 5 + j, none⟩ = some u := hcx i _ (by rw [List.getElem?_map, ht']; rfl)
  show Calls _ _ #[_, .agg (Ex.cells (.mk k num name m (.slice (some ⟨b, off, none⟩) kids.length cap) kids)).toArray, _] _ _
  have HCC := hid hC
  generalize parensB _ _ t i = pr at *
  unfold Ex.val at HCC
  generalize Ex.cells (.mk k num name m (.slice (some ⟨b, off, none⟩) kids.length cap) kids) = fcs at *
  generalize Ex.cells t = tcs at *
  generalize textE t = tt at *
  generalize kids.length = L at *
  have X0 := hid hx0
  have P0 := hid (hp.below hba)
  have C0 := hid (hc.then hba)
  have S0 : Hid (Step pb r w r (w.alloc (.cells fcs.toArray 51 (0, 0)))) := hid (.below hba)
  have ZF := hid hz
  have ZT := hid hzt
  have ZO := hid ho
  have HTT := hid HT
  have HCT := hid hct
  have Y4 := hid y4
  have XE : Hid (∀ (j : Nat) (u : Value), fcs[j]? = some u → (w.alloc (.cells fcs.toArray 51 (0, 0))).cell? ⟨w.heap.size, 0 + j, none⟩ = some u) := hid fun j u h => by rw [Nat.zero_add]; exact box_get (box_unhush hx0) h
  have CP := hid (HCC.out _ C0.out.below)
  clear hx0 hba hC hz ho hzt y4 hx ht ht' hlen hcap hcx hct HT hp hc HCC
  go_enter Tryz.func153, Tryz.ntmps153
  go_wp2_with (with_reducible refine wpList_load_at (o := ⟨some 6, _, _, _, _, _⟩) rfl _ _ rfl w.heap.size 0 rfl fcs _ XE.out Tryz.underlying51 rfl ZF.out ?_)
  with_reducible refine CP.out.mono ?_
  rintro e W ⟨rfl, hb⟩
  have P1 := hid (P0.out.below hb)
  have C1 := hid (C0.out.then hb)
  have S1 := hid (S0.out.then hb)
  have X1 := hid (X0.out.keep (Step.below (pb := pb) (r := r) hb).keeps)
  have l4 := box_get (box_unhush X1.out) Y4.out
  clear hb CP XE P0 C0 S0
  cases pr
  · have CC := hid (HTT.out W r T P1.out C1.out)
    have HXW : Hid (∀ (j : Nat) (u : Value), tcs[j]? = some u → W.cell? ⟨b, off + i * 5 + j, none⟩ = some u) := hid fun j u h => C1.out.keeps _ _ _ (HCT.out j u h)
    go_wp2_with (with_reducible refine wpList_load_at (o := ⟨some 15, _, _, _, _, _⟩) rfl _ _ rfl b (off + i * 5) rfl tcs _ HXW.out Tryz.underlying51 rfl ZT.out ?_)
    with_reducible refine CC.out.mono ?_
    rintro e W2 ⟨rfl, r2, h1, h2⟩
    have S2 := hid (S1.out.trans h2)
    have P2 := hid h1
    clear h1 h2 CC l4
    go_wp2_with fail
    go_end0
    exact ⟨rfl, r2, P2.out, S2.out⟩
  · have HP := hid (put1 pb r T ⟨#[40]⟩ W P1.out (by decide))
    clear l4
    go_wp2_with fail
    with_reducible refine HP.out.mono ?_
    rintro e W2 ⟨rfl, r2, h1, h2⟩
    have C2 := hid (C1.out.step h2)
    have S2 := hid (S1.out.trans h2)
    have X2 := hid (X1.out.keep h2.keeps)
    have l4 := box_get (box_unhush X2.out) Y4.out
    have CC := hid (HTT.out W2 r2 _ h1 C2.out)
    have HXW : Hid (∀ (j : Nat) (u : Value), tcs[j]? = some u → W2.cell? ⟨b, off + i * 5 + j, none⟩ = some u) := hid fun j u h => C2.out.keeps _ _ _ (HCT.out j u h)
    clear h1 h2 HP
    go_wp2_with (with_reducible refine wpList_load_at (o := ⟨some 25, _, _, _, _, _⟩) rfl _ _ rfl b (off + i * 5) rfl tcs _ HXW.out Tryz.underlying51 rfl ZT.out ?_)
    with_reducible refine CC.out.mono ?_
    rintro e W3 ⟨rfl, r3, h1, h2⟩
    have S3 := hid (S2.out.trans h2)
    have HP3 := hid (put1 pb r3 _ ⟨#[41]⟩ W3 h1 (by decide))
    clear h1 h2 CC l4
    go_wp2_with fail
    with_reducible refine HP3.out.mono ?_
    rintro e W4 ⟨rfl, r4, h1, h2⟩
    have S4 := hid (S3.out.trans h2)
    have P4 : Hid (Page W4 pb r4 (T ++ inP tt true)) := hid (by
      have h3 : Page W4 pb r4 (T ++ [40] ++ tt ++ [41]) := h1
      have e : T ++ inP tt true = T ++ [40] ++ tt ++ [41] := by unfold inP; simp
      rw [e]; exact h3)
    clear h1 h2 HP3
    go_wp2_with fail
    go_end0
    exact ⟨rfl, r4, P4.out, S4.out⟩
end Go.Proofs.YtjkdcladjjpmoaaGreatDoor.PageC

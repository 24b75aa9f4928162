/- Texts joined: PageG, PageH, PageI. -/
import Derived.Test.YtjkdcladjjpmoaaGreatDoorJ19
/- Contract of (*tree.page).expr. -/
namespace Go.Proofs.YtjkdcladjjpmoaaGreatDoor.PageC
open Go Go.RowKit Go.Lib Go.Sort Go.Proofs.YtjkdcladjjpmoaaGreatDoor.LexP Go.Proofs.YtjkdcladjjpmoaaGreatDoor.TreeP Go.Proofs.YtjkdcladjjpmoaaGreatDoor.LexC Go.Proofs.YtjkdcladjjpmoaaGreatDoor.TreeC

/-- numbers are put into digits, in whatever comes of this world -/
def Fmt (w0 : World) : Prop := ∀ W, Below w0.heap.size w0 W → ∀ n : Int, 0 ≤ n → n ≤ 999999999999999999 → Calls Tryz.prog 152 #[.int .i64 n, .int .i64 10] W fun e w' => e = .returned (.string ⟨(dec n.toNat).toArray⟩) ∧ Below W.heap.size W w'
theorem decB_len : ∀ (f n : Nat) (acc : List UInt8), (decB f n acc).length ≤ f + acc.length
  | 0, n, acc => by simp [decB]
  | f + 1, n, acc => by
    rw [decB]
    split
    · simp; omega
    · have := decB_len f (n / 10) (UInt8.ofNat (48 + n % 10) :: acc)
      rw [List.length_cons] at this
      omega
theorem dec_size (n : Nat) : (⟨(dec n).toArray⟩ : ByteArray).size ≤ 1048576 := by
  show (dec n).toArray.size ≤ _
  rw [List.size_toArray]
  have := decB_len 20 n []
  unfold dec
  simp at this
  omega
theorem rightEs_mem : ∀ {l : List Ex}, rightEs l = true → ∀ x ∈ l, rightE x = true
  | [], _, x, hx => by simp at hx
  | t :: ts, h, x, hx => by
    rw [rightEs, Bool.and_eq_true] at h
    rcases List.mem_cons.1 hx with rfl | hx
    · exact h.1
    · exact rightEs_mem h.2 x hx
theorem textEs_map : ∀ l : List Ex, textEs l = l.map textE
  | [] => rfl
  | t :: ts => by rw [textEs, textEs_map ts]; rfl
/-- a printing call that looks at its arguments alone -/
def Says (pb : Nat) (w0 : World) (g : Nat) (args : Array Value) (t : List UInt8) : Prop := ∀ W r T, Page W pb r T → Ctx w0 pb r W → Calls Tryz.prog g args W (Prints pb r W (T ++ t))
/-- what holds when an expression's kind is looked at -/
structure Pre (pb : Nat) (w0 : World) (r : Option Nat) (T : List UInt8) (w : World) (fcs : List Value) : Prop where
  box : BoxAt (hush2 pb r (w.alloc (.cells fcs.toArray 51 (0, 0)))) w.heap.size fcs
  page : Page (w.alloc (.cells fcs.toArray 51 (0, 0))) pb r T
  ctx : Ctx w0 pb r (w.alloc (.cells fcs.toArray 51 (0, 0)))
  step : Step pb r w r (w.alloc (.cells fcs.toArray 51 (0, 0)))
  size : (w.alloc (.cells fcs.toArray 51 (0, 0))).heap.size = w.heap.size + 1
theorem pre_of {pb : Nat} {w0 : World} {r : Option Nat} {T : List UInt8} {w : World} (hp : Page w pb r T) (hc : Ctx w0 pb r w) (fcs : List Value) : Pre pb w0 r T w fcs := by
  have hba : Below w.heap.size w (w.alloc (.cells fcs.toArray 51 (0, 0))) := (Below.refl _ _).alloc (Nat.le_refl _) _
  exact ⟨new_box hp.lt hp.rowlt fcs _, hp.below hba, hc.then hba, .below hba, Array.size_push ..⟩
theorem ex_size5 : (Tryz.prog.info? 51).map (·.size) = some 5 := by kernel_rfl
theorem bs_lit (l : List UInt8) : bs ⟨l.toArray⟩ = l := by simp [bs]

section
variable (pb : Nat) (w0 : World) (r : Option Nat) (T : List UInt8) (w : World) (num : Int) (name : ByteArray) (m : Bool) (q : Option Addr) (L cap : Nat)

set_option maxHeartbeats 4000000 in
set_option maxRecDepth 100000 in
theorem expr_1 (RT : List UInt8) (hp : Page w pb r T) (hc : Ctx w0 pb r w) (hf : Fmt w0) (h0 : 0 ≤ num) (h1 : num ≤ 999999999999999999) (hrt : RT = dec num.toNat) :
    Calls Tryz.prog 101 #[.pointer (some ⟨pb, 0, none⟩), .agg #[.int .i64 1, .int .i64 num, .string name, .bool m, .slice q L cap]] w (Prints pb r w (T ++ RT)) := by
  have PR := hid (pre_of hp hc [.int .i64 1, .int .i64 num, .string name, .bool m, .slice q L cap])
  have HRT := hid hrt
  have XE : Hid (∀ (j : Nat) (u : Value), [Value.int .i64 1, .int .i64 num, .string name, .bool m, .slice q L cap][j]? = some u → (w.alloc (.cells #[.int .i64 1, .int .i64 num, .string name, .bool m, .slice q L cap] 51 (0, 0))).cell? ⟨w.heap.size, 0 + j, none⟩ = some u) := hid fun j u h => by rw [Nat.zero_add]; exact box_get (box_unhush PR.out.box) h
  have ZF : Hid ((Tryz.prog.info? 51).map (·.size) = some [Value.int .i64 1, .int .i64 num, .string name, .bool m, .slice q L cap].length) := hid ex_size5
  clear hrt hp hc
  have HF := hid (hf _ PR.out.ctx.below num h0 h1)
  have HD := hid (dec_size num.toNat)
  generalize dec num.toNat = ds at *
  clear hf
  go_enter Tryz.func101, Tryz.ntmps101
  go_wp2_with fail
  with_reducible refine HF.out.mono ?_
  rintro e W ⟨rfl, hb⟩
  have HP := hid (put1 pb r T ⟨ds.toArray⟩ W (PR.out.page.below hb) HD.out)
  have S1 := hid (PR.out.step.then hb)
  clear hb HF
  go_wp2_with fail
  with_reducible refine HP.out.mono ?_
  rintro e W2 ⟨rfl, r2, h1, h2⟩
  have S2 := hid (S1.out.trans h2)
  have P2 : Hid (Page W2 pb r2 (T ++ RT)) := hid (by have h3 := h1; rw [bs_lit] at h3; rw [HRT.out]; exact h3)
  clear h1 h2 HP
  go_wp2_with fail
  go_end0
  exact ⟨rfl, r2, P2.out, S2.out⟩

set_option maxHeartbeats 4000000 in
set_option maxRecDepth 100000 in
theorem expr_2 (RT : List UInt8) (hp : Page w pb r T) (hc : Ctx w0 pb r w) (hn : name.size ≤ 1048576) (hrt : RT = bs name) :
    Calls Tryz.prog 101 #[.pointer (some ⟨pb, 0, none⟩), .agg #[.int .i64 2, .int .i64 num, .string name, .bool m, .slice q L cap]] w (Prints pb r w (T ++ RT)) := by
  have PR := hid (pre_of hp hc [.int .i64 2, .int .i64 num, .string name, .bool m, .slice q L cap])
  have HRT := hid hrt
  have XE : Hid (∀ (j : Nat) (u : Value), [Value.int .i64 2, .int .i64 num, .string name, .bool m, .slice q L cap][j]? = some u → (w.alloc (.cells #[.int .i64 2, .int .i64 num, .string name, .bool m, .slice q L cap] 51 (0, 0))).cell? ⟨w.heap.size, 0 + j, none⟩ = some u) := hid fun j u h => by rw [Nat.zero_add]; exact box_get (box_unhush PR.out.box) h
  have ZF : Hid ((Tryz.prog.info? 51).map (·.size) = some [Value.int .i64 2, .int .i64 num, .string name, .bool m, .slice q L cap].length) := hid ex_size5
  clear hrt hp hc
  have hp0 := put1 pb r T name _ PR.out.page hn
  rw [PR.out.size] at hp0
  have HP := hid hp0
  clear hp0
  go_enter Tryz.func101, Tryz.ntmps101
  go_wp2_with fail
  with_reducible refine HP.out.mono ?_
  rintro e W2 ⟨rfl, r2, h1, h2⟩
  have S2 := hid (PR.out.step.trans h2)
  have P2 : Hid (Page W2 pb r2 (T ++ RT)) := hid (by rw [HRT.out]; exact h1)
  clear h1 h2 HP
  go_wp2_with fail
  go_end0
  exact ⟨rfl, r2, P2.out, S2.out⟩

set_option maxHeartbeats 4000000 in
set_option maxRecDepth 100000 in
theorem expr_3 (RT : List UInt8) (hp : Page w pb r T) (hc : Ctx w0 pb r w) (hf : Fmt w0) (h0 : 0 ≤ num) (h1 : num ≤ 999999999999999999) (tk : List UInt8) (hk0 : Says pb w0 153 #[.pointer (some ⟨pb, 0, none⟩), .agg #[.int .i64 3, .int .i64 num, .string name, .bool m, .slice q L cap], .int .i64 0] tk) (hrt : RT = tk ++ [46] ++ dec num.toNat) :
    Calls Tryz.prog 101 #[.pointer (some ⟨pb, 0, none⟩), .agg #[.int .i64 3, .int .i64 num, .string name, .bool m, .slice q L cap]] w (Prints pb r w (T ++ RT)) := by
  have PR := hid (pre_of hp hc [.int .i64 3, .int .i64 num, .string name, .bool m, .slice q L cap])
  have HRT := hid hrt
  have XE : Hid (∀ (j : Nat) (u : Value), [Value.int .i64 3, .int .i64 num, .string name, .bool m, .slice q L cap][j]? = some u → (w.alloc (.cells #[.int .i64 3, .int .i64 num, .string name, .bool m, .slice q L cap] 51 (0, 0))).cell? ⟨w.heap.size, 0 + j, none⟩ = some u) := hid fun j u h => by rw [Nat.zero_add]; exact box_get (box_unhush PR.out.box) h
  have ZF : Hid ((Tryz.prog.info? 51).map (·.size) = some [Value.int .i64 3, .int .i64 num, .string name, .bool m, .slice q L cap].length) := hid ex_size5
  clear hrt hp hc
  have HF := hid (fun W hb => hf W hb num h0 h1)
  have HD := hid (dec_size num.toNat)
  have CK := hid (hk0 _ r T PR.out.page PR.out.ctx)
  generalize dec num.toNat = ds at *
  clear hf hk0
  go_enter Tryz.func101, Tryz.ntmps101
  go_wp2_with (with_reducible refine wpList_load_at (o := ⟨some 24, _, _, _, _, _⟩) rfl _ _ rfl w.heap.size 0 rfl [.int .i64 3, .int .i64 num, .string name, .bool m, .slice q L cap] _ XE.out Tryz.underlying51 rfl ZF.out ?_)
  with_reducible refine CK.out.mono ?_
  rintro e W ⟨rfl, r1, h1, h2⟩
  have C1 := hid (PR.out.ctx.step h2)
  have S1 := hid (PR.out.step.trans h2)
  have X1 := hid (PR.out.box.keep h2.keeps)
  have l1 := box_get (box_unhush X1.out) (j := 1) rfl
  have P1 := hid h1
  have HF1 := hid (HF.out W C1.out.below)
  clear h1 h2 CK XE
  go_wp2_with fail
  with_reducible refine HF1.out.mono ?_
  rintro e W2 ⟨rfl, hb⟩
  have HP := hid (put2 pb r1 _ ⟨#[46]⟩ ⟨ds.toArray⟩ W2 (P1.out.below hb) (by decide) HD.out)
  have S2 := hid (S1.out.then hb)
  clear hb HF1 l1
  go_wp2_with fail
  with_reducible refine HP.out.mono ?_
  rintro e W3 ⟨rfl, r3, h1, h2⟩
  have S3 := hid (S2.out.trans h2)
  have P3 : Hid (Page W3 pb r3 (T ++ RT)) := hid (by
    have h3 : Page W3 pb r3 (T ++ tk ++ ([46] ++ bs ⟨ds.toArray⟩)) := h1
    rw [bs_lit] at h3
    rw [HRT.out]
    simpa only [List.append_assoc] using h3)
  clear h1 h2 HP
  go_wp2_with fail
  go_end0
  exact ⟨rfl, r3, P3.out, S3.out⟩

set_option maxHeartbeats 4000000 in
set_option maxRecDepth 100000 in
theorem expr_4 (RT : List UInt8) (hp : Page w pb r T) (hc : Ctx w0 pb r w) (tk : List UInt8) (hk0 : Says pb w0 153 #[.pointer (some ⟨pb, 0, none⟩), .agg #[.int .i64 4, .int .i64 num, .string name, .bool m, .slice q L cap], .int .i64 0] tk) (hrt : RT = [42] ++ tk) :
    Calls Tryz.prog 101 #[.pointer (some ⟨pb, 0, none⟩), .agg #[.int .i64 4, .int .i64 num, .string name, .bool m, .slice q L cap]] w (Prints pb r w (T ++ RT)) := by
  have PR := hid (pre_of hp hc [.int .i64 4, .int .i64 num, .string name, .bool m, .slice q L cap])
  have HRT := hid hrt
  have XE : Hid (∀ (j : Nat) (u : Value), [Value.int .i64 4, .int .i64 num, .string name, .bool m, .slice q L cap][j]? = some u → (w.alloc (.cells #[.int .i64 4, .int .i64 num, .string name, .bool m, .slice q L cap] 51 (0, 0))).cell? ⟨w.heap.size, 0 + j, none⟩ = some u) := hid fun j u h => by rw [Nat.zero_add]; exact box_get (box_unhush PR.out.box) h
  have ZF : Hid ((Tryz.prog.info? 51).map (·.size) = some [Value.int .i64 4, .int .i64 num, .string name, .bool m, .slice q L cap].length) := hid ex_size5
  clear hrt hp hc
  have hp0 := put1 pb r T ⟨#[42]⟩ _ PR.out.page (by decide)
  rw [PR.out.size] at hp0
  have HP := hid hp0
  have HK := hid hk0
  clear hp0 hk0
  go_enter Tryz.func101, Tryz.ntmps101
  go_wp2_with fail
  with_reducible refine HP.out.mono ?_
  rintro e W ⟨rfl, r1, h1, h2⟩
  have C1 := hid (PR.out.ctx.step h2)
  have S1 := hid (PR.out.step.trans h2)
  have X1 := hid (PR.out.box.keep h2.keeps)
  have CK := hid (HK.out W r1 _ h1 C1.out)
  have XE1 : Hid (∀ (j : Nat) (u : Value), [Value.int .i64 4, .int .i64 num, .string name, .bool m, .slice q L cap][j]? = some u → W.cell? ⟨w.heap.size, 0 + j, none⟩ = some u) := hid fun j u h => by rw [Nat.zero_add]; exact box_get (box_unhush X1.out) h
  clear h1 h2 HP XE
  go_wp2_with (with_reducible refine wpList_load_at (o := ⟨some 38, _, _, _, _, _⟩) rfl _ _ rfl w.heap.size 0 rfl [.int .i64 4, .int .i64 num, .string name, .bool m, .slice q L cap] _ XE1.out Tryz.underlying51 rfl ZF.out ?_)
  with_reducible refine CK.out.mono ?_
  rintro e W2 ⟨rfl, r2, h1, h2⟩
  have S2 := hid (S1.out.trans h2)
  have P2 : Hid (Page W2 pb r2 (T ++ RT)) := hid (by
    have h3 : Page W2 pb r2 (T ++ [42] ++ tk) := h1
    rw [HRT.out]
    simpa only [List.append_assoc] using h3)
  clear h1 h2 CK
  go_wp2_with fail
  go_end0
  exact ⟨rfl, r2, P2.out, S2.out⟩

set_option maxHeartbeats 4000000 in
set_option maxRecDepth 100000 in
theorem expr_6 (RT : List UInt8) (hp : Page w pb r T) (hc : Ctx w0 pb r w) (tk : List UInt8) (hk0 : Says pb w0 153 #[.pointer (some ⟨pb, 0, none⟩), .agg #[.int .i64 6, .int .i64 num, .string name, .bool m, .slice q L cap], .int .i64 0] tk) (hrt : RT = [98, 111, 120, 32] ++ tk) :
    Calls Tryz.prog 101 #[.pointer (some ⟨pb, 0, none⟩), .agg #[.int .i64 6, .int .i64 num, .string name, .bool m, .slice q L cap]] w (Prints pb r w (T ++ RT)) := by
  have PR := hid (pre_of hp hc [.int .i64 6, .int .i64 num, .string name, .bool m, .slice q L cap])
  have HRT := hid hrt
  have XE : Hid (∀ (j : Nat) (u : Value), [Value.int .i64 6, .int .i64 num, .string name, .bool m, .slice q L cap][j]? = some u → (w.alloc (.cells #[.int .i64 6, .int .i64 num, .string name, .bool m, .slice q L cap] 51 (0, 0))).cell? ⟨w.heap.size, 0 + j, none⟩ = some u) := hid fun j u h => by rw [Nat.zero_add]; exact box_get (box_unhush PR.out.box) h
  have ZF : Hid ((Tryz.prog.info? 51).map (·.size) = some [Value.int .i64 6, .int .i64 num, .string name, .bool m, .slice q L cap].length) := hid ex_size5
  clear hrt hp hc
  have hp0 := put1 pb r T ⟨#[98, 111, 120, 32]⟩ _ PR.out.page (by decide)
  rw [PR.out.size] at hp0
  have HP := hid hp0
  have HK := hid hk0
  clear hp0 hk0
  go_enter Tryz.func101, Tryz.ntmps101
  go_wp2_with fail
  with_reducible refine HP.out.mono ?_
  rintro e W ⟨rfl, r1, h1, h2⟩
  have C1 := hid (PR.out.ctx.step h2)
  have S1 := hid (PR.out.step.trans h2)
  have X1 := hid (PR.out.box.keep h2.keeps)
  have CK := hid (HK.out W r1 _ h1 C1.out)
  have XE1 : Hid (∀ (j : Nat) (u : Value), [Value.int .i64 6, .int .i64 num, .string name, .bool m, .slice q L cap][j]? = some u → W.cell? ⟨w.heap.size, 0 + j, none⟩ = some u) := hid fun j u h => by rw [Nat.zero_add]; exact box_get (box_unhush X1.out) h
  clear h1 h2 HP XE
  go_wp2_with (with_reducible refine wpList_load_at (o := ⟨some 57, _, _, _, _, _⟩) rfl _ _ rfl w.heap.size 0 rfl [.int .i64 6, .int .i64 num, .string name, .bool m, .slice q L cap] _ XE1.out Tryz.underlying51 rfl ZF.out ?_)
  with_reducible refine CK.out.mono ?_
  rintro e W2 ⟨rfl, r2, h1, h2⟩
  have S2 := hid (S1.out.trans h2)
  have P2 : Hid (Page W2 pb r2 (T ++ RT)) := hid (by
    have h3 : Page W2 pb r2 (T ++ [98, 111, 120, 32] ++ tk) := h1
    rw [HRT.out]
    simpa only [List.append_assoc] using h3)
  clear h1 h2 CK
  go_wp2_with fail
  go_end0
  exact ⟨rfl, r2, P2.out, S2.out⟩

set_option maxHeartbeats 4000000 in
set_option maxRecDepth 100000 in
theorem expr_5 (RT : List UInt8) (hp : Page w pb r T) (hc : Ctx w0 pb r w) (tk : List UInt8) (hk0 : Says pb w0 153 #[.pointer (some ⟨pb, 0, none⟩), .agg #[.int .i64 5, .int .i64 num, .string name, .bool m, .slice q L cap], .int .i64 0] tk) (hrt : RT = [38] ++ mutB m ++ tk) :
    Calls Tryz.prog 101 #[.pointer (some ⟨pb, 0, none⟩), .agg #[.int .i64 5, .int .i64 num, .string name, .bool m, .slice q L cap]] w (Prints pb r w (T ++ RT)) := by
  have PR := hid (pre_of hp hc [.int .i64 5, .int .i64 num, .string name, .bool m, .slice q L cap])
  have HRT := hid hrt
  have XE : Hid (∀ (j : Nat) (u : Value), [Value.int .i64 5, .int .i64 num, .string name, .bool m, .slice q L cap][j]? = some u → (w.alloc (.cells #[.int .i64 5, .int .i64 num, .string name, .bool m, .slice q L cap] 51 (0, 0))).cell? ⟨w.heap.size, 0 + j, none⟩ = some u) := hid fun j u h => by rw [Nat.zero_add]; exact box_get (box_unhush PR.out.box) h
  have ZF : Hid ((Tryz.prog.info? 51).map (·.size) = some [Value.int .i64 5, .int .i64 num, .string name, .bool m, .slice q L cap].length) := hid ex_size5
  clear hrt hp hc
  have hp0 := put2 pb r T ⟨#[38]⟩ (mutS m) _ PR.out.page (by decide) (mutS_size m)
  rw [PR.out.size, mutS_bs] at hp0
  have HP := hid hp0
  have HK := hid hk0
  have HM := hid (fun W => mut_any m W)
  generalize mutS m = ms at *
  generalize mutB m = mb at *
  clear hp0 hk0
  go_enter Tryz.func101, Tryz.ntmps101
  go_wp2_with fail
  with_reducible refine (HM.out _).mono ?_
  rintro e W0 ⟨rfl, rfl⟩
  go_wp2_with fail
  with_reducible refine HP.out.mono ?_
  rintro e W ⟨rfl, r1, h1, h2⟩
  have C1 := hid (PR.out.ctx.step h2)
  have S1 := hid (PR.out.step.trans h2)
  have X1 := hid (PR.out.box.keep h2.keeps)
  have CK := hid (HK.out W r1 _ h1 C1.out)
  have XE1 : Hid (∀ (j : Nat) (u : Value), [Value.int .i64 5, .int .i64 num, .string name, .bool m, .slice q L cap][j]? = some u → W.cell? ⟨w.heap.size, 0 + j, none⟩ = some u) := hid fun j u h => by rw [Nat.zero_add]; exact box_get (box_unhush X1.out) h
  clear h1 h2 HP XE
  go_wp2_with (with_reducible refine wpList_load_at (o := ⟨some 49, _, _, _, _, _⟩) rfl _ _ rfl w.heap.size 0 rfl [.int .i64 5, .int .i64 num, .string name, .bool m, .slice q L cap] _ XE1.out Tryz.underlying51 rfl ZF.out ?_)
  with_reducible refine CK.out.mono ?_
  rintro e W2 ⟨rfl, r2, h1, h2⟩
  have S2 := hid (S1.out.trans h2)
  have P2 : Hid (Page W2 pb r2 (T ++ RT)) := hid (by
    have h3 : Page W2 pb r2 (T ++ ([38] ++ mb) ++ tk) := h1
    rw [HRT.out]
    simpa only [List.append_assoc] using h3)
  clear h1 h2 CK
  go_wp2_with fail
  go_end0
  exact ⟨rfl, r2, P2.out, S2.out⟩

set_option maxHeartbeats 4000000 in
set_option maxRecDepth 100000 in
theorem expr_8 (RT : List UInt8) (hp : Page w pb r T) (hc : Ctx w0 pb r w) (hn : name.size ≤ 1048576) (ta tb : List UInt8) (hk0 : Says pb w0 153 #[.pointer (some ⟨pb, 0, none⟩), .agg #[.int .i64 8, .int .i64 num, .string name, .bool m, .slice q L cap], .int .i64 0] ta) (hk1 : Says pb w0 153 #[.pointer (some ⟨pb, 0, none⟩), .agg #[.int .i64 8, .int .i64 num, .string name, .bool m, .slice q L cap], .int .i64 1] tb) (hrt : RT = ta ++ [32] ++ bs name ++ [32] ++ tb) :
    Calls Tryz.prog 101 #[.pointer (some ⟨pb, 0, none⟩), .agg #[.int .i64 8, .int .i64 num, .string name, .bool m, .slice q L cap]] w (Prints pb r w (T ++ RT)) := by
  have PR := hid (pre_of hp hc [.int .i64 8, .int .i64 num, .string name, .bool m, .slice q L cap])
  have HRT := hid hrt
  have XE : Hid (∀ (j : Nat) (u : Value), [Value.int .i64 8, .int .i64 num, .string name, .bool m, .slice q L cap][j]? = some u → (w.alloc (.cells #[.int .i64 8, .int .i64 num, .string name, .bool m, .slice q L cap] 51 (0, 0))).cell? ⟨w.heap.size, 0 + j, none⟩ = some u) := hid fun j u h => by rw [Nat.zero_add]; exact box_get (box_unhush PR.out.box) h
  have ZF : Hid ((Tryz.prog.info? 51).map (·.size) = some [Value.int .i64 8, .int .i64 num, .string name, .bool m, .slice q L cap].length) := hid ex_size5
  clear hrt hp hc
  have CK := hid (hk0 _ r T PR.out.page PR.out.ctx)
  have HK := hid hk1
  clear hk0 hk1
  go_enter Tryz.func101, Tryz.ntmps101
  go_wp2_with (with_reducible refine wpList_load_at (o := ⟨some 62, _, _, _, _, _⟩) rfl _ _ rfl w.heap.size 0 rfl [.int .i64 8, .int .i64 num, .string name, .bool m, .slice q L cap] _ XE.out Tryz.underlying51 rfl ZF.out ?_)
  with_reducible refine CK.out.mono ?_
  rintro e W ⟨rfl, r1, h1, h2⟩
  have C1 := hid (PR.out.ctx.step h2)
  have S1 := hid (PR.out.step.trans h2)
  have X1 := hid (PR.out.box.keep h2.keeps)
  have l2 := box_get (box_unhush X1.out) (j := 2) rfl
  have HP := hid (put3 pb r1 _ ⟨#[32]⟩ name ⟨#[32]⟩ W h1 (by decide) hn (by decide))
  clear h1 h2 CK XE
  go_wp2_with fail
  with_reducible refine HP.out.mono ?_
  rintro e W2 ⟨rfl, r2, h1, h2⟩
  have C2 := hid (C1.out.step h2)
  have S2 := hid (S1.out.trans h2)
  have X2 := hid (X1.out.keep h2.keeps)
  have CK2 := hid (HK.out W2 r2 _ h1 C2.out)
  have XE2 : Hid (∀ (j : Nat) (u : Value), [Value.int .i64 8, .int .i64 num, .string name, .bool m, .slice q L cap][j]? = some u → W2.cell? ⟨w.heap.size, 0 + j, none⟩ = some u) := hid fun j u h => by rw [Nat.zero_add]; exact box_get (box_unhush X2.out) h
  clear h1 h2 HP l2
  go_wp2_with (with_reducible refine wpList_load_at (o := ⟨some 70, _, _, _, _, _⟩) rfl _ _ rfl w.heap.size 0 rfl [.int .i64 8, .int .i64 num, .string name, .bool m, .slice q L cap] _ XE2.out Tryz.underlying51 rfl ZF.out ?_)
  with_reducible refine CK2.out.mono ?_
  rintro e W3 ⟨rfl, r3, h1, h2⟩
  have S3 := hid (S2.out.trans h2)
  have P3 : Hid (Page W3 pb r3 (T ++ RT)) := hid (by
    have h3 : Page W3 pb r3 (T ++ ta ++ ([32] ++ (bs name ++ [32])) ++ tb) := h1
    rw [HRT.out]
    simpa only [List.append_assoc] using h3)
  clear h1 h2 CK2
  go_wp2_with fail
  go_end0
  exact ⟨rfl, r3, P3.out, S3.out⟩

set_option maxHeartbeats 4000000 in
set_option maxRecDepth 100000 in
theorem expr_7 (RT : List UInt8) (hp : Page w pb r T) (hc : Ctx w0 pb r w) (hn : name.size ≤ 1048576) (tr : List UInt8) (hk0 : Says pb w0 154 #[.pointer (some ⟨pb, 0, none⟩), .slice q L cap, .func (.func 101) #[.pointer (some ⟨pb, 0, none⟩)] #[]] tr) (hrt : RT = bs name ++ [40] ++ tr ++ [41]) :
    Calls Tryz.prog 101 #[.pointer (some ⟨pb, 0, none⟩), .agg #[.int .i64 7, .int .i64 num, .string name, .bool m, .slice q L cap]] w (Prints pb r w (T ++ RT)) := by
  have PR := hid (pre_of hp hc [.int .i64 7, .int .i64 num, .string name, .bool m, .slice q L cap])
  have HRT := hid hrt
  have XE : Hid (∀ (j : Nat) (u : Value), [Value.int .i64 7, .int .i64 num, .string name, .bool m, .slice q L cap][j]? = some u → (w.alloc (.cells #[.int .i64 7, .int .i64 num, .string name, .bool m, .slice q L cap] 51 (0, 0))).cell? ⟨w.heap.size, 0 + j, none⟩ = some u) := hid fun j u h => by rw [Nat.zero_add]; exact box_get (box_unhush PR.out.box) h
  have ZF : Hid ((Tryz.prog.info? 51).map (·.size) = some [Value.int .i64 7, .int .i64 num, .string name, .bool m, .slice q L cap].length) := hid ex_size5
  clear hrt hp hc
  have hp0 := put2 pb r T name ⟨#[40]⟩ _ PR.out.page hn (by decide)
  rw [PR.out.size] at hp0
  have HP := hid hp0
  have HK := hid hk0
  clear hp0 hk0
  go_enter Tryz.func101, Tryz.ntmps101
  go_wp2_with fail
  with_reducible refine HP.out.mono ?_
  rintro e W ⟨rfl, r1, h1, h2⟩
  have C1 := hid (PR.out.ctx.step h2)
  have S1 := hid (PR.out.step.trans h2)
  have X1 := hid (PR.out.box.keep h2.keeps)
  have l4 := box_get (box_unhush X1.out) (j := 4) rfl
  have CK := hid (HK.out W r1 _ h1 C1.out)
  clear h1 h2 HP XE
  go_wp2_with fail
  with_reducible refine CK.out.mono ?_
  rintro e W2 ⟨rfl, r2, h1, h2⟩
  have S2 := hid (S1.out.trans h2)
  have HP2 := hid (put1 pb r2 _ ⟨#[41]⟩ W2 h1 (by decide))
  clear h1 h2 CK l4
  go_wp2_with fail
  with_reducible refine HP2.out.mono ?_
  rintro e W3 ⟨rfl, r3, h1, h2⟩
  have S3 := hid (S2.out.trans h2)
  have P3 : Hid (Page W3 pb r3 (T ++ RT)) := hid (by
    have h3 : Page W3 pb r3 (T ++ (bs name ++ [40]) ++ tr ++ [41]) := h1
    rw [HRT.out]
    simpa only [List.append_assoc] using h3)
  clear h1 h2 HP2
  go_wp2_with fail
  go_end0
  exact ⟨rfl, r3, P3.out, S3.out⟩

set_option maxHeartbeats 4000000 in
set_option maxRecDepth 100000 in
theorem expr_9 (RT : List UInt8) (hp : Page w pb r T) (hc : Ctx w0 pb r w) (hn : name.size ≤ 1048576) (tr : List UInt8) (hk0 : Says pb w0 154 #[.pointer (some ⟨pb, 0, none⟩), .slice q L cap, .func (.func 101) #[.pointer (some ⟨pb, 0, none⟩)] #[]] tr) (hrt : RT = bs name ++ [40] ++ tr ++ [41]) :
    Calls Tryz.prog 101 #[.pointer (some ⟨pb, 0, none⟩), .agg #[.int .i64 9, .int .i64 num, .string name, .bool m, .slice q L cap]] w (Prints pb r w (T ++ RT)) := by
  have PR := hid (pre_of hp hc [.int .i64 9, .int .i64 num, .string name, .bool m, .slice q L cap])
  have HRT := hid hrt
  have XE : Hid (∀ (j : Nat) (u : Value), [Value.int .i64 9, .int .i64 num, .string name, .bool m, .slice q L cap][j]? = some u → (w.alloc (.cells #[.int .i64 9, .int .i64 num, .string name, .bool m, .slice q L cap] 51 (0, 0))).cell? ⟨w.heap.size, 0 + j, none⟩ = some u) := hid fun j u h => by rw [Nat.zero_add]; exact box_get (box_unhush PR.out.box) h
  have ZF : Hid ((Tryz.prog.info? 51).map (·.size) = some [Value.int .i64 9, .int .i64 num, .string name, .bool m, .slice q L cap].length) := hid ex_size5
  clear hrt hp hc
  have hp0 := put2 pb r T name ⟨#[40]⟩ _ PR.out.page hn (by decide)
  rw [PR.out.size] at hp0
  have HP := hid hp0
  have HK := hid hk0
  clear hp0 hk0
  go_enter Tryz.func101, Tryz.ntmps101
  go_wp2_with fail
  with_reducible refine HP.out.mono ?_
  rintro e W ⟨rfl, r1, h1, h2⟩
  have C1 := hid (PR.out.ctx.step h2)
  have S1 := hid (PR.out.step.trans h2)
  have X1 := hid (PR.out.box.keep h2.keeps)
  have l4 := box_get (box_unhush X1.out) (j := 4) rfl
  have CK := hid (HK.out W r1 _ h1 C1.out)
  clear h1 h2 HP XE
  go_wp2_with fail
  with_reducible refine CK.out.mono ?_
  rintro e W2 ⟨rfl, r2, h1, h2⟩
  have S2 := hid (S1.out.trans h2)
  have HP2 := hid (put1 pb r2 _ ⟨#[41]⟩ W2 h1 (by decide))
  clear h1 h2 CK l4
  go_wp2_with fail
  with_reducible refine HP2.out.mono ?_
  rintro e W3 ⟨rfl, r3, h1, h2⟩
  have S3 := hid (S2.out.trans h2)
  have P3 : Hid (Page W3 pb r3 (T ++ RT)) := hid (by
    have h3 : Page W3 pb r3 (T ++ (bs name ++ [40]) ++ tr ++ [41]) := h1
    rw [HRT.out]
    simpa only [List.append_assoc] using h3)
  clear h1 h2 HP2
  go_wp2_with fail
  go_end0
  exact ⟨rfl, r3, P3.out, S3.out⟩
end
end Go.Proofs.YtjkdcladjjpmoaaGreatDoor.PageC
/- Contract of (*tree.page).expr, of any right expression. -/
namespace Go.Proofs.YtjkdcladjjpmoaaGreatDoor.PageC
open Go Go.RowKit Go.Lib Go.Sort Go.Proofs.YtjkdcladjjpmoaaGreatDoor.LexP Go.Proofs.YtjkdcladjjpmoaaGreatDoor.TreeP Go.Proofs.YtjkdcladjjpmoaaGreatDoor.LexC Go.Proofs.YtjkdcladjjpmoaaGreatDoor.TreeC

set_option maxHeartbeats 4000000 in
theorem expr_any (pb : Nat) (w0 : World) (hf : Fmt w0) : ∀ (n : Nat) (x : Ex) (r : Option Nat) (T : List UInt8) (w : World), wE x ≤ n → n ≤ 1048576 → rightE x = true → x.In w0 → Page w pb r T → Ctx w0 pb r w →
    Calls Tryz.prog 101 #[.pointer (some ⟨pb, 0, none⟩), .agg (Ex.cells x).toArray] w (Prints pb r w (T ++ textE x)) := by
  intro n
  induction n using Nat.strongRecOn with
  | ind n ih =>
    intro x r T w hw hn hr hin hp hc
    obtain ⟨k, num, name, m, v, kids⟩ := x
    have hwx := hw
    rw [wE] at hw
    have hrx := hr
    rw [rightE, Bool.and_eq_true] at hr
    have hinx := hin
    rw [Ex.In] at hin
    have hlen := wEs_len kids
    obtain ⟨q, cap, rfl, hcap, hqq⟩ := id hin.2.1
    rw [List.length_map] at *
    have hnm : name.size ≤ 1048576 := by omega
    have hkl : kids.length ≤ 1048576 := by omega
    have hkids : ∀ x ∈ kids, ∀ W r T, Page W pb r T → Ctx w0 pb r W → Calls Tryz.prog 101 #[.pointer (some ⟨pb, 0, none⟩), .agg (Ex.cells x).toArray] W (Prints pb r W (T ++ textE x)) := fun x hx W r T h1 h2 => by
      have := mem_wE (l := kids) hx
      exact ih (wE x) (by omega) x r T W (Nat.le_refl _) (by omega) (rightEs_mem hr.1 x hx) ((Ex.ins_iff _ _).1 hin.2.2 x hx) h1 h2
    have hkid : ∀ (i : Nat) (t : Ex), kids[i]? = some t → Says pb w0 153 #[.pointer (some ⟨pb, 0, none⟩), .agg #[.int .i64 k, .int .i64 num, .string name, .bool m, .slice q kids.length cap], .int .i64 (i : Int)] (inP (textE t) (parensB k (strK k (bs name)) t i)) := fun i t ht W r T h1 h2 =>
      kid_any pb w0 (.mk k num name m (.slice q kids.length cap) kids) t i r T W hinx ht hkl h1 h2 (hkids t (List.mem_of_getElem? ht))
    have hrow : Says pb w0 154 #[.pointer (some ⟨pb, 0, none⟩), .slice q kids.length cap, .func (.func 101) #[.pointer (some ⟨pb, 0, none⟩)] #[]] (TreeP.row (kids.map textE)) := fun W r T h1 h2 =>
      row_exSize pb w0 textE kids (.slice q kids.length cap) r T W h1 h2 hin.2.1 hkl (fun x hx => ex_ones ((Ex.ins_iff _ _).1 hin.2.2 x hx)) hkids
    have hne : kids.map textE = textEs kids := (textEs_map kids).symm
    have ha := hr.2
    show Calls _ _ #[_, .agg #[.int .i64 k, .int .i64 num, .string name, .bool m, .slice q kids.length cap]] _ _
    unfold askE at ha
    by_cases k1 : k = 1
    · subst k1
      simp at ha
      exact expr_1 pb w0 r T w num name m q kids.length cap _ hp hc hf (by omega) (by omega) (by rw [textE]; rfl)
    rw [if_neg k1] at ha
    by_cases k2 : k = 2
    · subst k2
      exact expr_2 pb w0 r T w num name m q kids.length cap _ hp hc hnm (by rw [textE]; rfl)
    rw [if_neg k2] at ha
    by_cases k3 : k = 3
    · subst k3
      simp at ha
      obtain ⟨c, rfl⟩ := List.length_eq_one_iff.1 ha.1.2
      exact expr_3 pb w0 r T w num name m q _ cap _ hp hc hf (by omega) (by omega) (inP (textE c) (parensB 3 (strK 3 (bs name)) c 0)) (hkid 0 c rfl) (by rw [textE]; rfl)
    rw [if_neg k3] at ha
    by_cases k4 : k = 4
    · subst k4
      simp at ha
      obtain ⟨c, rfl⟩ := List.length_eq_one_iff.1 ha.1.2
      exact expr_4 pb w0 r T w num name m q _ cap _ hp hc (textE c) (hkid 0 c rfl) (by rw [textE]; rfl)
    rw [if_neg k4] at ha
    by_cases k5 : k = 5
    · subst k5
      simp at ha
      obtain ⟨c, rfl⟩ := List.length_eq_one_iff.1 ha.1.2
      exact expr_5 pb w0 r T w num name m q _ cap _ hp hc (textE c) (hkid 0 c rfl) (by rw [textE]; rfl)
    rw [if_neg k5] at ha
    by_cases k6 : k = 6
    · subst k6
      simp at ha
      obtain ⟨c, rfl⟩ := List.length_eq_one_iff.1 ha.2
      exact expr_6 pb w0 r T w num name m q _ cap _ hp hc (inP (textE c) (parensB 6 (strK 6 (bs name)) c 0)) (hkid 0 c rfl) (by rw [textE]; rfl)
    rw [if_neg k6] at ha
    by_cases k7 : k = 7
    · subst k7
      exact expr_7 pb w0 r T w num name m q kids.length cap _ hp hc hnm _ hrow (by rw [textE, hne]; rfl)
    rw [if_neg k7] at ha
    by_cases k8 : k = 8
    · subst k8
      simp at ha
      obtain ⟨a, b, rfl⟩ : ∃ a b, kids = [a, b] := by
        match kids, ha.1.2 with
        | [a, b], _ => exact ⟨a, b, rfl⟩
      have e0 : parensB 8 (strK 8 (bs name)) a 0 = asideB (strK 8 (bs name)) a.str 0 := operParens_aside _ _ 0 (by decide)
      have e1 : parensB 8 (strK 8 (bs name)) b 1 = asideB (strK 8 (bs name)) b.str 1 := operParens_aside _ _ 1 (by decide)
      exact expr_8 pb w0 r T w num name m q _ cap _ hp hc hnm _ _ (hkid 0 a rfl) (hkid 1 b rfl) (by rw [textE, e0, e1]; rfl)
    rw [if_neg k8] at ha
    by_cases k9 : k = 9
    · subst k9
      exact expr_9 pb w0 r T w num name m q kids.length cap _ hp hc hnm _ hrow (by rw [textE, hne]; rfl)
    · rw [if_neg k9] at ha
      cases ha
end Go.Proofs.YtjkdcladjjpmoaaGreatDoor.PageC
/- Contract of (*tree.page).stmt, kind by kind. -/
namespace Go.Proofs.YtjkdcladjjpmoaaGreatDoor.PageC
open Go Go.RowKit Go.Lib Go.Sort Go.Proofs.YtjkdcladjjpmoaaGreatDoor.LexP Go.Proofs.YtjkdcladjjpmoaaGreatDoor.TreeP Go.Proofs.YtjkdcladjjpmoaaGreatDoor.LexC Go.Proofs.YtjkdcladjjpmoaaGreatDoor.TreeC

/-- what holds when a thing that was handed in lies in a box -/
structure PreB (ty : TypeId) (pb : Nat) (w0 : World) (r : Option Nat) (T : List UInt8) (w : World) (fcs : List Value) : Prop where
  box : BoxAt (hush2 pb r (w.alloc (.cells fcs.toArray ty (0, 0)))) w.heap.size fcs
  page : Page (w.alloc (.cells fcs.toArray ty (0, 0))) pb r T
  ctx : Ctx w0 pb r (w.alloc (.cells fcs.toArray ty (0, 0)))
  step : Step pb r w r (w.alloc (.cells fcs.toArray ty (0, 0)))
  size : (w.alloc (.cells fcs.toArray ty (0, 0))).heap.size = w.heap.size + 1
theorem preB_of {pb : Nat} {w0 : World} {r : Option Nat} {T : List UInt8} {w : World} (hp : Page w pb r T) (hc : Ctx w0 pb r w) (ty : TypeId) (fcs : List Value) : PreB ty pb w0 r T w fcs := by
  have hba : Below w.heap.size w (w.alloc (.cells fcs.toArray ty (0, 0))) := (Below.refl _ _).alloc (Nat.le_refl _) _
  exact ⟨new_box hp.lt hp.rowlt fcs _, hp.below hba, hc.then hba, .below hba, Array.size_push ..⟩

section
variable (pb : Nat) (w0 : World) (r : Option Nat) (T : List UInt8) (w : World) (fcs : List Value) (tabs : ByteArray)

set_option maxHeartbeats 4000000 in
set_option maxRecDepth 100000 in
theorem stmt_1 (RT : List UInt8) (hp : Page w pb r T) (hc : Ctx w0 pb r w) (y0 : fcs[0]? = some (.int .i64 1)) (name : ByteArray) (hn : name.size ≤ 1048576) (y1 : fcs[1]? = some (.string name)) (c1 : List Value) (t1 : List UInt8) (hs1 : Says pb w0 101 #[.pointer (some ⟨pb, 0, none⟩), .agg c1.toArray] t1) (hz1 : (Tryz.prog.info? 51).map (·.size) = some c1.length) (hc1 : ∀ (j : Nat) (u : Value), c1[j]? = some u → fcs[7 + j]? = some u) (hrt : RT = ([108, 101, 116, 32] ++ (bs name ++ [32, 61, 32])) ++ t1 ++ [59, 10]) :
    Calls Tryz.prog 151 #[.pointer (some ⟨pb, 0, none⟩), .agg fcs.toArray, .string tabs] w (Prints pb r w (T ++ RT)) := by
  have PR := hid (preB_of hp hc 111 fcs)
  have HRT := hid hrt
  have lk := box_get (box_unhush PR.out.box) y0
  have Y1 := hid y1
  have HS1 := hid hs1
  have HZ1 := hid hz1
  have HC1 := hid hc1
  clear hrt hp hc y0 y1 hs1 hz1 hc1
  go_enter Tryz.func151, Tryz.ntmps151
  have hp0 := put3 pb r T ⟨#[108, 101, 116, 32]⟩ name ⟨#[32, 61, 32]⟩ _ PR.out.page (by decide) hn (by decide)
  rw [PR.out.size] at hp0
  have HQ := hid hp0
  clear hp0
  have l0 := box_get (box_unhush PR.out.box) Y1.out
  go_wp2_with fail
  with_reducible refine HQ.out.mono ?_
  rintro e W1 ⟨rfl, r1, h1, h2⟩
  have C1 := hid (PR.out.ctx.step h2)
  have S1 := hid (PR.out.step.trans h2)
  have X1 := hid (PR.out.box.keep h2.keeps)
  have P1 := hid h1
  clear h1 h2 HQ l0
  have CK := hid (HS1.out W1 r1 _ P1.out C1.out)
  have HL : Hid (∀ (j : Nat) (u : Value), c1[j]? = some u → W1.cell? ⟨w.heap.size, 7 + j, none⟩ = some u) := hid fun j u h => box_get (box_unhush X1.out) (HC1.out j u h)
  go_wp2_with (with_reducible refine wpList_load_at (o := ⟨some 17, _, _, _, _, _⟩) rfl _ _ rfl w.heap.size 7 rfl c1 _ HL.out Tryz.underlying51 rfl HZ1.out ?_)
  with_reducible refine CK.out.mono ?_
  rintro e W2 ⟨rfl, r2, h1, h2⟩
  have C2 := hid (C1.out.step h2)
  have S2 := hid (S1.out.trans h2)
  have X2 := hid (X1.out.keep h2.keeps)
  have P2 := hid h1
  clear h1 h2 CK HL
  have HQ := hid (put1 pb r2 _ ⟨#[59, 10]⟩ W2 P2.out (by decide))
  go_wp2_with fail
  with_reducible refine HQ.out.mono ?_
  rintro e W3 ⟨rfl, r3, h1, h2⟩
  have C3 := hid (C2.out.step h2)
  have S3 := hid (S2.out.trans h2)
  have X3 := hid (X2.out.keep h2.keeps)
  have P3 := hid h1
  clear h1 h2 HQ 
  have PE : Hid (Page W3 pb r3 (T ++ RT)) := hid (by
    have h3 : Page W3 pb r3 (T ++ ([108, 101, 116, 32] ++ (bs name ++ [32, 61, 32])) ++ t1 ++ [59, 10]) := P3.out
    rw [HRT.out]
    simpa only [List.append_assoc] using h3)
  go_wp2_with fail
  go_end0
  exact ⟨rfl, r3, PE.out, S3.out⟩

set_option maxHeartbeats 4000000 in
set_option maxRecDepth 100000 in
theorem stmt_2 (RT : List UInt8) (hp : Page w pb r T) (hc : Ctx w0 pb r w) (y0 : fcs[0]? = some (.int .i64 2)) (c1 : List Value) (t1 : List UInt8) (hs1 : Says pb w0 101 #[.pointer (some ⟨pb, 0, none⟩), .agg c1.toArray] t1) (hz1 : (Tryz.prog.info? 51).map (·.size) = some c1.length) (hc1 : ∀ (j : Nat) (u : Value), c1[j]? = some u → fcs[2 + j]? = some u) (c2 : List Value) (t2 : List UInt8) (hs2 : Says pb w0 101 #[.pointer (some ⟨pb, 0, none⟩), .agg c2.toArray] t2) (hz2 : (Tryz.prog.info? 51).map (·.size) = some c2.length) (hc2 : ∀ (j : Nat) (u : Value), c2[j]? = some u → fcs[7 + j]? = some u) (hrt : RT = t1 ++ [32, 61, 32] ++ t2 ++ [59, 10]) :
    Calls Tryz.prog 151 #[.pointer (some ⟨pb, 0, none⟩), .agg fcs.toArray, .string tabs] w (Prints pb r w (T ++ RT)) := by
  have PR := hid (preB_of hp hc 111 fcs)
  have HRT := hid hrt
  have lk := box_get (box_unhush PR.out.box) y0
  have HS1 := hid hs1
  have HZ1 := hid hz1
  have HC1 := hid hc1
  have HS2 := hid hs2
  have HZ2 := hid hz2
  have HC2 := hid hc2
  clear hrt hp hc y0 hs1 hz1 hc1 hs2 hz2 hc2
  go_enter Tryz.func151, Tryz.ntmps151
  have CK := hid (HS1.out _ r _ PR.out.page PR.out.ctx)
  have HL : Hid (∀ (j : Nat) (u : Value), c1[j]? = some u → (w.alloc (.cells fcs.toArray 111 (0, 0))).cell? ⟨w.heap.size, 2 + j, none⟩ = some u) := hid fun j u h => box_get (box_unhush PR.out.box) (HC1.out j u h)
  go_wp2_with (with_reducible refine wpList_load_at (o := ⟨some 26, _, _, _, _, _⟩) rfl _ _ rfl w.heap.size 2 rfl c1 _ HL.out Tryz.underlying51 rfl HZ1.out ?_)
  with_reducible refine CK.out.mono ?_
  rintro e W1 ⟨rfl, r1, h1, h2⟩
  have C1 := hid (PR.out.ctx.step h2)
  have S1 := hid (PR.out.step.trans h2)
  have X1 := hid (PR.out.box.keep h2.keeps)
  have P1 := hid h1
  clear h1 h2 CK HL
  have HQ := hid (put1 pb r1 _ ⟨#[32, 61, 32]⟩ W1 P1.out (by decide))
  go_wp2_with fail
  with_reducible refine HQ.out.mono ?_
  rintro e W2 ⟨rfl, r2, h1, h2⟩
  have C2 := hid (C1.out.step h2)
  have S2 := hid (S1.out.trans h2)
  have X2 := hid (X1.out.keep h2.keeps)
  have P2 := hid h1
  clear h1 h2 HQ 
  have CK := hid (HS2.out W2 r2 _ P2.out C2.out)
  have HL : Hid (∀ (j : Nat) (u : Value), c2[j]? = some u → W2.cell? ⟨w.heap.size, 7 + j, none⟩ = some u) := hid fun j u h => box_get (box_unhush X2.out) (HC2.out j u h)
  go_wp2_with (with_reducible refine wpList_load_at (o := ⟨some 33, _, _, _, _, _⟩) rfl _ _ rfl w.heap.size 7 rfl c2 _ HL.out Tryz.underlying51 rfl HZ2.out ?_)
  with_reducible refine CK.out.mono ?_
  rintro e W3 ⟨rfl, r3, h1, h2⟩
  have C3 := hid (C2.out.step h2)
  have S3 := hid (S2.out.trans h2)
  have X3 := hid (X2.out.keep h2.keeps)
  have P3 := hid h1
  clear h1 h2 CK HL
  have HQ := hid (put1 pb r3 _ ⟨#[59, 10]⟩ W3 P3.out (by decide))
  go_wp2_with fail
  with_reducible refine HQ.out.mono ?_
  rintro e W4 ⟨rfl, r4, h1, h2⟩
  have C4 := hid (C3.out.step h2)
  have S4 := hid (S3.out.trans h2)
  have X4 := hid (X3.out.keep h2.keeps)
  have P4 := hid h1
  clear h1 h2 HQ 
  have PE : Hid (Page W4 pb r4 (T ++ RT)) := hid (by
    have h3 : Page W4 pb r4 (T ++ t1 ++ [32, 61, 32] ++ t2 ++ [59, 10]) := P4.out
    rw [HRT.out]
    simpa only [List.append_assoc] using h3)
  go_wp2_with fail
  go_end0
  exact ⟨rfl, r4, PE.out, S4.out⟩

set_option maxHeartbeats 4000000 in
set_option maxRecDepth 100000 in
theorem stmt_3 (RT : List UInt8) (hp : Page w pb r T) (hc : Ctx w0 pb r w) (y0 : fcs[0]? = some (.int .i64 3)) (ht : tabs.size ≤ 1048576) (c1 : List Value) (t1 : List UInt8) (hs1 : Says pb w0 101 #[.pointer (some ⟨pb, 0, none⟩), .agg c1.toArray] t1) (hz1 : (Tryz.prog.info? 51).map (·.size) = some c1.length) (hc1 : ∀ (j : Nat) (u : Value), c1[j]? = some u → fcs[7 + j]? = some u) (v1 : Value) (b1 : List UInt8) (hb1 : Says pb w0 100 #[.pointer (some ⟨pb, 0, none⟩), v1, .string (tabs ++ ⟨#[9]⟩)] b1) (v2 : Value) (b2 : List UInt8) (hb2 : Says pb w0 100 #[.pointer (some ⟨pb, 0, none⟩), v2, .string (tabs ++ ⟨#[9]⟩)] b2) (y12 : fcs[12]? = some v1) (y13 : fcs[13]? = some v2) (hrt : RT = [105, 102, 32] ++ t1 ++ [32, 123, 10] ++ b1 ++ (bs tabs ++ [125, 32, 101, 108, 115, 101, 32, 123, 10]) ++ b2 ++ (bs tabs ++ [125, 10])) :
    Calls Tryz.prog 151 #[.pointer (some ⟨pb, 0, none⟩), .agg fcs.toArray, .string tabs] w (Prints pb r w (T ++ RT)) := by
  have PR := hid (preB_of hp hc 111 fcs)
  have HRT := hid hrt
  have lk := box_get (box_unhush PR.out.box) y0
  have HS1 := hid hs1
  have HZ1 := hid hz1
  have HC1 := hid hc1
  have HB1 := hid hb1
  have HB2 := hid hb2
  have Y12 := hid y12
  have Y13 := hid y13
  clear hrt hp hc y0 hs1 hz1 hc1 hb1 hb2 y12 y13
  go_enter Tryz.func151, Tryz.ntmps151
  have hp0 := put1 pb r T ⟨#[105, 102, 32]⟩ _ PR.out.page (by decide)
  rw [PR.out.size] at hp0
  have HQ := hid hp0
  clear hp0
  go_wp2_with fail
  with_reducible refine HQ.out.mono ?_
  rintro e W1 ⟨rfl, r1, h1, h2⟩
  have C1 := hid (PR.out.ctx.step h2)
  have S1 := hid (PR.out.step.trans h2)
  have X1 := hid (PR.out.box.keep h2.keeps)
  have P1 := hid h1
  clear h1 h2 HQ 
  have CK := hid (HS1.out W1 r1 _ P1.out C1.out)
  have HL : Hid (∀ (j : Nat) (u : Value), c1[j]? = some u → W1.cell? ⟨w.heap.size, 7 + j, none⟩ = some u) := hid fun j u h => box_get (box_unhush X1.out) (HC1.out j u h)
  go_wp2_with (with_reducible refine wpList_load_at (o := ⟨some 45, _, _, _, _, _⟩) rfl _ _ rfl w.heap.size 7 rfl c1 _ HL.out Tryz.underlying51 rfl HZ1.out ?_)
  with_reducible refine CK.out.mono ?_
  rintro e W2 ⟨rfl, r2, h1, h2⟩
  have C2 := hid (C1.out.step h2)
  have S2 := hid (S1.out.trans h2)
  have X2 := hid (X1.out.keep h2.keeps)
  have P2 := hid h1
  clear h1 h2 CK HL
  have HQ := hid (put1 pb r2 _ ⟨#[32, 123, 10]⟩ W2 P2.out (by decide))
  go_wp2_with fail
  with_reducible refine HQ.out.mono ?_
  rintro e W3 ⟨rfl, r3, h1, h2⟩
  have C3 := hid (C2.out.step h2)
  have S3 := hid (S2.out.trans h2)
  have X3 := hid (X2.out.keep h2.keeps)
  have P3 := hid h1
  clear h1 h2 HQ 
  have CK := hid (HB1.out W3 r3 _ P3.out C3.out)
  have l0 := box_get (box_unhush X3.out) Y12.out
  go_wp2_with fail
  with_reducible refine CK.out.mono ?_
  rintro e W4 ⟨rfl, r4, h1, h2⟩
  have C4 := hid (C3.out.step h2)
  have S4 := hid (S3.out.trans h2)
  have X4 := hid (X3.out.keep h2.keeps)
  have P4 := hid h1
  clear h1 h2 CK l0
  have HQ := hid (put2 pb r4 _ tabs ⟨#[125, 32, 101, 108, 115, 101, 32, 123, 10]⟩ W4 P4.out ht (by decide))
  go_wp2_with fail
  with_reducible refine HQ.out.mono ?_
  rintro e W5 ⟨rfl, r5, h1, h2⟩
  have C5 := hid (C4.out.step h2)
  have S5 := hid (S4.out.trans h2)
  have X5 := hid (X4.out.keep h2.keeps)
  have P5 := hid h1
  clear h1 h2 HQ 
  have CK := hid (HB2.out W5 r5 _ P5.out C5.out)
  have l0 := box_get (box_unhush X5.out) Y13.out
  go_wp2_with fail
  with_reducible refine CK.out.mono ?_
  rintro e W6 ⟨rfl, r6, h1, h2⟩
  have C6 := hid (C5.out.step h2)
  have S6 := hid (S5.out.trans h2)
  have X6 := hid (X5.out.keep h2.keeps)
  have P6 := hid h1
  clear h1 h2 CK l0
  have HQ := hid (put2 pb r6 _ tabs ⟨#[125, 10]⟩ W6 P6.out ht (by decide))
  go_wp2_with fail
  with_reducible refine HQ.out.mono ?_
  rintro e W7 ⟨rfl, r7, h1, h2⟩
  have C7 := hid (C6.out.step h2)
  have S7 := hid (S6.out.trans h2)
  have X7 := hid (X6.out.keep h2.keeps)
  have P7 := hid h1
  clear h1 h2 HQ 
  have PE : Hid (Page W7 pb r7 (T ++ RT)) := hid (by
    have h3 : Page W7 pb r7 (T ++ [105, 102, 32] ++ t1 ++ [32, 123, 10] ++ b1 ++ (bs tabs ++ [125, 32, 101, 108, 115, 101, 32, 123, 10]) ++ b2 ++ (bs tabs ++ [125, 10])) := P7.out
    rw [HRT.out]
    simpa only [List.append_assoc] using h3)
  go_wp2_with fail
  go_end0
  exact ⟨rfl, r7, PE.out, S7.out⟩

set_option maxHeartbeats 4000000 in
set_option maxRecDepth 100000 in
theorem stmt_4 (RT : List UInt8) (hp : Page w pb r T) (hc : Ctx w0 pb r w) (y0 : fcs[0]? = some (.int .i64 4)) (ht : tabs.size ≤ 1048576) (c1 : List Value) (t1 : List UInt8) (hs1 : Says pb w0 101 #[.pointer (some ⟨pb, 0, none⟩), .agg c1.toArray] t1) (hz1 : (Tryz.prog.info? 51).map (·.size) = some c1.length) (hc1 : ∀ (j : Nat) (u : Value), c1[j]? = some u → fcs[7 + j]? = some u) (v1 : Value) (b1 : List UInt8) (hb1 : Says pb w0 100 #[.pointer (some ⟨pb, 0, none⟩), v1, .string (tabs ++ ⟨#[9]⟩)] b1) (y12 : fcs[12]? = some v1) (hrt : RT = [114, 101, 112, 101, 97, 116, 32] ++ t1 ++ [32, 123, 10] ++ b1 ++ (bs tabs ++ [125, 10])) :
    Calls Tryz.prog 151 #[.pointer (some ⟨pb, 0, none⟩), .agg fcs.toArray, .string tabs] w (Prints pb r w (T ++ RT)) := by
  have PR := hid (preB_of hp hc 111 fcs)
  have HRT := hid hrt
  have lk := box_get (box_unhush PR.out.box) y0
  have HS1 := hid hs1
  have HZ1 := hid hz1
  have HC1 := hid hc1
  have HB1 := hid hb1
  have Y12 := hid y12
  clear hrt hp hc y0 hs1 hz1 hc1 hb1 y12
  go_enter Tryz.func151, Tryz.ntmps151
  have hp0 := put1 pb r T ⟨#[114, 101, 112, 101, 97, 116, 32]⟩ _ PR.out.page (by decide)
  rw [PR.out.size] at hp0
  have HQ := hid hp0
  clear hp0
  go_wp2_with fail
  with_reducible refine HQ.out.mono ?_
  rintro e W1 ⟨rfl, r1, h1, h2⟩
  have C1 := hid (PR.out.ctx.step h2)
  have S1 := hid (PR.out.step.trans h2)
  have X1 := hid (PR.out.box.keep h2.keeps)
  have P1 := hid h1
  clear h1 h2 HQ 
  have CK := hid (HS1.out W1 r1 _ P1.out C1.out)
  have HL : Hid (∀ (j : Nat) (u : Value), c1[j]? = some u → W1.cell? ⟨w.heap.size, 7 + j, none⟩ = some u) := hid fun j u h => box_get (box_unhush X1.out) (HC1.out j u h)
  go_wp2_with (with_reducible refine wpList_load_at (o := ⟨some 77, _, _, _, _, _⟩) rfl _ _ rfl w.heap.size 7 rfl c1 _ HL.out Tryz.underlying51 rfl HZ1.out ?_)
  with_reducible refine CK.out.mono ?_
  rintro e W2 ⟨rfl, r2, h1, h2⟩
  have C2 := hid (C1.out.step h2)
  have S2 := hid (S1.out.trans h2)
  have X2 := hid (X1.out.keep h2.keeps)
  have P2 := hid h1
  clear h1 h2 CK HL
  have HQ := hid (put1 pb r2 _ ⟨#[32, 123, 10]⟩ W2 P2.out (by decide))
  go_wp2_with fail
  with_reducible refine HQ.out.mono ?_
  rintro e W3 ⟨rfl, r3, h1, h2⟩
  have C3 := hid (C2.out.step h2)
  have S3 := hid (S2.out.trans h2)
  have X3 := hid (X2.out.keep h2.keeps)
  have P3 := hid h1
  clear h1 h2 HQ 
  have CK := hid (HB1.out W3 r3 _ P3.out C3.out)
  have l0 := box_get (box_unhush X3.out) Y12.out
  go_wp2_with fail
  with_reducible refine CK.out.mono ?_
  rintro e W4 ⟨rfl, r4, h1, h2⟩
  have C4 := hid (C3.out.step h2)
  have S4 := hid (S3.out.trans h2)
  have X4 := hid (X3.out.keep h2.keeps)
  have P4 := hid h1
  clear h1 h2 CK l0
  have HQ := hid (put2 pb r4 _ tabs ⟨#[125, 10]⟩ W4 P4.out ht (by decide))
  go_wp2_with fail
  with_reducible refine HQ.out.mono ?_
  rintro e W5 ⟨rfl, r5, h1, h2⟩
  have C5 := hid (C4.out.step h2)
  have S5 := hid (S4.out.trans h2)
  have X5 := hid (X4.out.keep h2.keeps)
  have P5 := hid h1
  clear h1 h2 HQ 
  have PE : Hid (Page W5 pb r5 (T ++ RT)) := hid (by
    have h3 : Page W5 pb r5 (T ++ [114, 101, 112, 101, 97, 116, 32] ++ t1 ++ [32, 123, 10] ++ b1 ++ (bs tabs ++ [125, 10])) := P5.out
    rw [HRT.out]
    simpa only [List.append_assoc] using h3)
  go_wp2_with fail
  go_end0
  exact ⟨rfl, r5, PE.out, S5.out⟩
end
end Go.Proofs.YtjkdcladjjpmoaaGreatDoor.PageC

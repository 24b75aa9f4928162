/- Texts joined: PageB, PageC, TreeRC, TreeTE. -/
import Derived.Test.YtjkdcladjjpmoaaGreatDoorJ09
import Derived.Test.YtjkdcladjjpmoaaGreatDoorJ04
import Derived.Test.YtjkdcladjjpmoaaGreatDoorJ07
import Derived.Deep.RegionWith
import Derived.Deep.RegionHeld3
import Derived.Deep.DeepCutAuto
/- Contracts of strings.Builder's methods at the builder in a page, and of (*tree.page).full. -/
namespace Go.Proofs.YtjkdcladjjpmoaaGreatDoor.PageC
open Go Go.RowKit Go.Lib Go.Sort Go.Proofs.YtjkdcladjjpmoaaGreatDoor.LexP Go.Proofs.YtjkdcladjjpmoaaGreatDoor.TreeP Go.Proofs.YtjkdcladjjpmoaaGreatDoor.LexC Go.Proofs.YtjkdcladjjpmoaaGreatDoor.TreeC

theorem own_form {w : World} {base : Nat} {e : TypeId} {size n : Nat} {v : Value} {xs : List Value} (h : w.ownsRow base e size v n xs) : ∃ a cap, v = .slice a n cap := by
  obtain ⟨_, ⟨rfl, rfl⟩ | ⟨g, cap, cur, rfl, _⟩⟩ := h
  · exact ⟨_, _, rfl⟩
  · exact ⟨_, _, rfl⟩

set_option maxHeartbeats 2000000 in
theorem len_any (pb : Nat) (r : Option Nat) (l : List UInt8) (w : World) (h : PageAt w pb r l) :
    Calls Tryz.prog 102 #[.pointer (some ⟨pb, 0, none⟩)] w fun e w' => e = .returned (.int .i64 (l.length : Int)) ∧ w = w' := by
  obtain ⟨p, v, hbk, _, hown, _, _, _⟩ := h
  obtain ⟨ao, cap, rfl⟩ := own_form hown
  have c1 : w.cell? ⟨pb, 1, none⟩ = some (.slice ao l.length cap) := by rw [Lib.cell_of_heap hbk]; rfl
  clear hbk hown
  go_enter Tryz.func102, Tryz.ntmps102
  go_wp2_with fail
  go_ret
  exact ⟨rfl, rfl⟩

set_option maxHeartbeats 2000000 in
theorem full_any (pb : Nat) (r : Option Nat) (l : List UInt8) (w : World) (h : PageAt w pb r l) :
    Calls Tryz.prog 44 #[.pointer (some ⟨pb, 0, none⟩)] w fun e w' => e = .returned (.bool (decide (20000 < l.length))) ∧ w = w' := by
  have HL := hid (len_any pb r l w h)
  obtain ⟨R, hR⟩ : ∃ R, decide (20000 < l.length) = R := ⟨_, rfl⟩
  rw [hR]
  have HR := hid hR
  clear h hR
  go_enter Tryz.func44, Tryz.ntmps44
  go_wp2_with fail
  with_reducible refine HL.out.mono ?_
  rintro e W ⟨rfl, rfl⟩
  go_wp2_with fail
  go_ret
  exact ⟨ret_bool (by rw [← HR.out]; simp; omega), rfl⟩

theorem pg_size : (Tryz.prog.info? 71).map (·.size) = some 2 := by kernel_rfl
theorem pg_lies : liesAt Tryz.prog Tryz.prog.depth 73 (2 / Tryz.prog.cellsOf 73) 0 71 1 = true := by kernel_rfl
set_option maxHeartbeats 2000000 in
set_option maxRecDepth 100000 in
theorem check_used (pb : Nat) (w : World) (h0 : w.cell? ⟨pb, 0, none⟩ = some (.pointer (some ⟨pb, 0, none⟩))) :
    Calls Tryz.prog 190 #[.pointer (some ⟨pb, 0, none⟩)] w fun e w' => e = .returned (.tuple #[]) ∧ w = w' := by
  obtain ⟨j, hj, _⟩ := Option.map_eq_some_iff.1 pg_size
  go_enter Tryz.func190, Tryz.ntmps190
  go_wp2_with fail
  rw [Lib.run_neq_ptr_same w _ Tryz.underlying68 hj]
  go_wp2_with fail
  go_end0
  exact ⟨rfl, rfl⟩
set_option maxHeartbeats 2000000 in
set_option maxRecDepth 100000 in
theorem check_fresh (pb : Nat) (w : World) (v : Value) (hbk : w.heap[pb]? = some (.cells #[.pointer none, v] 73 (0, 0))) :
    Calls Tryz.prog 190 #[.pointer (some ⟨pb, 0, none⟩)] w fun e w' => e = .returned (.tuple #[]) ∧ w' = w.setCell ⟨pb, 0, none⟩ (.pointer (some ⟨pb, 0, none⟩)) := by
  obtain ⟨j, hj, hjs⟩ := Option.map_eq_some_iff.1 pg_size
  have h0 : w.cell? ⟨pb, 0, none⟩ = some (.pointer none) := by rw [Lib.cell_of_heap hbk]; rfl
  have hsh : w.shape? pb = some (73, 2) := by simp [World.shape?, hbk]
  have hfz : w.frozen? ⟨pb, 0, none⟩ = false := Lib.frozen_of_heap hbk 0
  clear hbk
  go_enter Tryz.func190, Tryz.ntmps190
  go_wp2_with fail
  rw [Lib.run_to_unsafe w ⟨pb, 0, none⟩ Tryz.underlying68 Tryz.underlying152 hj (by rw [hjs]; decide) hsh (Nat.zero_lt_succ 1)]
  simp only [Result.andThen]
  rw [Oper.upon_value]
  go_wp2_with fail
  rw [run_callFunc_extern Tryz.func216 (by kernel_rfl) (by kernel_rfl) (by kernel_rfl) (e := Extern.AbiNoEscape.same) (by kernel_rfl)]
  rw [Lib.run_noEscape]
  simp only [Result.andThen]
  rw [Oper.upon_value]
  go_wp2_with fail
  rw [Lib.run_from_unsafe w ⟨pb, 0, none⟩ Tryz.underlying152 Tryz.underlying68 hj hsh pg_lies]
  simp only [Result.andThen]
  rw [Oper.upon_value]
  go_wp2_with fail
  go_end0
  exact ⟨rfl, rfl⟩
theorem put0_heap {w : World} {pb : Nat} {p q v : Value} {T : TypeId} (h : w.heap[pb]? = some (.cells #[p, v] T (0, 0))) : (w.setCell ⟨pb, 0, none⟩ q).heap[pb]? = some (.cells #[q, v] T (0, 0)) := by
  simp only [World.setCell, Array.getElem?_modify, if_true, h]
  rfl
theorem put1_heap {w : World} {pb : Nat} {p q v : Value} {T : TypeId} (h : w.heap[pb]? = some (.cells #[p, v] T (0, 0))) : (w.setCell ⟨pb, 1, none⟩ q).heap[pb]? = some (.cells #[p, q] T (0, 0)) := by
  simp only [World.setCell, Array.getElem?_modify, if_true, h]
  rfl
theorem Step.setPage {pb : Nat} {r r' : Option Nat} {a w : World} (h : Step pb r a r' w) (o : Nat) (v : Value) : Step pb r a r' (w.setCell ⟨pb, o, none⟩ v) :=
  h.trans ⟨rfl, rfl, rfl, by simp [World.setCell], fun k _ hn _ => Below.heap_setCell _ _ _ _ hn, .inl rfl⟩
theorem own_setPage {w : World} {pb : Nat} {e : TypeId} {size n : Nat} {v : Value} {xs : List Value} (h : w.ownsRow 0 e size v n xs) (hn : v.ownBlock ≠ some pb) (o : Nat) (u : Value) : (w.setCell ⟨pb, o, none⟩ u).ownsRow 0 e size v n xs := by
  refine ⟨h.1, ?_⟩
  rcases h.2 with hz | ⟨g, cap, cur, rfl, hg1, hg2, rest⟩
  · exact .inl hz
  · refine .inr ⟨g, cap, cur, rfl, hg1, ?_, rest⟩
    rw [Below.heap_setCell _ _ _ _ (fun e => hn (congrArg some e))]
    exact hg2
/-- behind copyCheck the page is as it was, and used -/
theorem check_any (pb : Nat) (r : Option Nat) (l : List UInt8) (w : World) (h : PageAt w pb r l) :
    Calls Tryz.prog 190 #[.pointer (some ⟨pb, 0, none⟩)] w fun e w' => e = .returned (.tuple #[]) ∧ PageAt w' pb r l ∧ Step pb r w r w' := by
  obtain ⟨p, v, hbk, hp, hown, hr, hn, hl⟩ := h
  rcases hp with rfl | rfl
  · refine (check_fresh pb w v hbk).mono ?_
    rintro e w' ⟨rfl, rfl⟩
    exact ⟨rfl, ⟨_, v, put0_heap hbk, .inr rfl, own_setPage hown (by rw [hr]; exact hn) _ _, hr, hn, hl⟩, (Step.refl pb r w).setPage 0 _⟩
  · refine (check_used pb w (by rw [Lib.cell_of_heap hbk]; rfl)).mono ?_
    rintro e w' ⟨rfl, rfl⟩
    exact ⟨rfl, ⟨_, v, hbk, .inr rfl, hown, hr, hn, hl⟩, Step.refl pb r w⟩

theorem u8_info : (Tryz.prog.info? 5).map (fun i => (i.zero, i.size, i.bytes)) = some (some (.int .u8 0), 1, 1) := by kernel_rfl
set_option maxHeartbeats 4000000 in
set_option maxRecDepth 100000 in
theorem write_any (pb : Nat) (r : Option Nat) (l : List UInt8) (s : ByteArray) (w : World) (h : PageAt w pb r l) (hs : l.length + s.size ≤ 2097152) :
    Calls Tryz.prog 146 #[.pointer (some ⟨pb, 0, none⟩), .string s] w fun e w' => e = .returned (.tuple #[.int .i64 (s.size : Int), .nilIface]) ∧ ∃ r', PageAt w' pb r' (l ++ s.data.toList) ∧ Step pb r w r' w' := by
  obtain ⟨i0, hinf, hi0⟩ := Option.map_eq_some_iff.1 u8_info
  have hz0 : i0.zero = some (.int .u8 0) := by rw [Prod.mk.injEq] at hi0; exact hi0.1
  have hz1 : i0.size = 1 := by rw [Prod.mk.injEq, Prod.mk.injEq] at hi0; exact hi0.2.1
  have hz2 : i0.bytes = 1 := by rw [Prod.mk.injEq, Prod.mk.injEq] at hi0; exact hi0.2.2
  clear hi0
  have HC := hid (check_any pb r l w h)
  clear h
  go_enter Tryz.func146, Tryz.ntmps146
  go_wp2_with fail
  with_reducible refine HC.out.mono ?_
  rintro e w1 ⟨rfl, ⟨p, v, hbk, hp, hown, hr, hn, hl⟩, hst⟩
  have c1 : w1.cell? ⟨pb, 1, none⟩ = some v := by rw [Lib.cell_of_heap hbk]; rfl
  have HP := hid hp
  have HN := hid hn
  have HR := hid hr
  have HST := hid hst
  have HBK := hid hbk
  have HO := hid hown
  clear hp hn hr hst HC hbk hown
  go_wp2_with (at_builtin; refine wpList_append_str_at _ rfl _ _ 69 9 rfl 0 5 i0 Tryz.underlying69 Tryz.underlying9 hinf hz0 hz1 hz2 _ _ _ rfl HO.out s rfl ?c3 ?c4 ?c5 ?_)
  case c3 => unfold maxLen; omega
  case c4 => omega
  case c5 => exact Nat.zero_le _
  intro v' w2 hown' hgrow hat
  have hlt : pb < w1.heap.size := (Array.getElem?_eq_some_iff.1 HBK.out).1
  have hb2 : w2.heap[pb]? = some (.cells #[p, v] 73 (0, 0)) := by
    rw [hgrow.block pb hlt (fun e => HN.out (by rw [← HR.out, ← e]))]
    exact HBK.out
  have f1 : w2.frozen? ⟨pb, 1, none⟩ = false := Lib.frozen_of_heap hb2 1
  have d1 : w2.cell? ⟨pb, 1, none⟩ = some v := by rw [Lib.cell_of_heap hb2]; rfl
  have hnp : v'.ownBlock ≠ some pb := by
    rcases hat with h | h
    · rw [h, HR.out]; exact HN.out
    · rw [h]; intro e; injection e with e; omega
  have hst2 : Step pb r w1 v'.ownBlock w2 := ⟨hgrow.os, hgrow.tape, hgrow.output, hgrow.size, fun k hk _ h2 => hgrow.block k hk (by rw [HR.out]; exact h2), by
    rcases hat with h | h
    · exact .inl (h.trans HR.out)
    · exact .inr ⟨_, h, Nat.le_refl _⟩⟩
  have S2 := hid (HST.out.trans hst2)
  have B2 := hid hb2
  have O2 := hid hown'
  have NP := hid hnp
  obtain ⟨ao, cap, rfl⟩ := own_form hown'
  clear hown' hgrow hat hst2 hb2 hnp hlt
  go_wp2_with fail
  go_ret2
  refine ⟨rfl, _, ⟨p, _, put1_heap B2.out, HP.out, ?_, rfl, NP.out, by rw [List.length_append, ← size_eq]; omega⟩, S2.out.setPage 1 _⟩
  rw [List.length_append, ← size_eq, show bytesV (l ++ s.data.toList) = bytesV l ++ strCells s from List.map_append]
  exact own_setPage O2.out NP.out 1 _
end Go.Proofs.YtjkdcladjjpmoaaGreatDoor.PageC
/- Contract of (*tree.page).put. -/
namespace Go.Proofs.YtjkdcladjjpmoaaGreatDoor.PageC
open Go Go.RowKit Go.Lib Go.Sort Go.Proofs.YtjkdcladjjpmoaaGreatDoor.LexP Go.Proofs.YtjkdcladjjpmoaaGreatDoor.TreeP Go.Proofs.YtjkdcladjjpmoaaGreatDoor.LexC Go.Proofs.YtjkdcladjjpmoaaGreatDoor.TreeC

theorem Cut.put {l t s : List UInt8} (h : Cut l t) (hl : l.length ≤ 20000) : Cut (l ++ s) (t ++ s) := by
  rcases h with rfl | ⟨h, _⟩
  · exact .inl rfl
  · omega
theorem Cut.full {l t s : List UInt8} (h : Cut l t) (hl : 20000 < l.length) : Cut l (t ++ s) := by
  refine .inr ⟨hl, ?_⟩
  rw [List.length_append]
  rcases h with rfl | ⟨_, h⟩ <;> omega
/-- all texts, one behind the other -/
def joined (l : List ByteArray) : List UInt8 := l.flatMap (fun s => s.data.toList)
theorem joined_cons (s : ByteArray) (l : List ByteArray) : joined (s :: l) = s.data.toList ++ joined l := by simp [joined]

set_option maxHeartbeats 4000000 in
set_option maxRecDepth 100000 in
theorem put_any (pb : Nat) (r : Option Nat) (T : List UInt8) (ss : List ByteArray) (w : World) (v : Value) (h : Page w pb r T) (hl : Lies (hush2 pb r w) 1 v (ss.map nmCells)) (hs : ∀ s ∈ ss, s.size ≤ 1048576) (hn : ss.length ≤ 1048576) :
    Calls Tryz.prog 90 #[.pointer (some ⟨pb, 0, none⟩), v] w fun e w' => e = .returned (.tuple #[]) ∧ ∃ r', Page w' pb r' (T ++ joined ss) ∧ Step pb r w r' w' := by
  obtain ⟨p, cap, rfl, hcap, _⟩ := id hl
  rw [List.length_map] at *
  generalize hL : ss.length = L at *
  have HL := hid hL
  have HX := hid hl
  have HS := hid hs
  have P0 : Hid (Page w pb r (T ++ joined (ss.take 0))) := hid (by rw [List.take_zero]; simpa [joined] using h)
  have S0 := hid (Step.refl pb r w)
  clear hL hl hs h hcap
  go_enter Tryz.func90, Tryz.ntmps90
  go_wp2_with fail
  go_loopg [8] L (fun gf v wx => ∃ (i : Nat) (r' : Option Nat), v = .int .i64 (i : Int) ∧ i ≤ L ∧ L ≤ i + gf ∧ Hid (Page wx pb r' (T ++ joined (ss.take i))) ∧ Hid (Step pb r w r' wx))
  case atStart => exact ⟨0, r, rfl, by omega, by omega, P0, S0⟩
  case round =>
    obtain ⟨i, r', rfl, hi, hg, HP, HST⟩ := hrel
    clear P0 S0
    by_cases hlt : i < L
    · obtain ⟨s, ht⟩ : ∃ s, ss[i]? = some s := ⟨ss[i]'(by rw [HL.out]; exact hlt), List.getElem?_eq_getElem _⟩
      obtain ⟨b, off, cap', e, _, hx⟩ := Lies.at ((HX.out.keep HST.out.keeps).keep (hush2_keeps pb r' wr)) (i := i) (by rw [List.length_map, HL.out]; exact hlt)
      injection e with e1 e2 e3
      subst e1
      clear e2 e3
      have hc : wr.cell? ⟨b, off + i, none⟩ = some (.string s) := by
        have := hx i [.string s] (by rw [List.getElem?_map, ht]; rfl) 0 (.string s) rfl
        rw [Nat.mul_one, Nat.add_zero] at this
        exact this
      have hj : joined (ss.take (i + 1)) = joined (ss.take i) ++ s.data.toList := by
        rw [List.take_add_one, ht]
        simp [joined]
      have hss := HS.out s (List.mem_of_getElem? ht)
      obtain ⟨l, hp, hcut⟩ := HP.out
      have HF := hid (full_any pb r' l wr hp)
      by_cases hfl : 20000 < l.length
      · have K : Hid (Page wr pb r' (T ++ joined (ss.take (i + 1)))) := hid ⟨l, hp, by rw [hj, ← List.append_assoc]; exact hcut.full hfl⟩
        rw [show decide (20000 < l.length) = true from decide_eq_true hfl] at HF
        clear hp hcut hx ht hj HP hfl
        go_wp2_with fail
        with_reducible refine HF.out.mono ?_
        rintro e W ⟨rfl, rfl⟩
        clear HF
        go_wp2_with fail
        go_roundg (gk - 1)
        case measure => omega
        case rel => exact ⟨i + 1, r', by go_num, by omega, by omega, K, HST⟩
      · have hw := write_any pb r' l s wr hp (by have : l.length ≤ 20000 := by omega
                                                 omega)
        have K : Hid (Cut (l ++ s.data.toList) (T ++ joined (ss.take (i + 1)))) := hid (by rw [hj, ← List.append_assoc]; exact hcut.put (by omega))
        rw [show decide (20000 < l.length) = false from decide_eq_false hfl] at HF
        have HW := hid hw
        clear hp hcut hx ht hj HP hfl hw hss
        go_wp2_with fail
        with_reducible refine HF.out.mono ?_
        rintro e W ⟨rfl, rfl⟩
        clear HF
        go_wp2_with fail
        with_reducible refine HW.out.mono ?_
        rintro e W2 ⟨rfl, r2, hp2, hst2⟩
        have HP2 : Hid (Page W2 pb r2 (T ++ joined (ss.take (i + 1)))) := hid ⟨_, hp2, K.out⟩
        have HS2 := hid (HST.out.trans hst2)
        clear hp2 hst2 HW K
        go_wp2_with fail
        go_roundg (gk - 1)
        case measure => omega
        case rel => exact ⟨i + 1, r2, by go_num, by omega, by omega, HP2, HS2⟩
    · obtain rfl : i = L := by omega
      have K : Hid (Page wr pb r' (T ++ joined ss)) := hid (by have := HP.out; rw [← HL.out, List.take_length] at this; exact this)
      go_wp2_with fail
      go_end0
      exact ⟨rfl, r', K.out, HST.out⟩
end Go.Proofs.YtjkdcladjjpmoaaGreatDoor.PageC
/- Contracts of lienbookref02's tests of statements: nothing at all, names, statements. -/
namespace Go.Proofs.YtjkdcladjjpmoaaGreatDoor.TreeC
open Go Go.RowKit Go.Lib Go.Proofs.YtjkdcladjjpmoaaGreatDoor.LexP Go.Proofs.YtjkdcladjjpmoaaGreatDoor.TreeP Go.Proofs.YtjkdcladjjpmoaaGreatDoor.LexC

theorem rightSs_drop {l : List St} {i : Nat} {t : St} (h : l[i]? = some t) : rightSs (l.drop i) = (rightS t && rightSs (l.drop (i + 1))) := by rw [drop_cons h, rightSs]
theorem all_drop {α : Type} (f : α → Bool) {l : List α} {i : Nat} {t : α} (h : l[i]? = some t) : (l.drop i).all f = (f t && (l.drop (i + 1)).all f) := by rw [drop_cons h, List.all_cons]

set_option maxHeartbeats 1000000 in
theorem rNone_any (e : Ex) (w : World) (p : Option Addr) (L cap : Nat) (hv : e.v = .slice p L cap) (hL : e.kids.length = L) (hr : -9223372036854775808 ≤ e.num ∧ e.num ≤ 9223372036854775807) :
    Calls Tryz.prog 189 #[e.val] w fun r w' => r = .returned (.bool e.none) ∧ Below w.heap.size w w' := by
  obtain ⟨k, num, name, mt, v', kids⟩ := e
  obtain rfl : v' = .slice p L cap := hv
  obtain ⟨R, hR⟩ : ∃ R, Ex.none (.mk k num name mt (.slice p L cap) kids) = R := ⟨_, rfl⟩
  rw [hR]
  unfold Ex.none Ex.kind Ex.num Ex.name Ex.mt Ex.kids at hR
  unfold Ex.kids at hL
  unfold Ex.num at hr
  dsimp only at hL hR hr
  rw [hL] at hR
  have HS := hid hR
  clear hL hR
  simp only [Ex.val_mk]
  go_enter Tryz.func189, Tryz.ntmps189
  go_wp2_with fail
  all_goals go_ret
  all_goals refine ⟨ret_bool ?_, (Below.refl _ _).alloc (Nat.le_refl _) _⟩
  all_goals rw [← HS.out]
  all_goals first | (simp [*, ← Lib.toList_data]; done) | (rw [Bool.eq_iff_iff]; simp [*, ← Lib.toList_data]; done) | (rw [Bool.eq_iff_iff]; simp [*, ← Lib.toList_data]; omega)

set_option maxHeartbeats 1000000 in
theorem rNames_any (w : World) (v : Value) (l : List ByteArray) (hl : Lies w 1 v (l.map nmCells)) (hw : wNs l ≤ 1048576) :
    Calls Tryz.prog 85 #[v] w fun r w' => r = .returned (.bool (namesB l)) ∧ Below w.heap.size w w' := by
  obtain ⟨R, hR⟩ : ∃ R, namesB l = R := ⟨_, rfl⟩
  rw [hR]
  unfold namesB at hR
  have hlen := wNs_len l
  have hl' := hl
  obtain ⟨p, cap, rfl, hcap, hx⟩ := hl
  rw [List.length_map] at *
  generalize hL : l.length = L at *
  have HS := hid hR
  have HL := hid hL
  have HX := hid hl'
  clear hx hL hl' hR
  go_enter Tryz.func85, Tryz.ntmps85
  go_wp2_with fail
  go_loopg [3] L (fun gf v wx => ∃ i : Nat, v = .int .i64 (i : Int) ∧ i ≤ L ∧ L ≤ i + gf ∧ Hid (l.all (fun s => nameB (bs s)) = (l.drop i).all (fun s => nameB (bs s))) ∧ Below w.heap.size w wx)
  case atStart => exact ⟨0, rfl, by omega, by omega, hid (by simp), Below.refl _ _⟩
  case round =>
    obtain ⟨i, rfl, hi, hg, HR, hb⟩ := hrel
    by_cases hlt : i < L
    · obtain ⟨t', ht⟩ : ∃ t', l[i]? = some t' := ⟨l[i]'(by rw [HL.out]; exact hlt), List.getElem?_eq_getElem _⟩
      obtain ⟨b, off, cap', e, _, hx⟩ := Lies.at (HX.out.keep (Keeps.of_below hb)) (i := i) (by rw [List.length_map, HL.out]; exact hlt)
      injection e with e1 e2 e3
      subst e1
      clear e2 e3
      have hw' := wNs_get l i t' ht
      have hx' := hx i (nmCells t') (by rw [List.getElem?_map, ht]; rfl)
      have hr := all_drop (fun s => nameB (bs s)) ht
      have cI := fun W => rName_any t' W (by omega)
      have x0 : wr.cell? ⟨b, off + i, none⟩ = some (.string t') := by simpa using hx' 0 _ rfl
      have x0' : wr.cell? ⟨b, off + i * 1, none⟩ = some (.string t') := by simpa using hx' 0 _ rfl
      clear hx hx' ht
      cases hrt : nameB (bs t')
      · rw [hrt] at cI hr
        have K : Hid (l.all (fun s => nameB (bs s)) = false) := hid (by rw [HR.out, hr]; rfl)
        have CI := hid cI
        clear cI hr hrt
        go_wp2_with fail
        refine (CI.out _).mono ?_
        rintro e W2 ⟨rfl, hb2⟩
        go_wp2_with fail
        go_ret
        exact ⟨ret_bool (by rw [← HS.out, K.out]; rfl), hb.trans (hb2.mono hb.size)⟩
      · rw [hrt] at cI hr
        have K : Hid (l.all (fun s => nameB (bs s)) = (l.drop (i + 1)).all (fun s => nameB (bs s))) := hid (by rw [HR.out, hr]; rfl)
        have CI := hid cI
        clear cI hr hrt
        go_wp2_with fail
        refine (CI.out _).mono ?_
        rintro e W2 ⟨rfl, hb2⟩
        go_wp2_with fail
        go_roundg (gk - 1)
        case measure => omega
        case rel => exact ⟨i + 1, by go_num, by omega, by omega, K, hb.trans (hb2.mono hb.size)⟩
    · obtain rfl : i = L := by omega
      have K : Hid (l.all (fun s => nameB (bs s)) = true) := hid (by rw [HR.out, ← HL.out, List.drop_length]; rfl)
      clear HR
      go_wp2_with fail
      go_ret
      exact ⟨ret_bool (by rw [← HS.out, K.out, Bool.eq_iff_iff]; simp; omega), hb⟩

/-- the contract of a test of one statement -/
def TestS (s : St) (W : World) : Prop := Calls Tryz.prog 143 #[s.val] W fun r w' => r = .returned (.bool (rightS s)) ∧ Below W.heap.size W w'
set_option maxHeartbeats 2000000 in
set_option maxRecDepth 100000 in
theorem rStmts_of (w : World) (v : Value) (l : List St) (hl : Lies w 14 v (l.map St.cells)) (hlen : l.length ≤ 1048576) (H : ∀ s ∈ l, ∀ W, Keeps w W → TestS s W) :
    Calls Tryz.prog 86 #[v] w fun r w' => r = .returned (.bool (rightL l)) ∧ Below w.heap.size w w' := by
  obtain ⟨R, hR⟩ : ∃ R, rightL l = R := ⟨_, rfl⟩
  rw [hR]
  unfold rightL at hR
  have hl' := hl
  obtain ⟨p, cap, rfl, hcap, hx⟩ := hl
  rw [List.length_map] at *
  generalize hL : l.length = L at *
  have HS := hid hR
  have HL := hid hL
  have HX := hid hl'
  have HH := hid H
  clear hx hL hl' hR H
  go_enter Tryz.func86, Tryz.ntmps86
  go_wp2_with fail
  go_loopg [3] L (fun gf v wx => ∃ i : Nat, v = .int .i64 (i : Int) ∧ i ≤ L ∧ L ≤ i + gf ∧ Hid (rightSs l = rightSs (l.drop i)) ∧ Below w.heap.size w wx)
  case atStart => exact ⟨0, rfl, by omega, by omega, hid (by simp), Below.refl _ _⟩
  case round =>
    obtain ⟨i, rfl, hi, hg, HR, hb⟩ := hrel
    by_cases hlt : i < L
    · obtain ⟨t', ht⟩ : ∃ t', l[i]? = some t' := ⟨l[i]'(by rw [HL.out]; exact hlt), List.getElem?_eq_getElem _⟩
      obtain ⟨b, off, cap', e, _, hx⟩ := Lies.at (HX.out.keep (Keeps.of_below hb)) (i := i) (by rw [List.length_map, HL.out]; exact hlt)
      injection e with e1 e2 e3
      subst e1
      clear e2 e3
      have hx' := hx i t'.cells (by rw [List.getElem?_map, ht]; rfl)
      have hr := rightSs_drop ht
      have cI := HH.out t' (List.mem_of_getElem? ht) wr (Keeps.of_below hb)
      unfold TestS at cI
      have hc : ∀ (j : Nat) (u : Value), t'.cells[j]? = some u → wr.cell? ⟨b, off + i * 14 + j, none⟩ = some u := hx'
      have HC := hid hc
      unfold St.val at cI
      clear hx hx' ht hc
      generalize hss : rightS t' = rs at *
      clear hss
      have HZ := hid (stSize t')
      cases rs
      · have K : Hid (rightSs l = false) := hid (by rw [HR.out, hr]; rfl)
        have CI := hid cI
        clear cI hr
        go_wp2_with (with_reducible refine wpList_load_at (o := ⟨some 13, _, _, _, _, _⟩) rfl _ _ rfl _ _ rfl t'.cells _ HC.out Tryz.underlying111 rfl HZ.out ?_)
        refine CI.out.mono ?_
        rintro e W2 ⟨rfl, hb2⟩
        go_wp2_with fail
        go_ret
        exact ⟨ret_bool (by rw [← HS.out, K.out]; rfl), hb.trans (hb2.mono hb.size)⟩
      · have K : Hid (rightSs l = rightSs (l.drop (i + 1))) := hid (by rw [HR.out, hr]; rfl)
        have CI := hid cI
        clear cI hr
        go_wp2_with (with_reducible refine wpList_load_at (o := ⟨some 13, _, _, _, _, _⟩) rfl _ _ rfl _ _ rfl t'.cells _ HC.out Tryz.underlying111 rfl HZ.out ?_)
        refine CI.out.mono ?_
        rintro e W2 ⟨rfl, hb2⟩
        go_wp2_with fail
        go_roundg (gk - 1)
        case measure => omega
        case rel => exact ⟨i + 1, by go_num, by omega, by omega, K, hb.trans (hb2.mono hb.size)⟩
    · obtain rfl : i = L := by omega
      have K : Hid (rightSs l = true) := hid (by rw [HR.out, ← HL.out, List.drop_length]; rfl)
      clear HR
      go_wp2_with fail
      go_ret
      exact ⟨ret_bool (by rw [← HS.out, K.out, Bool.eq_iff_iff]; simp; omega), hb⟩
end Go.Proofs.YtjkdcladjjpmoaaGreatDoor.TreeC
/- Contract of tree.rightType. -/
namespace Go.Proofs.YtjkdcladjjpmoaaGreatDoor.TreeC
open Go Go.RowKit Go.Lib Go.Sort Go.Proofs.YtjkdcladjjpmoaaGreatDoor.LexP Go.Proofs.YtjkdcladjjpmoaaGreatDoor.TreeP Go.Proofs.YtjkdcladjjpmoaaGreatDoor.LexC

theorem enT : Enters 79 := enters_of Tryz.func79 (by kernel_rfl) rfl
set_option maxHeartbeats 16000000 in
set_option maxRecDepth 100000 in
theorem rightT_any : ∀ (n : Nat) (t : Ty) (w : World), wT t ≤ n → n ≤ 1048576 → t.In w → Tabs w → Calls Tryz.prog 79 #[t.val] w fun r w' => r = .returned (.bool (rightT t)) ∧ Below w.heap.size w w' := by
  intro n
  induction n with
  | zero => intro t w h; obtain ⟨k, life, mt, v, kids⟩ := t; rw [wT] at h; omega
  | succ n ih =>
    intro t w hw hn hin T
    obtain ⟨k, life, mt, v, kids⟩ := t
    rw [wT] at hw
    rw [Ty.In] at hin
    obtain ⟨hl, hk⟩ := hin
    have hlen := wTs_len kids
    obtain ⟨R, hR⟩ : ∃ R, rightT (.mk k life mt v kids) = R := ⟨_, rfl⟩
    rw [hR]
    rw [rightT] at hR
    have y0 : (Ty.mk k life mt v kids).cells[0]? = some (.int .i64 k) := rfl
    have y1 : (Ty.mk k life mt v kids).cells[1]? = some (.string life) := rfl
    have y2 : (Ty.mk k life mt v kids).cells[2]? = some (.bool mt) := rfl
    have y3 : (Ty.mk k life mt v kids).cells[3]? = some v := rfl
    rw [Ty.val]
    generalize (Ty.mk k life mt v kids).cells = cs at *
    have CE : Hid (∀ W, Below w.heap.size w W → Calls Tryz.prog 136 #[v, .func (.func 79) #[] #[]] W fun r w' => r = .returned (.bool (kids.all rightT && decide (kids.length ≤ 30))) ∧ Below W.heap.size W w') :=
      hid fun W hb => every_tySize 79 rightT enT W v kids (hl.keep (Keeps.of_below hb)) (by omega)
        (fun x hx => by
          have hi := (Ty.ins_iff w kids).1 hk x hx
          obtain ⟨k', l', m', v', ks'⟩ := x
          rw [Ty.In] at hi
          obtain ⟨p, c, rfl, _⟩ := hi.1
          exact (show Ones [.int .i64 k', .string l', .bool m', .slice p (List.map Ty.cells ks').length c] from by unfold Ones; simp [Value.oneCell']))
        (fun x hx W' hb' => by
          obtain ⟨i, hi, e⟩ := List.mem_iff_getElem.1 hx
          have := wTs_get kids i x (by rw [List.getElem?_eq_getElem hi, e])
          have hbb := hb.trans (hb'.mono hb.size)
          exact ih x W' (by omega) (by omega) (Ty.In.keep (Keeps.of_below hbb) x ((Ty.ins_iff w kids).1 hk x hx)) (T.below hbb))
    have CN : Hid (∀ W, Below w.heap.size w W → Calls Tryz.prog 75 #[.string life] W fun r w' => r = .returned (.bool (nameB (bs life))) ∧ Below W.heap.size W w') := hid fun W hb => isName_any life W (by omega) (T.below hb)
    obtain ⟨p, cap, rfl, hcap, _⟩ := id hl
    rw [List.length_map] at *
    rw [rightTs_all] at hR
    generalize kids.length = L at *
    have HS := hid hR
    have HY := hid (And.intro y0 (And.intro y1 (And.intro y2 y3)))
    clear hk hl hR y0 y1 y2 y3 ih T hw
    have X0 := hid (BoxAt.new w cs 45)
    have B0 : Hid (Below w.heap.size w (w.alloc (.cells cs.toArray 45 (0, 0)))) := hid ((Below.refl _ _).alloc (Nat.le_refl _) _)
    have hz : Hid ((Tryz.prog.info? 201).map (·.size) = some tabT.toArray.size) := hid (show (Tryz.prog.info? 201).map (·.size) = some 20 by kernel_rfl)
    have ho : Hid (tabT.toArray.all (·.oneCell') = true) := hid (by kernel_rfl)
    have en0 : ∀ (args : Array Value) (w : World), (callFunc 179 args).run Tryz.prog w = .ok (.enter 179 args) w := enters_of Tryz.func179 (by kernel_rfl) rfl
    have en1 : ∀ (args : Array Value) (w : World), (callFunc 180 args).run Tryz.prog w = .ok (.enter 180 args) w := enters_of Tryz.func180 (by kernel_rfl) rfl
    have en2 : ∀ (args : Array Value) (w : World), (callFunc 75 args).run Tryz.prog w = .ok (.enter 75 args) w := enters_of Tryz.func75 (by kernel_rfl) rfl
    have en3 : ∀ (args : Array Value) (w : World), (callFunc 181 args).run Tryz.prog w = .ok (.enter 181 args) w := enters_of Tryz.func181 (by kernel_rfl) rfl
    go_enter Tryz.func79, Tryz.ntmps79
    go_wp2_with fail
    refine (typeKinds_any _).mono ?_
    rintro e W1 ⟨rfl, hb1⟩
    generalize w.alloc _ = W0 at *
    have X1 := hid (X0.out.later hb1)
    have B1 := hid (B0.out.trans (hb1.mono B0.out.size))
    clear hb1
    go_wp2_with (with_reducible refine wpList_store_row (o := ⟨none, _, _, _, _, _⟩) rfl _ _ _ rfl W1.heap.size tabT.toArray rfl ?r1 _ _ (heap_alloc_new _ _) hz.out ?r2 ho.out ?_)
    case r1 => rfl
    case r2 => rfl
    generalize hW2 : (World.alloc W1 _).setRow _ _ = W2
    have hb2 : Below W1.heap.size W1 W2 := by rw [← hW2]; exact rowed_below' _ _ _
    have hX2 : BoxAt W2 W1.heap.size tabT := by rw [← hW2]; exact rowed_box' _ _ _ _
    have X2 := hid (X1.out.later hb2)
    have B2 := hid (B1.out.trans (hb2.mono B1.out.size))
    have XT := hid hX2
    clear hW2 hb2 hX2
    have d0 := box_get X2.out HY.out.1
    have hlt0 : w.heap.size < W2.heap.size := World.block_lt_of_cell? _ _ d0
    have hlt1 : w.heap.size ≠ W2.heap.size := by omega
    simp only [Act.put]
    by_cases hk5 : 1 ≤ k ∧ k < 5
    · obtain ⟨m, rfl⟩ : ∃ m : Nat, k = (m : Int) := ⟨k.toNat, by omega⟩
      have CA : Hid (∀ W, Below W2.heap.size W2 W → Calls Tryz.prog 135 #[.slice (some ⟨W1.heap.size, 0, none⟩) 5 5, .int .i64 (m : Int)] W fun r w' => r = .returned (.tuple #[.agg (entT m).toArray, .bool true]) ∧ Below W.heap.size W w') :=
        hid fun W hb => atT_yes W W1.heap.size m (XT.out.later hb) (by omega) (by omega)
      generalize kids.all rightT = q at *
      rcases (show m = 1 ∨ m = 2 ∨ m = 3 ∨ m = 4 by omega) with rfl | rfl | rfl | rfl
      · have cA := CA.out
        simp only [entT] at cA
        have CA' := hid cA
        clear cA CA XT
        go_cut [4, 5] (fun u v wx => ∃ m : Nat, u = .pointer (some ⟨m, 0, none⟩) ∧ v = .bool true ∧ Hid (BoxAt wx m (entT 1) ∧ Below W2.heap.size W2 wx))
        case first =>
          clear CN CE
          go_region_with (go_at_call 135; refine (CA'.out _ ?_).mono ?_; rotate_left; rintro e W3 ⟨rfl, hb3⟩; obtain ⟨hc3, hf3⟩ := bcell hb3; rotate_left; (first | exact (Below.refl _ _).drew | exact ((Below.refl _ _).drew).alloc (Nat.le_refl _) _ | exact ((Below.refl _ _).alloc (Nat.le_refl _) _).drew))
          all_goals go_wp2_with fail
          all_goals simp only [Act.put, List.getElem_toArray, List.getElem_cons_succ, List.getElem_cons_zero, List.setIfInBounds_toArray, List.set_cons_zero, List.set_cons_succ]
          all_goals go_meet
          · have e := laid_behind (W2 := W2) (entT 1) 200 ⟨hb3.os, hb3.tape, hb3.output, hb3.size, hb3.block⟩
            exact ⟨_, rfl, rfl, hid e⟩
          · have e := laid_ahead (W2 := W2) (entT 0) (entT 1) 200 rfl ⟨hb3.os, hb3.tape, hb3.output, hb3.size, hb3.block⟩
            exact ⟨_, rfl, rfl, hid e⟩
          · have e := laid_ahead (W2 := W2) (entT 0) (entT 1) 200 rfl ⟨hb3.os, hb3.tape, hb3.output, hb3.size, hb3.block⟩
            exact ⟨_, rfl, rfl, hid e⟩
        case rest =>
          obtain ⟨m, rfl, rfl, hB⟩ := hcut
          have XE := hid hB.out.1
          have B3 := hid (B2.out.trans (hB.out.2.mono B2.out.size))
          have X3 := hid (X2.out.later hB.out.2)
          clear hB d0 hlt0 hlt1
          have d1 := box_get X3.out HY.out.2.1
          have d2 := box_get X3.out HY.out.2.2.1
          have d3 := box_get X3.out HY.out.2.2.2
          have a0 := box_get XE.out (j := 0) rfl
          have a1 := box_get XE.out (j := 1) rfl
          have a2 := box_get XE.out (j := 2) rfl
          have a3 := box_get XE.out (j := 3) rfl
          have CL := hid (fun W => noneS_any life W)
          cases hq1 : (bs life).isEmpty
          · rw [hq1] at CL
            go_wp2_with fail
            with_reducible refine (CL.out _).mono ?_
            rintro e W4 ⟨rfl, rfl⟩
            go_wp2_with fail
            go_ret
            exact ⟨ret_bool (by rw [← HS.out]; first | (simp [*]; done) | (simp [*]; omega) | (rw [Bool.eq_iff_iff]; simp [*]; done) | (rw [Bool.eq_iff_iff]; simp [*]; omega)), B3.out⟩
          rw [hq1] at CL
          go_wp2_with fail
          with_reducible refine (CL.out _).mono ?_
          rintro e W4 ⟨rfl, rfl⟩
          have CM := hid (fun W => noneB_any mt W)
          cases mt
          rotate_left
          · go_wp2_with fail
            with_reducible refine (CM.out _).mono ?_
            rintro e W5 ⟨rfl, rfl⟩
            go_wp2_with fail
            go_ret
            exact ⟨ret_bool (by rw [← HS.out]; first | (simp [*]; done) | (simp [*]; omega) | (rw [Bool.eq_iff_iff]; simp [*]; done) | (rw [Bool.eq_iff_iff]; simp [*]; omega)), B3.out⟩
          go_wp2_with fail
          with_reducible refine (CM.out _).mono ?_
          rintro e W5 ⟨rfl, rfl⟩
          by_cases hhi : 0 < L
          · go_wp2_with fail
            go_ret
            exact ⟨ret_bool (by rw [← HS.out]; first | (simp [*]; done) | (simp [*]; omega) | (rw [Bool.eq_iff_iff]; simp [*]; done) | (rw [Bool.eq_iff_iff]; simp [*]; omega)), B3.out⟩
          obtain rfl : L = 0 := by omega
          clear hhi
          go_wp2_with fail
          with_reducible refine (CE.out _ B3.out).mono ?_
          rintro e W6 ⟨rfl, hb6⟩
          go_wp2_with fail
          go_ret
          exact ⟨ret_bool (by rw [← HS.out]; first | (simp [*]; done) | (simp [*]; omega) | (rw [Bool.eq_iff_iff]; simp [*]; done) | (rw [Bool.eq_iff_iff]; simp [*]; omega)), B3.out.trans (hb6.mono B3.out.size)⟩
      · have cA := CA.out
        simp only [entT] at cA
        have CA' := hid cA
        clear cA CA XT
        go_cut [4, 5] (fun u v wx => ∃ m : Nat, u = .pointer (some ⟨m, 0, none⟩) ∧ v = .bool true ∧ Hid (BoxAt wx m (entT 2) ∧ Below W2.heap.size W2 wx))
        case first =>
          clear CN CE
          go_region_with (go_at_call 135; refine (CA'.out _ ?_).mono ?_; rotate_left; rintro e W3 ⟨rfl, hb3⟩; obtain ⟨hc3, hf3⟩ := bcell hb3; rotate_left; (first | exact (Below.refl _ _).drew | exact ((Below.refl _ _).drew).alloc (Nat.le_refl _) _ | exact ((Below.refl _ _).alloc (Nat.le_refl _) _).drew))
          all_goals go_wp2_with fail
          all_goals simp only [Act.put, List.getElem_toArray, List.getElem_cons_succ, List.getElem_cons_zero, List.setIfInBounds_toArray, List.set_cons_zero, List.set_cons_succ]
          all_goals go_meet
          · have e := laid_behind (W2 := W2) (entT 2) 200 ⟨hb3.os, hb3.tape, hb3.output, hb3.size, hb3.block⟩
            exact ⟨_, rfl, rfl, hid e⟩
          · have e := laid_ahead (W2 := W2) (entT 0) (entT 2) 200 rfl ⟨hb3.os, hb3.tape, hb3.output, hb3.size, hb3.block⟩
            exact ⟨_, rfl, rfl, hid e⟩
          · have e := laid_ahead (W2 := W2) (entT 0) (entT 2) 200 rfl ⟨hb3.os, hb3.tape, hb3.output, hb3.size, hb3.block⟩
            exact ⟨_, rfl, rfl, hid e⟩
        case rest =>
          obtain ⟨m, rfl, rfl, hB⟩ := hcut
          have XE := hid hB.out.1
          have B3 := hid (B2.out.trans (hB.out.2.mono B2.out.size))
          have X3 := hid (X2.out.later hB.out.2)
          clear hB d0 hlt0 hlt1
          have d1 := box_get X3.out HY.out.2.1
          have d2 := box_get X3.out HY.out.2.2.1
          have d3 := box_get X3.out HY.out.2.2.2
          have a0 := box_get XE.out (j := 0) rfl
          have a1 := box_get XE.out (j := 1) rfl
          have a2 := box_get XE.out (j := 2) rfl
          have a3 := box_get XE.out (j := 3) rfl
          have CL := hid (fun W => noneS_any life W)
          cases hq1 : (bs life).isEmpty
          · rw [hq1] at CL
            go_wp2_with fail
            with_reducible refine (CL.out _).mono ?_
            rintro e W4 ⟨rfl, rfl⟩
            go_wp2_with fail
            go_ret
            exact ⟨ret_bool (by rw [← HS.out]; first | (simp [*]; done) | (simp [*]; omega) | (rw [Bool.eq_iff_iff]; simp [*]; done) | (rw [Bool.eq_iff_iff]; simp [*]; omega)), B3.out⟩
          rw [hq1] at CL
          go_wp2_with fail
          with_reducible refine (CL.out _).mono ?_
          rintro e W4 ⟨rfl, rfl⟩
          have CM := hid (fun W => noneB_any mt W)
          cases mt
          rotate_left
          · go_wp2_with fail
            with_reducible refine (CM.out _).mono ?_
            rintro e W5 ⟨rfl, rfl⟩
            go_wp2_with fail
            go_ret
            exact ⟨ret_bool (by rw [← HS.out]; first | (simp [*]; done) | (simp [*]; omega) | (rw [Bool.eq_iff_iff]; simp [*]; done) | (rw [Bool.eq_iff_iff]; simp [*]; omega)), B3.out⟩
          go_wp2_with fail
          with_reducible refine (CM.out _).mono ?_
          rintro e W5 ⟨rfl, rfl⟩
          by_cases hlo : L < 1
          · go_wp2_with fail
            go_ret
            exact ⟨ret_bool (by rw [← HS.out]; first | (simp [*]; done) | (simp [*]; omega) | (rw [Bool.eq_iff_iff]; simp [*]; done) | (rw [Bool.eq_iff_iff]; simp [*]; omega)), B3.out⟩
          have hlo' : 1 ≤ L := by omega
          by_cases hhi : 1 < L
          · go_wp2_with fail
            go_ret
            exact ⟨ret_bool (by rw [← HS.out]; first | (simp [*]; done) | (simp [*]; omega) | (rw [Bool.eq_iff_iff]; simp [*]; done) | (rw [Bool.eq_iff_iff]; simp [*]; omega)), B3.out⟩
          obtain rfl : L = 1 := by omega
          clear hhi hlo hlo'
          go_wp2_with fail
          with_reducible refine (CE.out _ B3.out).mono ?_
          rintro e W6 ⟨rfl, hb6⟩
          go_wp2_with fail
          go_ret
          exact ⟨ret_bool (by rw [← HS.out]; first | (simp [*]; done) | (simp [*]; omega) | (rw [Bool.eq_iff_iff]; simp [*]; done) | (rw [Bool.eq_iff_iff]; simp [*]; omega)), B3.out.trans (hb6.mono B3.out.size)⟩
      · have cA := CA.out
        simp only [entT] at cA
        have CA' := hid cA
        clear cA CA XT
        go_cut [4, 5] (fun u v wx => ∃ m : Nat, u = .pointer (some ⟨m, 0, none⟩) ∧ v = .bool true ∧ Hid (BoxAt wx m (entT 3) ∧ Below W2.heap.size W2 wx))
        case first =>
          clear CN CE
          go_region_with (go_at_call 135; refine (CA'.out _ ?_).mono ?_; rotate_left; rintro e W3 ⟨rfl, hb3⟩; obtain ⟨hc3, hf3⟩ := bcell hb3; rotate_left; (first | exact (Below.refl _ _).drew | exact ((Below.refl _ _).drew).alloc (Nat.le_refl _) _ | exact ((Below.refl _ _).alloc (Nat.le_refl _) _).drew))
          all_goals go_wp2_with fail
          all_goals simp only [Act.put, List.getElem_toArray, List.getElem_cons_succ, List.getElem_cons_zero, List.setIfInBounds_toArray, List.set_cons_zero, List.set_cons_succ]
          all_goals go_meet
          · have e := laid_behind (W2 := W2) (entT 3) 200 ⟨hb3.os, hb3.tape, hb3.output, hb3.size, hb3.block⟩
            exact ⟨_, rfl, rfl, hid e⟩
          · have e := laid_ahead (W2 := W2) (entT 0) (entT 3) 200 rfl ⟨hb3.os, hb3.tape, hb3.output, hb3.size, hb3.block⟩
            exact ⟨_, rfl, rfl, hid e⟩
          · have e := laid_ahead (W2 := W2) (entT 0) (entT 3) 200 rfl ⟨hb3.os, hb3.tape, hb3.output, hb3.size, hb3.block⟩
            exact ⟨_, rfl, rfl, hid e⟩
        case rest =>
          obtain ⟨m, rfl, rfl, hB⟩ := hcut
          have XE := hid hB.out.1
          have B3 := hid (B2.out.trans (hB.out.2.mono B2.out.size))
          have X3 := hid (X2.out.later hB.out.2)
          clear hB d0 hlt0 hlt1
          have d1 := box_get X3.out HY.out.2.1
          have d2 := box_get X3.out HY.out.2.2.1
          have d3 := box_get X3.out HY.out.2.2.2
          have a0 := box_get XE.out (j := 0) rfl
          have a1 := box_get XE.out (j := 1) rfl
          have a2 := box_get XE.out (j := 2) rfl
          have a3 := box_get XE.out (j := 3) rfl
          have CL := hid (fun W => noneS_any life W)
          cases hq1 : (bs life).isEmpty
          · rw [hq1] at CL
            go_wp2_with fail
            with_reducible refine (CL.out _).mono ?_
            rintro e W4 ⟨rfl, rfl⟩
            go_wp2_with fail
            go_ret
            exact ⟨ret_bool (by rw [← HS.out]; first | (simp [*]; done) | (simp [*]; omega) | (rw [Bool.eq_iff_iff]; simp [*]; done) | (rw [Bool.eq_iff_iff]; simp [*]; omega)), B3.out⟩
          rw [hq1] at CL
          go_wp2_with fail
          with_reducible refine (CL.out _).mono ?_
          rintro e W4 ⟨rfl, rfl⟩
          have CM := hid (fun W => noneB_any mt W)
          cases mt
          rotate_left
          · go_wp2_with fail
            with_reducible refine (CM.out _).mono ?_
            rintro e W5 ⟨rfl, rfl⟩
            go_wp2_with fail
            go_ret
            exact ⟨ret_bool (by rw [← HS.out]; first | (simp [*]; done) | (simp [*]; omega) | (rw [Bool.eq_iff_iff]; simp [*]; done) | (rw [Bool.eq_iff_iff]; simp [*]; omega)), B3.out⟩
          go_wp2_with fail
          with_reducible refine (CM.out _).mono ?_
          rintro e W5 ⟨rfl, rfl⟩
          by_cases hlo : L < 2
          · go_wp2_with fail
            go_ret
            exact ⟨ret_bool (by rw [← HS.out]; first | (simp [*]; done) | (simp [*]; omega) | (rw [Bool.eq_iff_iff]; simp [*]; done) | (rw [Bool.eq_iff_iff]; simp [*]; omega)), B3.out⟩
          have hlo' : 2 ≤ L := by omega
          by_cases hhi : 30 < L
          · go_wp2_with fail
            go_ret
            exact ⟨ret_bool (by rw [← HS.out]; first | (simp [*]; done) | (simp [*]; omega) | (rw [Bool.eq_iff_iff]; simp [*]; done) | (rw [Bool.eq_iff_iff]; simp [*]; omega)), B3.out⟩
          have hhi' : L ≤ 30 := by omega
          go_wp2_with fail
          with_reducible refine (CE.out _ B3.out).mono ?_
          rintro e W6 ⟨rfl, hb6⟩
          go_wp2_with fail
          go_ret
          exact ⟨ret_bool (by rw [← HS.out]; first | (simp [*]; done) | (simp [*]; omega) | (rw [Bool.eq_iff_iff]; simp [*]; done) | (rw [Bool.eq_iff_iff]; simp [*]; omega)), B3.out.trans (hb6.mono B3.out.size)⟩
      · have cA := CA.out
        simp only [entT] at cA
        have CA' := hid cA
        clear cA CA XT
        go_cut [4, 5] (fun u v wx => ∃ m : Nat, u = .pointer (some ⟨m, 0, none⟩) ∧ v = .bool true ∧ Hid (BoxAt wx m (entT 4) ∧ Below W2.heap.size W2 wx))
        case first =>
          clear CN CE
          go_region_with (go_at_call 135; refine (CA'.out _ ?_).mono ?_; rotate_left; rintro e W3 ⟨rfl, hb3⟩; obtain ⟨hc3, hf3⟩ := bcell hb3; rotate_left; (first | exact (Below.refl _ _).drew | exact ((Below.refl _ _).drew).alloc (Nat.le_refl _) _ | exact ((Below.refl _ _).alloc (Nat.le_refl _) _).drew))
          all_goals go_wp2_with fail
          all_goals simp only [Act.put, List.getElem_toArray, List.getElem_cons_succ, List.getElem_cons_zero, List.setIfInBounds_toArray, List.set_cons_zero, List.set_cons_succ]
          all_goals go_meet
          · have e := laid_behind (W2 := W2) (entT 4) 200 ⟨hb3.os, hb3.tape, hb3.output, hb3.size, hb3.block⟩
            exact ⟨_, rfl, rfl, hid e⟩
          · have e := laid_ahead (W2 := W2) (entT 0) (entT 4) 200 rfl ⟨hb3.os, hb3.tape, hb3.output, hb3.size, hb3.block⟩
            exact ⟨_, rfl, rfl, hid e⟩
          · have e := laid_ahead (W2 := W2) (entT 0) (entT 4) 200 rfl ⟨hb3.os, hb3.tape, hb3.output, hb3.size, hb3.block⟩
            exact ⟨_, rfl, rfl, hid e⟩
        case rest =>
          obtain ⟨m, rfl, rfl, hB⟩ := hcut
          have XE := hid hB.out.1
          have B3 := hid (B2.out.trans (hB.out.2.mono B2.out.size))
          have X3 := hid (X2.out.later hB.out.2)
          clear hB d0 hlt0 hlt1
          have d1 := box_get X3.out HY.out.2.1
          have d2 := box_get X3.out HY.out.2.2.1
          have d3 := box_get X3.out HY.out.2.2.2
          have a0 := box_get XE.out (j := 0) rfl
          have a1 := box_get XE.out (j := 1) rfl
          have a2 := box_get XE.out (j := 2) rfl
          have a3 := box_get XE.out (j := 3) rfl
          cases hq1 : nameB (bs life)
          · rw [hq1] at CN
            go_wp2_with fail
            with_reducible refine (CN.out _ B3.out).mono ?_
            rintro e W4 ⟨rfl, hb4⟩
            go_wp2_with fail
            go_ret
            exact ⟨ret_bool (by rw [← HS.out]; first | (simp [*]; done) | (simp [*]; omega) | (rw [Bool.eq_iff_iff]; simp [*]; done) | (rw [Bool.eq_iff_iff]; simp [*]; omega)), B3.out.trans (hb4.mono B3.out.size)⟩
          rw [hq1] at CN
          go_wp2_with fail
          with_reducible refine (CN.out _ B3.out).mono ?_
          rintro e W4 ⟨rfl, hb4⟩
          have B4 := hid (B3.out.trans (hb4.mono B3.out.size))
          have X4 := hid (X3.out.later hb4)
          have XE4 := hid (XE.out.later hb4)
          clear d1 d2 d3 a0 a1 a2 a3 hb4
          have d1 := box_get X4.out HY.out.2.1
          have d2 := box_get X4.out HY.out.2.2.1
          have d3 := box_get X4.out HY.out.2.2.2
          have a0 := box_get XE4.out (j := 0) rfl
          have a1 := box_get XE4.out (j := 1) rfl
          have a2 := box_get XE4.out (j := 2) rfl
          have a3 := box_get XE4.out (j := 3) rfl
          have CM := hid (fun W => either_any mt W)
          go_wp2_with fail
          with_reducible refine (CM.out _).mono ?_
          rintro e W5 ⟨rfl, rfl⟩
          by_cases hlo : L < 1
          · go_wp2_with fail
            go_ret
            exact ⟨ret_bool (by rw [← HS.out]; first | (simp [*]; done) | (simp [*]; omega) | (rw [Bool.eq_iff_iff]; simp [*]; done) | (rw [Bool.eq_iff_iff]; simp [*]; omega)), B4.out⟩
          have hlo' : 1 ≤ L := by omega
          by_cases hhi : 1 < L
          · go_wp2_with fail
            go_ret
            exact ⟨ret_bool (by rw [← HS.out]; first | (simp [*]; done) | (simp [*]; omega) | (rw [Bool.eq_iff_iff]; simp [*]; done) | (rw [Bool.eq_iff_iff]; simp [*]; omega)), B4.out⟩
          obtain rfl : L = 1 := by omega
          clear hhi hlo hlo'
          go_wp2_with fail
          with_reducible refine (CE.out _ B4.out).mono ?_
          rintro e W6 ⟨rfl, hb6⟩
          go_wp2_with fail
          go_ret
          exact ⟨ret_bool (by rw [← HS.out]; first | (simp [*]; done) | (simp [*]; omega) | (rw [Bool.eq_iff_iff]; simp [*]; done) | (rw [Bool.eq_iff_iff]; simp [*]; omega)), B4.out.trans (hb6.mono B4.out.size)⟩
    · have CA : Hid (∀ W, Below W2.heap.size W2 W → Calls Tryz.prog 135 #[.slice (some ⟨W1.heap.size, 0, none⟩) 5 5, .int .i64 k] W fun r w' => r = .returned (.tuple #[.agg (entT 0).toArray, .bool false]) ∧ Below W.heap.size W w') := hid fun W hb => atT_no W W1.heap.size k (by omega)
      generalize kids.all rightT = q at *
      have cA := CA.out
      simp only [entT] at cA
      have CA' := hid cA
      clear cA CA XT
      go_cut [4, 5] (fun u v wx => ∃ m : Nat, u = .pointer (some ⟨m, 0, none⟩) ∧ v = .bool false ∧ Hid (BoxAt wx m (entT 0) ∧ Below W2.heap.size W2 wx))
      case first =>
        clear CN CE
        go_region_with (go_at_call 135; refine (CA'.out _ ?_).mono ?_; rotate_left; rintro e W3 ⟨rfl, hb3⟩; obtain ⟨hc3, hf3⟩ := bcell hb3; rotate_left; (first | exact (Below.refl _ _).drew | exact ((Below.refl _ _).drew).alloc (Nat.le_refl _) _ | exact ((Below.refl _ _).alloc (Nat.le_refl _) _).drew))
        all_goals go_wp2_with fail
        all_goals simp only [Act.put, List.getElem_toArray, List.getElem_cons_succ, List.getElem_cons_zero, List.setIfInBounds_toArray, List.set_cons_zero, List.set_cons_succ]
        all_goals go_meet
        · have e := laid_behind (W2 := W2) (entT 0) 200 ⟨hb3.os, hb3.tape, hb3.output, hb3.size, hb3.block⟩
          exact ⟨_, rfl, rfl, hid e⟩
        · have e := laid_ahead (W2 := W2) (entT 0) (entT 0) 200 rfl ⟨hb3.os, hb3.tape, hb3.output, hb3.size, hb3.block⟩
          exact ⟨_, rfl, rfl, hid e⟩
        · have e := laid_ahead (W2 := W2) (entT 0) (entT 0) 200 rfl ⟨hb3.os, hb3.tape, hb3.output, hb3.size, hb3.block⟩
          exact ⟨_, rfl, rfl, hid e⟩
      case rest =>
        obtain ⟨m, rfl, rfl, hB⟩ := hcut
        have XE := hid hB.out.1
        have B3 := hid (B2.out.trans (hB.out.2.mono B2.out.size))
        have X3 := hid (X2.out.later hB.out.2)
        clear hB d0 hlt0 hlt1
        go_wp2_with fail
        go_ret
        exact ⟨ret_bool (by rw [← HS.out, if_neg (by omega), show (k == 1) = false by simp; omega, show (k == 2) = false by simp; omega, show (k == 3) = false by simp; omega]; simp), B3.out⟩
end Go.Proofs.YtjkdcladjjpmoaaGreatDoor.TreeC

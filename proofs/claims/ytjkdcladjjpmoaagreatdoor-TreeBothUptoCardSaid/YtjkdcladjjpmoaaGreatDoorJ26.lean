/- Contract of lienbookref02.Print. -/
import Derived.Test.YtjkdcladjjpmoaaGreatDoorJ24
import Derived.Test.YtjkdcladjjpmoaaGreatDoorJ25
import Derived.Deep.DeepCutAuto
import Derived.Deep.RegionHeld3
import Derived.Deep.AppendLies
namespace Go.Proofs.YtjkdcladjjpmoaaGreatDoor.TextC
open Go Go.RowKit Go.Lib Go.Sort Go.Proofs.YtjkdcladjjpmoaaGreatDoor.LexP Go.Proofs.YtjkdcladjjpmoaaGreatDoor.TreeP Go.Proofs.YtjkdcladjjpmoaaGreatDoor.LexC Go.Proofs.YtjkdcladjjpmoaaGreatDoor.TreeC Go.Proofs.YtjkdcladjjpmoaaGreatDoor.PageC

theorem grown_cell {w w' : World} {o : Obj} {row : Option Nat} (hg : (w.alloc o).grownBy w' row) {a : Addr} {u : Value} (h : w.cell? a = some u) (hr : ∀ k, row = some k → a.block < k) : w'.cell? a = some u :=
  hg.cell ((cell_alloc_old w o (World.block_lt_of_cell? _ _ h)).trans h) (fun e => by have := hr a.block e.symm; omega)
theorem grown_cell2 {w w' : World} {o : Obj} {row : Option Nat} (hg : (w.alloc o).drew.grownBy w' row) {a : Addr} {u : Value} (h : w.cell? a = some u) (hr : ∀ k, row = some k → a.block < k) : w'.cell? a = some u :=
  grown_cell (w := w.drew) (o := o) hg h hr
/-- the text of a function, up to its lives -/
def headF (f : TreeP.Fn) : List UInt8 := [102, 110, 32] ++ bs f.name ++ (if f.lives.length = 0 then [] else [91] ++ TreeP.row (f.lives.map lifeB) ++ [93])
theorem wFs_take : ∀ (l : List TreeP.Fn) (i : Nat), wFs (l.take i) ≤ wFs l
  | [], i => by simp
  | x :: l, 0 => by simp [wFs]
  | x :: l, i + 1 => by rw [List.take_succ_cons, wFs, wFs]; have := wFs_take l i; omega

set_option maxHeartbeats 8000000 in
set_option maxRecDepth 100000 in
theorem print_r (l : List TreeP.Fn) (w : World) (v : Value) (hw : wFs l ≤ 1048576) (hn : l.length ≤ 30) (hin : ProgIn w v l) (hr : ∀ f ∈ l, rightF f = true) :
    Calls Tryz.prog 19 #[v] w fun e w' => e = .returned (.string (Sb (textFs l))) ∧ Below w.heap.size w w' := by
  obtain ⟨i0, hinf, hi0⟩ := Option.map_eq_some_iff.1 str_info
  have hz0 : i0.zero = some (.string ⟨#[]⟩) := by rw [Prod.mk.injEq] at hi0; exact hi0.1
  have hz1 : i0.size = 1 := by rw [Prod.mk.injEq, Prod.mk.injEq] at hi0; exact hi0.2.1
  have hz2 : i0.bytes = 16 := by rw [Prod.mk.injEq, Prod.mk.injEq] at hi0; exact hi0.2.2
  clear hi0
  obtain ⟨hl, hI⟩ := hin
  obtain ⟨p, cap, rfl, hcap, hqq⟩ := id hl
  rw [List.length_map] at *
  have htk : ∀ i, (textFs (l.take i)).length ≤ 150000000000000 := fun i => by
    have h1 := len_Fs (l.take i) (by have := wFs_take l i; omega)
    have h2 : (l.take i).length ≤ 30 := by rw [List.length_take]; omega
    omega
  obtain ⟨R, hR⟩ : ∃ R, Sb (textFs l) = R := ⟨_, rfl⟩
  rw [hR]
  have HR := hid hR
  have U0 : Hid ((⟨#[]⟩ : ByteArray) = Sb (textFs (l.take 0))) := hid (by rw [List.take_zero]; rfl)
  have B0 := hid (Below.refl w.heap.size w)
  generalize hL : l.length = L at *
  have HL := hid hL
  have HX := hid hl
  have HI := hid hI
  have HTK := hid htk
  have HRT := hid hr
  have HW := hid hw
  clear hl hI hL hqq hcap htk hR hr hw
  go_enter Tryz.func19, Tryz.ntmps19
  go_wp2_with fail
  go_loopg [3, 4] L (fun gf u v wx => ∃ (i : Nat) (s : ByteArray), u = .string s ∧ v = .int .i64 (i : Int) ∧ i ≤ L ∧ L ≤ i + gf ∧ Hid (s = Sb (textFs (l.take i))) ∧ Hid (Below w.heap.size w wx))
  case atStart => exact ⟨0, _, rfl, rfl, by omega, by omega, U0, B0⟩
  case round =>
    obtain ⟨i, s, rfl, rfl, hi, hg, HS, HB⟩ := hrel
    clear U0 B0
    by_cases hlt : i < L
    · obtain ⟨f, hx0⟩ : ∃ f, l[i]? = some f := ⟨l[i]'(by rw [HL.out]; exact hlt), List.getElem?_eq_getElem _⟩
      obtain ⟨b, off, cap', e, hcc, hx⟩ := Lies.at (HX.out.keep (Keeps.of_below HB.out)) (i := i) (by rw [List.length_map, HL.out]; exact hlt)
      injection e with e1 e2 e3
      subst e1
      clear e2 e3 hcc
      have hx' : ∀ (j : Nat) (u : Value), (TreeP.Fn.cells f)[j]? = some u → wr.cell? ⟨b, off + i * 14 + j, none⟩ = some u := hx i _ (by rw [List.getElem?_map, hx0]; rfl)
      have hwx := wFs_get l i f hx0
      have hrx := HRT.out f (List.mem_of_getElem? hx0)
      have hinF := HI.out f (List.mem_of_getElem? hx0)
      have hss : s.size ≤ 150000000000000 := by rw [HS.out, Sb_size]; exact HTK.out i
      have hz := fnSize f
      have ho := fn_ones hinF
      unfold Ones at ho
      have hwf : wF f ≤ 1048576 := by have := HW.out; omega
      have hwf2 := hwf
      unfold wF at hwf2
      obtain ⟨y0, y1, y2, y7, y8⟩ := fn_one f
      obtain ⟨iL, ⟨iP, iPs⟩, iG, iO, ⟨iB, iBs⟩, iV⟩ := hinF
      obtain ⟨lp, lc, hlv, _, hq1⟩ := id iL
      rw [List.length_map] at hlv
      rw [hlv] at y1 iL
      have hnm : f.name.size ≤ 1048576 := by omega
      have hll : f.lives.length ≤ 1048576 := by have := wNs_len f.lives; omega
      have h3 := lens_lives f.lives
      have hrl := row_len (f.lives.map lifeB)
      have cLV : ∀ W, Below w.heap.size w W → Calls Tryz.prog 48 #[.slice lp f.lives.length lc] W fun e w' => ∃ u, e = .returned u ∧ Lies w' 1 u ((strs (f.lives.map lifeB)).map fun x => [x]) ∧ Below W.heap.size W w' := fun W hb => lives_r f.lives _ W (iL.keep (Keeps.of_below hb)) hll (fun s hs => by have := wNs_mem hs; omega)
      have cRW : ∀ (W : World) (u : Value), Lies W 1 u ((strs (f.lives.map lifeB)).map fun x => [x]) → Calls Tryz.prog 47 #[u] W fun e w' => e = .returned (.string (Sb (TreeP.row (f.lives.map lifeB)))) ∧ W = w' := fun W u h => row_r _ u W h (by rw [List.length_map]; exact hll) (by omega)
      have hzr : (Sb (TreeP.row (f.lives.map lifeB))).size ≤ 5242880 := by rw [Sb_size]; omega
      have hH0 : f.lives.length = 0 → s ++ Sb [102, 110, 32] ++ f.name = s ++ Sb (headF f) := fun h => by
        unfold headF; rw [if_pos h, List.append_nil, ← Sb_bs s, ← Sb_bs f.name]; simp only [Sb_app, bs_Sb, List.append_assoc]
      have hH1 : 0 < f.lives.length → s ++ Sb [102, 110, 32] ++ f.name ++ Sb [91] ++ Sb (TreeP.row (f.lives.map lifeB)) ++ Sb [93] = s ++ Sb (headF f) := fun h => by
        unfold headF; rw [if_neg (by omega), ← Sb_bs s, ← Sb_bs f.name]; simp only [Sb_app, bs_Sb, List.append_assoc]
      have hb2 : Below wr.heap.size wr ((wr.alloc (.cells #[.string ⟨#[]⟩, .slice none 0 0, .slice none 0 0, .int .i64 0, .string ⟨#[]⟩, .bool false, .slice none 0 0, .slice none 0 0, .slice none 0 0, .int .i64 0, .int .i64 0, .string ⟨#[]⟩, .bool false, .slice none 0 0] 53 (0, 0))).setRow wr.heap.size (TreeP.Fn.cells f).toArray) := rowed_below' _ _ _
      have hX2 : BoxAt ((wr.alloc (.cells #[.string ⟨#[]⟩, .slice none 0 0, .slice none 0 0, .int .i64 0, .string ⟨#[]⟩, .bool false, .slice none 0 0, .slice none 0 0, .slice none 0 0, .int .i64 0, .int .i64 0, .string ⟨#[]⟩, .bool false, .slice none 0 0] 53 (0, 0))).setRow wr.heap.size (TreeP.Fn.cells f).toArray) wr.heap.size (TreeP.Fn.cells f) := rowed_box' _ _ _ _
      have B2 := hid (HB.out.trans (hb2.mono HB.out.size))
      have hfw : w.heap.size ≤ wr.heap.size := HB.out.size
      have X2 := hid hX2
      have l0 := box_get hX2 y0
      have l1 := box_get hX2 y1
      have Y := hid (And.intro y1 (And.intro y2 (And.intro y7 y8)))
      have CLV := hid cLV
      have CRW := hid cRW
      have H0 := hid hH0
      have H1 := hid hH1
      have HFG := hid (fun (j : Nat) (u : Value) (h : f.gives.cells[j]? = some u) => fn_gives h)
      have HFV := hid (fun (j : Nat) (u : Value) (h : f.value.cells[j]? = some u) => fn_value h)
      generalize TreeP.Fn.cells f = fcs at *
      have ZF := hid hz
      have ZA : Hid ((Tryz.prog.info? 53).map (·.size) = some fcs.toArray.size) := hid (by rw [List.size_toArray]; exact hz)
      have ZO : Hid ((#[.string ⟨#[]⟩, .slice none 0 0, .slice none 0 0, .int .i64 0, .string ⟨#[]⟩, .bool false, .slice none 0 0, .slice none 0 0, .slice none 0 0, .int .i64 0, .int .i64 0, .string ⟨#[]⟩, .bool false, .slice none 0 0] : Array Value).size = fcs.toArray.size) := hid (by
        rw [show (Tryz.prog.info? 53).map (·.size) = some 14 by kernel_rfl] at hz
        exact Option.some.inj hz)
      have H1C := hid ho
      have HXX := hid hx'
      have HXF := hid hx0
      have HRX := hid hrx
      have IG := hid (And.intro iP (And.intro iPs (And.intro iG (And.intro iO (And.intro iB (And.intro iBs iV))))))
      clear hx hx' hx0 hrx hz ho y0 y1 y2 y7 y8 iL iP iPs iG iO iB iBs iV hlv hq1 cLV cRW hH0 hH1 hb2 hX2 HB hrl h3
      generalize hnl : f.lives.length = ln at *
      generalize Sb (TreeP.row (f.lives.map lifeB)) = srl at *
      generalize f.lives.map lifeB = tls at *
      generalize hnn : f.name = nm at *
      have HNN := hid hnn
      clear hnl hnn
      go_upto_if 28 with (first | (with_reducible refine wpList_load_at (o := ⟨some 19, _, _, _, _, _⟩) rfl _ _ rfl b (off + i * 14) rfl fcs _ HXX.out Tryz.underlying53 rfl ZF.out ?_) | (with_reducible refine wpList_store_row (o := ⟨none, _, _, _, _, _⟩) rfl _ _ _ rfl wr.heap.size fcs.toArray rfl rfl _ _ (heap_alloc_new _ _) ZA.out ZO.out H1C.out ?_))
      go_cut [3] (fun u wx => ∃ s2 : ByteArray, u = .string s2 ∧ Hid (s2 = s ++ Sb (headF f)) ∧ Hid (Below w.heap.size w wx) ∧ Hid (BoxAt wx wr.heap.size fcs))
      case first =>
        by_cases h0 : ln = 0
        · subst h0
          have K := hid (H0.out rfl)
          clear H0 H1
          go_wp2_with fail
          go_meet
          exact ⟨_, rfl, K, B2, X2⟩
        · have hpos : 0 < ln := by omega
          have K := hid (H1.out hpos)
          have CC := hid (CLV.out _ B2.out)
          clear h0 H0 H1
          go_wp2_with fail
          with_reducible refine CC.out.mono ?_
          rintro e W3 ⟨u, rfl, hl3, hb3⟩
          have B3 := hid (B2.out.trans (hb3.mono B2.out.size))
          have X3 := hid (X2.out.later hb3)
          have CR := hid (CRW.out W3 u hl3)
          clear hl3 hb3 CC l0 l1
          go_wp2_with fail
          with_reducible refine CR.out.mono ?_
          rintro e W4 ⟨rfl, rfl⟩
          clear CR
          go_wp2_with fail
          go_meet
          exact ⟨_, rfl, K, B3, X3⟩
      case rest =>
        obtain ⟨s2, rfl, HS2, B3, X3⟩ := hcut
        clear B2 X2 l0 l1 H0 H1 CLV CRW ZF ZA ZO H1C HXX
        generalize wr.heap.size = fb at *
        obtain ⟨i1, i2, i3, i4, i5, i6, i7⟩ := IG.out
        obtain ⟨pp, pcap, hpv, _, hq2⟩ := id i1
        obtain ⟨op, oc, hov, _, hq3⟩ := id i4
        obtain ⟨bp, bc, hbv, _, hq4⟩ := id i5
        rw [List.length_map] at hpv hov hbv
        have y := Y.out
        rw [hpv, hov, hbv] at y
        rw [hpv] at i1
        rw [hov] at i4
        rw [hbv] at i5
        have hrx := HRX.out
        unfold rightF at hrx
        simp only [Bool.and_eq_true] at hrx
        obtain ⟨⟨⟨⟨⟨⟨⟨⟨⟨r1, r2⟩, r3⟩, r4⟩, r5⟩, r6⟩, r7⟩, r8⟩, r9⟩, r10⟩ := hrx
        have hpl : f.pars.length ≤ 30 := by simpa using r4
        have cPA : ∀ (k : Nat) (pa : Pa), f.pars[k]? = some pa → ∀ W, Below w.heap.size w W → Calls Tryz.prog 49 #[.agg pa.type.cells.toArray] W fun e w' => e = .returned (.string (Sb (textT pa.type))) ∧ Below W.heap.size W w' := fun k pa hp W hb => by
          have h5 := List.all_eq_true.1 r1 pa (List.mem_of_getElem? hp)
          unfold rightPa at h5
          simp only [Bool.and_eq_true] at h5
          have h6 := wPas_get f.pars k pa hp
          unfold wPa at h6
          exact type_r (wT pa.type) pa.type W (Nat.le_refl _) (by omega) h5.2 (Ty.In.keep (Keeps.of_below hb) _ (i2 pa (List.mem_of_getElem? hp)))
        have zPA : ∀ (k : Nat) (pa : Pa), f.pars[k]? = some pa → pa.name.size ≤ 1048576 ∧ (Sb (textT pa.type)).size ≤ 2097152 := fun k pa hp => by
          have h6 := wPas_get f.pars k pa hp
          have h7 := len_T pa.type
          unfold wPa at h6
          exact ⟨by omega, by rw [Sb_size]; omega⟩
        have HP5 := hid i1
        have CPA := hid cPA
        have ZPA := hid zPA
        have HTP := hid (fun (k : Nat) (pa : Pa) (h : f.pars[k]? = some pa) => (show (f.pars.map textPa)[k]? = some (textPa pa) by rw [List.getElem?_map, h]; rfl))
        have HTPL := hid (show (f.pars.map textPa).length = f.pars.length from List.length_map ..)
        have hlp := lens_pars f.pars
        have HLP := hid (show lens (f.pars.map textPa) ≤ 5242880 by omega)
        have IX := hid (And.intro i2 (And.intro i3 (And.intro i4 (And.intro i5 (And.intro i6 i7)))))
        have RX := hid (And.intro r5 (And.intro r6 (And.intro r7 (And.intro r8 r10))))
        have YY := hid y
        have O0 : Hid (wc.ownsRow (fb + 1) 9 1 (.slice none 0 0) 0 (strs ((f.pars.map textPa).take 0))) := hid (by rw [List.take_zero]; exact World.ownsRow_nil _ _ _ _)
        clear Y IG i1 i2 i3 i4 i5 i6 i7 hpv hov hbv y HRX r1 r2 r3 r4 r5 r6 r7 r8 r9 r10 cPA zPA hq2 hq3 hq4 hlp
        generalize htpn : f.pars.map textPa = tps at *
        have HTPN := hid htpn
        clear htpn
        generalize hpn : f.pars.length = Q at *
        have HPN := hid hpn
        clear hpn
        obtain ⟨go, rfl⟩ : ∃ go : Nat, go = gk := ⟨_, rfl⟩
        go_wp2_with fail
        go_loopg [6, 7] Q (fun gf u v wx => ∃ k : Nat, v = .int .i64 (k : Int) ∧ k ≤ Q ∧ Q ≤ k + gf ∧ Hid (wx.ownsRow (fb + 1) 9 1 u k (strs (tps.take k))) ∧ Hid (BoxAt wx fb fcs) ∧ Hid (Below w.heap.size w wx))
        case atStart => exact ⟨0, rfl, by omega, by omega, O0, X3, B3⟩
        case round =>
          obtain ⟨k, rfl, hk, hgk, HO, HX2, HB2⟩ := hrel
          have l2 := box_get HX2.out YY.out.2.1
          clear O0 X3 B3
          by_cases hkQ : k < Q
          · obtain ⟨pa, hpa⟩ : ∃ pa, f.pars[k]? = some pa := ⟨f.pars[k]'(by rw [HPN.out]; exact hkQ), List.getElem?_eq_getElem _⟩
            obtain ⟨b2, off2, cap2, e, hcc, hx2w⟩ := Lies.at HP5.out (i := k) (by rw [List.length_map, HPN.out]; exact hkQ)
            have hx2 : ∀ (i : Nat) (c : List Value), (f.pars.map Pa.cells)[i]? = some c → ∀ (j : Nat) (u : Value), c[j]? = some u → wr.cell? ⟨b2, off2 + i * 5 + j, none⟩ = some u := fun i c h j u hj => later HB2.out (hx2w i c h j u hj)
            injection e with e1 e2 e3
            subst e1
            clear e2 e3 hcc
            have hx3 : ∀ (j : Nat) (u : Value), (Pa.cells pa)[j]? = some u → wr.cell? ⟨b2, off2 + k * 5 + j, none⟩ = some u := hx2 k (Pa.cells pa) (by rw [List.getElem?_map, hpa]; rfl)
            have hcp := CPA.out k pa hpa
            have hzp := ZPA.out k pa hpa
            have htp := HTP.out k pa hpa
            have hina := IX.out.1 pa (List.mem_of_getElem? hpa)
            obtain ⟨pnm, ⟨t1, t2, t3, tv, tk⟩⟩ := pa
            have hpa' := hpa
            unfold Pa.In at hina
            rw [Ty.In] at hina
            obtain ⟨t4, t6, ht4, _, hq5⟩ := hina.1
            dsimp only at hcp hzp ht4
            have ht4' : tv = .slice t4 tk.length t6 := by rw [ht4, List.length_map]
            subst ht4'
            have hb2w : b2 < w.heap.size := World.block_lt_of_cell? _ _ (hx2w k _ (by rw [List.getElem?_map, hpa']; rfl) 0 _ rfl)
            have c0 : wr.cell? ⟨b2, off2 + k * 5, none⟩ = some (.string pnm) := hx3 0 _ rfl
            have c1 : wr.cell? ⟨b2, off2 + k * 5 + 1, none⟩ = some (.int .i64 t1) := hx3 1 _ rfl
            have c2 : wr.cell? ⟨b2, off2 + k * 5 + 1 + 1, none⟩ = some (.string t2) := hx3 2 _ rfl
            have c3 : wr.cell? ⟨b2, off2 + k * 5 + 1 + 2, none⟩ = some (.bool t3) := hx3 3 _ rfl
            have c4 : wr.cell? ⟨b2, off2 + k * 5 + 1 + 3, none⟩ = some (.slice t4 tk.length t6) := hx3 4 _ rfl
            have hsn : strs (tps.take (k + 1)) = strs (tps.take k) ++ [.string (pnm ++ Sb [58, 32] ++ Sb (textT (.mk t1 t2 t3 (.slice t4 tk.length t6) tk)))] := by
              rw [List.take_add_one, htp]
              refine (strs_snoc _ _).trans ?_
              unfold textPa
              rw [← Sb_bs pnm, Sb_app, Sb_app, bs_Sb]
            have hk0 : (0 : Int) ≤ (k : Int) := Int.natCast_nonneg _
            have hk1 : (k : Int) < (Q : Int) := by omega
            have HCP : Hid (∀ W, Below w.heap.size w W → Calls Tryz.prog 49 #[.agg #[.int .i64 t1, .string t2, .bool t3, .slice t4 tk.length t6]] W fun e w' => e = .returned (.string (Sb (textT (.mk t1 t2 t3 (.slice t4 tk.length t6) tk)))) ∧ Below W.heap.size W w') := hcp
            have HSN := hid hsn
            generalize Sb (textT (.mk t1 t2 t3 (.slice t4 tk.length t6) tk)) = sty at *
            generalize tk.length = TL at *
            have hcS := hid (And.intro l2 (And.intro c0 (And.intro c1 (And.intro c2 (And.intro c3 c4)))))
            have hltf : fb < wr.heap.size := World.block_lt_of_cell? _ _ l2
            have hltb : b2 < wr.heap.size := World.block_lt_of_cell? _ _ c0
            have HRW := hid (show (∀ q, u6.ownBlock = some q → fb < q) ∧ (∀ q, u6.ownBlock = some q → b2 < q) from ⟨fun q hq => by have := (HO.out.lt q hq).1; omega, fun q hq => by have := (HO.out.lt q hq).1; omega⟩)
            have n1 : ¬ 9223372036854775807 < pnm.size + 2 := by omega
            have n2 : ¬ 9223372036854775807 < pnm.size + 2 + sty.size := by omega
            clear hx2 hx2w hpa' hx3 hcp htp hina hq5 hsn hpa ht4
            go_wp2_with fail
            go_region_held3 (fun w' => w'.cell? ⟨fb, 2, none⟩ = some (.slice (some ⟨b2, off2, none⟩) Q pcap) ∧ w'.cell? ⟨b2, off2 + k * 5, none⟩ = some (.string pnm) ∧ w'.cell? ⟨b2, off2 + k * 5 + 1, none⟩ = some (.int .i64 t1) ∧ w'.cell? ⟨b2, off2 + k * 5 + 1 + 1, none⟩ = some (.string t2) ∧ w'.cell? ⟨b2, off2 + k * 5 + 1 + 2, none⟩ = some (.bool t3) ∧ w'.cell? ⟨b2, off2 + k * 5 + 1 + 3, none⟩ = some (.slice t4 TL t6))
              (first | go_keep | exact ⟨later hb3 hcS.out.1, later hb3 hcS.out.2.1, later hb3 hcS.out.2.2.1, later hb3 hcS.out.2.2.2.1, later hb3 hcS.out.2.2.2.2.1, later hb3 hcS.out.2.2.2.2.2⟩ | exact ⟨grown_cell hgrow (later hb3 hcS.out.1) HRW.out.1, grown_cell hgrow (later hb3 hcS.out.2.1) HRW.out.2, grown_cell hgrow (later hb3 hcS.out.2.2.1) HRW.out.2, grown_cell hgrow (later hb3 hcS.out.2.2.2.1) HRW.out.2, grown_cell hgrow (later hb3 hcS.out.2.2.2.2.1) HRW.out.2, grown_cell hgrow (later hb3 hcS.out.2.2.2.2.2) HRW.out.2⟩)
              (first | (go_simp; go_at_call 49; (with_reducible refine (HCP.out wr.drew HB2.out.drew).mono ?_); rintro e W3 ⟨rfl, hb3⟩) | (refine step_append_lies _ (by rfl) _ _ _ (by rfl) (fb + 1) 9 i0 _ 1 16 Tryz.underlying46 hinf hz0 hz1 hz2 rfl (by decide) _ k (strs (tps.take k)) (by rfl) ((owns_below HO.out (show Below wr.heap.size wr W3 from ⟨hb3.os, hb3.tape, hb3.output, hb3.size, hb3.block⟩)).alloc _) ⟨W3.heap.size, 0, none⟩ 1 1 [.string (pnm ++ Sb [58, 32] ++ sty)] (by rfl) (by rfl) (World.news_of_block (cs := #[.string (pnm ++ Sb [58, 32] ++ sty)]) (t := 9) (fr := (0, 0)) (heap_alloc_new W3 _)) (by simp [Value.oneCell']) (by omega) (by unfold maxLen; omega) (by omega) (by have := hb3.size; simp at this ⊢; omega) (W3.heap.size + 1) (by simp) ?_; intro g gcap w1 hown1 hgrow hat hlt))
            have hgb : Below (fb + 1) W3 w1 := ((Below.refl _ _).alloc (by have := hb3.size; simp at this; omega) _).grown hgrow (by have := hb3.size; simp at this ⊢; omega) (fun q hq => (HO.out.lt q hq).1)
            have hbw : Below wr.heap.size wr W3 := ⟨hb3.os, hb3.tape, hb3.output, hb3.size, hb3.block⟩
            have B5 := hid ((HB2.out.trans (hbw.mono HB2.out.size)).trans (hgb.mono (by omega)))
            have X5 : Hid (BoxAt w1 fb fcs) := hid fun j u hj => (hgb.cell (p := ⟨fb, j, none⟩) (Nat.lt_succ_self _)).trans ((HX2.out.later hbw) j u hj)
            have O5 : Hid (w1.ownsRow (fb + 1) 9 1 (.slice (some ⟨g, 0, none⟩) (k + 1) gcap) (k + 1) (strs (tps.take (k + 1)))) := hid (by rw [HSN.out]; exact hown1)
            clear hgb hbw hown1 hgrow hat hlt
            go_wp2_with fail
            go_roundg (gk - 1)
            case measure => omega
            case rel => exact ⟨k + 1, by go_num, by omega, by omega, O5, X5, B5⟩
          · obtain rfl : k = Q := by omega
            have hown := HO.out
            have htl : tps.length = k := HTPL.out
            rw [← htl, List.take_length] at hown
            have hlies := owns_strs hown
            have CR := hid (fun dd os => Calls.regrown_of ((row_r tps _ (grow (redrawn wr dd) os) (hlies.keep (Keeps.of_below (below_regrown wr dd os))) (by omega) (by have := HLP.out; omega)).mono fun e w' h => ⟨h.1, below_of_eq h.2⟩))
            have hsr : (Sb (TreeP.row tps)).size ≤ 5242880 := by rw [Sb_size]; have := row_len tps; have := HLP.out; omega
            have CG := hid (fun dd os => Calls.regrown_of (type_r (wT f.gives) f.gives (grow (redrawn wr dd) os) (Nat.le_refl _) (by omega) RX.out.1 (Ty.In.keep (Keeps.of_below (HB2.out.trans ((below_regrown wr dd os).mono HB2.out.size))) _ IX.out.2.1)))
            have hsg : (Sb (textT f.gives)).size ≤ 2097152 := by rw [Sb_size]; have := len_T f.gives; omega
            have hs2 : s2.size ≤ 150000100000000 := by
              rw [HS2.out, ByteArray.size_append, Sb_size]
              have : (headF f).length ≤ 10485760 := by
                have h1 := row_len (f.lives.map lifeB)
                have h2 := lens_lives f.lives
                unfold headF
                rw [HNN.out]
                have h3 : (bs nm).length = nm.size := (size_eq _).symm
                split
                · simp only [List.length_append, List.length_cons, List.length_nil]; omega
                · simp only [List.length_append, List.length_cons, List.length_nil]; omega
              omega
            have hE3 : s2 ++ Sb [40] ++ Sb (TreeP.row tps) ++ Sb [41, 32, 45, 62, 32] ++ Sb (textT f.gives) = s ++ Sb (headF f ++ ([40] ++ TreeP.row tps ++ [41, 32, 45, 62, 32] ++ textT f.gives)) := by
              rw [HS2.out, ← Sb_bs s]; simp only [Sb_app, List.append_assoc]
            have Z1 := hid (tySize f.gives)
            have hgc : ∀ (j : Nat) (u : Value), f.gives.cells[j]? = some u → wr.cell? ⟨fb, 3 + j, none⟩ = some u := fun j u h => HX2.out _ u (HFG.out j u h)
            have P1 := hid (reg_cells (b := fb) (off := 3) (cs := f.gives.cells) (w := wr) hgc)
            generalize f.gives.cells = gcs at *
            generalize Sb (TreeP.row tps) = srp at *
            generalize Sb (textT f.gives) = sg at *
            generalize hh3 : headF f ++ ([40] ++ TreeP.row tps ++ [41, 32, 45, 62, 32] ++ textT f.gives) = H3 at *
            have HH3 := hid hh3
            clear hh3
            have HE3 := hid hE3
            clear hown htl hlies hE3 hgc HO
            go_wp2_with fail
            have m1 : ¬ 9223372036854775807 < s2.size + 1 := by omega
            have m2 : ¬ 9223372036854775807 < s2.size + 1 + srp.size := by omega
            have m3 : ¬ 9223372036854775807 < s2.size + 1 + srp.size + 5 := by omega
            have m4 : ¬ 9223372036854775807 < s2.size + 1 + srp.size + 5 + sg.size := by omega
            refine wp_region_quiet_below (by kernel_rfl) (by kernel_rfl) ?_
            repeat (first | ((with_reducible refine wpQuiet_load_at (o := ⟨some 69, _, _, _, _, _⟩) rfl _ _ rfl fb 3 rfl gcs _ P1.out Tryz.underlying45 rfl Z1.out ?_); simp only [Act.put, List.setIfInBounds_toArray, List.set_cons_zero, List.set_cons_succ]) | go_big_quiet_step (first | (with_reducible exact CR.out _ _) | (with_reducible exact CG.out _ _)))
            refine wpQuiet_nil ?_
            intro _ hw'
            obtain ⟨⟨dq, osq⟩, hw''⟩ := hw'
            subst hw''
            have hbg := below_regrown wr dq osq
            have B6 := hid (HB2.out.trans (hbg.mono HB2.out.size))
            have X6 := hid (HX2.out.later hbg)
            have hs3 : (s2 ++ Sb [40] ++ srp ++ Sb [41, 32, 45, 62, 32] ++ sg).size ≤ 150000200000000 := by
              simp only [ByteArray.size_append]
              rw [Sb_size, Sb_size]; simp only [List.length_cons, List.length_nil]; omega
            have hs3' : (s2 ++ ⟨#[40]⟩ ++ srp ++ ⟨#[41, 32, 45, 62, 32]⟩ ++ sg : ByteArray).size ≤ 150000200000000 := hs3
            have HE3' : Hid (s2 ++ ⟨#[40]⟩ ++ srp ++ ⟨#[41, 32, 45, 62, 32]⟩ ++ sg = s ++ Sb H3) := HE3
            generalize (s2 ++ ⟨#[40]⟩ ++ srp ++ ⟨#[41, 32, 45, 62, 32]⟩ ++ sg : ByteArray) = s3 at *
            clear hbg m1 m2 m3 m4 CR CG P1 Z1 hs3 HE3 l2 HX2 HB2
            generalize grow (redrawn wr dq) osq = wd at *
            obtain ⟨M, hM⟩ : ∃ M, f.outs.length = 2 * M := ⟨f.outs.length / 2, by have := RX.out.2.2.1; simp only [beq_iff_eq] at this; omega⟩
            have hlpo := lens_pairs f.outs
            have HLO := hid (show lens (pairs f.outs) ≤ 5242880 by omega)
            have HPL := hid (show (pairs f.outs).length = M by rw [pairs_len]; omega)
            have HPG := hid (fun (i : Nat) (x y : ByteArray) (h1 : f.outs[2 * i]? = some x) (h2 : f.outs[2 * i + 1]? = some y) => pairs_get f.outs i x y h1 h2)
            have ZOS := hid (fun (i : Nat) (x : ByteArray) (h : f.outs[i]? = some x) => show x.size ≤ 1048576 by have := wNs_mem (List.mem_of_getElem? h); omega)
            have O1 : Hid (wd.ownsRow (fb + 1) 9 1 (.slice none 0 0) 0 (strs ((pairs f.outs).take 0))) := hid (by rw [List.take_zero]; exact World.ownsRow_nil _ _ _ _)
            generalize hpo : pairs f.outs = pos at *
            have HPO := hid hpo
            clear hpo
            generalize hon : f.outs.length = Q2 at *
            have HON := hid hon
            have hQ2 : Q2 ≤ 1048576 := by have := wNs_len f.outs; omega
            have HMM := hid hM
            clear hon hM hlpo
            obtain ⟨go1, rfl⟩ : ∃ go1 : Nat, go1 = gk := ⟨_, rfl⟩
            go_wp2_with fail
            go_loopg [8, 9] Q2 (fun gf u v wx => ∃ k k2 : Nat, v = .int .i64 (k2 : Int) ∧ Hid (k2 = 2 * k) ∧ k2 ≤ Q2 ∧ Q2 ≤ k2 + gf ∧ Hid (wx.ownsRow (fb + 1) 9 1 u k (strs (pos.take k))) ∧ Hid (BoxAt wx fb fcs) ∧ Hid (Below w.heap.size w wx))
            case atStart => exact ⟨0, 0, rfl, hid rfl, by omega, by omega, O1, X6, B6⟩
            case round =>
              obtain ⟨m, k2, rfl, HK, hk, hgk, HO, HX2, HB2⟩ := hrel
              have l7 := box_get HX2.out YY.out.2.2.1
              clear O1 X6 B6
              by_cases hkQ : k2 < Q2
              · have hkQ1 : k2 + 1 < Q2 := by have := HK.out; have := HMM.out; omega
                obtain ⟨x, hx1⟩ : ∃ x, f.outs[k2]? = some x := ⟨f.outs[k2]'(by rw [HON.out]; exact hkQ), List.getElem?_eq_getElem _⟩
                obtain ⟨y, hy1⟩ : ∃ y, f.outs[k2 + 1]? = some y := ⟨f.outs[k2 + 1]'(by rw [HON.out]; exact hkQ1), List.getElem?_eq_getElem _⟩
                obtain ⟨b3, off3, cap3, e, _, _⟩ := Lies.at IX.out.2.2.1 (i := k2) (by rw [List.length_map, HON.out]; exact hkQ)
                injection e with e1 e2 e3
                subst e1
                clear e2 e3
                have cx0 := lies_nm IX.out.2.2.1 hx1
                have cy0 := lies_nm IX.out.2.2.1 hy1
                have hb3w : b3 < w.heap.size := World.block_lt_of_cell? _ _ cx0
                have cx := later HB2.out cx0
                have cy := later HB2.out cy0
                have hxs := ZOS.out _ _ hx1
                have hys := ZOS.out _ _ hy1
                have hsn : strs (pos.take (m + 1)) = strs (pos.take m) ++ [.string (⟨#[39]⟩ ++ x ++ ⟨#[58, 32, 39]⟩ ++ y)] := by
                  have := HPG.out m x y (by rw [← HK.out]; exact hx1) (by rw [← HK.out]; exact hy1)
                  rw [List.take_add_one, this]
                  refine (strs_snoc _ _).trans ?_
                  have e : Sb (lifeB x ++ [58, 32] ++ lifeB y) = Sb [39] ++ x ++ Sb [58, 32, 39] ++ y := by
                    unfold lifeB
                    conv => rhs; rw [← Sb_bs x, ← Sb_bs y]
                    simp only [Sb_app, List.append_assoc, List.cons_append, List.nil_append]
                  rw [e]; rfl
                have HSN := hid hsn
                have hltf : fb < wr.heap.size := World.block_lt_of_cell? _ _ l7
                have hltb : b3 < wr.heap.size := World.block_lt_of_cell? _ _ cx
                have hcS := hid (And.intro l7 (And.intro cx cy))
                have HRW := hid (show (∀ q, u8.ownBlock = some q → fb < q) ∧ (∀ q, u8.ownBlock = some q → b3 < q) from ⟨fun q hq => by have := (HO.out.lt q hq).1; omega, fun q hq => by have := (HO.out.lt q hq).1; omega⟩)
                have n1 : ¬ 9223372036854775807 < 1 + x.size := by omega
                have n2 : ¬ 9223372036854775807 < 1 + x.size + 3 := by omega
                have n3 : ¬ 9223372036854775807 < 1 + x.size + 3 + y.size := by omega
                have hm1 : m + 1 ≤ 1048576 := by have := HK.out; omega
                have hk0 : (0 : Int) ≤ (k2 : Int) := Int.natCast_nonneg _
                have hk1 : (k2 : Int) < (Q2 : Int) := by omega
                have hk2 : (k2 : Int) + 1 < (Q2 : Int) := by omega
                have hk3 : (0 : Int) ≤ (k2 : Int) + 1 := by omega
                have hk4 : ((k2 : Int) + 1).toNat = k2 + 1 := by omega
                have hwr : IntKind.i64.wrap ((k2 : Int) + 1) = (k2 : Int) + 1 := by rw [IntKind.wrap_i64]; omega
                clear hsn cx0 cy0 hx1 hy1
                go_wp2_with fail
                go_region_held3 (fun w' => w'.cell? ⟨fb, 7, none⟩ = some (.slice (some ⟨b3, off3, none⟩) Q2 oc) ∧ w'.cell? ⟨b3, off3 + k2, none⟩ = some (.string x) ∧ w'.cell? ⟨b3, off3 + (k2 + 1), none⟩ = some (.string y))
                  (first | go_keep | exact ⟨grown_cell2 hgrow hcS.out.1 HRW.out.1, grown_cell2 hgrow hcS.out.2.1 HRW.out.2, grown_cell2 hgrow hcS.out.2.2 HRW.out.2⟩)
                  (first | (refine step_append_lies _ (by rfl) _ _ _ (by rfl) (fb + 1) 9 i0 _ 1 16 Tryz.underlying46 hinf hz0 hz1 hz2 rfl (by decide) _ m (strs (pos.take m)) (by rfl) ((HO.out.drew).alloc _) ⟨wr.heap.size, 0, none⟩ 1 1 [.string (⟨#[39]⟩ ++ x ++ ⟨#[58, 32, 39]⟩ ++ y)] (by rfl) (by rfl) (World.news_of_block (cs := #[.string (⟨#[39]⟩ ++ x ++ ⟨#[58, 32, 39]⟩ ++ y)]) (t := 9) (fr := (0, 0)) (heap_alloc_new _ _)) (by simp [Value.oneCell']) (by omega) (by unfold maxLen; omega) (by omega) (by simp; omega) (wr.heap.size + 1) (by simp) ?_; intro g gcap w1 hown1 hgrow hat hlt))
                have hgb : Below (fb + 1) wr w1 := (((Below.refl _ _).alloc (by omega) _).drew).grown hgrow (by have := hltf; simp at this ⊢; omega) (fun q hq => (HO.out.lt q hq).1)
                have B5 := hid (HB2.out.trans (hgb.mono (by omega)))
                have X5 : Hid (BoxAt w1 fb fcs) := hid fun j u hj => (hgb.cell (p := ⟨fb, j, none⟩) (Nat.lt_succ_self _)).trans (HX2.out j u hj)
                have O5 : Hid (w1.ownsRow (fb + 1) 9 1 (.slice (some ⟨g, 0, none⟩) (m + 1) gcap) (m + 1) (strs (pos.take (m + 1)))) := hid (by rw [HSN.out]; exact hown1)
                have HK5 : Hid (k2 + 2 = 2 * (m + 1)) := hid (by have := HK.out; omega)
                clear hgb hown1 hgrow hat hlt hwr hk4
                go_wp2_with fail
                go_roundg (gk - 1)
                case measure => omega
                case rel => exact ⟨m + 1, k2 + 2, by go_num, HK5, by omega, by omega, O5, X5, B5⟩
              · obtain rfl : k2 = Q2 := by omega
                have hmM : m = M := by have := HK.out; have := HMM.out; omega
                subst hmM
                have hown := HO.out
                have htl : pos.length = m := HPL.out
                have hm1 : m ≤ 1048576 := by have := HK.out; omega
                rw [← htl, List.take_length] at hown
                have hlies := owns_strs hown
                obtain ⟨pq, cq, hu8, _, hq9⟩ := id hlies
                subst hu8
                clear hq9 hown HO
                rw [List.length_map, strs_len, htl] at *
                have CR := hid (row_r pos _ wr hlies (by have := HPL.out; omega) (by have := HLO.out; omega))
                have hsq : (Sb (TreeP.row pos)).size ≤ 5242880 := by rw [Sb_size]; have := row_len pos; have := HLO.out; omega
                obtain ⟨T4, hT4⟩ : ∃ T4, T4 = H3 ++ (if f.outs.length = 0 then [] else [32, 119, 104, 101, 114, 101, 32] ++ TreeP.row pos) := ⟨_, rfl⟩
                have HA := hid (fun (h : m = 0) => show s3 = s ++ Sb T4 by
                  rw [hT4, if_pos (by have := HK.out; have := HON.out; omega), List.append_nil]; exact HE3'.out)
                have HB := hid (fun (h : 0 < m) => show s3 ++ ⟨#[32, 119, 104, 101, 114, 101, 32]⟩ ++ Sb (TreeP.row pos) = s ++ Sb T4 by
                  rw [hT4, if_neg (by have := HK.out; have := HON.out; omega), HE3'.out, ← Sb_bs s]
                  show Sb (bs s) ++ Sb H3 ++ Sb [32, 119, 104, 101, 114, 101, 32] ++ Sb (TreeP.row pos) = _
                  simp only [Sb_app, List.append_assoc])
                have HT4 := hid hT4
                generalize Sb (TreeP.row pos) = srq at *
                clear hT4 hlies htl
                go_upto_if 98 with (fail)
                go_cut [3] (fun u wx => ∃ s4 : ByteArray, u = .string s4 ∧ s4.size ≤ 150000300000000 ∧ Hid (s4 = s ++ Sb T4) ∧ Hid (Below w.heap.size w wx) ∧ Hid (BoxAt wx fb fcs))
                case first =>
                  by_cases h0 : m = 0
                  · have K := hid (HA.out h0)
                    subst h0
                    clear HA HB CR
                    go_wp2_with fail
                    go_meet
                    exact ⟨_, rfl, by omega, K, HB2, HX2⟩
                  · have hpos : 0 < m := by omega
                    have K := hid (HB.out hpos)
                    have hz4 : (s3 ++ ⟨#[32, 119, 104, 101, 114, 101, 32]⟩ ++ srq : ByteArray).size ≤ 150000300000000 := by
                      simp only [ByteArray.size_append]
                      have : (⟨#[32, 119, 104, 101, 114, 101, 32]⟩ : ByteArray).size = 7 := rfl
                      omega
                    have HZ4 := hid hz4
                    clear h0 HA HB hz4
                    go_wp2_with fail
                    with_reducible refine CR.out.mono ?_
                    rintro e W4 ⟨rfl, rfl⟩
                    clear CR
                    go_wp2_with fail
                    go_meet
                    exact ⟨_, rfl, HZ4.out, K, HB2, HX2⟩
                case rest =>
                  obtain ⟨s4, rfl, hz4, HS4, HB4, HX4⟩ := hcut
                  clear HA HB CR HB2 HX2 HK HMM HPG ZOS HLO HPL
                  have l8 := box_get HX4.out YY.out.2.2.2
                  have hbody : rightSs f.body = true := by have := RX.out.2.2.2.1; unfold rightL at this; simp only [Bool.and_eq_true] at this; exact this.1
                  have CB := hid (fun dd os => Calls.regrown_of (stmts_r (wSs f.body) f.body (.slice bp f.body.length bc) ⟨#[9]⟩ (grow (redrawn wc dd) os) (Nat.le_refl _) (by have : (⟨#[9]⟩ : ByteArray).size = 1 := rfl; omega) hbody (IX.out.2.2.2.1.keep (Keeps.of_below (HB4.out.trans ((below_regrown wc dd os).mono HB4.out.size)))) (St.Ins.keep (Keeps.of_below (HB4.out.trans ((below_regrown wc dd os).mono HB4.out.size))) _ IX.out.2.2.2.2.1)))
                  have CE := hid (fun dd os => Calls.regrown_of (expr_r (wE f.value) f.value (grow (redrawn wc dd) os) (Nat.le_refl _) (by omega) RX.out.2.2.2.2 (Ex.In.keep (Keeps.of_below (HB4.out.trans ((below_regrown wc dd os).mono HB4.out.size))) _ IX.out.2.2.2.2.2)))
                  have hsb : (Sb (textSs (bs ⟨#[9]⟩) f.body)).size ≤ 4000000000000 := by
                    rw [Sb_size]; exact len_num f.body _ (by have : (bs (⟨#[9]⟩ : ByteArray)).length = 1 := rfl; omega)
                  have hse : (Sb (textE f.value)).size ≤ 4000000000000 := by
                    rw [Sb_size]; have := len_E f.value; omega
                  have hE5 : s4 ++ ⟨#[32, 123, 10]⟩ ++ Sb (textSs (bs ⟨#[9]⟩) f.body) ++ ⟨#[9, 114, 101, 116, 32]⟩ ++ Sb (textE f.value) ++ ⟨#[59, 10, 125, 10]⟩ = Sb (textFs (l.take (i + 1))) := by
                    rw [textFs_snoc l i f HXF.out, HS4.out, HS.out]
                    show Sb _ ++ Sb T4 ++ Sb [32, 123, 10] ++ Sb (textSs [9] f.body) ++ Sb [9, 114, 101, 116, 32] ++ Sb (textE f.value) ++ Sb [59, 10, 125, 10] = _
                    simp only [Sb_app]
                    congr 1
                    rw [HT4.out, ← HH3.out, ← HPO.out, ← HTPN.out]
                    unfold headF textF
                    simp only [List.append_assoc]
                  have Z2 := hid (exSize f.value)
                  have hvc : ∀ (j : Nat) (u : Value), f.value.cells[j]? = some u → wc.cell? ⟨fb, 9 + j, none⟩ = some u := fun j u h => HX4.out _ u (HFV.out j u h)
                  have P2 := hid (reg_cells (b := fb) (off := 9) (cs := f.value.cells) (w := wc) hvc)
                  have k8 := cell_regrown l8
                  generalize f.value.cells = vcs at *
                  generalize Sb (textSs (bs ⟨#[9]⟩) f.body) = sb at *
                  generalize Sb (textE f.value) = se at *
                  have HE5 := hid hE5
                  clear hvc hE5 hbody
                  go_wp2_with fail
                  have m1 : ¬ 9223372036854775807 < s4.size + 3 := by omega
                  have m2 : ¬ 9223372036854775807 < s4.size + 3 + sb.size := by omega
                  have m3 : ¬ 9223372036854775807 < s4.size + 3 + sb.size + 5 := by omega
                  have m4 : ¬ 9223372036854775807 < s4.size + 3 + sb.size + 5 + se.size := by omega
                  have m5 : ¬ 9223372036854775807 < s4.size + 3 + sb.size + 5 + se.size + 4 := by omega
                  refine wp_region_quiet_below (by kernel_rfl) (by kernel_rfl) ?_
                  repeat (first | ((with_reducible refine wpQuiet_load_at (o := ⟨some 112, _, _, _, _, _⟩) rfl _ _ rfl fb 9 rfl vcs _ P2.out Tryz.underlying51 rfl Z2.out ?_); simp only [Act.put, List.setIfInBounds_toArray, List.set_cons_zero, List.set_cons_succ]) | go_big_quiet_step (first | (with_reducible exact CB.out _ _) | (with_reducible exact CE.out _ _)))
                  refine wpQuiet_nil ?_
                  intro _ hw'
                  obtain ⟨⟨dq2, osq2⟩, hw''⟩ := hw'
                  subst hw''
                  have B7 := hid (HB4.out.trans ((below_regrown wc dq2 osq2).mono HB4.out.size))
                  clear m1 m2 m3 m4 m5 CB CE P2 Z2 l8 k8 HB4 HX4
                  generalize grow (redrawn wc dq2) osq2 = wz at *
                  go_wp2_with fail
                  go_roundg (go - 1)
                  case measure => omega
                  case rel => exact ⟨i + 1, _, rfl, by go_num, by omega, by omega, HE5, B7⟩
    · obtain rfl : i = L := by omega
      have K : Hid (s = R) := hid (by rw [HS.out, ← HR.out, ← HL.out, List.take_length])
      go_wp2_with fail
      go_ret
      exact ⟨by show Ending.returned (.string s) = _; rw [K.out], HB.out⟩
end Go.Proofs.YtjkdcladjjpmoaaGreatDoor.TextC

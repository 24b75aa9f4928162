/- Texts joined: EnvL, EnvZD, EnvZF, EnvZG, EnvZH. -/
import Derived.Test.YtannfhbocfghkaaDoorJ04
/- Contracts of env.subset, (env.pair).atMost, (env.pair).fits. -/
namespace Go.Proofs.YtannfhbocfghkaaDoor.EnvC
open Go Go.RowKit Go.Lib Go.Sort Go.Proofs.YtannfhbocfghkaaDoor.EnvP

set_option maxHeartbeats 8000000 in
set_option maxRecDepth 100000 in
theorem subset_any (l m : List Ln) (v u : Value) (w : World) (hl : Lies w 4 v (l.map Ln.cells)) (hin : ∀ y ∈ l, y.pl.In w) (hst : ∀ y ∈ l, y.pl.steps.length ≤ 1048576) (hlen : l.length ≤ 1048576)
    (hl' : Lies w 4 u (m.map Ln.cells)) (hin' : ∀ y ∈ m, y.pl.In w) (hst' : ∀ y ∈ m, y.pl.steps.length ≤ 1048576) (hlen' : m.length ≤ 1048576) (hr : rising m = true) :
    Calls Tryd.prog 44 #[v, u] w fun r w' => r = .returned (.bool (l.all (has m))) ∧ Below w.heap.size w w' := by
  have c1 := fun (x : Ln) (hx : x ∈ l) (W : World) (hb : Below w.heap.size w W) => search_any m u x W (hl'.keep (Keeps.of_below hb)) (fun y hy => (hin' y hy).keep (Keeps.of_below hb)) hst' hlen' ((hin x hx).keep (Keeps.of_below hb)) (hst x hx) hr
  obtain ⟨R, hR⟩ : ∃ R, l.all (has m) = R := ⟨_, rfl⟩
  rw [hR]
  obtain ⟨p, cap, hcap, rfl⟩ := lies_slice hl
  obtain ⟨p', cap', _, rfl⟩ := lies_slice hl'
  generalize hL : l.length = L at *
  have HR : Hid (((l.drop 0).all (has m)) = R) := hid (by rw [List.drop_zero]; exact hR)
  have HL := hid hL
  have HX := hid hl
  have HI := hid hin
  have C1 := hid c1
  clear hR hL hl hin hst c1 hl' hin' hst' hlen' hr
  generalize m.length = M at *
  go_enter Tryd.func44, Tryd.ntmps44
  go_wp2_with fail
  go_loopg [11] L (fun gf u wx => ∃ i : Nat, u = .int .i64 (i : Int) ∧ i ≤ L ∧ L ≤ i + gf ∧ Hid (((l.drop i).all (has m)) = R) ∧ Hid (Below w.heap.size w wx))
  case atStart => exact ⟨0, rfl, by omega, by omega, HR, hid (Below.refl _ _)⟩
  case round =>
    obtain ⟨i, rfl, hi, hg, HA, HB⟩ := hrel
    have hb := HB.out
    clear HR
    by_cases hlt : i < L
    · obtain ⟨x, hx⟩ : ∃ x, l[i]? = some x := ⟨l[i]'(by rw [HL.out]; exact hlt), List.getElem?_eq_getElem _⟩
      obtain ⟨b, off, cap2, e, _, hxx⟩ := Lies.at (HX.out.keep (Keeps.of_below hb)) (i := i) (by rw [List.length_map, HL.out]; exact hlt)
      injection e with e1 e2 e3
      subst e1
      clear e2 e3
      have hx' := hxx i x.cells (by rw [List.getElem?_map, hx]; rfl)
      have hix := (HI.out x (List.mem_of_getElem? hx)).keep (Keeps.of_below hb)
      have ho := ln_ones hix
      unfold Ones at ho
      have hp := HA.out
      rw [drop_cons hx, List.all_cons] at hp
      have CX := hid (C1.out x (List.mem_of_getElem? hx))
      have ZF := hid (lnSize x)
      have ZA : Hid ((Tryd.prog.info? 44).map (·.size) = some x.cells.toArray.size) := hid (lnSize x)
      have ZO : Hid ((#[.string ⟨#[]⟩, .string ⟨#[]⟩, .slice none 0 0, .bool false] : Array Value).size = x.cells.toArray.size) := hid rfl
      have H1C := hid ho
      have HPX : Hid (∀ (j : Nat) (u : Value), x.cells[j]? = some u → wr.cell? ⟨b, off + i * 4 + j, none⟩ = some u) := hid hx'
      generalize x.cells = fcs at *
      generalize has m x = q at *
      have HP := hid hp
      clear hx hxx hx' hix hp HA HI HL HX hb ho C1
      have hb2 : Below wr.heap.size wr ((wr.alloc (.cells #[.string ⟨#[]⟩, .string ⟨#[]⟩, .slice none 0 0, .bool false] 44 (0, 0))).setRow wr.heap.size fcs.toArray) := rowed_below' _ _ _
      have hX2 : BoxAt ((wr.alloc (.cells #[.string ⟨#[]⟩, .string ⟨#[]⟩, .slice none 0 0, .bool false] 44 (0, 0))).setRow wr.heap.size fcs.toArray) wr.heap.size fcs := rowed_box' _ _ _ _
      have K2 : Hid (∀ (j : Nat) (u : Value), fcs[j]? = some u → ((wr.alloc (.cells #[.string ⟨#[]⟩, .string ⟨#[]⟩, .slice none 0 0, .bool false] 44 (0, 0))).setRow wr.heap.size fcs.toArray).cell? ⟨wr.heap.size, 0 + j, none⟩ = some u) := hid fun j u h => by rw [Nat.zero_add]; exact hX2 j u h
      have B2 := hid (HB.out.trans (hb2.mono HB.out.size))
      have C2 := hid (CX.out _ B2.out)
      clear hb2 hX2 HB CX
      go_wp2_with (first | (with_reducible refine wpList_load_at (o := ⟨some 14, _, _, _, _, _⟩) rfl _ _ rfl b (off + i * 4) rfl fcs _ HPX.out Tryd.underlying44 rfl ZF.out ?_) | (with_reducible refine wpList_load_at (o := ⟨some 17, _, _, _, _, _⟩) rfl _ _ rfl wr.heap.size 0 rfl fcs _ K2.out Tryd.underlying44 rfl ZF.out ?_) | (with_reducible refine wpList_store_row (o := ⟨none, _, _, _, _, _⟩) rfl _ _ _ rfl wr.heap.size fcs.toArray rfl rfl _ _ (heap_alloc_new _ _) ZA.out ZO.out H1C.out ?_))
      generalize (World.alloc wr _).setRow _ _ = W2 at *
      clear HPX ZA ZO H1C
      with_reducible refine C2.out.mono ?_
      rintro e W3 ⟨⟨z, rfl⟩, hb3⟩
      have B3 := hid (B2.out.trans (hb3.mono B2.out.size))
      clear C2 hb3 K2 B2
      cases q
      · have HN : Hid (R = false) := hid (by rw [← HP.out]; rfl)
        go_wp2_with fail
        go_ret
        exact ⟨ret_bool HN.out.symm, B3.out⟩
      · have HN : Hid (((l.drop (i + 1)).all (has m)) = R) := hid (by rw [← HP.out]; rfl)
        go_wp2_with fail
        go_roundg (gk - 1)
        case measure => omega
        case rel => exact ⟨i + 1, by go_num, by omega, by omega, HN, B3⟩
    · have HN : Hid (R = true) := hid (by rw [← HA.out, List.drop_eq_nil_of_le (by rw [HL.out]; omega)]; rfl)
      clear HA HI HL HX hb C1
      go_wp2_with fail
      go_ret
      exact ⟨ret_bool HN.out.symm, HB.out⟩

def PrOk (w : World) (x : Pr) : Prop := TyAt w x.b x.o x.t ∧ TyAt w x.c x.q x.u ∧ Small x.t ∧ Small x.u
def leP (t u : ETy) : Bool := (!t.gone || u.gone) && t.loans.all (has u.loans)
def fitP (t u : ETy) : Bool := t.kind == u.kind && t.mt == u.mt && t.kids.length == u.kids.length
def rowAddrs (b o c q : Nat) : Array Value := #[.pointer (some ⟨b, o, none⟩), .pointer (some ⟨c, q, none⟩)]

set_option maxHeartbeats 8000000 in
set_option maxRecDepth 100000 in
theorem atMost_any (x : Pr) (w : World) (h : PrOk w x) (hr : rising x.u.loans = true) :
    Calls Tryd.prog 25 #[.agg #[.pointer (some ⟨x.b, x.o, none⟩), .pointer (some ⟨x.c, x.q, none⟩)]] w fun r w' => r = .returned (.bool (leP x.t x.u)) ∧ Below w.heap.size w w' := by
  obtain ⟨R, hR⟩ : ∃ R, leP x.t x.u = R := ⟨_, rfl⟩
  rw [hR]
  obtain ⟨b, o, t, c, q, u⟩ := x
  obtain ⟨h1, h2, hs1, hs2⟩ := h
  have l1 := hs1.loans
  have l2 := hs2.loans
  dsimp only at *
  unfold leP at hR
  obtain ⟨k, m, g, lv, ls, kv, kids⟩ := t
  obtain ⟨k', m', g', lv', ls', kv', kids'⟩ := u
  have i1 := h1.2
  have i2 := h2.2
  rw [ETy.In] at i1 i2
  have B0 : Below w.heap.size w (w.alloc (.cells #[.pointer (some ⟨b, o, none⟩), .pointer (some ⟨c, q, none⟩)] 59 (0, 0))) := (Below.refl _ _).alloc (Nat.le_refl _) _
  have X0 : BoxAt (w.alloc (.cells #[.pointer (some ⟨b, o, none⟩), .pointer (some ⟨c, q, none⟩)] 59 (0, 0))) w.heap.size [.pointer (some ⟨b, o, none⟩), .pointer (some ⟨c, q, none⟩)] := BoxAt.new w _ _
  have c1 := fun (d : Nat) (os : Array Obj) => Calls.regrown_of (subset_any ls ls' lv lv' (grow (redrawn (w.alloc (.cells #[.pointer (some ⟨b, o, none⟩), .pointer (some ⟨c, q, none⟩)] 59 (0, 0))) d) os) (i1.1.keep (regKeeps B0 d os)) (fun y hy => (i1.2.1 y hy).keep (regKeeps B0 d os)) l1.2 l1.1 (i2.1.keep (regKeeps B0 d os)) (fun y hy => (i2.2.1 y hy).keep (regKeeps B0 d os)) l2.2 l2.1 hr)
  have z0 := cell_regrown (X0 0 (.pointer (some ⟨b, o, none⟩)) rfl)
  have z1 := cell_regrown (X0 1 (.pointer (some ⟨c, q, none⟩)) rfl)
  have y2 := cell_regrown (later B0 (h1.1 2 (.bool g) rfl))
  have y3 := cell_regrown (later B0 (h1.1 3 lv rfl))
  have v2 := cell_regrown (later B0 (h2.1 2 (.bool g') rfl))
  have v3 := cell_regrown (later B0 (h2.1 3 lv' rfl))
  have HR : Hid (((!g || g') && ls.all (has ls')) = R) := hid hR
  have C1 := hid c1
  have H0 := hid B0
  clear hR h1 h2 hs1 hs2 l1 l2 i1 i2 c1 X0 B0 hr
  generalize ls.all (has ls') = P at *
  go_enter Tryd.func25, Tryd.ntmps25
  go_wp2_with fail
  generalize World.alloc w _ = W1 at *
  cases g <;> cases g'
  all_goals (
    replace HR := HR.out
    simp only [Bool.not_true, Bool.not_false, Bool.or_true, Bool.or_false, Bool.true_and, Bool.false_and] at HR
    replace HR := hid HR
    refine wp_region_quiet_below (by kernel_rfl) (by kernel_rfl) ?_
    repeat (go_big_quiet_step (first | (with_reducible exact C1.out _ _)))
    refine wpQuiet_nil ?_
    intro _ hw'
    obtain ⟨⟨dq, osq⟩, hw''⟩ := hw'
    subst hw''
    go_wp2_with fail
    go_ret
    exact ⟨by first | rfl | exact ret_bool HR.out, H0.out.trans ((below_regrown W1 dq osq).mono H0.out.size)⟩)

set_option maxHeartbeats 8000000 in
set_option maxRecDepth 100000 in
theorem fitsP_any (x : Pr) (w : World) (h : PrOk w x) :
    Calls Tryd.prog 27 #[.agg #[.pointer (some ⟨x.b, x.o, none⟩), .pointer (some ⟨x.c, x.q, none⟩)]] w fun r w' => r = .returned (.bool (fitP x.t x.u)) ∧ Below w.heap.size w w' := by
  obtain ⟨R, hR⟩ : ∃ R, fitP x.t x.u = R := ⟨_, rfl⟩
  rw [hR]
  obtain ⟨b, o, t, c, q, u⟩ := x
  obtain ⟨h1, h2, hs1, hs2⟩ := h
  dsimp only at *
  unfold fitP at hR
  obtain ⟨k, m, g, lv, ls, kv, kids⟩ := t
  obtain ⟨k', m', g', lv', ls', kv', kids'⟩ := u
  have i1 := h1.2
  have i2 := h2.2
  rw [ETy.In] at i1 i2
  obtain ⟨p1, d1, _, rfl⟩ := lies_slice i1.2.2.1
  obtain ⟨p2, d2, _, rfl⟩ := lies_slice i2.2.2.1
  have B0 : Below w.heap.size w (w.alloc (.cells #[.pointer (some ⟨b, o, none⟩), .pointer (some ⟨c, q, none⟩)] 59 (0, 0))) := (Below.refl _ _).alloc (Nat.le_refl _) _
  have X0 : BoxAt (w.alloc (.cells #[.pointer (some ⟨b, o, none⟩), .pointer (some ⟨c, q, none⟩)] 59 (0, 0))) w.heap.size [.pointer (some ⟨b, o, none⟩), .pointer (some ⟨c, q, none⟩)] := BoxAt.new w _ _
  have z0 := X0 0 (.pointer (some ⟨b, o, none⟩)) rfl
  have z1 := X0 1 (.pointer (some ⟨c, q, none⟩)) rfl
  have y0 := later B0 (h1.1 0 (.int .i64 k) rfl)
  have y1 := later B0 (h1.1 1 (.bool m) rfl)
  have y4 := later B0 (h1.1 4 (.slice p1 kids.length d1) rfl)
  have v0 := later B0 (h2.1 0 (.int .i64 k') rfl)
  have v1 := later B0 (h2.1 1 (.bool m') rfl)
  have v4 := later B0 (h2.1 4 (.slice p2 kids'.length d2) rfl)
  rw [Nat.add_zero] at y0 v0
  have HR : Hid ((k == k' && m == m' && kids.length == kids'.length) = R) := hid hR
  have H0 := hid B0
  clear hR h1 h2 hs1 hs2 i1 i2 X0 B0
  generalize kids.length = N at *
  generalize kids'.length = M at *
  go_enter Tryd.func27, Tryd.ntmps27
  go_wp2_with fail
  generalize World.alloc w _ = W1 at *
  by_cases hk : k = k'
  · subst hk
    by_cases hm : m = m'
    · subst hm
      have HN : Hid ((N == M) = R) := hid (by rw [← HR.out]; simp)
      clear HR
      go_wp2_with fail
      go_quiet (fail)
      go_wp2_with fail
      go_ret
      refine ⟨ret_bool (HN.out ▸ ?_), below_drewN H0.out _⟩
      first | rfl | (rw [Bool.eq_iff_iff]; simp; omega)
    · have HN : Hid (false = R) := hid (by rw [← HR.out]; simp [hm])
      have hne : (m == m') = false := by simp [hm]
      clear HR hm
      go_wp2_with fail
      go_quiet (fail)
      go_wp2_with fail
      go_ret
      exact ⟨ret_bool HN.out, below_drewN H0.out _⟩
  · have HN : Hid (false = R) := hid (by rw [← HR.out]; simp [hk])
    have hne : (k == k') = false := by simp [hk]
    clear HR hk
    go_wp2_with fail
    go_quiet (fail)
    go_wp2_with fail
    go_ret
    exact ⟨ret_bool HN.out, below_drewN H0.out _⟩
end Go.Proofs.YtannfhbocfghkaaDoor.EnvC
/- env.merge at loans, by env.Cmp: two rising lists as one. -/
namespace Go.Proofs.YtannfhbocfghkaaDoor.EnvC
open Go Go.RowKit Go.Shelf Go.Lib Go.Sort Go.Proofs.YtannfhbocfghkaaDoor.EnvP

/-- two lists as one, so long as none of both is at its end -/
def mergeL : List Ln → List Ln → List Ln
  | [], m => m
  | a :: l, [] => a :: l
  | a :: l, b :: m => if cmpLn a b < 0 then a :: mergeL l (b :: m) else if cmpLn a b = 0 then a :: mergeL l m else b :: mergeL (a :: l) m
termination_by l m => l.length + m.length

def LnsIn (w : World) (l : List Ln) : Prop := ∀ x ∈ l, x.pl.In w ∧ x.pl.steps.length ≤ 1048576
theorem merge_end {l m : List Ln} (h : l = [] ∨ m = []) : mergeL l m = l ++ m := by
  rcases h with rfl | rfl
  · cases m <;> simp [mergeL]
  · cases l <;> simp [mergeL]
theorem merge_len : ∀ l m : List Ln, (mergeL l m).length ≤ l.length + m.length
  | [], m => by cases m <;> simp [mergeL]
  | a :: l, [] => by simp [mergeL]
  | a :: l, b :: m => by
    rw [mergeL]
    have h1 := merge_len l (b :: m)
    have h2 := merge_len l m
    have h3 := merge_len (a :: l) m
    split
    · simp only [List.length_cons] at *; omega
    · split
      · simp only [List.length_cons] at *; omega
      · simp only [List.length_cons] at *; omega
termination_by l m => l.length + m.length
theorem ln_len (l : List Ln) : ∀ c ∈ l.map Ln.cells, c.length = 4 := by
  intro c hc; obtain ⟨x, _, rfl⟩ := List.mem_map.1 hc; rfl
theorem lns_ones {w : World} {l : List Ln} (h : LnsIn w l) : ∀ c ∈ l.map Ln.cells, ∀ u ∈ c, u.oneCell' = true := by
  intro c hc u hu
  obtain ⟨x, hx, rfl⟩ := List.mem_map.1 hc
  have := ln_ones (h x hx).1
  unfold Ones at this
  exact (Array.all_eq_true_iff_forall_mem.1 this) u (by simpa using hu)
theorem lnsIn_keep {w w' : World} (k : Keeps w w') {l : List Ln} (h : LnsIn w l) : LnsIn w' l := fun x hx => ⟨(h x hx).1.keep k, (h x hx).2⟩
theorem lnsIn_tail {w : World} {a : Ln} {l : List Ln} (h : LnsIn w (a :: l)) : LnsIn w l := fun x hx => h x (List.mem_cons_of_mem _ hx)

theorem ln_fold (l : Ln) : List.foldl (fun (cs : Array Value) (x : Value × Nat) => cs.setIfInBounds x.snd x.fst) #[.string ⟨#[]⟩, .string ⟨#[]⟩, .slice none 0 0, .bool false] l.cells.zipIdx = l.cells.toArray := rfl
/-- the slice from its second element on: where nothing is behind, its address stays -/
theorem lies_tail {w : World} {b q k : Nat} {x0 : Ln} {xr : List Ln} (h : Lies w 4 (.slice (some ⟨b, q, none⟩) (x0 :: xr).length k) ((x0 :: xr).map Ln.cells)) :
    (k = 1 → Lies w 4 (.slice (some ⟨b, q, none⟩) xr.length 0) (xr.map Ln.cells)) ∧ (¬ k = 1 → Lies w 4 (.slice (some ⟨b, q + 4, none⟩) xr.length (k - 1)) (xr.map Ln.cells)) := by
  obtain ⟨b', off, c, e, hc, hx⟩ := Lies.at h (i := 0) (by simp)
  injection e with e1 _ e3
  injection e1 with e1
  injection e1 with e1 e2 _
  subst e1 e2 e3
  rw [List.length_map, List.length_cons] at hc
  constructor
  · intro hk
    have hn : xr = [] := by cases xr with | nil => rfl | cons a l => simp at hc; omega
    subst hn
    exact ⟨_, 0, rfl, by simp, fun hne => absurd rfl hne⟩
  · intro hk
    refine ⟨_, _, by rw [List.length_map], by rw [List.length_map]; omega, fun _ => ⟨_, _, rfl, fun i d hi j u hj => ?_⟩⟩
    have := hx (i + 1) d (by simpa using hi) j u hj
    rw [show q + 4 + i * 4 + j = q + (i + 1) * 4 + j by omega]
    exact this
theorem snoc_cells (o : List Ln) (x : Ln) : ((o ++ [x]).map Ln.cells).flatten = (o.map Ln.cells).flatten ++ x.cells := by simp
theorem lnsIn_snoc {w : World} {o : List Ln} {x : Ln} (h : LnsIn w o) (hx : x.pl.In w ∧ x.pl.steps.length ≤ 1048576) : LnsIn w (o ++ [x]) := by
  intro y hy
  rcases List.mem_append.1 hy with hy | hy
  · exact h y hy
  · obtain rfl := List.mem_singleton.1 hy
    exact hx
theorem own_slice {w : World} {b : Nat} {e : TypeId} {size n : Nat} {v : Value} {xs : List Value} (h : w.ownsRow b e size v n xs) : ∃ p c, v = .slice p n c := by
  obtain ⟨_, ⟨rfl, rfl⟩ | ⟨g, cap, cur, rfl, _⟩⟩ := h
  · exact ⟨_, _, rfl⟩
  · exact ⟨_, _, rfl⟩
/-- behind the loop: what was laid, and the rest of either list -/
theorem merge_done {x y o R : List Ln} {vo va vb : Value} {w wr : World} (hx : Lies w 4 va (x.map Ln.cells)) (hy : Lies w 4 vb (y.map Ln.cells)) (ix : LnsIn w x) (iy : LnsIn w y) (io : LnsIn w o)
    (ho : wr.ownsRow w.heap.size 44 4 vo o.length (o.map Ln.cells).flatten) (hw : Below w.heap.size w wr) (hR : o ++ (x ++ y) = R) (hn : o.length + x.length + y.length ≤ 2097152) :
    Calls Tryd.prog 62 #[.slice (some ⟨wr.heap.size, 0, none⟩) 3 3] (wr.alloc (.cells #[vo, va, vb] 28)) fun e w' => ∃ v', e = .returned v' ∧
      w'.ownsRow w.heap.size 44 4 v' R.length (R.map Ln.cells).flatten ∧ Below w.heap.size w w' := by
  have k1 : Keeps w (wr.alloc (.cells #[vo, va, vb] 28)) := (Keeps.of_below hw).trans (Keeps.alloc _ _)
  have h0 : Lies wr 4 vo (o.map Ln.cells) := own_lies (ln_len o) (by rw [List.length_map]; exact ho)
  have cc : ∀ (j : Nat) (u : Value), [vo, va, vb][j]? = some u → (wr.alloc (.cells #[vo, va, vb] 28)).cell? ⟨wr.heap.size, j, none⟩ = some u := fun j u h => box_cell wr [vo, va, vb] _ j u h
  refine (concat_3 wr.heap.size vo va vb _ _ _ _ (h0.keep (Keeps.alloc _ _)) (hx.keep k1) (hy.keep k1) (ln_len o) (ln_len x) (ln_len y) (lns_ones io) (lns_ones ix) (lns_ones iy) (by simp only [List.length_map]; omega) (cc 0 _ rfl) (cc 1 _ rfl) (cc 2 _ rfl)).mono ?_
  rintro e w' ⟨v', rfl, h1, h2⟩
  refine ⟨v', rfl, ?_, ?_⟩
  · subst hR
    have h3 := own_lower h1 (b := w.heap.size) (by have := hw.size; simp; omega)
    simp only [List.length_map, List.map_append, List.flatten_append, List.length_append, List.append_assoc, Nat.add_assoc] at h3 ⊢
    exact h3
  · exact (hw.alloc hw.size _).trans (h2.mono (by rw [World.size_alloc]; have := hw.size; omega))
set_option maxHeartbeats 8000000 in
set_option maxRecDepth 100000 in
theorem merge_any (a b : List Ln) (va vb : Value) (w : World) (ha : Lies w 4 va (a.map Ln.cells)) (hb : Lies w 4 vb (b.map Ln.cells)) (ia : LnsIn w a) (ib : LnsIn w b) (la : a.length ≤ 1048576) (lb : b.length ≤ 1048576) :
    Calls Tryd.prog 46 #[va, vb, .func (.func 47) #[] #[]] w fun e w' => ∃ v', e = .returned v' ∧
      w'.ownsRow w.heap.size 44 4 v' (mergeL a b).length ((mergeL a b).map Ln.cells).flatten ∧ Below w.heap.size w w' := by
  obtain ⟨R, hR⟩ : ∃ R, mergeL a b = R := ⟨_, rfl⟩
  rw [hR]
  obtain ⟨pa, ka, _, ea⟩ := lies_slice ha
  obtain ⟨pb, kb, _, eb⟩ := lies_slice hb
  subst ea eb
  have HA := hid ha
  have HB := hid hb
  have IA := hid ia
  have IB := hid ib
  have HR := hid hR
  obtain ⟨n, hn⟩ : ∃ n, a.length + b.length = n := ⟨_, rfl⟩
  have HN := hid hn
  have hn2 : n ≤ 2097152 := by omega
  clear ha hb ia ib hR hn la lb
  obtain ⟨i0, hi, hz0, hz1, hz2⟩ := info_parts ln_info
  have eg : ∀ (args : Array Value) (w : World), (callFunc 47 args).run Tryd.prog w = .ok (.enter 47 args) w := enters_of Tryd.func47 (by kernel_rfl) rfl
  go_enter Tryd.func46, Tryd.ntmps46
  go_wp2_with fail
  go_loopg [0, 1, 7] n (fun gf u v t wx => ∃ x y o : List Ln, ∃ pa ka pb kb, u = .slice pa x.length ka ∧ v = .slice pb y.length kb ∧ Hid (Lies w 4 (.slice pa x.length ka) (x.map Ln.cells)) ∧ Hid (Lies w 4 (.slice pb y.length kb) (y.map Ln.cells)) ∧ Hid (LnsIn w x) ∧ Hid (LnsIn w y) ∧ Hid (LnsIn w o) ∧ Hid (wx.ownsRow w.heap.size 44 4 t o.length (o.map Ln.cells).flatten) ∧ Hid (Below w.heap.size w wx) ∧ Hid (o ++ mergeL x y = R) ∧ Hid (x.length + y.length ≤ gf ∧ o.length + x.length + y.length ≤ n))
  case atStart => exact ⟨a, b, [], pa, ka, pb, kb, rfl, rfl, HA, HB, IA, IB, hid (fun x hx => by cases hx), hid (World.ownsRow_nil _ _ _ _), hid (Below.refl _ _), hid (by rw [List.nil_append]; exact HR.out), hid (by have := HN.out; simp; omega)⟩
  case round =>
    obtain ⟨x, y, o, pa, ka, pb, kb, rfl, rfl, HX, HY, IX, IY, IO, HO, HW, HM, HG⟩ := hrel
    clear HA HB IA IB HR HN
    have hg := HG.out
    obtain ⟨po, ko, rfl⟩ := own_slice HO.out
    by_cases hxy : x = [] ∨ y = []
    · have D := hid (merge_done (R := R) HX.out HY.out IX.out IY.out IO.out HO.out HW.out (by rw [← merge_end hxy]; exact HM.out) (by omega))
      have hd : x.length = 0 ∨ y.length = 0 := by rcases hxy with rfl | rfl <;> simp
      clear hxy HX HY IX IY IO HO HM HG hg
      generalize x.length = nx at *
      generalize y.length = ny at *
      generalize o.length = no at *
      by_cases h0 : nx = 0
      · subst h0
        clear hd
        go_wp2_with fail
        refine D.out.mono ?_
        rintro e w' ⟨v', rfl, h1, h2⟩
        go_wp2_with fail
        go_ret
        exact ⟨_, rfl, h1, h2⟩
      · obtain rfl : ny = 0 := by omega
        have h1 : decide (0 < nx) = true := by simp; omega
        clear hd
        go_wp2_with fail
        refine D.out.mono ?_
        rintro e w' ⟨v', rfl, h1, h2⟩
        go_wp2_with fail
        go_ret
        exact ⟨_, rfl, h1, h2⟩
    · obtain ⟨x0, xr, rfl⟩ : ∃ x0 xr, x = x0 :: xr := by cases x with | nil => simp at hxy | cons a l => exact ⟨a, l, rfl⟩
      obtain ⟨y0, yr, rfl⟩ : ∃ y0 yr, y = y0 :: yr := by cases y with | nil => simp at hxy | cons a l => exact ⟨a, l, rfl⟩
      obtain ⟨b1, q1, k1, e1, kc1, hx1⟩ := Lies.at HX.out (i := 0) (by simp)
      obtain ⟨b2, q2, k2, e2, kc2, hx2⟩ := Lies.at HY.out (i := 0) (by simp)
      injection e1 with e1 e5 e3
      injection e2 with e2 e6 e4
      subst e1 e2 e3 e4
      clear e5 e6
      have hbw := HW.out
      have hxx : ∀ (a : Nat) (u : Value), x0.cells[a]? = some u → wr.cell? ⟨b1, q1 + a, none⟩ = some u := fun a u hu => Keeps.of_below hbw _ _ _ (by have := hx1 0 x0.cells rfl a u hu; simpa using this)
      have hyy : ∀ (a : Nat) (u : Value), y0.cells[a]? = some u → wr.cell? ⟨b2, q2 + a, none⟩ = some u := fun a u hu => Keeps.of_below hbw _ _ _ (by have := hx2 0 y0.cells rfl a u hu; simpa using this)
      have jx := IX.out x0 (by simp)
      have jy := IY.out y0 (by simp)
      have C1 := hid (cmp_reg x0 y0 (Below.refl wr.heap.size wr) (jx.1.keep (Keeps.of_below hbw)) (jy.1.keep (Keeps.of_below hbw)) jx.2 jy.2)
      have KX := hid (reg_cells hxx)
      have KY := hid (reg_cells hyy)
      have lx : x0.cells.length = 4 := rfl
      have ly : y0.cells.length = 4 := rfl
      have FX := ln_fold x0
      have FY := ln_fold y0
      have ZX := hid (lnSize x0)
      have ZY := hid (lnSize y0)
      have hm := HM.out
      rw [mergeL] at hm
      have HM2 := hid hm
      rw [List.length_map] at kc1 kc2
      simp only [List.length_cons] at hg kc1 kc2 ⊢
      have jo1 := ln_ones jx.1
      have jo2 := ln_ones jy.1
      unfold Ones at jo1 jo2
      have O1 := hid jo1
      have O2 := hid jo2
      clear hxx hyy hx1 hx2 hm HM hxy jx jy jo1 jo2 hbw
      obtain ⟨cm, hcm⟩ : ∃ cm, cmpLn x0 y0 = cm := ⟨_, rfl⟩
      rw [hcm] at HM2 C1
      clear hcm
      obtain ⟨xcs, hxcs⟩ : ∃ xcs, x0.cells = xcs := ⟨_, rfl⟩
      obtain ⟨ycs, hycs⟩ : ∃ ycs, y0.cells = ycs := ⟨_, rfl⟩
      rw [hxcs] at C1 KX ZX O1 FX lx
      rw [hycs] at C1 KY ZY O2 FY ly
      have HXC := hid hxcs
      have HYC := hid hycs
      clear hxcs hycs
      obtain ⟨nx, hnx⟩ : ∃ nx, xr.length = nx := ⟨_, rfl⟩
      obtain ⟨ny, hny⟩ : ∃ ny, yr.length = ny := ⟨_, rfl⟩
      rw [hnx] at hg kc1 ⊢
      rw [hny] at hg kc2 ⊢
      have NX := hid hnx
      have NY := hid hny
      clear hnx hny
      have i1 : decide (0 < nx + 1) = true := by simp
      have i2 : decide (0 < ny + 1) = true := by simp
      go_wp2_with fail
      refine wp_region_quiet_below (by kernel_rfl) (by kernel_rfl) ?_
      repeat (first | ((with_reducible refine wpQuiet_load_at (o := ⟨some 20, _, _, _, _, _⟩) rfl _ _ rfl b1 q1 rfl xcs _ KX.out Tryd.underlying44 rfl ZX.out ?_); simp only [Act.put, List.setIfInBounds_toArray, List.set_cons_zero, List.set_cons_succ]) | ((with_reducible refine wpQuiet_load_at (o := ⟨some 23, _, _, _, _, _⟩) rfl _ _ rfl b2 q2 rfl ycs _ KY.out Tryd.underlying44 rfl ZY.out ?_); simp only [Act.put, List.setIfInBounds_toArray, List.set_cons_zero, List.set_cons_succ]) | go_big_quiet_step (first | (with_reducible exact C1.out _ _)))
      refine wpQuiet_nil ?_
      intro _ hw'
      obtain ⟨⟨dq, osq⟩, hw''⟩ := hw'
      subst hw''
      have B2 := hid (HW.out.trans ((below_regrown wr dq osq).mono HW.out.size))
      have LX := hid (KX.out _ ⟨⟨dq, osq⟩, rfl⟩)
      have LY := hid (KY.out _ ⟨⟨dq, osq⟩, rfl⟩)
      have O3 := hid (own_below HO.out (below_regrown wr dq osq))
      clear C1 KX KY HO HW
      generalize hW2 : grow (redrawn wr dq) osq = W2
      rw [hW2] at B2 LX LY O3
      clear hW2
      have TX := hid (lies_tail HX.out)
      have TY := hid (lies_tail HY.out)
      have JX := hid (IX.out x0 (by simp))
      have JY := hid (IY.out y0 (by simp))
      by_cases m0 : cm < 0
      · have d1 : cm ≤ 0 := by omega
        have d2 : ¬ 0 ≤ cm := by omega
        have HM3 := HM2.out
        rw [if_pos m0] at HM3
        replace HM3 := hid HM3
        have KA : Hid (∀ (j : Nat) (u : Value), xcs[j]? = some u → (W2.alloc (.cells xcs.toArray 44)).cell? ((⟨W2.heap.size, 0, none⟩ : Addr).add j) = some u) := hid fun j u h => by rw [Addr.add_lit, Nat.zero_add]; exact box_cell W2 xcs _ j u h
        have O4 := hid (own_below O3.out ((Below.refl W2.heap.size W2).alloc (Nat.le_refl _) (.cells xcs.toArray 44)))
        have B4 := hid (B2.out.alloc B2.out.size (.cells xcs.toArray 44))
        have OX : Hid (∀ u ∈ xcs, u.oneCell' = true) := hid fun u hu => (Array.all_eq_true_iff_forall_mem.1 O1.out) u (by simpa using hu)
        go_wp2_with (first | (with_reducible refine wpList_load_at (o := ⟨some 30, _, _, _, _, _⟩) rfl _ _ rfl b1 q1 rfl xcs _ LX.out Tryd.underlying44 rfl ZX.out ?_) | (at_builtin; go_loud (refine wpList_append_own _ rfl _ _ 28 rfl w.heap.size 44 i0 _ 4 64 Tryd.underlying28 hi hz0 hz1 hz2 rfl (by decide) _ _ _ rfl O4.out ⟨W2.heap.size, 0, none⟩ 1 1 xcs rfl (by rw [lx]) KA.out OX.out (by unfold maxLen; omega) (by omega) B4.out.size ?_); intro v' W5 own gr hnil; clear hnil; have B5 := hid (own_kept O4.out gr B4.out); have O5 := hid own; clear gr own B4 O4))
        all_goals
          go_roundg (gk - 1)
          case measure => omega
          case rel =>
            refine ⟨xr, y0 :: yr, o ++ [x0], _, _, _, _, by rw [NX.out], by rw [List.length_cons, NY.out], hid (by first | exact TX.out.1 (by assumption) | exact TX.out.2 (by assumption)), HY, hid (lnsIn_tail IX.out), IY, hid (lnsIn_snoc IO.out JX.out), hid ?_, B5, hid (by rw [← HM3.out, List.append_assoc]; rfl), hid ?_⟩
            · rw [snoc_cells, HXC.out, List.length_append]; exact O5.out
            · have := NX.out; have := NY.out; simp only [List.length_cons, List.length_append, List.length_nil]; omega
      · by_cases m1 : cm = 0
        · have d1 : cm ≤ 0 := by omega
          have d2 : 0 ≤ cm := by omega
          have HM3 := HM2.out
          rw [if_neg m0, if_pos m1] at HM3
          replace HM3 := hid HM3
          have KA : Hid (∀ (j : Nat) (u : Value), xcs[j]? = some u → (W2.alloc (.cells xcs.toArray 44)).cell? ((⟨W2.heap.size, 0, none⟩ : Addr).add j) = some u) := hid fun j u h => by rw [Addr.add_lit, Nat.zero_add]; exact box_cell W2 xcs _ j u h
          have O4 := hid (own_below O3.out ((Below.refl W2.heap.size W2).alloc (Nat.le_refl _) (.cells xcs.toArray 44)))
          have B4 := hid (B2.out.alloc B2.out.size (.cells xcs.toArray 44))
          have OX : Hid (∀ u ∈ xcs, u.oneCell' = true) := hid fun u hu => (Array.all_eq_true_iff_forall_mem.1 O1.out) u (by simpa using hu)
          go_wp2_with (first | (with_reducible refine wpList_load_at (o := ⟨some 30, _, _, _, _, _⟩) rfl _ _ rfl b1 q1 rfl xcs _ LX.out Tryd.underlying44 rfl ZX.out ?_) | (at_builtin; go_loud (refine wpList_append_own _ rfl _ _ 28 rfl w.heap.size 44 i0 _ 4 64 Tryd.underlying28 hi hz0 hz1 hz2 rfl (by decide) _ _ _ rfl O4.out ⟨W2.heap.size, 0, none⟩ 1 1 xcs rfl (by rw [lx]) KA.out OX.out (by unfold maxLen; omega) (by omega) B4.out.size ?_); intro v' W5 own gr hnil; clear hnil; have B5 := hid (own_kept O4.out gr B4.out); have O5 := hid own; clear gr own B4 O4))
          all_goals
            go_roundg (gk - 1)
            case measure => omega
            case rel =>
              refine ⟨xr, yr, o ++ [x0], _, _, _, _, by rw [NX.out], by rw [NY.out], hid (by first | exact TX.out.1 (by assumption) | exact TX.out.2 (by assumption)), hid (by first | exact TY.out.1 (by assumption) | exact TY.out.2 (by assumption)), hid (lnsIn_tail IX.out), hid (lnsIn_tail IY.out), hid (lnsIn_snoc IO.out JX.out), hid ?_, B5, hid (by rw [← HM3.out, List.append_assoc]; rfl), hid ?_⟩
              · rw [snoc_cells, HXC.out, List.length_append]; exact O5.out
              · have := NX.out; have := NY.out; simp only [List.length_cons, List.length_append, List.length_nil]; omega
        · have d1 : ¬ cm ≤ 0 := by omega
          have d2 : 0 ≤ cm := by omega
          have HM3 := HM2.out
          rw [if_neg m0, if_neg m1] at HM3
          replace HM3 := hid HM3
          have KA : Hid (∀ (j : Nat) (u : Value), ycs[j]? = some u → (W2.alloc (.cells ycs.toArray 44)).cell? ((⟨W2.heap.size, 0, none⟩ : Addr).add j) = some u) := hid fun j u h => by rw [Addr.add_lit, Nat.zero_add]; exact box_cell W2 ycs _ j u h
          have O4 := hid (own_below O3.out ((Below.refl W2.heap.size W2).alloc (Nat.le_refl _) (.cells ycs.toArray 44)))
          have B4 := hid (B2.out.alloc B2.out.size (.cells ycs.toArray 44))
          have OX : Hid (∀ u ∈ ycs, u.oneCell' = true) := hid fun u hu => (Array.all_eq_true_iff_forall_mem.1 O2.out) u (by simpa using hu)
          go_wp2_with (first | (with_reducible refine wpList_load_at (o := ⟨some 38, _, _, _, _, _⟩) rfl _ _ rfl b2 q2 rfl ycs _ LY.out Tryd.underlying44 rfl ZY.out ?_) | (at_builtin; go_loud (refine wpList_append_own _ rfl _ _ 28 rfl w.heap.size 44 i0 _ 4 64 Tryd.underlying28 hi hz0 hz1 hz2 rfl (by decide) _ _ _ rfl O4.out ⟨W2.heap.size, 0, none⟩ 1 1 ycs rfl (by rw [ly]) KA.out OX.out (by unfold maxLen; omega) (by omega) B4.out.size ?_); intro v' W5 own gr hnil; clear hnil; have B5 := hid (own_kept O4.out gr B4.out); have O5 := hid own; clear gr own B4 O4))
          all_goals
            go_roundg (gk - 1)
            case measure => omega
            case rel =>
              refine ⟨x0 :: xr, yr, o ++ [y0], _, _, _, _, by rw [List.length_cons, NX.out], by rw [NY.out], HX, hid (by first | exact TY.out.1 (by assumption) | exact TY.out.2 (by assumption)), IX, hid (lnsIn_tail IY.out), hid (lnsIn_snoc IO.out JY.out), hid ?_, B5, hid (by rw [← HM3.out, List.append_assoc]; rfl), hid ?_⟩
              · rw [snoc_cells, HYC.out, List.length_append]; exact O5.out
              · have := NX.out; have := NY.out; simp only [List.length_cons, List.length_append, List.length_nil]; omega
end Go.Proofs.YtannfhbocfghkaaDoor.EnvC
/- Merged lists of loans: they rise, and have what either list has. -/
namespace Go.Proofs.YtannfhbocfghkaaDoor.EnvC
open Go Go.RowKit Go.Shelf Go.Lib Go.Sort Go.Proofs.YtannfhbocfghkaaDoor.EnvP

theorem same_of_zero {a b : Ln} (h : cmpLn a b = 0) (x : Ln) : sameLn a x = sameLn b x := by
  have h1 := good_cmpLn.congr a b x h
  rw [Bool.eq_iff_iff, ← good_cmpLn.zero a x, ← good_cmpLn.zero b x, h1]
theorem has_cons (a : Ln) (l : List Ln) (x : Ln) : has (a :: l) x = (sameLn a x || has l x) := by unfold has; rw [List.any_cons]
theorem has_nil (x : Ln) : has [] x = false := rfl
theorem has_merge (x : Ln) : ∀ l m : List Ln, has (mergeL l m) x = (has l x || has m x)
  | [], m => by rw [merge_end (.inl rfl), List.nil_append, has_nil, Bool.false_or]
  | a :: l, [] => by rw [merge_end (.inr rfl), List.append_nil, has_nil, Bool.or_false]
  | a :: l, b :: m => by
    rw [mergeL]
    split
    · rw [has_cons, has_merge x l (b :: m), has_cons a, Bool.or_assoc]
    · split
      · rename_i h
        rw [has_cons, has_merge x l m, has_cons a, has_cons b, ← same_of_zero h x]
        cases sameLn a x <;> simp
      · rw [has_cons, has_merge x (a :: l) m, has_cons b]
        cases sameLn b x <;> simp
termination_by l m => l.length + m.length

/-- before what a list begins with -/
def headOk (z : Ln) : List Ln → Prop
  | [] => True
  | y :: _ => before z y = true
theorem rising_cons (z : Ln) (l : List Ln) : rising (z :: l) = true ↔ headOk z l ∧ rising l = true := by
  cases l with
  | nil => simp [rising, headOk]
  | cons y r => rw [rising, Bool.and_eq_true]; rfl
theorem merge_head {z : Ln} {l m : List Ln} (h1 : headOk z l) (h2 : headOk z m) : headOk z (mergeL l m) := by
  cases l with
  | nil => rw [merge_end (.inl rfl)]; exact h2
  | cons a l =>
    cases m with
    | nil => rw [merge_end (.inr rfl), List.append_nil]; exact h1
    | cons b m =>
      rw [mergeL]
      split
      · exact h1
      · split
        · exact h1
        · exact h2
theorem head_zero {a b : Ln} (h : cmpLn a b = 0) {m : List Ln} (k : headOk b m) : headOk a m := by
  cases m with
  | nil => trivial
  | cons y r =>
    have h1 := good_cmpLn.congr a b y h
    have k2 : before b y = true := k
    show before a y = true
    unfold before at *
    rw [h1]; exact k2
theorem rising_merge : ∀ l m : List Ln, rising l = true → rising m = true → rising (mergeL l m) = true
  | [], m, _, h2 => by rw [merge_end (.inl rfl)]; exact h2
  | a :: l, [], h1, _ => by rw [merge_end (.inr rfl), List.append_nil]; exact h1
  | a :: l, b :: m, h1, h2 => by
    have k1 := (rising_cons a l).1 h1
    have k2 := (rising_cons b m).1 h2
    rw [mergeL]
    split
    · rename_i h
      exact (rising_cons _ _).2 ⟨merge_head k1.1 (show before a b = true by rw [before_iff]; simpa using h), rising_merge l (b :: m) k1.2 h2⟩
    · split
      · rename_i h
        exact (rising_cons _ _).2 ⟨merge_head k1.1 (head_zero h k2.1), rising_merge l m k1.2 k2.2⟩
      · rename_i h h'
        have h3 := good_cmpLn.anti a b
        exact (rising_cons _ _).2 ⟨merge_head (show before b a = true by rw [before_iff, h3]; simp; omega) k2.1, rising_merge (a :: l) m h1 k2.2⟩
termination_by l m => l.length + m.length
end Go.Proofs.YtannfhbocfghkaaDoor.EnvC
/- The join of types, as a relation: both are at most it, it is the least, what is hit in it is hit in one of both. -/
namespace Go.Proofs.YtannfhbocfghkaaDoor.EnvC
open Go Go.RowKit Go.Shelf Go.Lib Go.Sort Go.Proofs.YtannfhbocfghkaaDoor.EnvP

/-- a question to a loan that asks alike ones alike -/
def Fair (f : Ln → Bool) : Prop := ∀ a b, sameLn a b = true → f a = f b
theorem same_zero {a b : Ln} : sameLn a b = true ↔ cmpLn a b = 0 := (good_cmpLn.zero a b).symm
theorem any_merge {f : Ln → Bool} (hf : Fair f) : ∀ l m : List Ln, (mergeL l m).any f = (l.any f || m.any f)
  | [], m => by rw [merge_end (.inl rfl), List.nil_append, List.any_nil, Bool.false_or]
  | a :: l, [] => by rw [merge_end (.inr rfl), List.append_nil, List.any_nil, Bool.or_false]
  | a :: l, b :: m => by
    rw [mergeL]
    split
    · rw [List.any_cons, any_merge hf l (b :: m), List.any_cons (l := l), Bool.or_assoc]
    · split
      · rename_i h
        rw [List.any_cons, any_merge hf l m, List.any_cons, List.any_cons, ← hf a b (same_zero.2 h)]
        cases f a <;> simp
      · rw [List.any_cons, any_merge hf (a :: l) m, List.any_cons (l := m)]
        cases f b <;> simp
termination_by l m => l.length + m.length
/-- two lists of loans, alike one by one -/
def alikes : List Ln → List Ln → Bool
  | a :: l, b :: m => sameLn a b && alikes l m
  | [], [] => true
  | _, _ => false
theorem any_alikes {f : Ln → Bool} (hf : Fair f) : ∀ {l m : List Ln}, alikes l m = true → l.any f = m.any f
  | [], [], _ => rfl
  | a :: l, b :: m, h => by
    rw [alikes, Bool.and_eq_true] at h
    rw [List.any_cons, List.any_cons, hf a b h.1, any_alikes hf h.2]
  | [], b :: m, h => by cases h
  | a :: l, [], h => by cases h
theorem sameLn_refl (a : Ln) : sameLn a a = true := by unfold sameLn; simp
theorem sameLn_symm {a b : Ln} (h : sameLn a b = true) : sameLn b a = true := by
  have h1 := good_cmpLn.anti a b
  rw [same_zero] at h ⊢
  rw [h1, h]; rfl
theorem fair_has (x : Ln) : Fair fun y => sameLn y x := fun _a _b h => same_of_zero (same_zero.1 h) x
theorem has_of_mem {l : List Ln} {x : Ln} (h : x ∈ l) : has l x = true := by
  unfold has; rw [List.any_eq_true]; exact ⟨x, h, sameLn_refl x⟩
/-- alike loans are had alike -/
theorem has_alike {l : List Ln} {x y : Ln} (h : sameLn x y = true) : has l x = has l y := by
  unfold has
  induction l with
  | nil => rfl
  | cons z r ih =>
    rw [List.any_cons, List.any_cons, ih]
    have : sameLn z x = sameLn z y := by
      have e : ∀ a b : Ln, sameLn a b = sameLn b a := fun a b => by rw [Bool.eq_iff_iff]; exact ⟨sameLn_symm, sameLn_symm⟩
      rw [e z x, e z y]; exact same_of_zero (same_zero.1 h) z
    rw [this]
theorem fair_hit (p : Pl) (w : Bool) : Fair (hitLn p w) := by
  intro a b h
  unfold sameLn at h
  simp only [Bool.and_eq_true, beq_iff_eq] at h
  obtain ⟨⟨⟨h1, h2⟩, h3⟩, h4⟩ := h
  unfold hitLn overlap
  rw [h1, h2, h3, h4]

mutual
/-- the third is the join of the first two -/
def Joins : ETy → ETy → ETy → Prop
  | .mk k m g _ ls _ ks, .mk _ _ g' _ ls' _ ks', .mk k2 m2 g2 _ ls2 _ ks2 => k2 = k ∧ m2 = m ∧ g2 = (g || g') ∧ alikes ls2 (mergeL ls ls') = true ∧ JoinsL ks ks' ks2
def JoinsL : List ETy → List ETy → List ETy → Prop
  | t :: ts, u :: us, j :: js => Joins t u j ∧ JoinsL ts us js
  | [], [], [] => True
  | _, _, _ => False
end
theorem has_join {ls ls' ls2 : List Ln} (h : alikes ls2 (mergeL ls ls') = true) (x : Ln) : has ls2 x = (has ls x || has ls' x) := by
  unfold has
  rw [any_alikes (fair_has x) h, any_merge (fair_has x)]
mutual
theorem less_left : ∀ (t u j : ETy), Joins t u j → lessT t j = true
  | .mk k m g _ ls _ ks, .mk _ _ g' _ ls' _ ks', .mk k2 m2 g2 _ ls2 _ ks2, h => by
    rw [Joins] at h
    obtain ⟨_, _, rfl, h4, h5⟩ := h
    rw [lessT, less_lefts ks ks' ks2 h5, show ls.all (has ls2) = true from List.all_eq_true.2 fun x hx => by rw [has_join h4, has_of_mem hx]; rfl]
    cases g <;> simp
theorem less_lefts : ∀ (t u j : List ETy), JoinsL t u j → lessTs t j = true
  | [], [], [], _ => rfl
  | t :: ts, u :: us, j :: js, h => by
    rw [JoinsL] at h
    rw [lessTs, less_left t u j h.1, less_lefts ts us js h.2]; rfl
  | [], [], _ :: _, h => by simp [JoinsL] at h
  | [], _ :: _, _, h => by simp [JoinsL] at h
  | _ :: _, [], _, h => by simp [JoinsL] at h
  | _ :: _, _ :: _, [], h => by simp [JoinsL] at h
end
mutual
theorem less_right : ∀ (t u j : ETy), Joins t u j → lessT u j = true
  | .mk k m g _ ls _ ks, .mk _ _ g' _ ls' _ ks', .mk k2 m2 g2 _ ls2 _ ks2, h => by
    rw [Joins] at h
    obtain ⟨_, _, rfl, h4, h5⟩ := h
    rw [lessT, less_rights ks ks' ks2 h5, show ls'.all (has ls2) = true from List.all_eq_true.2 fun x hx => by rw [has_join h4, has_of_mem hx, Bool.or_true]]
    cases g <;> cases g' <;> rfl
theorem less_rights : ∀ (t u j : List ETy), JoinsL t u j → lessTs u j = true
  | [], [], [], _ => rfl
  | t :: ts, u :: us, j :: js, h => by
    rw [JoinsL] at h
    rw [lessTs, less_right t u j h.1, less_rights ts us js h.2]; rfl
  | [], [], _ :: _, h => by simp [JoinsL] at h
  | [], _ :: _, _, h => by simp [JoinsL] at h
  | _ :: _, [], _, h => by simp [JoinsL] at h
  | _ :: _, _ :: _, [], h => by simp [JoinsL] at h
end
theorem all_had {ls ls' ls2 lc : List Ln} (h : alikes ls2 (mergeL ls ls') = true) (h1 : ls.all (has lc) = true) (h2 : ls'.all (has lc) = true) : ls2.all (has lc) = true := by
  rw [List.all_eq_true] at h1 h2 ⊢
  intro x hx
  have h3 := has_of_mem hx
  rw [has_join h, Bool.or_eq_true] at h3
  rcases h3 with h3 | h3
  · unfold has at h3
    obtain ⟨y, hy, hs⟩ := List.any_eq_true.1 h3
    rw [← has_alike hs]; exact h1 y hy
  · unfold has at h3
    obtain ⟨y, hy, hs⟩ := List.any_eq_true.1 h3
    rw [← has_alike hs]; exact h2 y hy
mutual
theorem least_T : ∀ (t u j c : ETy), Joins t u j → lessT t c = true → lessT u c = true → lessT j c = true
  | .mk k m g _ ls _ ks, .mk _ _ g' _ ls' _ ks', .mk k2 m2 g2 _ ls2 _ ks2, .mk _ _ gc _ lc _ kc, h, h1, h2 => by
    rw [Joins] at h
    obtain ⟨_, _, rfl, h4, h5⟩ := h
    rw [lessT, Bool.and_eq_true, Bool.and_eq_true] at h1 h2
    rw [lessT, all_had h4 h1.1.1 h2.1.1, least_Ts ks ks' ks2 kc h5 h1.1.2 h2.1.2]
    have a1 := h1.2
    have a2 := h2.2
    cases g <;> cases g' <;> cases gc <;> simp_all
theorem least_Ts : ∀ (t u j c : List ETy), JoinsL t u j → lessTs t c = true → lessTs u c = true → lessTs j c = true
  | [], [], [], c, _, _, _ => by cases c <;> rfl
  | t :: ts, u :: us, j :: js, [], _, _, _ => rfl
  | t :: ts, u :: us, j :: js, c :: cs, h, h1, h2 => by
    rw [JoinsL] at h
    rw [lessTs, Bool.and_eq_true] at h1 h2
    rw [lessTs, least_T t u j c h.1 h1.1 h2.1, least_Ts ts us js cs h.2 h1.2 h2.2]; rfl
  | [], [], _ :: _, _, h, _, _ => by simp [JoinsL] at h
  | [], _ :: _, _, _, h, _, _ => by simp [JoinsL] at h
  | _ :: _, [], _, _, h, _, _ => by simp [JoinsL] at h
  | _ :: _, _ :: _, [], _, h, _, _ => by simp [JoinsL] at h
end
mutual
theorem hit_join (p : Pl) (w : Bool) : ∀ (t u j : ETy), Joins t u j → hitT p w j = (hitT p w t || hitT p w u)
  | .mk k m g _ ls _ ks, .mk _ _ g' _ ls' _ ks', .mk k2 m2 g2 _ ls2 _ ks2, h => by
    rw [Joins] at h
    obtain ⟨_, _, rfl, h4, h5⟩ := h
    rw [hitT, hitT, hitT, any_alikes (fair_hit p w) h4, any_merge (fair_hit p w), hit_joins p w ks ks' ks2 h5]
    cases ls.any (hitLn p w) <;> cases ls'.any (hitLn p w) <;> cases hitTs p w ks <;> simp
theorem hit_joins (p : Pl) (w : Bool) : ∀ (t u j : List ETy), JoinsL t u j → hitTs p w j = (hitTs p w t || hitTs p w u)
  | [], [], [], _ => rfl
  | t :: ts, u :: us, j :: js, h => by
    rw [JoinsL] at h
    rw [hitTs, hitTs, hitTs, hit_join p w t u j h.1, hit_joins p w ts us js h.2]
    cases hitT p w t <;> cases hitT p w u <;> cases hitTs p w ts <;> simp
  | [], [], _ :: _, h => by simp [JoinsL] at h
  | [], _ :: _, _, h => by simp [JoinsL] at h
  | _ :: _, [], _, h => by simp [JoinsL] at h
  | _ :: _, _ :: _, [], h => by simp [JoinsL] at h
end
mutual
/-- the join has the shape of the first -/
theorem fits_join : ∀ (t u j c : ETy), Joins t u j → fitsT j c = fitsT t c
  | .mk k m g _ ls _ ks, .mk _ _ g' _ ls' _ ks', .mk k2 m2 g2 _ ls2 _ ks2, .mk _ _ _ _ _ _ kc, h => by
    rw [Joins] at h
    obtain ⟨rfl, rfl, rfl, h4, h5⟩ := h
    rw [fitsT, fitsT, (fits_joins ks ks' ks2 kc h5).1, (fits_joins ks ks' ks2 kc h5).2]
theorem fits_joins : ∀ (t u j c : List ETy), JoinsL t u j → fitsTs j c = fitsTs t c ∧ j.length = t.length
  | [], [], [], c, _ => ⟨rfl, rfl⟩
  | t :: ts, u :: us, j :: js, [], h => by
    rw [JoinsL] at h
    exact ⟨rfl, by rw [List.length_cons, List.length_cons, (fits_joins ts us js [] h.2).2]⟩
  | t :: ts, u :: us, j :: js, c :: cs, h => by
    rw [JoinsL] at h
    exact ⟨by rw [fitsTs, fitsTs, fits_join t u j c h.1, (fits_joins ts us js cs h.2).1], by rw [List.length_cons, List.length_cons, (fits_joins ts us js cs h.2).2]⟩
  | [], [], _ :: _, _, h => by simp [JoinsL] at h
  | [], _ :: _, _, _, h => by simp [JoinsL] at h
  | _ :: _, [], _, _, h => by simp [JoinsL] at h
  | _ :: _, _ :: _, [], _, h => by simp [JoinsL] at h
end
end Go.Proofs.YtannfhbocfghkaaDoor.EnvC
/- The join of types, as a relation: it is right, and the same from either side. -/
namespace Go.Proofs.YtannfhbocfghkaaDoor.EnvC
open Go Go.RowKit Go.Shelf Go.Lib Go.Sort Go.Proofs.YtannfhbocfghkaaDoor.EnvP

theorem same_trans {a b c : Ln} (h : sameLn a b = true) (k : sameLn b c = true) : sameLn a c = true := by rw [same_of_zero (same_zero.1 h)]; exact k
theorem alikes_symm : ∀ {l m : List Ln}, alikes l m = true → alikes m l = true
  | [], [], _ => rfl
  | a :: l, b :: m, h => by
    rw [alikes, Bool.and_eq_true] at h ⊢
    exact ⟨sameLn_symm h.1, alikes_symm h.2⟩
  | [], b :: m, h => by cases h
  | a :: l, [], h => by cases h
theorem alikes_trans : ∀ {l m n : List Ln}, alikes l m = true → alikes m n = true → alikes l n = true
  | [], [], [], _, _ => rfl
  | a :: l, b :: m, c :: n, h, k => by
    rw [alikes, Bool.and_eq_true] at h k ⊢
    exact ⟨same_trans h.1 k.1, alikes_trans h.2 k.2⟩
  | [], b :: m, _, h, _ => by cases h
  | a :: l, [], _, h, _ => by cases h
  | [], [], _ :: _, _, k => by cases k
  | _ :: _, _ :: _, [], _, k => by cases k
theorem alikes_refl : ∀ l : List Ln, alikes l l = true
  | [] => rfl
  | a :: l => by rw [alikes, sameLn_refl, alikes_refl l]; rfl
theorem merge_comm : ∀ l m : List Ln, alikes (mergeL l m) (mergeL m l) = true
  | [], m => by rw [merge_end (.inl rfl), merge_end (.inr rfl), List.nil_append, List.append_nil]; exact alikes_refl m
  | a :: l, [] => by rw [merge_end (.inr rfl), merge_end (.inl rfl), List.nil_append, List.append_nil]; exact alikes_refl _
  | a :: l, b :: m => by
    have h := good_cmpLn.anti a b
    have h0 := good_cmpLn.rng a b
    rw [mergeL, mergeL, h]
    by_cases c1 : cmpLn a b < 0
    · rw [if_pos c1, if_neg (by omega), if_neg (by omega), alikes, sameLn_refl, merge_comm l (b :: m)]; rfl
    · by_cases c2 : cmpLn a b = 0
      · rw [if_neg c1, if_pos c2, if_neg (by omega), if_pos (by omega), alikes, same_zero.2 c2, merge_comm l m]; rfl
      · rw [if_neg c1, if_neg c2, if_pos (by omega), alikes, sameLn_refl, merge_comm (a :: l) m]; rfl
termination_by l m => l.length + m.length

mutual
/-- are two types alike? -/
def sameT : ETy → ETy → Bool | .mk k m g _ ls _ kids, .mk k' m' g' _ ls' _ kids' => k == k' && m == m' && g == g' && alikes ls ls' && sameTs kids kids'
def sameTs : List ETy → List ETy → Bool | [], [] => true | t :: ts, u :: us => sameT t u && sameTs ts us | _, _ => false
end
mutual
theorem join_comm : ∀ t u j i : ETy, fitsT t u = true → Joins t u j → Joins u t i → sameT j i = true
  | .mk k m g _ ls _ ks, .mk k' m' g' _ ls' _ ks', .mk k2 m2 g2 _ ls2 _ ks2, .mk k3 m3 g3 _ ls3 _ ks3, hf, h, h' => by
    rw [Joins] at h h'
    obtain ⟨rfl, rfl, rfl, h4, h5⟩ := h
    obtain ⟨rfl, rfl, rfl, i4, i5⟩ := h'
    rw [fitsT] at hf
    simp only [Bool.and_eq_true, beq_iff_eq] at hf
    obtain ⟨⟨⟨rfl, rfl⟩, hl⟩, hfs⟩ := hf
    rw [sameT, join_comms ks ks' ks2 ks3 hfs h5 i5, alikes_trans (alikes_trans h4 (merge_comm ls ls')) (alikes_symm i4), Bool.or_comm g' g]
    simp
theorem join_comms : ∀ t u j i : List ETy, fitsTs t u = true → JoinsL t u j → JoinsL u t i → sameTs j i = true
  | [], [], [], [], _, _, _ => rfl
  | t :: ts, u :: us, j :: js, i :: is, hf, h, h' => by
    rw [JoinsL] at h h'
    rw [fitsTs, Bool.and_eq_true] at hf
    rw [sameTs, join_comm t u j i hf.1 h.1 h'.1, join_comms ts us js is hf.2 h.2 h'.2]; rfl
  | [], [], _ :: _, _, _, h, _ => by simp [JoinsL] at h
  | [], _ :: _, _, _, _, h, _ => by simp [JoinsL] at h
  | _ :: _, [], _, _, _, h, _ => by simp [JoinsL] at h
  | _ :: _, _ :: _, [], _, _, h, _ => by simp [JoinsL] at h
  | [], [], [], _ :: _, _, _, h => by simp [JoinsL] at h
  | _ :: _, _ :: _, _ :: _, [], _, _, h => by simp [JoinsL] at h
end
mutual
theorem fits_refl : ∀ t : ETy, fitsT t t = true
  | .mk k m g _ ls _ ks => by rw [fitsT, fits_refls ks]; simp
theorem fits_refls : ∀ t : List ETy, fitsTs t t = true
  | [] => rfl
  | t :: ts => by rw [fitsTs, fits_refl t, fits_refls ts]; rfl
end
mutual
theorem fits_symm : ∀ t u : ETy, fitsT t u = fitsT u t
  | .mk k m g _ ls _ ks, .mk k' m' g' _ ls' _ ks' => by
    rw [fitsT, fitsT, fits_symms ks ks', Bool.beq_comm (a := k), Bool.beq_comm (a := m), Bool.beq_comm (a := ks.length)]
theorem fits_symms : ∀ t u : List ETy, fitsTs t u = fitsTs u t
  | [], [] => rfl
  | [], _ :: _ => rfl
  | _ :: _, [] => rfl
  | t :: ts, u :: us => by rw [fitsTs, fitsTs, fits_symm t u, fits_symms ts us]
end
mutual
theorem refs_join : ∀ t u j : ETy, Joins t u j → refsT j = refsT t
  | .mk k m g _ ls _ ks, .mk k' m' g' _ ls' _ ks', .mk k2 m2 g2 _ ls2 _ ks2, h => by
    rw [Joins] at h
    obtain ⟨rfl, rfl, rfl, h4, h5⟩ := h
    rw [refsT, refsT, refs_joins ks ks' ks2 h5]
theorem refs_joins : ∀ t u j : List ETy, JoinsL t u j → refsTs j = refsTs t
  | [], [], [], _ => rfl
  | t :: ts, u :: us, j :: js, h => by
    rw [JoinsL] at h
    rw [refsTs, refsTs, refs_join t u j h.1, refs_joins ts us js h.2]
  | [], [], _ :: _, h => by simp [JoinsL] at h
  | [], _ :: _, _, h => by simp [JoinsL] at h
  | _ :: _, [], _, h => by simp [JoinsL] at h
  | _ :: _, _ :: _, [], h => by simp [JoinsL] at h
end
mutual
theorem lost_join : ∀ t u j : ETy, Joins t u j → lostT j = (lostT t || lostT u)
  | .mk k m g _ ls _ ks, .mk k' m' g' _ ls' _ ks', .mk k2 m2 g2 _ ls2 _ ks2, h => by
    rw [Joins] at h
    obtain ⟨rfl, rfl, rfl, h4, h5⟩ := h
    rw [lostT, lostT, lostT, lost_joins ks ks' ks2 h5]
    cases g <;> cases g' <;> cases lostTs ks <;> rfl
theorem lost_joins : ∀ t u j : List ETy, JoinsL t u j → lostTs j = (lostTs t || lostTs u)
  | [], [], [], _ => rfl
  | t :: ts, u :: us, j :: js, h => by
    rw [JoinsL] at h
    rw [lostTs, lostTs, lostTs, lost_join t u j h.1, lost_joins ts us js h.2]
    cases lostT t <;> cases lostT u <;> cases lostTs ts <;> rfl
  | [], [], _ :: _, h => by simp [JoinsL] at h
  | [], _ :: _, _, h => by simp [JoinsL] at h
  | _ :: _, [], _, h => by simp [JoinsL] at h
  | _ :: _, _ :: _, [], h => by simp [JoinsL] at h
end
theorem before_alike {a b c d : Ln} (h : sameLn a b = true) (k : sameLn c d = true) : before a c = before b d := by
  have h1 := good_cmpLn.congr a b c (same_zero.1 h)
  have h2 := good_cmpLn.congr c d b (same_zero.1 k)
  have h3 := good_cmpLn.anti b c
  have h4 := good_cmpLn.anti b d
  unfold before
  rw [h1, show cmpLn b c = cmpLn b d by omega]
theorem rising_alike : ∀ {l m : List Ln}, alikes l m = true → rising l = rising m
  | [], [], _ => rfl
  | [a], [b], _ => rfl
  | a :: c :: l, b :: d :: m, h => by
    rw [alikes, Bool.and_eq_true] at h
    have h2 := h.2
    rw [alikes, Bool.and_eq_true] at h2
    rw [rising, rising, before_alike h.1 h2.1, rising_alike h.2]
  | [], b :: m, h => by cases h
  | a :: l, [], h => by cases h
  | [a], b :: d :: m, h => by simp [alikes] at h
  | a :: c :: l, [b], h => by simp [alikes] at h
theorem fair_right : Fair fun x => !rightLn x := by
  intro a b h
  unfold sameLn at h
  simp only [Bool.and_eq_true, beq_iff_eq] at h
  obtain ⟨⟨⟨h1, h2⟩, h3⟩, h4⟩ := h
  show (!rightLn a) = (!rightLn b)
  unfold rightLn
  rw [h1, h2, h3, h4]
theorem rightLns_join {ls ls' ls2 : List Ln} (h : alikes ls2 (mergeL ls ls') = true) (h1 : rightLns ls = true) (h2 : rightLns ls' = true) : rightLns ls2 = true := by
  unfold rightLns at *
  rw [Bool.and_eq_true] at *
  refine ⟨?_, by rw [rising_alike h]; exact rising_merge ls ls' h1.2 h2.2⟩
  have h3 := any_alikes fair_right h
  rw [any_merge fair_right] at h3
  rw [List.all_eq_not_any_not] at h1 h2 ⊢
  simp only [Bool.not_eq_true'] at h1 h2 ⊢
  rw [h3, h1.1, h2.1]; rfl
end Go.Proofs.YtannfhbocfghkaaDoor.EnvC

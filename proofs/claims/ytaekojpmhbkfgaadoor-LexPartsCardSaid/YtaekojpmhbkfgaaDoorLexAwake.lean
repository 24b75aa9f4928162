/- The contract of the statements' awake: the two answers that the document fixes. -/
import Derived.Test.YtaekojpmhbkfgaaDoorLexSame
import Derived.Test.YtaekojpmhbkfgaaDoorErrCode
namespace Go.Proofs.YtaekojpmhbkfgaaDoor.LexC
open Go Go.RowKit Go.Lib Go.Proofs.YtaekojpmhbkfgaaDoor.LexP Go.Proofs.YtaekojpmhbkfgaaDoor.ErrAs

/-- what is asked of the library's variables -/
structure Lists (w : World) : Prop where
  tabs : Lib.Utf8Tabs 1 2 w
  err : ErrVar w
theorem Lists.below {w w' : World} (h : Lists w) (hb : Below w.heap.size w w') : Lists w' := ⟨Utf8Tabs_below h.tabs hb, h.err.below hb⟩

def A1 : ByteArray := ⟨#[38, 39, 97, 32, 109, 117, 116, 32, 120]⟩
def A2 : ByteArray := ⟨#[97, 32, 33, 32, 98]⟩
theorem lexA_A1 : lexA A1.data.toList = .inr [⟨4, 0, [38]⟩, ⟨3, 1, [39, 97]⟩, ⟨1, 4, [109, 117, 116]⟩, ⟨1, 8, [120]⟩] := by rfl
theorem lexA_A2 : lexA A2.data.toList = .inl 2 := by rfl

set_option maxHeartbeats 4000000 in
set_option maxRecDepth 100000 in
theorem awake_any (w : World) (L : Lists w) : Calls Tryd.prog 6 #[] w fun e w' => e = .returned (.bool true) ∧ Below w.heap.size w w' := by
  have c1 := lex_any A1 w (by decide) L.tabs
  rw [lexA_A1] at c1
  have c2 : ∀ W, Below w.heap.size w W → Calls Tryd.prog 7 _ W _ := fun W hb => lex_any A2 W (by decide) (L.below hb).tabs
  rw [lexA_A2] at c2
  have C1 := hid c1
  have C2 := hid c2
  have HL := hid L
  clear c1 c2 L
  go_enter Tryd.func6, Tryd.ntmps6
  go_wp2_with fail
  refine C1.out.mono ?_
  rintro e W1 ⟨hb1, v, rfl, hown⟩
  have hr := reads_of (ts := [⟨4, 0, [38]⟩, ⟨3, 1, [39, 97]⟩, ⟨1, 4, [109, 117, 116]⟩, ⟨1, 8, [120]⟩]) hown
  rcases hr with ⟨_, h⟩ | ⟨g, cap, rfl, hcap, hc⟩
  · cases h
  obtain ⟨k0, k1, k2⟩ := hc 1 ⟨3, 1, [39, 97]⟩ rfl
  have hgl : g < W1.heap.size := World.block_lt_of_cell? W1 _ k0
  have HK := hid (⟨k0, k1, k2, hgl⟩ : _ ∧ _ ∧ _ ∧ _)
  clear k0 k1 k2 hgl hc hown hcap
  go_wp2_with fail
  refine (C2.out _ hb1).mono ?_
  rintro e W2 ⟨hb2, b, hbb, rfl, hcell⟩
  have B2 := hb1.trans (hb2.mono hb1.size)
  obtain ⟨k0, k1, k2, hgl⟩ := HK.out
  have m0 := (hb2.cell (p := ⟨g, 1 * 3, none⟩) hgl).trans k0
  have m1 := (hb2.cell (p := ⟨g, 1 * 3 + 1, none⟩) hgl).trans k1
  have m2 := (hb2.cell (p := ⟨g, 1 * 3 + 2, none⟩) hgl).trans k2
  clear k0 k1 k2
  have c3 : Calls Tryd.prog 10 _ W2 _ := fault_fault b 2 2 1 W2 (by decide) (HL.out.below B2).err hcell
  have C3 := hid c3
  have HB := hid B2
  clear c3 hcell hb1 hb2 B2 HK C1 C2 HL hbb
  go_wp2_with fail
  refine C3.out.mono ?_
  rintro e W3 ⟨rfl, hb3⟩
  have B3 := hid (HB.out.trans (hb3.mono HB.out.size))
  clear hb3 C3 HB
  go_wp2_with fail
  go_ret
  exact ⟨rfl, B3.out⟩
end Go.Proofs.YtaekojpmhbkfgaaDoor.LexC

/- Contract of lienbookref04's Formed: why a function isn't formed. -/
import Derived.Test.YtemflcojebanlaaGreatDoorJ16
import Derived.Test.YtemflcojebanlaaGreatDoorJ14
import Derived.Test.YtemflcojebanlaaGreatDoorJ11
namespace Go.Proofs.YtemflcojebanlaaGreatDoor.NmC
open Go Go.RowKit Go.Lib Go.Sort LexP TreeP LexC TreeC NmP

theorem all_drop {α : Type} (g : α → Bool) {l : List α} {i : Nat} {x : α} (h : l[i]? = some x) : (l.drop i).all g = (g x && (l.drop (i + 1)).all g) := by rw [drop_cons h, List.all_cons]
theorem pa_open (p : Pa) : ∃ nm k life mt v kids, p = ⟨nm, .mk k life mt v kids⟩ := by obtain ⟨nm, ⟨k, life, mt, v, kids⟩⟩ := p; exact ⟨_, _, _, _, _, _, rfl⟩

end Go.Proofs.YtemflcojebanlaaGreatDoor.NmC

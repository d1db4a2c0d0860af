/-
  Several texts of this family in one: VersRightOneRef, VersRightRef.
-/
import Derived.Test.YtbaclinjimfncaaGCmp
import Derived.Test.YtbaclinjimfncaaSpanRightRef
import Derived.Test.YtbaclinjimfncaaGVect
import Derived.Lib.Strings
import Derived.Test.YtbaclinjimfncaaVersRight
/-
  firthref05.RightOne tells whether a version is right.
-/
namespace Go.Proofs.Ytbaclinjimfncaa
namespace Vers
open Go.RowKit Span
attribute [local go_sem ↓] Go.wp_at_zero Go.wp_at_succ

end Vers
end Go.Proofs.Ytbaclinjimfncaa

/-
  firthref05.Behind and firthref05.Right.
-/
namespace Go.Proofs.Ytbaclinjimfncaa
namespace Vers
open Go.RowKit Span
attribute [local go_sem ↓] Go.wp_at_zero Go.wp_at_succ

theorem behind_drop {l : List Vr} {k : Nat} (h : k < l.length) (s n : Int) : decide (behind (l.drop k) s n) = (hasL (l.getD k v0).past s n || decide (behind (l.drop (k + 1)) s n)) := by
  rw [hasL_mem, ← Bool.decide_or]
  congr 1
  rw [List.drop_eq_getElem_cons h]
  have e : l.getD k v0 = l[k] := by simp [List.getD_eq_getElem?_getD, h]
  rw [e]
  refine propext ⟨?_, ?_⟩
  · rintro ⟨v, hv, hm⟩
    rcases List.mem_cons.1 hv with rfl | hv
    · exact .inl hm
    · exact .inr ⟨v, hv, hm⟩
  · rintro (hm | ⟨v, hv, hm⟩)
    · exact ⟨_, List.mem_cons_self, hm⟩
    · exact ⟨v, List.mem_cons_of_mem _ hv, hm⟩

end Vers
end Go.Proofs.Ytbaclinjimfncaa

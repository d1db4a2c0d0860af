/-
  Lost, told plainly.
-/
import Derived.Test.YtnmkhccgaedigaaSessRefEnd
namespace Go.Proofs.Ytnmkhccgaedigaa
namespace Sess
/-- The session's ask is lost with its site. -/
def lostP (site : Int) (x : Sn) : Bool := x.1 == site && x.2.2 != 0
def lostS (site : Int) (x : Sn) : Sn := if lostP site x = true then (x.1, x.2.1, 0) else x
def lostF (L : List Sn) (site : Int) : List Sn := L.map (lostS site)
def lostO (L : List Sn) (site : Int) : List Int := (L.filter (lostP site)).map (·.2.2)
/-- The sessions when k of them are seen. -/
def lostK (L : List Sn) (site : Int) (k : Nat) : List Sn := lostF (L.take k) site ++ L.drop k
section
variable {L : List Sn} {site : Int} {k : Nat} {x : Sn}
theorem lostK_zero (L : List Sn) (site : Int) : lostK L site 0 = L := by simp [lostK, lostF]
theorem lostK_all (L : List Sn) (site : Int) : lostK L site L.length = lostF L site := by simp [lostK]
theorem lostK_length (L : List Sn) (site : Int) (k : Nat) : (lostK L site k).length = L.length := by simp [lostK, lostF]; omega
theorem lostO_le (L : List Sn) (site : Int) (k : Nat) : (lostO (L.take k) site).length ≤ k := by
  rw [lostO, List.length_map]
  exact Nat.le_trans (List.length_filter_le _ _) (List.length_take_le _ _)
theorem lostK_at (hx : L[k]? = some x) : (lostK L site k)[k]? = some x := by
  have hk := (List.getElem?_eq_some_iff.1 hx).1
  have hl : (lostF (L.take k) site).length = k := by simp [lostF]; omega
  rw [lostK, List.getElem?_append_right (by omega), hl, List.getElem?_drop, show k + (k - k) = k by omega, hx]
theorem take_snoc (hx : L[k]? = some x) : L.take (k + 1) = L.take k ++ [x] := by
  rw [List.take_add_one, hx]
  rfl
theorem drop_snoc (hx : L[k]? = some x) : L.drop k = x :: L.drop (k + 1) := by
  obtain ⟨hk, rfl⟩ := List.getElem?_eq_some_iff.1 hx
  exact List.drop_eq_getElem_cons hk
theorem lostK_next (hx : L[k]? = some x) : lostK L site (k + 1) = (lostK L site k).set k (lostS site x) := by
  have hk := (List.getElem?_eq_some_iff.1 hx).1
  have hl : (lostF (L.take k) site).length = k := by simp [lostF]; omega
  rw [lostK, lostK, take_snoc hx, drop_snoc hx, List.set_append_right _ _ (by omega), hl, Nat.sub_self, List.set_cons_zero]
  simp [lostF]
theorem lostK_same (hx : L[k]? = some x) (h : lostP site x = false) : lostK L site (k + 1) = lostK L site k := by
  rw [lostK, lostK, take_snoc hx, drop_snoc hx]
  simp [lostF, lostS, h]
theorem lostO_same (hx : L[k]? = some x) (h : lostP site x = false) : lostO (L.take (k + 1)) site = lostO (L.take k) site := by
  rw [take_snoc hx]
  simp [lostO, h]
theorem lostO_next (hx : L[k]? = some x) (h : lostP site x = true) : lostO (L.take (k + 1)) site = lostO (L.take k) site ++ [x.2.2] := by
  rw [take_snoc hx]
  simp [lostO, h]
theorem lostS_is (h : lostP site x = true) : lostS site x = (x.1, x.2.1, 0) := if_pos h
end
end Sess
end Go.Proofs.Ytnmkhccgaedigaa

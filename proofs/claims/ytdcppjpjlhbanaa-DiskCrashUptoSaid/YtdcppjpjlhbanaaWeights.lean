/-
  What the data of a law's arguments weigh: each string and each slice within them is within the reach.
-/
import Derived.Test.YtdcppjpjlhbanaaFrame
namespace Go.Proofs.Ytdcppjpjlhbanaa
namespace Wgt
open Go.ChangeShapes Go.WideShapes Go.ChangeAt Go.RowKit

section
variable {H : Type} {P : Program}

/-- What a datum weighs is within the reach. -/
def Wt (P : Program) (t : TypeId) (d : DataW H) : Prop := ∀ x ∈ d.weights P t, x ≤ 140737488351232
theorem wt_arg {ts : List TypeId} {ds : List (DataW H)} {j : Nat} {t : TypeId} {d : DataW H} (h : (DataW.weightsEach P ts ds).all (· ≤ reachBytes) = true) (ht : ts[j]? = some t) (hd : ds[j]? = some d) : Wt P t d := fun x hx => by
  have h1 := List.all_eq_true.1 h x (DataW.weights_mem_each ht hd x hx)
  have h3 : reachBytes = 140737488351232 := by decide
  simpa [h3] using h1
theorem wt_all {e : TypeId} : ∀ {l : List (DataW H)}, (∀ x ∈ DataW.weightsAll P e l, x ≤ 140737488351232) → ∀ d ∈ l, Wt P e d
  | [], _, d, hd => by simp at hd
  | y :: l, h, d, hd => by
    simp only [DataW.weightsAll, List.mem_append] at h
    rcases List.mem_cons.1 hd with rfl | hd
    · exact fun x hx => h x (.inl hx)
    · exact wt_all (fun x hx => h x (.inr hx)) d hd
theorem wt_slice {t e : TypeId} {el sp : List (DataW H)} (ht : P.underlying t = some (.slice e)) (h : Wt P t (.slice el sp)) : (el.length + sp.length) * P.bytesOf e ≤ 140737488351232 ∧ ∀ d ∈ el, Wt P e d := by
  unfold Wt at h
  simp only [DataW.weights, ht, List.mem_cons, List.mem_append] at h
  exact ⟨h _ (.inl rfl), wt_all fun x hx => h x (.inr (.inl hx))⟩
theorem wt_string {t : TypeId} {b : List UInt8} (h : Wt P t (.lit (.string b) : DataW H)) : b.length ≤ 140737488351232 := by
  unfold Wt at h
  simp only [DataW.weights, List.mem_cons, List.not_mem_nil, or_false, forall_eq] at h
  exact h
theorem wt_each : ∀ {ts : List TypeId} {ds : List (DataW H)}, (∀ x ∈ DataW.weightsEach P ts ds, x ≤ 140737488351232) → ∀ (j : Nat) t d, ts[j]? = some t → ds[j]? = some d → Wt P t d
  | [], _, _, _, _, _, ht, _ => by simp at ht
  | _ :: _, [], _, _, _, _, _, hd => by simp at hd
  | t0 :: ts, d0 :: ds, h, j, t, d, ht, hd => by
    simp only [DataW.weightsEach, List.mem_append] at h
    rcases j with _ | j
    · simp only [List.getElem?_cons_zero, Option.some.injEq] at ht hd
      subst ht hd
      exact fun x hx => h x (.inl hx)
    · simp only [List.getElem?_cons_succ] at ht hd
      exact wt_each (fun x hx => h x (.inr hx)) j t d ht hd
theorem wt_struct {t : TypeId} {fs : Array Field} {parts : List (DataW H)} (ht : P.underlying t = some (.struct fs)) (h : Wt P t (.agg parts)) : ∀ (j : Nat) u d, (fs.toList.map (·.type))[j]? = some u → parts[j]? = some d → Wt P u d := by
  unfold Wt at h
  simp only [DataW.weights, ht] at h
  exact wt_each h
theorem str_len (s : ByteArray) : s.data.toList.length = s.size := by rw [Array.length_toList]; rfl
end
end Wgt
end Go.Proofs.Ytdcppjpjlhbanaa

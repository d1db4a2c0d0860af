/-
 What comes of merging in another order, and twice; on plain lists.
-/
import Derived.Test.YtekhaejhmlebbaaGreatQVersHas
import Derived.Test.YtekhaejhmlebbaaGreatQSpanWithin
namespace Go.Proofs.YtekhaejhmlebbaaGreat
namespace Vers
open Span

theorem twin_symm {a b : List Vr} (h : Twin a b) : Twin b a := by
 obtain ⟨x, hx, y, hy, hs, hn⟩ := h
 exact ⟨y, hy, x, hx, same_symm hs, fun e => hn e.symm⟩
theorem stay_symm {a b r : List Vr} (h : IsStay a b r) : IsStay b a r := ⟨h.1, fun v => by
 rw [h.2 v]
 constructor
 ·rintro ⟨h1, h2, h3⟩; exact ⟨h1.symm, h3, h2⟩
 ·rintro ⟨h1, h2, h3⟩; exact ⟨h1.symm, h3, h2⟩⟩
theorem merge_comm (a b : List Vr) : mergeF a b = mergeF b a := by
 by_cases ra : RightV a
 ·by_cases rb : RightV b
  ·by_cases ht : Twin a b
   ·rw [merge_twin ra rb ht, merge_twin rb ra (twin_symm ht)]
   ·have ht' : ¬ Twin b a := fun h => ht (twin_symm h)
    have e : stayF a b = stayF b a := stay_one rb ra ht' (stay_symm (stay_is ra rb ht))
    by_cases hl : 512 < (stayF a b).length
    ·rw [merge_long ra rb ht hl, merge_long rb ra ht' (by rw [← e]; exact hl)]
    ·rw [merge_ok ra rb ht hl, merge_ok rb ra ht' (by rw [← e]; exact hl), e]
  ·rw [merge_arg (.inr rb), merge_arg (.inl rb)]
 ·rw [merge_arg (.inl ra), merge_arg (.inr ra)]
def plainP (x y : Vr) : Prop := (mem x.past y.s y.n → withinF y.past x.past = true ∧ ¬ mem y.past x.s x.n) ∧ (same x y → x = y)
instance (x y : Vr) : Decidable (plainP x y) := by unfold plainP; infer_instance
def plainF (l : List Vr) : Prop := ∀ x ∈ l, ∀ y ∈ l, plainP x y
instance (l : List Vr) : Decidable (plainF l) := by unfold plainF; infer_instance
theorem within_sub {a b : List Sp} (h : withinF a b = true) : ∀ s n, mem a s n → mem b s n := by
 have h1 := of_decide_eq_true h
 exact (sub_iff h1.1.2 h1.2.1.2).2 h1.2.2

section
variable {a b c : List Vr} (hp : plainF (a ++ b ++ c))
include hp
theorem plain_trans {x y : Vr} (hx : x ∈ a ∨ x ∈ b ∨ x ∈ c) (hy : y ∈ a ∨ y ∈ b ∨ y ∈ c) (h : mem x.past y.s y.n) {s n : Int} (hm : mem y.past s n) : mem x.past s n :=
 within_sub ((hp x (by simp only [List.mem_append, or_assoc]; assumption) y (by simp only [List.mem_append, or_assoc]; assumption)).1 h).1 s n hm
theorem plain_same {x y : Vr} (hx : x ∈ a ∨ x ∈ b ∨ x ∈ c) (hy : y ∈ a ∨ y ∈ b ∨ y ∈ c) (h : same x y) : x = y :=
 (hp x (by simp only [List.mem_append, or_assoc]; assumption) y (by simp only [List.mem_append, or_assoc]; assumption)).2 h
theorem plain_notwin {l m : List Vr} (hl : ∀ x ∈ l, x ∈ a ∨ x ∈ b ∨ x ∈ c) (hm : ∀ x ∈ m, x ∈ a ∨ x ∈ b ∨ x ∈ c) : ¬ Twin l m := fun ⟨x, hx, y, hy, hs, hn⟩ => hn (plain_same hp (hl x hx) (hm y hy) hs)
theorem behind_stay {l m r : List Vr} (hl : ∀ x ∈ l, x ∈ a ∨ x ∈ b ∨ x ∈ c) (hm : ∀ x ∈ m, x ∈ a ∨ x ∈ b ∨ x ∈ c) (rl : RightV l) (rm : RightV m) (hr : IsStay l m r) (s n : Int) : behind r s n ↔ behind l s n ∨ behind m s n := by
 constructor
 ·rintro ⟨v, hv, hmem⟩
  rcases ((hr.2 v).1 hv).1 with h | h
  ·exact .inl ⟨v, h, hmem⟩
  ·exact .inr ⟨v, h, hmem⟩
 ·rintro (⟨v, hv, hmem⟩ | ⟨v, hv, hmem⟩)
  ·by_cases hb : behind m v.s v.n
   ·obtain ⟨u, hu, hum⟩ := hb
    have h1 := plain_trans hp (hm u hu) (hl v hv) hum hmem
    by_cases hb2 : behind l u.s u.n
    ·obtain ⟨z, hz, hzm⟩ := hb2
     exact absurd ⟨z, hz, plain_trans hp (hl z hz) (hm u hu) hzm hum⟩ (rl.2.2 v hv)
    ·exact ⟨u, (hr.2 u).2 ⟨.inr hu, hb2, rm.2.2 u hu⟩, h1⟩
   ·exact ⟨v, (hr.2 v).2 ⟨.inl hv, rl.2.2 v hv, hb⟩, hmem⟩
  ·by_cases hb : behind l v.s v.n
   ·obtain ⟨u, hu, hum⟩ := hb
    have h1 := plain_trans hp (hl u hu) (hm v hv) hum hmem
    by_cases hb2 : behind m u.s u.n
    ·obtain ⟨z, hz, hzm⟩ := hb2
     exact absurd ⟨z, hz, plain_trans hp (hm z hz) (hl u hu) hzm hum⟩ (rm.2.2 v hv)
    ·exact ⟨u, (hr.2 u).2 ⟨.inl hu, rl.2.2 u hu, hb2⟩, h1⟩
   ·exact ⟨v, (hr.2 v).2 ⟨.inr hv, hb, rm.2.2 v hv⟩, hmem⟩
theorem merge_again {x : List Vr} (h : mergeF a b = (x, 0)) : mergeF x b = (x, 0) := by
 obtain ⟨ra, rb, nt, hxe, rx⟩ := merge_right h
 have hst := stay_is ra rb nt
 rw [← hxe] at hst
 have hxm : ∀ v ∈ x, v ∈ a ∨ v ∈ b ∨ v ∈ c := fun v hv => ((hst.2 v).1 hv).1.elim .inl fun h => .inr (.inl h)
 have nt2 : ¬ Twin x b := plain_notwin hp hxm (fun v hv => .inr (.inl hv))
 have hbh := behind_stay hp (fun v hv => .inl hv) (fun v hv => .inr (.inl hv)) ra rb hst
 have key : x = stayF x b := by
  refine stay_one rx rb nt2 ⟨rx.2.1.2, fun v => ?_⟩
  constructor
  ·intro hv
   exact ⟨.inl hv, rx.2.2 v hv, ((hst.2 v).1 hv).2.2⟩
  ·rintro ⟨hv | hv, h1, h2⟩
   ·exact hv
   ·rw [hbh] at h1
    exact (hst.2 v).2 ⟨.inr hv, fun h => h1 (.inl h), fun h => h1 (.inr h)⟩
 rw [merge_ok rx rb nt2 (by rw [← key]; have := rx.1; omega), ← key]
end
end Vers
end Go.Proofs.YtekhaejhmlebbaaGreat

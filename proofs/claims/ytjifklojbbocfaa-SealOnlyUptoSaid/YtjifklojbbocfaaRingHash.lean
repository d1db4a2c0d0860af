/-
  The marks of bytes, of both: one function of the bytes.
-/
import Derived.Test.YtjifklojbbocfaaFacts
import Derived.Laws.BitsAllLaws
import Derived.Laws.Bits64
namespace Go.Proofs.Ytjifklojbbocfaa
namespace Ring
open Go.RowKit

def U (x : Int) : Prop := 0 ≤ x ∧ x < 18446744073709551616
def xorU (a b : Int) : Int := ((a.toNat ^^^ b.toNat : Nat) : Int)
theorem xor_range {a b : Int} (ha : U a) (hb : U b) : U (xorU a b) := by
  unfold U xorU at *
  have h := Nat.xor_lt_two_pow (n := 64) (x := a.toNat) (y := b.toNat) (by omega) (by omega)
  omega
theorem bits_is {a b : Int} (ha : U a) (hb : U b) : bits .xor .u64 a b = xorU a b := u64_xor a b ha.1 ha.2 hb.1 hb.2
theorem wrap_range (x : Int) : U (IntKind.u64.wrap x) := by
  unfold U
  have h : IntKind.u64.wrap x = x % 18446744073709551616 := by simp [IntKind.wrap, IntKind.signed, IntKind.bits]
  rw [h]
  omega
def stepH (h c : Int) : Int := IntKind.u64.wrap (xorU h c * 1099511628211)
def foldH (zs : List Int) : Int := zs.foldl stepH 14695981039346656037
def finH (h : Int) : Int := xorU h (h / 8589934592)
def hashL (zs : List Int) : Int := finH (IntKind.u64.wrap (finH (foldH zs) * 18397679294719823053))

theorem fold_range (zs : List Int) : U (foldH zs) := by
  unfold foldH
  have key : ∀ (zs : List Int) (h : Int), U h → U (zs.foldl stepH h) := by
    intro zs
    induction zs with
    | nil => intro h hh; exact hh
    | cons z zs ih => intro h hh; exact ih _ (wrap_range _)
  exact key zs _ (by unfold U; omega)
theorem fold_snoc (zs : List Int) {k : Nat} (h : k < zs.length) : foldH (zs.take (k + 1)) = stepH (foldH (zs.take k)) (zs.getD k 0) := by
  unfold foldH
  rw [List.take_succ_eq_append_getElem h, List.foldl_append]
  simp [List.getD_eq_getElem?_getD, h]
theorem fin_range {h : Int} (hh : U h) : U (finH h) := xor_range hh (by unfold U at *; omega)
theorem hash_range (zs : List Int) : U (hashL zs) := fin_range (wrap_range _)
theorem fin_bits {h : Int} (hh : U h) : bits .xor .u64 h (h / 8589934592) = finH h := bits_is hh (by unfold U at *; omega)
theorem wrap_u {x : Int} (hx : U x) : IntKind.u64.wrap x = x := by
  unfold U at hx
  have h : IntKind.u64.wrap x = x % 18446744073709551616 := by simp [IntKind.wrap, IntKind.signed, IntKind.bits]
  rw [h]; omega
theorem quo_u {h : Int} (hh : U h) : IntKind.u64.wrap (h.tdiv 8589934592) = h / 8589934592 := by
  rw [Int.tdiv_eq_ediv_of_nonneg hh.1]
  exact wrap_u (by unfold U at *; omega)
theorem step_bits {h z : Int} (hh : U h) (hz : 0 ≤ z ∧ z ≤ 255) : IntKind.u64.wrap (bits .xor .u64 h z * 1099511628211) = stepH h z := by
  rw [bits_is hh (by unfold U; omega)]
  rfl

set_option maxRecDepth 100000 in
theorem hash_any (A : Option Addr) (c n : Nat) (zs : List Int) (hn : zs.length = n) (hz : ∀ z ∈ zs, 0 ≤ z ∧ z ≤ 255) (w : World) (hr : Ns .u8 w w.heap.size A zs) (hbig : n ≤ 140737488355328) :
    Calls Try.prog 39 #[.slice A n c] w fun e w' => e = .returned (.int .u64 (hashL zs)) ∧ w = w' := by
  go_enter Try.func39, Try.ntmps39
  go_wp2_with fail
  go_loop [3, 8] (fun hv iv => ∃ k : Nat, iv = .int .i64 k ∧ k ≤ n ∧ hv = .int .u64 (foldH (zs.take k))) (fun _ iv => n - (intOf iv).toNat)
  case atStart => exact ⟨0, rfl, by omega, rfl⟩
  case round =>
    obtain ⟨k, rfl, hk, rfl⟩ := hrel
    by_cases hlt : k < n
    · obtain ⟨b, off, rfl, _, hc⟩ := hr (by omega)
      have hcell := hc k (by omega)
      have hzr := hz _ (List.getElem_mem (l := zs) (n := k) (by omega))
      have hst := fold_snoc zs (k := k) (by omega)
      have hr1 := fold_range (zs.take k)
      have e : zs[k]'(by omega) = zs.getD k 0 := by simp [List.getD_eq_getElem?_getD, show k < zs.length by omega]
      rw [e] at hzr
      obtain ⟨z, hz1⟩ : ∃ z, zs.getD k 0 = z := ⟨_, rfl⟩
      obtain ⟨h, hh⟩ : ∃ h, foldH (zs.take k) = h := ⟨_, rfl⟩
      rw [hz1] at hcell hzr hst
      rw [hh] at hst hr1 ⊢
      have HB := Lib.hid ((step_bits hr1 hzr).trans hst.symm)
      clear e hz1 hh hst hr1 hc hr hz
      go_wp2_with fail
      exact ⟨⟨k + 1, rfl, by omega, by rw [HB.out]⟩, by simp only [intOf]; omega⟩
    · have hkn : k = n := by omega
      subst hkn
      have hfull : foldH (zs.take k) = foldH zs := by rw [List.take_of_length_le (by omega)]
      have hr1 := fold_range zs
      have HB := Lib.hid (show bits .xor .u64 (IntKind.u64.wrap (bits .xor .u64 (foldH zs) (foldH zs / 8589934592) * 18397679294719823053)) (IntKind.u64.wrap (bits .xor .u64 (foldH zs) (foldH zs / 8589934592) * 18397679294719823053) / 8589934592) = hashL zs by
        rw [fin_bits hr1, fin_bits (wrap_range _)]
        rfl)
      rw [hfull]
      obtain ⟨h, hh⟩ : ∃ h, foldH zs = h := ⟨_, rfl⟩
      rw [hh] at HB ⊢
      clear hfull hr1 hh hr hz hn
      go_wp2_with fail
      go_ret
      exact ⟨by rw [HB.out]; rfl, rfl⟩

set_option maxRecDepth 100000 in
theorem ref_hash_any (A : Option Addr) (c n : Nat) (zs : List Int) (hn : zs.length = n) (hz : ∀ z ∈ zs, 0 ≤ z ∧ z ≤ 255) (w : World) (hr : Ns .u8 w w.heap.size A zs) (hbig : n ≤ 140737488355328) :
    Calls Try.prog 28 #[.slice A n c] w fun e w' => e = .returned (.int .u64 (hashL zs)) ∧ w = w' := by
  go_enter Try.func28, Try.ntmps28
  go_wp2_with fail
  go_loop [3, 4] (fun hv iv => ∃ k : Nat, iv = .int .i64 k ∧ k ≤ n ∧ hv = .int .u64 (foldH (zs.take k))) (fun _ iv => n - (intOf iv).toNat)
  case atStart => exact ⟨0, rfl, by omega, rfl⟩
  case round =>
    obtain ⟨k, rfl, hk, rfl⟩ := hrel
    by_cases hlt : k < n
    · obtain ⟨b, off, rfl, _, hc⟩ := hr (by omega)
      have hcell := hc k (by omega)
      have hzr := hz _ (List.getElem_mem (l := zs) (n := k) (by omega))
      have hst := fold_snoc zs (k := k) (by omega)
      have hr1 := fold_range (zs.take k)
      have e : zs[k]'(by omega) = zs.getD k 0 := by simp [List.getD_eq_getElem?_getD, show k < zs.length by omega]
      rw [e] at hzr
      obtain ⟨z, hz1⟩ : ∃ z, zs.getD k 0 = z := ⟨_, rfl⟩
      obtain ⟨h, hh⟩ : ∃ h, foldH (zs.take k) = h := ⟨_, rfl⟩
      rw [hz1] at hcell hzr hst
      rw [hh] at hst hr1 ⊢
      have HB := Lib.hid ((step_bits hr1 hzr).trans hst.symm)
      clear e hz1 hh hst hr1 hc hr hz
      go_wp2_with fail
      exact ⟨⟨k + 1, rfl, by omega, by rw [HB.out]⟩, by simp only [intOf]; omega⟩
    · have hkn : k = n := by omega
      subst hkn
      have hfull : foldH (zs.take k) = foldH zs := by rw [List.take_of_length_le (by omega)]
      have hr1 := fold_range zs
      have HB := Lib.hid (show bits .xor .u64 (IntKind.u64.wrap (bits .xor .u64 (foldH zs) (IntKind.u64.wrap ((foldH zs).tdiv 8589934592)) * 18397679294719823053)) (IntKind.u64.wrap ((IntKind.u64.wrap (bits .xor .u64 (foldH zs) (IntKind.u64.wrap ((foldH zs).tdiv 8589934592)) * 18397679294719823053)).tdiv 8589934592)) = hashL zs by
        rw [quo_u hr1, fin_bits hr1, quo_u (wrap_range _), fin_bits (wrap_range _)]
        rfl)
      rw [hfull]
      obtain ⟨h, hh⟩ : ∃ h, foldH zs = h := ⟨_, rfl⟩
      rw [hh] at HB ⊢
      clear hfull hr1 hh hr hz hn
      go_wp2_with fail
      go_ret
      exact ⟨by rw [HB.out]; rfl, rfl⟩
end Ring
end Go.Proofs.Ytjifklojbbocfaa

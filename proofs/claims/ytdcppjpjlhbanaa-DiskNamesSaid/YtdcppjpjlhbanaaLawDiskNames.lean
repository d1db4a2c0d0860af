/-
  DiskNames (P7.1, P7.2): a file that is renamed is told by its new name alone, with what it had; the name that is taken loses what it had. For every input.
-/
import Derived.Test.YtdcppjpjlhbanaaDiskLaw
import Derived.Test.YtdcppjpjlhbanaaFrame
import Derived.Deep.Strs
import Derived.Laws.IdiomStrings
namespace Go.Proofs.Ytdcppjpjlhbanaa
namespace DiskNames
open Go.ChangeShapes Go.WideShapes Go.ChangeAt Go.RowKit Disk Blk
attribute [local go_sem ↓] Go.wp_at_zero Go.wp_at_succ
theorem text_bytes (s : ByteArray) (V : World) : ∃ c V', (convert 9 29 (.string s)).run Try.prog V = .ok (.slice (some ⟨V.heap.size, 0, none⟩) s.size c) V' ∧ Ns .u8 V' V'.heap.size (some ⟨V.heap.size, 0, none⟩) (strNums s) ∧ Below V.heap.size V V' := by
  refine ⟨_, _, run_bytes_of_string V _ _ 5 s Try.underlying9 Try.underlying29 Try.underlying5, ?_, ?_⟩
  · intro _
    refine ⟨V.heap.size, 0, rfl, by show V.heap.size < (V.heap.push _).size; rw [Array.size_push]; omega, fun j hj => ?_⟩
    rw [strNums_length] at hj
    have h1 := bytesRow_at s (grownCap V s.size 0 5) j hj
    refine (World.cell?_alloc_mark V.drew _ _ _ _).trans ?_
    rw [Nat.zero_add, h1]
    have hj' : j < s.data.size := hj
    simp [strNums, List.getD_eq_getElem?_getD]
    rw [Array.getElem?_eq_getElem hj']
    rfl
  · exact ((Below.refl V.heap.size V).drew).alloc (Nat.le_refl _) _
theorem code_app {P : Pd} {s : Nm} {d : List Int} (hs : okNm s) : P.code ⟨1, s, ⟨#[]⟩, d, 0⟩ = if P.room - used P.files < d.length then 72 else 0 := by
  unfold Pd.code
  rw [if_neg (fun q => q.elim (fun q => q hs) fun q => absurd q.1 (by simp only; omega)), if_pos rfl]
theorem push_no {P : Pd} {c : Cp} (h : P.code c ≠ 0) : P.push c = P := by
  unfold Pd.push
  rw [if_neg h]
theorem rename_code {P : Pd} {a b : Nm} (ha : okNm a) (hb : okNm b) {x : List Int} (h : find P.files a = some x) : P.code ⟨3, a, b, [], 0⟩ = 0 ∧ P.push ⟨3, a, b, [], 0⟩ = ⟨P.room, P.safe, ⟨3, a, b, [], 0⟩ :: P.q⟩ ∧ (P.push ⟨3, a, b, [], 0⟩).files = wit (wout P.files a) b x := by
  have h0 : P.code ⟨3, a, b, [], 0⟩ = 0 := by
    rw [code_find ha (fun _ => hb) (by simp only; omega)]
    simp only
    rw [h]
    simp only
    rw [if_neg (fun q => absurd q.1 (by omega))]
  have h1 : P.push ⟨3, a, b, [], 0⟩ = ⟨P.room, P.safe, ⟨3, a, b, [], 0⟩ :: P.q⟩ := by
    unfold Pd.push
    rw [if_pos h0]
  refine ⟨h0, h1, ?_⟩
  rw [h1]
  show didP ⟨3, a, b, [], 0⟩ (fR P.safe P.q) = wit (wout (fR P.safe P.q) a) b x
  unfold didP
  rw [if_neg (by simp only; omega), if_neg (by simp only; omega), if_pos rfl]
  simp only
  congr 1
  unfold dat
  rw [show find (fR P.safe P.q) a = some x from h]
  rfl
theorem moved {a b : Nm} (h : a ≠ b) (x y : List Int) : wit (wout (wit [(a, x)] b y) a) b x = [(b, x)] := by
  have s1 : Srt [(a, x)] := List.pairwise_singleton _ _
  refine srt_ext (((s1.wit b y).wout a).wit b x) (List.pairwise_singleton _ _) fun t => ?_
  rw [find_wit, find_wout, find_wit]
  by_cases h1 : t = b
  · subst h1
    rw [if_pos rfl, find_one]
  · rw [if_neg h1, if_neg h1]
    by_cases h2 : t = a
    · rw [if_pos h2, find_oth (fun e => h1 e.symm)]
    · rw [if_neg h2, find_oth (fun e => h2 e.symm), find_oth (fun e => h1 e.symm)]
theorem moved_self (b : Nm) (x : List Int) : wit (wout [(b, x)] b) b x = [(b, x)] := by
  have : wout [(b, x)] b = [] := by unfold wout; simp
  rw [this]
  rfl
set_option maxRecDepth 100000 in
set_option maxHeartbeats 8000000 in
theorem walk (w : World) (a : ByteArray) (_ha : a.size ≤ 140737488351232) (b : ByteArray) (_hb : b.size ≤ 140737488351232) (A : Option Addr) (c : Nat) (xs : List Int) (hx : Ns .u8 w w.heap.size A xs) (hx8 : ∀ z ∈ xs, 0 ≤ z ∧ z ≤ 255) (hxb : xs.length ≤ 140737488351232) (_hxc : xs.length ≤ c) :
    Calls Try.prog 7 #[.string a, .string b, .slice A xs.length c] w fun e w' => e = .returned (.bool true) ∧ Below w.heap.size w w' := by
  obtain ⟨k, hk⟩ : ∃ n, xs.length = n := ⟨_, rfl⟩
  rw [hk] at hxb ⊢
  obtain ⟨cy, V, hconv, hny, bV⟩ := text_bytes a w
  obtain ⟨sa, hsa⟩ : ∃ n, a.size = n := ⟨_, rfl⟩
  obtain ⟨sb, hsb⟩ : ∃ n, b.size = n := ⟨_, rfl⟩
  rw [hsa] at hconv
  obtain ⟨yb, hyb⟩ : ∃ p, w.heap.size = p := ⟨_, rfl⟩
  rw [hyb] at hconv hny
  have H0 := Lib.hid (awake_any V)
  have HZ := Lib.hid (And.intro hx (And.intro hx8 (And.intro hk (And.intro hny bV))))
  have hab := nm_eq a b
  have HQ : Hid (∀ W, Below w.heap.size w W → Calls Try.prog 9 #[] W fun e w' => e = .returned (.bool true) ∧ Below w.heap.size w w') := Lib.hid fun W hW => (awake_any W).mono fun e w' h => ⟨h.1, hW.trans (h.2.mono hW.size)⟩
  have HSa := Lib.hid (And.intro hsa hsb)
  clear hx hx8 hk hny bV _hxc hyb _ha _hb
  by_cases hsame : a = b
  · have g1 : (a.toList == b.toList) = true := by rw [hab, decide_eq_true hsame]
    clear hab hsame
    go_enter Try.func7, Try.ntmps7
    go_wp2_with fail
    refine H0.out.mono ?_
    rintro e1 w1 ⟨rfl, b1⟩
    have H1 := Lib.hid (HQ.out w1 (HZ.out.2.2.2.2.trans (b1.mono HZ.out.2.2.2.2.size)))
    clear b1
    go_wp2_with fail
    refine H1.out.mono ?_
    rintro e2 w2 ⟨rfl, b2⟩
    go_wp2_with fail
    go_ret
    exact ⟨rfl, b2⟩
  have g1 : (a.toList == b.toList) = false := by rw [hab, decide_eq_false hsame]
  by_cases ha1 : sa < 1
  · have g2 : decide ((sa : Int) < 1) = true := decide_eq_true (by omega)
    clear hab hsame
    go_enter Try.func7, Try.ntmps7
    go_wp2_with fail
    refine H0.out.mono ?_
    rintro e1 w1 ⟨rfl, b1⟩
    have H1 := Lib.hid (HQ.out w1 (HZ.out.2.2.2.2.trans (b1.mono HZ.out.2.2.2.2.size)))
    clear b1
    go_wp2_with fail
    refine H1.out.mono ?_
    rintro e2 w2 ⟨rfl, b2⟩
    go_wp2_with fail
    go_ret
    exact ⟨rfl, b2⟩
  have g2 : decide ((sa : Int) < 1) = false := decide_eq_false (by omega)
  by_cases ha2 : 16 < sa
  · have g3 : decide ((16 : Int) < (sa : Int)) = true := decide_eq_true (by omega)
    clear hab hsame
    go_enter Try.func7, Try.ntmps7
    go_wp2_with fail
    refine H0.out.mono ?_
    rintro e1 w1 ⟨rfl, b1⟩
    have H1 := Lib.hid (HQ.out w1 (HZ.out.2.2.2.2.trans (b1.mono HZ.out.2.2.2.2.size)))
    clear b1
    go_wp2_with fail
    refine H1.out.mono ?_
    rintro e2 w2 ⟨rfl, b2⟩
    go_wp2_with fail
    go_ret
    exact ⟨rfl, b2⟩
  have g3 : decide ((16 : Int) < (sa : Int)) = false := decide_eq_false (by omega)
  by_cases hb1 : sb < 1
  · have g4 : decide ((sb : Int) < 1) = true := decide_eq_true (by omega)
    clear hab hsame
    go_enter Try.func7, Try.ntmps7
    go_wp2_with fail
    refine H0.out.mono ?_
    rintro e1 w1 ⟨rfl, b1⟩
    have H1 := Lib.hid (HQ.out w1 (HZ.out.2.2.2.2.trans (b1.mono HZ.out.2.2.2.2.size)))
    clear b1
    go_wp2_with fail
    refine H1.out.mono ?_
    rintro e2 w2 ⟨rfl, b2⟩
    go_wp2_with fail
    go_ret
    exact ⟨rfl, b2⟩
  have g4 : decide ((sb : Int) < 1) = false := decide_eq_false (by omega)
  by_cases hb2 : 16 < sb
  · have g5 : decide ((16 : Int) < (sb : Int)) = true := decide_eq_true (by omega)
    clear hab hsame
    go_enter Try.func7, Try.ntmps7
    go_wp2_with fail
    refine H0.out.mono ?_
    rintro e1 w1 ⟨rfl, b1⟩
    have H1 := Lib.hid (HQ.out w1 (HZ.out.2.2.2.2.trans (b1.mono HZ.out.2.2.2.2.size)))
    clear b1
    go_wp2_with fail
    refine H1.out.mono ?_
    rintro e2 w2 ⟨rfl, b2⟩
    go_wp2_with fail
    go_ret
    exact ⟨rfl, b2⟩
  have g5 : decide ((16 : Int) < (sb : Int)) = false := decide_eq_false (by omega)
  have hao : okNm a := ⟨by omega, by omega⟩
  have hbo : okNm b := ⟨by omega, by omega⟩
  have hya : (strNums a).length = sa := by rw [strNums_length]; exact hsa
  have HN := Lib.hid (And.intro hao (And.intro hbo (And.intro hsame hya)))
  have hsa16 : sa ≤ 16 := by omega
  have c1 := code_app (P := ⟨1048576, [], []⟩) (d := xs) hao
  rw [show used (⟨1048576, [], []⟩ : Pd).files = 0 from rfl, HZ.out.2.2.1] at c1
  simp only at c1
  have HC1 := Lib.hid c1
  clear hab hsame hao hbo hya hb1 hb2 ha2 c1
  go_enter Try.func7, Try.ntmps7
  go_wp2_with fail
  refine H0.out.mono ?_
  rintro e1 w1 ⟨rfl, b1⟩
  have H1 := on_new V b1 1048576 100 (by omega)
  rw [show roomOf 1048576 = 1048576 by decide] at H1
  have H1 := Lib.hid H1
  clear b1
  go_wp2_with fail
  refine H1.out.mono ?_
  rintro e2 w2 ⟨db, rfl, h2⟩
  have S2 := Lib.hid h2.out.1
  have HW : Hid (∀ W, Below V.heap.size V W → Below w.heap.size w W) := Lib.hid fun W hW => HZ.out.2.2.2.2.trans (hW.mono HZ.out.2.2.2.2.size)
  have hxW : Hid (∀ W, Below V.heap.size V W → Ns .u8 W W.heap.size A xs) := Lib.hid fun W hW => (HZ.out.1.below (HW.out W hW)).more (HW.out W hW).size
  have hyW : Hid (∀ W, Below V.heap.size V W → Ns .u8 W W.heap.size (some ⟨yb, 0, none⟩) (strNums a)) := Lib.hid fun W hW => (HZ.out.2.2.2.1.below hW).more hW.size
  clear h2 g1 g2 g3 g4 g5 hconv
  by_cases hbig : 1048576 < k
  · have hc : Pd.code ⟨1048576, [], []⟩ ⟨1, a, ⟨#[]⟩, xs, 0⟩ = 72 := by
      rw [HC1.out, if_pos (by omega)]
    have H3 := S2.out.append (by omega) a xs k HZ.out.2.2.1 A c (hxW.out w2 S2.out.old) HZ.out.2.1 hc
    rw [push_no (by rw [hc]; omega)] at H3
    have H3 := Lib.hid H3
    have q1 : decide ((1048576 : Int) < (k : Int)) = true := decide_eq_true (by omega)
    have hc2 : Pd.code ⟨1048576, [], []⟩ ⟨1, b, ⟨#[]⟩, strNums a, 0⟩ = 0 := by
      rw [code_app HN.out.2.1, show used (⟨1048576, [], []⟩ : Pd).files = 0 from rfl, HN.out.2.2.2]
      simp only
      rw [if_neg (by omega)]
    have HC2 := Lib.hid hc2
    clear hc hbig hc2
    go_wp2_with fail
    refine H3.out.mono ?_
    rintro e3 w3 ⟨rfl, h3⟩
    have H4 := Lib.hid (h3.out.1.append (by omega) b (strNums a) sa HN.out.2.2.2 (some ⟨yb, 0, none⟩) cy (hyW.out w3 h3.out.1.old) (strNums_bytes a) HC2.out)
    clear h3
    go_wp2_with fail
    refine H4.out.mono ?_
    rintro e4 w4 ⟨rfl, h4⟩
    have HE := Lib.hid (HW.out w4 h4.out.1.old)
    clear h4
    go_wp2_with fail
    go_ret
    exact ⟨rfl, HE.out⟩
  have p1 := push_append (P := ⟨1048576, [], []⟩) (s := a) (d := xs) HN.out.1 (by show ((0 : Nat) : Int) + xs.length ≤ 1048576; rw [HZ.out.2.2.1]; omega)
  have f1 : (⟨1048576, [], [⟨1, a, ⟨#[]⟩, xs, 0⟩]⟩ : Pd).files = [(a, xs)] := by
    have := p1.2.2
    rw [p1.2.1] at this
    rw [this]
    rfl
  have H3 := S2.out.append (by omega) a xs k HZ.out.2.2.1 A c (hxW.out w2 S2.out.old) HZ.out.2.1 p1.1
  rw [p1.2.1] at H3
  have H3 := Lib.hid H3
  have hc2 := code_app (P := ⟨1048576, [], [⟨1, a, ⟨#[]⟩, xs, 0⟩]⟩) (d := strNums a) HN.out.2.1
  rw [f1, used_one, HZ.out.2.2.1, HN.out.2.2.2] at hc2
  simp only at hc2
  have HF1 := Lib.hid f1
  have HC2 := Lib.hid hc2
  clear p1 f1 hc2
  go_wp2_with fail
  refine H3.out.mono ?_
  rintro e3 w3 ⟨rfl, h3⟩
  have S3 := Lib.hid h3.out.1
  clear h3
  have e5 : IntKind.i64.wrap ((1048576 : Int) - (k : Int)) = 1048576 - (k : Int) := Go.IntWalk.i64_in _ (by omega)
  by_cases hfull : (1048576 : Int) - (k : Int) < (sa : Int)
  · have hc := HC2.out
    rw [if_pos hfull] at hc
    have q1 : decide ((1048576 : Int) - (k : Int) < (sa : Int)) = true := decide_eq_true hfull
    have H4 := Lib.hid (S3.out.append (by omega) b (strNums a) sa HN.out.2.2.2 (some ⟨yb, 0, none⟩) cy (hyW.out w3 S3.out.old) (strNums_bytes a) hc)
    clear hc hfull
    go_wp2_with fail
    refine H4.out.mono ?_
    rintro e4 w4 ⟨rfl, h4⟩
    have HE := Lib.hid (HW.out w4 h4.out.1.old)
    clear h4
    go_wp2_with fail
    go_ret
    exact ⟨rfl, HE.out⟩
  have p2 := push_append (P := ⟨1048576, [], [⟨1, a, ⟨#[]⟩, xs, 0⟩]⟩) (s := b) (d := strNums a) HN.out.2.1 (by rw [HF1.out, used_one, HZ.out.2.2.1, HN.out.2.2.2]; simp only; omega)
  rw [HF1.out, dat_oth HN.out.2.2.1, List.nil_append] at p2
  have H4 := S3.out.append (by omega) b (strNums a) sa HN.out.2.2.2 (some ⟨yb, 0, none⟩) cy (hyW.out w3 S3.out.old) (strNums_bytes a) p2.1
  rw [p2.2.1] at H4
  have H4 := Lib.hid H4
  have f2 : (⟨1048576, [], [⟨1, b, ⟨#[]⟩, strNums a, 0⟩, ⟨1, a, ⟨#[]⟩, xs, 0⟩]⟩ : Pd).files = wit [(a, xs)] b (strNums a) := by
    have := p2.2.2
    rw [p2.2.1] at this
    exact this
  have p3 := rename_code (P := ⟨1048576, [], [⟨1, b, ⟨#[]⟩, strNums a, 0⟩, ⟨1, a, ⟨#[]⟩, xs, 0⟩]⟩) HN.out.1 HN.out.2.1 (x := xs) (by rw [f2, find_wit, if_neg HN.out.2.2.1, find_one])
  have f3 : (⟨1048576, [], [⟨3, a, b, [], 0⟩, ⟨1, b, ⟨#[]⟩, strNums a, 0⟩, ⟨1, a, ⟨#[]⟩, xs, 0⟩]⟩ : Pd).files = [(b, xs)] := by
    have := p3.2.2
    rw [p3.2.1, f2, moved HN.out.2.2.1] at this
    exact this
  have p4 := rename_code (P := ⟨1048576, [], [⟨3, a, b, [], 0⟩, ⟨1, b, ⟨#[]⟩, strNums a, 0⟩, ⟨1, a, ⟨#[]⟩, xs, 0⟩]⟩) HN.out.2.1 HN.out.2.1 (x := xs) (by rw [f3, find_one])
  obtain ⟨P4, hP4⟩ : ∃ P4 : Pd, (⟨1048576, [], [⟨3, b, b, [], 0⟩, ⟨3, a, b, [], 0⟩, ⟨1, b, ⟨#[]⟩, strNums a, 0⟩, ⟨1, a, ⟨#[]⟩, xs, 0⟩]⟩ : Pd) = P4 := ⟨_, rfl⟩
  have f4 : P4.files = [(b, xs)] := by
    have := p4.2.2
    rw [p4.2.1, f3, moved_self] at this
    rw [← hP4]
    exact this
  have l4 : P4.q.length = 4 := by rw [← hP4]; rfl
  have c5 : P4.code ⟨4, a, ⟨#[]⟩, [], 0⟩ = 71 := by
    rw [code_find HN.out.1 (fun q => absurd q (by simp only; omega)) (by simp only; omega)]
    simp only
    rw [f4, find_oth (fun e => HN.out.2.2.1 e.symm)]
  rw [hP4] at p4
  have HP := Lib.hid (And.intro p3.1 (And.intro p3.2.1 (And.intro f3 (And.intro p4.1 (And.intro p4.2.1 (And.intro f4 (And.intro l4 c5)))))))
  clear p2 p3 p4 f2 f3 f4 l4 c5 hP4 hfull hbig e5
  go_wp2_with fail
  refine H4.out.mono ?_
  rintro e4 w4 ⟨rfl, h4⟩
  have H5 := h4.out.1.rename (by omega) a b HP.out.1
  rw [HP.out.2.1] at H5
  have H5 := Lib.hid H5
  clear h4
  go_wp2_with fail
  refine H5.out.mono ?_
  rintro e5 w5 ⟨rfl, h5⟩
  have S5 := Lib.hid h5.out.1
  have H6 := Lib.hid (h5.out.1.names (by omega))
  clear h5
  go_wp2_with fail
  refine H6.out.mono ?_
  rintro e6 w6 ⟨g6, c6, n6, rfl, h6⟩
  obtain ⟨hn6, ho6, bb6⟩ := id h6.out
  rw [HP.out.2.2.1] at hn6 ho6
  obtain rfl : n6 = 1 := hn6
  have S6 := Lib.hid (S5.out.hold bb6)
  have HO6 := Lib.hid ho6
  have H7 := S6.out.read b (ok_of HN.out.2.1.2) k (by rw [HP.out.2.2.1, dat_one]; exact HZ.out.2.2.1)
  rw [HP.out.2.2.1, find_one, dat_one] at H7
  have H7 := Lib.hid H7
  clear h6 ho6 bb6
  go_wp2_with fail
  refine H7.out.mono ?_
  rintro e7 w7 ⟨A7, c7, rfl, h7⟩
  have S7 := Lib.hid (S6.out.hold h7.out.2)
  have HO7 := Lib.hid (And.intro (own_below HO6.out h7.out.2 (Nat.le_refl _)) h7.out.1)
  have hb76 : Hid (w5.heap.size ≤ w6.heap.size ∧ w6.heap.size ≤ w7.heap.size) := Lib.hid ⟨Nat.le_of_lt_succ (by have := HO6.out.lt g6 rfl; omega), h7.out.2.size⟩
  have H8 := S7.out.read a (ok_of HN.out.1.2) 0 (by rw [HP.out.2.2.1, dat_oth (fun e => HN.out.2.2.1 e.symm)]; rfl)
  rw [HP.out.2.2.1, find_oth (fun e => HN.out.2.2.1 e.symm), dat_oth (fun e => HN.out.2.2.1 e.symm)] at H8
  have H8 := Lib.hid H8
  clear h7
  go_wp2_with fail
  refine H8.out.mono ?_
  rintro e8 w8 ⟨A8, c8, rfl, h8⟩
  have S8 := Lib.hid (S7.out.below h8.out.2)
  have HO8 := Lib.hid (And.intro (own_below HO7.out.1 h8.out.2 (Nat.le_refl _)) (own_below HO7.out.2 h8.out.2 (Nat.le_refl _)))
  have H9 := S8.out.rename (by omega) b b HP.out.2.2.2.1
  rw [HP.out.2.2.2.2.1] at H9
  have H9 := Lib.hid H9
  have HB8 := Lib.hid h8.out.2.size
  clear h8
  go_wp2_with fail
  refine H9.out.mono ?_
  rintro e9 w9 ⟨rfl, h9⟩
  have S9 := Lib.hid h9.out.1
  have HO9 : Hid (w9.ownsRow w5.heap.size 9 1 (.slice (some ⟨g6, 0, none⟩) 1 c6) 1 [.string b] ∧ w9.ownsRow w6.heap.size 5 1 (.slice A7 k c7) k (nums .u8 xs)) := Lib.hid ⟨own_keep HO8.out.1 fun g hg => h9.out.2.2 g (.inl (.inr ⟨(HO6.out.lt g hg).1, (HO6.out.lt g hg).2⟩)), own_keep HO8.out.2 fun g hg => h9.out.2.2 g (.inr ⟨(HO7.out.2.lt g hg).1, (HO7.out.2.lt g hg).2⟩)⟩
  have H10 := S9.out.read b (ok_of HN.out.2.1.2) k (by rw [HP.out.2.2.2.2.2.1, dat_one]; exact HZ.out.2.2.1)
  rw [HP.out.2.2.2.2.2.1, find_one, dat_one] at H10
  have H10 := Lib.hid H10
  clear h9
  go_wp2_with fail
  refine H10.out.mono ?_
  rintro e10 wa ⟨Aa, ca, rfl, ha⟩
  have Sa := Lib.hid (S9.out.below ha.out.2)
  have p0 : wa.cell? ⟨g6, 0, none⟩ = some (.string b) := (own_below HO9.out.1 ha.out.2 (Nat.le_refl _)).cellAt 0 (by omega)
  have k1 := run_conv_ns (P := Try.prog) wa 29 5 9 Try.underlying29 Try.underlying5 Try.underlying9 c7 (own_ns (A := A7) (c := c7) (n := k) (zs := xs) (by rw [HZ.out.2.2.1]; exact own_below HO9.out.2 ha.out.2 (Nat.le_refl _)))
  have k2 := run_conv_ns (P := Try.prog) wa 29 5 9 Try.underlying29 Try.underlying5 Try.underlying9 c (hxW.out wa Sa.out.old)
  have k3 := run_conv_ns (P := Try.prog) wa 29 5 9 Try.underlying29 Try.underlying5 Try.underlying9 ca (own_ns (A := Aa) (c := ca) (n := k) (zs := xs) (by rw [HZ.out.2.2.1]; exact ha.out.1))
  obtain ⟨Sx, hSx⟩ : ∃ S, strOfNums xs = S := ⟨_, rfl⟩
  rw [HZ.out.2.2.1, hSx] at k1 k2 k3
  have H11 := Sa.out.remove (by omega) a HP.out.2.2.2.2.2.2.2
  rw [push_no (by rw [HP.out.2.2.2.2.2.2.2]; omega)] at H11
  have H11 := Lib.hid H11
  clear ha hSx
  go_wp2_with fail
  refine H11.out.mono ?_
  rintro e11 wb ⟨rfl, hb⟩
  have H12 := Lib.hid (hb.out.1.loose 4 HP.out.2.2.2.2.2.2.1)
  have H13 := hb.out.1.used
  rw [HP.out.2.2.2.2.2.1, used_one, HZ.out.2.2.1] at H13
  have H13 := Lib.hid H13
  have HE := Lib.hid (HW.out wb hb.out.1.old)
  clear hb
  go_wp2_with fail
  refine H12.out.mono ?_
  rintro e12 wc ⟨rfl, hwc⟩
  obtain rfl := hwc.symm
  go_wp2_with fail
  refine H13.out.mono ?_
  rintro e13 wd ⟨rfl, hwd⟩
  obtain rfl := hwd.symm
  go_wp2_with fail
  go_ret
  exact ⟨rfl, HE.out⟩
-- ROW BEGIN
set_option maxRecDepth 100000 in
/-- What the walk gives, shut again. -/
theorem contract (H : Type) (enc : TypeId × Value → H) (W : World) (base : Nat) (args : Array Value) (ds gs : List (DataW H)) (before : List MemPlace)
    (hval : ∀ (j : Nat) t v, Try.f7.params[j]? = some t → args[j]? = some v → Value.okWide Try.prog W .any base t v)
    (hW : DataW.Whole enc Try.prog Try.f7.params.toList Rows.diskNamesSpec.vars false W args.toList ds gs before)
    (hsz : (DataW.weightsEach Try.prog (Try.f7.params.toList ++ Rows.diskNamesSpec.plain.varTypes Try.prog) (ds ++ gs)).all (· ≤ reachBytes) = true) :
    Calls Try.prog 7 args W fun e W' => ∃ v, e = .returned v ∧ Rows.diskNamesSpec.post enc Try.prog Try.f7 false true false false W args v W' := by
  have hW' := hW
  obtain ⟨p, q, hA0, hV, hbef, _, _⟩ := hW
  have hA : DataW.TrodAll enc Try.prog W 0 (fun _ => true) true Try.f7.params.toList args.toList ds p := hA0
  have hA1 := hA
  rw [Try.params7] at hA hval hsz
  obtain ⟨v0, vs0, d0, ds0, p0, q0, hargs, rfl, rfl, h0, r0⟩ := trodAll_cons hA
  obtain ⟨v1, vs1, d1, ds1, p1, q1, rfl, rfl, rfl, h1, r1⟩ := trodAll_cons r0
  obtain ⟨v2, vs2, d2, ds2, p2, q2, rfl, rfl, rfl, h2, r2⟩ := trodAll_cons r1
  obtain ⟨rfl, rfl, rfl⟩ := trodAll_nil r2
  obtain rfl : args = #[v0, v1, v2] := by cases args; simp_all
  obtain ⟨rfl, rfl⟩ := trodVars_none hV
  clear hA hargs
  obtain ⟨a0, rfl, rfl, _, w0⟩ := Go.ChangeMaps.open_string Try.underlying9 (hval 0 9 v0 rfl rfl) h0
  have b0 : a0.size ≤ 140737488351232 := by
    have h9 := sized_string hsz (j := 0) rfl rfl
    have h3 : reachBytes = 140737488351232 := by decide
    have h4 : a0.data.toList.length = a0.size := by rw [Array.length_toList]; rfl
    omega
  obtain ⟨a1, rfl, rfl, _, w1⟩ := Go.ChangeMaps.open_string Try.underlying9 (hval 1 9 v1 rfl rfl) h1
  have b1 : a1.size ≤ 140737488351232 := by
    have h9 := sized_string hsz (j := 1) rfl rfl
    have h3 : reachBytes = 140737488351232 := by decide
    have h4 : a1.data.toList.length = a1.size := by rw [Array.length_toList]; rfl
    omega
  obtain ⟨A2, c2, a2, rfl, n2, w2, l2, _, o2⟩ := open_ns Try.underlying29 Try.underlying5 Facts.cells5 (hval 2 29 v2 rfl rfl) h2
  have b2 := reach_ns hsz (j := 2) rfl rfl Try.underlying29 Facts.bytes5 l2 o2
  refine (walk W a0 (by omega) a1 (by omega) A2 c2 a2 n2 (fun z hz => wf_byte (w2 z hz)) (by omega) l2).mono fun e W' ⟨he, hb⟩ => ?_
  subst he
  exact ⟨_, rfl, law_post Facts.laid (by rfl) Try.underlying4 (by rw [Try.params7]; decide +kernel) hW' hA1 rfl hbef rfl rfl rfl hb⟩

set_option maxRecDepth 100000 in
theorem lifted (os : Os) (started : os.Started) (H : Type) (enc : TypeId × Value → H) :
    ReturnsInHanded {} Try.checked os 7 .any (Rows.diskNamesSpec.pre6 enc Try.prog Try.f7 Rows.diskNamesRow.domain false) (Rows.diskNamesSpec.post enc Try.prog Try.f7 false true false false) := by
  refine returnsInHanded_of_change_sized (C := Try.checked) Facts.own started (by kernel_rfl) Try.func7
    (ChangeSpec.witness6 (enc := enc) (C := Try.checked) false ⟨#[], #[.string ⟨#[]⟩, .string ⟨#[]⟩, .slice none 0 0], []⟩ 8 (by kernel_rfl) (by kernel_rfl) (by kernel_rfl) (by kernel_rfl)) ?_
  intro W base args ds gs before hval hW _ hsz _
  exact contract H enc W base args ds gs before hval hW hsz

theorem holds : Rows.DiskNamesSaid :=
  OpenClaim.holds_of_wide 7 Try.f7 rfl rfl rfl rfl rfl rfl rfl ⟨rfl, rfl, rfl, rfl, rfl⟩ rfl rfl rfl rfl rfl (by kernel_rfl) Try.func7 (by kernel_rfl)
    (of_decide_eq_true (by kernel_rfl)) (by unfold Func.isWrapper; first | (rw [if_pos (by decide +kernel)]; kernel_rfl) | (rw [if_neg (by decide +kernel)]; exact ⟨rfl, rfl⟩))
    (fun os started H enc _ => lifted os started H enc)
-- ROW END
end DiskNames
end Go.Proofs.Ytdcppjpjlhbanaa

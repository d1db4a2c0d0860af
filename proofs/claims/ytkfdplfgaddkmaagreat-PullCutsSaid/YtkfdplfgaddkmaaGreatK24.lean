/-
  Several texts of this family in one: TreeRecs.
-/
import Derived.Test.YtkfdplfgaddkmaaGreatK20
import Derived.Test.YtkfdplfgaddkmaaGreatK23
import Derived.Laws.IdiomRangeMap
import Derived.Sort.OwnSorted
/-
 The records beneath a path, rising by keys.
-/
namespace Go.Proofs.YtkfdplfgaddkmaaGreat
namespace Tree
open Go.RowKit Vers Num Ring Disk Blk Go.Maps
open Go.Proofs.YtkfdplfgaddkmaaGreat.Code hiding Bn
attribute [local go_sem ↓] Go.wp_at_zero Go.wp_at_succ

theorem info_rec : (Tryz.prog.info? 70).map (fun i => (i.zero, i.size, i.bytes)) = some (some (.agg #[.string ⟨#[]⟩, .slice none 0 0]), 2, 40) := by kernel_rfl
theorem nodup_len {α : Type} [DecidableEq α] : ∀ {l m : List α}, l.Nodup → (∀ x ∈ l, x ∈ m) → l.length ≤ m.length
 | [], _, _, _ => Nat.zero_le _
 | x :: l, m, h, hs => by
  have hx := hs x (by simp)
  obtain ⟨h1, h2⟩ := List.nodup_cons.1 h
  have ih := nodup_len (l := l) (m := m.erase x) h2 fun y hy => (List.mem_erase_of_ne (fun (e : y = x) => h1 (by rw [← e]; exact hy))).2 (hs y (by simp [hy]))
  rw [List.length_erase_of_mem hx] at ih
  have := List.length_pos_of_mem hx
  simp only [List.length_cons]
  omega
def Coll (all : List Rc) (a k : Nat) (more : Rc → Prop) (ps : List Pr) : Prop :=
 (ps.map Prod.fst).Nodup ∧ ∀ r, r ∈ ps.map Prod.fst ↔ r ∈ all ∧ ((a ≤ leafN r.1 ∧ leafN r.1 < a + k) ∨ (leafN r.1 = a + k ∧ more r))
theorem coll_start (all : List Rc) (a : Nat) : Coll all a 0 (fun _ => False) [] := ⟨by simp, fun r => by simp; try (intro _ _; omega)⟩
theorem Coll.next {all : List Rc} {a k : Nat} {more : Rc → Prop} {ps : List Pr} (h : Coll all a k more ps) (hm : ∀ r, r ∈ all → leafN r.1 = a + k → more r) : Coll all a (k + 1) (fun _ => False) ps := by
 refine ⟨h.1, fun r => (h.2 r).trans ?_⟩
 constructor
 ·rintro ⟨h1, h2 | ⟨h2, _⟩⟩
  ·exact ⟨h1, .inl (by omega)⟩
  ·exact ⟨h1, .inl (by omega)⟩
 ·rintro ⟨h1, h2 | ⟨_, h2⟩⟩
  ·by_cases e : leafN r.1 = a + k
   ·exact ⟨h1, .inr ⟨e, hm r h1 e⟩⟩
   ·exact ⟨h1, .inl (by omega)⟩
  ·cases h2
theorem Coll.same {all : List Rc} {a k : Nat} {more more' : Rc → Prop} {ps : List Pr} (h : Coll all a k more ps) (hm : ∀ r, r ∈ all → leafN r.1 = a + k → (more r ↔ more' r)) : Coll all a k more' ps := by
 refine ⟨h.1, fun r => (h.2 r).trans ?_⟩
 constructor
 ·rintro ⟨h1, h2 | ⟨h2, h3⟩⟩
  ·exact ⟨h1, .inl h2⟩
  ·exact ⟨h1, .inr ⟨h2, (hm r h1 h2).1 h3⟩⟩
 ·rintro ⟨h1, h2 | ⟨h2, h3⟩⟩
  ·exact ⟨h1, .inl h2⟩
  ·exact ⟨h1, .inr ⟨h2, (hm r h1 h2).2 h3⟩⟩
theorem Coll.add {all : List Rc} {a k : Nat} {more more' : Rc → Prop} {ps : List Pr} (h : Coll all a k more ps) (p : Pr) (hp : p.1 ∈ all) (hl : leafN p.1.1 = a + k) (hno : ¬ more p.1) (hm : ∀ r, r ∈ all → leafN r.1 = a + k → (more' r ↔ more r ∨ r = p.1)) : Coll all a k more' (ps ++ [p]) := by
 refine ⟨?_, fun r => ?_⟩
 ·rw [List.map_append, List.nodup_append]
  refine ⟨h.1, by simp, fun x hx y hy e => ?_⟩
  simp at hy
  subst hy
  subst e
  rcases (h.2 _).1 hx with ⟨_, h2 | ⟨_, h3⟩⟩
  ·omega
  ·exact hno h3
 ·rw [List.map_append, List.mem_append, h.2 r]
  simp only [List.map_cons, List.map_nil, List.mem_singleton]
  constructor
  ·rintro (⟨h1, h2 | ⟨h2, h3⟩⟩ | rfl)
   ·exact ⟨h1, .inl h2⟩
   ·exact ⟨h1, .inr ⟨h2, (hm r h1 h2).2 (.inl h3)⟩⟩
   ·exact ⟨hp, .inr ⟨hl, (hm _ hp hl).2 (.inr rfl)⟩⟩
  ·rintro ⟨h1, h2 | ⟨h2, h3⟩⟩
   ·exact .inl ⟨h1, .inl h2⟩
   ·rcases (hm r h1 h2).1 h3 with h4 | rfl
    ·exact .inl ⟨h1, .inr ⟨h2, h4⟩⟩
    ·exact .inr rfl
theorem Coll.len {all : List Rc} {a k : Nat} {more : Rc → Prop} {ps : List Pr} (h : Coll all a k more ps) : ps.length ≤ all.length := by
 have := nodup_len h.1 fun x hx => ((h.2 x).1 hx).1
 simpa using this
theorem coll_end {all : List Rc} {p : List Int} (hp : okP p) (hs : Srt all) {m : Nat} (hm : toN p - fromN p = m) {ps ps' : List Pr} (h : Coll all (fromN p) m (fun _ => False) ps) (h1 : ps'.Perm ps) (h2 : ps'.Pairwise fun x y => nlt y.1.1 x.1.1 = false) : ps'.map Prod.fst = beneath all p := by
 have hf := from_lt hp
 have hmem : ∀ r, r ∈ ps'.map Prod.fst ↔ r ∈ beneath all p := fun r => by
  rw [(h1.map Prod.fst).mem_iff, h.2 r, beneath_mem, in_leaf hp]
  constructor
  ·rintro ⟨q1, q2 | ⟨_, q2⟩⟩
   ·exact ⟨q1, by omega⟩
   ·cases q2
  ·rintro ⟨q1, q2⟩
   exact ⟨q1, .inl (by omega)⟩
 have hnd : (ps'.map Prod.fst).Nodup := (h1.map Prod.fst).nodup_iff.2 h.1
 have hsrt : Srt (ps'.map Prod.fst) := by
  unfold Srt
  rw [List.pairwise_map]
  have hk : ps'.Pairwise fun x y => x.1 ≠ y.1 := by
   unfold List.Nodup at hnd
   rwa [List.pairwise_map] at hnd
  refine List.Pairwise.imp_of_mem ?_ (List.Pairwise.and hk h2)
  rintro x y hx hy ⟨e1, e2⟩
  have m1 := (beneath_mem.1 ((hmem _).1 (List.mem_map.2 ⟨x, hx, rfl⟩))).1
  have m2 := (beneath_mem.1 ((hmem _).1 (List.mem_map.2 ⟨y, hy, rfl⟩))).1
  refine nlt_tri e2 fun e => e1 ?_
  have f1 := find_mem hs m1
  have f2 := find_mem hs m2
  rw [← e, f2] at f1
  exact Prod.ext e.symm (by injection f1 with f1; exact f1.symm)
 exact srt_mem hsrt (beneath_srt hs p) hmem

theorem map_entry {D : DataW Value} {l : Vl} (hm : MapV D l) {s : Nm} {kl : Lit} (hk : keyOf Tryz.prog 9 (.string s) = some kl) {cv : Value} {yd : DataW Value} {yp : List MemPlace} (hv : heldE cv = some (yd, yp)) (hat : ∀ zd, D.atKey kl zd = yd) : (s, cv) ∈ l := by
 have e0 : DataW.held cv = yd := congrArg Prod.fst (Option.some.inj hv)
 subst e0
 cases hf : find l s with
 | none =>
  have h1 := hm s kl hk (.held (.bool true))
  have h2 := hm s kl hk (.held (.bool false))
  rw [hat, hf] at h1 h2
  have h3 := h1.symm.trans h2
  simp at h3
 | some v =>
  have h1 := hm s kl hk (.held (.bool true))
  rw [hat, hf] at h1
  have h2 : cv = v := DataW.held.inj h1
  subst h2
  exact find_some hf
def NewRs (l : List Rc) (w : World) (e : Ending) (w' : World) : Prop :=
 ∃ A n c ps, e = .returned (.slice A n c) ∧ Hid (ps.map Prod.fst = l ∧ n = l.length ∧ n ≤ c ∧ Got w.heap.size w' A ps) ∧ Below w.heap.size w w'
section
variable {F : Nat → Prop} {w : World} {tb : Nat} {mv : Nat → Option Nat} {f : Fp} {all : List Rc} {Bz : List Int → Prop}
def Going (all : List Rc) (a m : Nat) (w : World) (v q : Value) (wr : World) : Prop :=
 ∃ (k : Nat) (ps : List Pr), q = .int .i64 k ∧ k ≤ m ∧ Hid (RowT w.heap.size wr.heap.size wr v ps ∧ Coll all a k (fun _ => False) ps) ∧ Below w.heap.size w wr
set_option maxRecDepth 100000 in
set_option maxHeartbeats 2000000 in
theorem recs_any (h : TR F w tb mv f all Bz) (hN : all.length ≤ 3518437208882) (A : Option Addr) (c n : Nat) (p : List Int) (hn : p.length = n) (hp : okP p) (hbig : n ≤ 140737488355328) (hr : Ns .i64 w w.heap.size A p) :
  Calls Tryz.prog 51 #[hd tb, .slice A n c] w (NewRs (beneath all p) w) := by
 obtain ⟨i0, hi, hz0, hz1, hz2⟩ := info_parts info_rec
 have H0 := Lib.hid (isPath_any A c n p hn hbig w hr)
 rw [decide_eq_true hp] at H0
 have H1 := Lib.hid (beneath_any A c n p hn hp w hr)
 obtain ⟨f1, f2⟩ := from_lt hp
 have HE : Hid (∀ {m : Nat}, toN p - fromN p = m → ∀ {ps ps' : List Pr}, Coll all (fromN p) m (fun _ => False) ps → ps'.Perm ps → (ps'.Pairwise fun x y => nlt y.1.1 x.1.1 = false) → ps'.map Prod.fst = beneath all p) := Lib.hid (fun hm _ _ q1 q2 q3 => coll_end hp h.ok.1 hm q1 q2 q3)
 obtain ⟨a, ha⟩ : ∃ a, fromN p = a := ⟨_, rfl⟩
 obtain ⟨b, hb⟩ : ∃ b, toN p = b := ⟨_, rfl⟩
 rw [ha, hb] at H1 HE f1
 rw [hb] at f2
 obtain ⟨R, hR⟩ : ∃ R, beneath all p = R := ⟨_, rfl⟩
 rw [hR] at HE ⊢
 have HT := Lib.hid h
 have hcut := fun W => cut_maps W tb a b f1 f2
 have HN := Lib.hid hN
 clear hr hn hp ha hb hR h hN
 unfold hd
 go_enter Tryz.func51, Tryz.ntmps51
 go_wp2_with fail
 refine H0.out.mono ?_
 rintro e w1 ⟨rfl, rfl⟩
 go_wp2_with fail
 refine H1.out.mono ?_
 rintro e w1 ⟨rfl, q, rfl⟩
 have HB1 : Hid (Below w.heap.size w (w.drewN q) ∧ (w.drewN q).heap.size = w.heap.size) := Lib.hid ⟨⟨rfl, rfl, rfl, Nat.le_refl _, fun _ _ => rfl⟩, rfl⟩
 obtain ⟨W, hW⟩ : ∃ W, w.drewN q = W := ⟨_, rfl⟩
 rw [hW] at HB1 ⊢
 clear hW H1 H0
 go_wp2_with fail
 obtain ⟨m, hm⟩ : ∃ m, b - a = m := ⟨_, rfl⟩
 have hm2 : m ≤ 256 := by omega
 have HM := Lib.hid hm
 rw [hm]
 clear hm
 go_loopw [5, 27] (fun v q wr => Going all a m w v q wr) (fun _ q _ => m - (intOf q).toNat)
 case atStart => exact ⟨0, [], rfl, by omega, Lib.hid ⟨rowT_nil _ _ _, coll_start _ _⟩, HB1.out.1⟩
 case round =>
  obtain ⟨k, ps, rfl, hk, hst, hb⟩ := hrel
  by_cases hlt : k < m
  ·have d1 : (0 : Int) ≤ (k : Int) := by omega
   have d2 : (k : Int) < (m : Int) := by omega
   have hi256 : a + k < 256 := by have := HM.out; omega
   have HTr := Lib.hid (HT.out.below hb)
   have hc := HTr.out.cell hi256
   have HB := Lib.hid hb
   obtain ⟨mm, hmm⟩ : ∃ mm, mv (a + k) = mm := ⟨_, rfl⟩
   have HL := Lib.hid (HTr.out.leaf (a + k) hi256)
   rw [hmm] at hc HL
   clear hmm hb
   rcases mm with _ | mb
   ·-- no map there
    have HN' : Hid (∀ v w', RowT w.heap.size wr.heap.size wr v ps → Below wr.heap.size wr w' → Going all a m w v (.int .i64 ((k : Int) + 1)) w') := Lib.hid fun v w' h1 h2 => ⟨k + 1, ps, by go_num, by omega, Lib.hid ⟨(h1.below h2).other (Nat.le_refl _), hst.out.2.next fun r hr e => by
      have h3 := HL.out.1 rfl
      have : r ∈ leafR all (a + k) := leaf_mem.2 ⟨hr, e⟩
      rw [h3] at this
      cases this⟩, HB.out.trans (h2.mono HB.out.size)⟩
    have hrg := run_range_nilMap (P := Tryz.prog) wr 93 9 67 Tryz.underlying93
    have hnx := fun ty => run_next_nilMap (P := Tryz.prog) wr ty 0 0 #[]
    have HV := Lib.hid hst.out.1
    clear hst
    go_wp2_with fail
    refine wp_loop_rounds 1 ?_
    rw [rounds_succ]
    go_wp2_with fail
    go_roundw
    case rel => exact HN'.out _ _ HV.out ((Below.refl _ _).alloc (Nat.le_refl _) _)
    case measure => simp only [intOf]; omega
   ·obtain ⟨wo, hwo⟩ : ∃ W, W = wr := ⟨_, rfl⟩
    subst hwo
    obtain ⟨D0, n0, hown, hm, hsr, hok, hsz⟩ := (HL.out.2 mb rfl).2
    have hmb : mb < w.heap.size := HT.out.lt _ (HL.out.2 mb rfl).1
    have HMM := Lib.hid (And.intro hm (And.intro hsr hok))
    have HST := Lib.hid hst.out
    clear hm hsr hok hsz hst
    go_wp2_with (first
     | (at_range; refine wpList_range_own _ rfl _ 93 rfl 9 67 keyed Tryz.underlying93 _ mb n0 _ rfl hown ?_; intro w0 hrg0 hg0 hs0)
     | fail)
    go_frame
    have hb0 : Below wo.heap.size wo w0 := (Below.refl _ _).grown hg0 (Nat.le_refl _) (fun j hj => by cases hj)
    have HI := Lib.hid (And.intro hrg0 (And.intro hb0 hs0))
    clear hrg0 hg0 hb0 hs0 hown
    go_loopw [5] (fun v wq => ∃ (left : Lit → Bool) (cnt : Nat) (qs : List Pr), wq.ranges Tryz.prog 9 heldE mb wo.heap.size n0 D0 left cnt ∧ Hid (RowT w.heap.size wo.heap.size wq v qs ∧ Coll all a k (fun r => ∃ kl, keyOf Tryz.prog 9 (.string r.1) = some kl ∧ left kl = false) qs ∧ Below w.heap.size w wq ∧ wo.heap.size < wq.heap.size))
     (fun _ wq => wq.rangeLeft mb wo.heap.size)
    case atStart =>
     refine ⟨_, _, ps, HI.out.1, Lib.hid ⟨HST.out.1.below HI.out.2.1, HST.out.2.same fun r hr e => ⟨fun q => q.elim, ?_⟩, HB.out.trans (HI.out.2.1.mono HB.out.size), by rw [HI.out.2.2]; omega⟩⟩
     rintro ⟨kl, h1, h2⟩
     rw [HMM.out.1.has h1] at h2
     have h3 : r ∈ leafR all (a + k) := leaf_mem.2 ⟨hr, e⟩
     have h4 := find_mem (x := vOf f r) HMM.out.2.1 (List.mem_map.2 ⟨r, h3, rfl⟩)
     rw [show (vOf f r).1 = r.1 from rfl] at h4
     rw [h4] at h2
     cases h2
    case round =>
     obtain ⟨left, cnt, qs, hrg, hst⟩ := hrel
     go_wp2_with (first
      | (at_next; refine wpList_next_ranges _ rfl _ rfl 9 keyed heldE Value.string (fun v : Value => v) (fun key kl hk => by obtain ⟨x, hx, _⟩ := key_inv hk; exact ⟨x, hx⟩) (fun v y hv => ⟨v, rfl⟩) mb wo.heap.size n0 _ _ _ rfl hrg ?_ ?_)
      | fail)
     ·intro hc0 hl0
      have HN' : Hid (Going all a m w u5 (.int .i64 ((k : Int) + 1)) wr) := Lib.hid ⟨k + 1, qs, by go_num, by omega, Lib.hid ⟨hst.out.1.other (Nat.le_refl _), hst.out.2.1.next fun r hr e => by
       obtain ⟨kl, hkl⟩ := key_of (s := r.1) (by have := (HT.out.ok.2 r hr).1.2.1; unfold okN maxLen; omega)
       exact ⟨kl, hkl, hl0 kl⟩⟩, hst.out.2.2.1⟩
      clear hst hrg hl0
      go_wp2_with fail
      go_roundw
      case rel => exact HN'.out
      case measure => simp only [intOf]; omega
     ·intro x cv kl yd yp w2 cnt2 hkey hlk hv hat hrg2 hlt2 hg2 hs2 hen
      obtain ⟨r, hr, hre⟩ := List.mem_map.1 (map_entry HMM.out.1 hkey hv hat)
      have hx : r.1 = x := congrArg Prod.fst hre
      have hcv : cv = .slice (f r.1).1 r.2.length (f r.1).2 := (congrArg Prod.snd hre).symm
      have hrall := (leaf_mem.1 hr).1
      obtain ⟨hok1, hok2⟩ := HT.out.ok.2 r hrall
      have hno : ¬ ∃ kl', keyOf Tryz.prog 9 (.string r.1) = some kl' ∧ left kl' = false := by
       rintro ⟨kl', h1, h2⟩
       rw [hx, hkey] at h1
       injection h1 with h1
       subst h1
       rw [hlk] at h2
       cases h2
      have hrow2 := hst.out.1.step hg2 (row_ne_iter hst.out.1.1 hrg)
      have b2 : Below w.heap.size w w2 := hst.out.2.2.1.grown hg2 hst.out.2.2.1.size (fun j hj => by cases hj; exact HB.out.size)
      have hvs := (HT.out.below b2).rows r hrall
      have hlen : qs.length + 1 ≤ all.length := by
       have h := (hst.out.2.1.add (more' := fun q => (∃ kl, keyOf Tryz.prog 9 (.string q.1) = some kl ∧ left kl = false) ∨ q = r) (r, none, 0) hrall (leaf_mem.1 hr).2 hno (fun q _ _ => Iff.rfl)).len
       simpa using h
      have HC : Hid (∀ A1 c1, Coll all a k (fun r => ∃ kl', keyOf Tryz.prog 9 (.string r.1) = some kl' ∧ (left kl' && !kl'.sameKey kl) = false) (qs ++ [(r, A1, c1)])) := Lib.hid fun A1 c1 => hst.out.2.1.add (r, A1, c1) hrall (leaf_mem.1 hr).2 hno fun q hq he => by
       constructor
       ·rintro ⟨kl', h1, h2⟩
        by_cases e : q.1 = r.1
        ·refine .inr ?_
         have g1 := find_mem HT.out.ok.1 hq
         have g2 := find_mem HT.out.ok.1 hrall
         rw [e, g2] at g1
         exact Prod.ext e (by injection g1 with g1; exact g1.symm)
        ·refine .inl ⟨kl', h1, ?_⟩
         have hs : kl'.sameKey kl = false := by
          rw [Bool.eq_false_iff]
          intro h3
          refine e ?_
          rw [hx]
          have h4 := WideAt.sameKey_eq h3
          rw [h4] at h1
          have h5 := keyed.inj h1 hkey
          injection h5
         rw [hs] at h2
         simpa using h2
       ·rintro (⟨kl', h1, h2⟩ | rfl)
        ·exact ⟨kl', h1, by rw [h2]; rfl⟩
        ·refine ⟨kl, by rw [hx]; exact hkey, ?_⟩
         rw [WideAt.sameKey_self (keyed.key hkey)]
         simp
      have hms := hlt2
      obtain ⟨key, lv⟩ := r
      simp only at hx hcv
      subst hx
      obtain ⟨mv', hmv'⟩ : ∃ mv', lv.length = mv' := ⟨_, rfl⟩
      obtain ⟨Av, hAv⟩ : ∃ Av, (f key).1 = Av := ⟨_, rfl⟩
      obtain ⟨cvv, hcvv⟩ : ∃ cvv, (f key).2 = cvv := ⟨_, rfl⟩
      have hvs' := hvs.vs
      simp only at hvs' hok1
      rw [hAv] at hvs'
      rw [hmv', hAv, hcvv] at hcv
      subst hcv
      have hK := Lib.hid (vers_new key (by have h : key.size ≤ 32 := hok1.2.1; omega) Av cvv mv' lv hmv' hok1.2.2 w2 hvs')
      have HR2 := Lib.hid (And.intro hrow2 (And.intro b2 (And.intro hg2.size hst.out.2.2.2)))
      have HH := Lib.hid (And.intro hrg2 (And.intro hlt2 hmv'))
      have HRG := Lib.hid hrg
      have hN2 := HN.out
      clear hr hre hrall hok1 hok2 hno hrow2 b2 hvs hvs' hms hAv hcvv hst hkey hlk hv hat hrg2 hlt2 hg2 hs2 hmv' hrg
      go_wp2_with fail
      refine hK.out.mono ?_
      rintro e w3 ⟨A1, c1, rfl, hrec, b3⟩
      have hs3 := b3.size
      have hown3 := own_below HR2.out.1.1 b3 (Nat.le_refl _)
      have hb23 := HR2.out.2.1.size
      have hl2 : qs.length + 1 ≤ 3518437208882 := by omega
      have hl3 : (qs.length + 1) * 40 ≤ 140737488355328 := by omega
      have hl4 : w.heap.size ≤ w3.heap.size := by omega
      have HLL := Lib.hid hlen
      clear hlen
      go_wp2_with (at_builtin; refine wpList_append_r _ rfl (.tmp 38) (.tmp 43) 23 rfl w.heap.size 70 i0 _ 40 Tryz.underlying23 hi hz0 hz1 hz2 rfl _ qs.length qs rfl hown3 ((key, lv), A1, c1) mv' HH.out.2.2 1 rfl hl3 (by omega) hl4 ?_; intro v4 w4 o4 g4 at4)
      have hg3 : w2.grownBy w3 none := ⟨b3.os, b3.tape, b3.output, b3.size, fun j hj _ => b3.block j hj⟩
      have hrg3 := HH.out.1.kept hg3 (by simp) (by simp)
      have hrg4 := hrg3.kept g4 (row_ne_low hown3 hmb) (row_ne_iter hown3 hrg3)
      have b4 : Below w.heap.size w w4 := (HR2.out.2.1.trans (b3.mono hb23)).grown g4 hl4 (fun j hj => (hown3.lt j hj).1)
      have s4 := g4.size
      have hit2 := HR2.out.2.2.1
      have hit3 := HR2.out.2.2.2
      refine ⟨⟨_, cnt2, qs ++ [((key, lv), A1, c1)], hrg4, Lib.hid ⟨HR2.out.1.add (by omega) b3 hrec.out hb23 o4 g4 at4, HC.out A1 c1, b4, by omega⟩⟩, ?_⟩
      rw [hrg4.left_eq, HRG.out.left_eq]
      exact HH.out.2.1
  ·have hkm : k = m := by omega
   subst hkm
   obtain ⟨hrow, hcol⟩ := hst.out
   have hps := hcol.len
   have hN2 := HN.out
   have hbs := hb.size
   rcases hrow.1.2 with ⟨hv, h0⟩ | ⟨g, cap, cur, hv, hbg, hg, hnc, _⟩
   ·have hnil : ps = [] := List.eq_nil_of_length_eq_zero h0
    subst hnil
    have hR := HE.out HM.out hcol (List.Perm.refl _) List.Pairwise.nil
    have HF : Hid (NewRs R w (.returned (.slice none 0 0)) wr) := Lib.hid ⟨none, 0, 0, [], rfl, Lib.hid ⟨hR, by rw [← hR]; rfl, Nat.le_refl _, fun h => absurd h (by simp)⟩, hb⟩
    subst hv
    clear hst hrow hcol hps hR hb
    go_wp2_with fail
    refine (sort_none none 0 _ wr).mono ?_
    rintro e w2 ⟨rfl, rfl⟩
    go_wp2_with fail
    go_ret
    exact HF.out
   ·obtain ⟨nn, hnn⟩ : ∃ nn, ps.length = nn := ⟨_, rfl⟩
    have ho := hrow.1
    rw [hv, hnn] at ho
    rw [hnn] at hv hnc hps
    have hgl := (ho.lt g rfl).2
    have hS := Lib.hid (sort_any g cap nn w.heap.size ps hnn wr ho (by omega))
    have HF : Hid (∀ w', (∃ l', Hid (l'.Perm ps ∧ l'.Pairwise (fun p q => nlt q.1.1 p.1.1 = false) ∧ Prs w' g l' ∧ wr.grownBy w' (some g) ∧ ∃ cur, w'.heap[g]? = some (.cells cur 70 (0, 0)))) → NewRs R w (.returned (.slice (some ⟨g, 0, none⟩) nn cap)) w') := Lib.hid fun w' ⟨l', hh⟩ => by
     obtain ⟨h1, h2, h3, h4, h5⟩ := hh.out
     have hR := HE.out HM.out hcol h1 h2
     refine ⟨some ⟨g, 0, none⟩, nn, cap, l', rfl, Lib.hid ⟨hR, by rw [← hR, List.length_map, h1.length_eq, hnn], hnc, fun hp => ⟨g, rfl, hbg, h3, h5, fun p hp => ?_⟩⟩, hb.grown h4 hbs (fun j hj => by injection hj with hj; omega)⟩
     obtain ⟨L, B, q1, q2, q3, q4, q5⟩ := hrow.2 p (h1.mem_iff.1 hp)
     have q3' := q3 g (by rw [hv]; rfl)
     exact ⟨L, B, q1, Nat.le_trans q2 h4.size, q3', q5.keep fun j a1 a2 => h4.block j (by omega) fun e => by injection e with e; omega⟩
    subst hv
    clear hst hrow hcol hps hb ho hg hnn hnc
    go_wp2_with fail
    refine hS.out.mono ?_
    rintro e w2 ⟨rfl, hw2⟩
    have HG := Lib.hid (HF.out w2 hw2)
    clear hw2
    go_wp2_with fail
    go_ret
    exact HG.out
end
end Tree
end Go.Proofs.YtkfdplfgaddkmaaGreat

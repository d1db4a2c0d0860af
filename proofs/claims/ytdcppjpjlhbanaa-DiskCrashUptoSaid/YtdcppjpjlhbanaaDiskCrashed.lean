/-
  disk: Crash, walked (layer 7).
-/
import Derived.Test.YtdcppjpjlhbanaaDiskCrash
namespace Go.Proofs.Ytdcppjpjlhbanaa
namespace Disk
open Go.RowKit Blk Go.Maps
attribute [local go_sem ↓] Go.wp_at_zero Go.wp_at_succ
section
variable {F : Nat → Prop} {own : Nat → Nat} {w : World} {db N : Nat} {room : Int} {es es' : Es} {r : List Un}
/-- Files alone, and nothing loose. -/
theorem done_nil {mb n c : Nat} {A : Option Addr} {V : World} (hC : Cor V db mb room A n c es') (hR : ∀ x ∈ es', ROK F own V x.2) (hg : Good N (xsE es')) (hu : (used (fsE es') : Int) ≤ room) (hrm : room ≤ 1073741824) (hN : N ≤ 10000000000000) (h8 : F db) (h9 : F mb) (h11 : ∀ j, F j → j < V.heap.size) :
    DK F own N (V.setCell ⟨db, 3, none⟩ (.slice none 0 0)) db room es' [] ∧ Chg F V (V.setCell ⟨db, 3, none⟩ (.slice none 0 0)) := by
  have gg := gset V db 3 (.slice none 0 0)
  have hne := hC.ne
  refine ⟨⟨mb, none, 0, 0, ⟨hC.1.set 3 _, hC.2.same (gg.block mb hC.2.lt fun e => hne (by injection e with e; exact e.symm))⟩, ⟨rfl, World.ownsRow_nil _ _ _ _⟩, ⟨fun x hx => (hR x hx).grow (fun _ h => h) (fun _ _ => rfl) fun g hg' => ?_, fun e he => by cases he⟩, (fun x _ _ e he => by cases he), ⟨hg, hu, hrm, Nat.zero_le _, hN⟩, h8, h9, (fun g hg' => by cases hg'), fun j hj => Nat.lt_of_lt_of_le (h11 j hj) gg.size⟩, Chg.of_grown gg fun g hg' => by injection hg' with hg'; subst hg'; exact h8⟩
  have hx' := hR x hx
  refine gg.block g ?_ fun e => rok_ne hx' hC.1 (by decide) (by injection e with e; rw [hg', e])
  obtain ⟨_, _, _, q⟩ := hx'
  rcases q with ⟨q, _⟩ | ⟨g2, cur, q1, q2, _⟩
  · rw [q] at hg'; cases hg'
  · rw [q1] at hg'
    injection hg' with hg'
    injection hg' with hg'
    subst hg'
    exact h11 _ q2
/-- The files when j changes are left. -/
def crG (r : List Un) (es : Es) (K : Nat) (t : Int) (j : Nat) : Es := if j = K ∧ K < r.length then crashE r es K t else unE r es (r.length - j)
theorem crG_top {K : Nat} {t : Int} (hK : K ≤ r.length) : crG r es K t r.length = es := by
  unfold crG
  rw [if_neg (by omega), Nat.sub_self]
  cases r <;> rfl
theorem crG_end {K : Nat} {t : Int} (hK : K ≤ r.length) : crG r es K t K = crashE r es K t := by
  unfold crG
  by_cases h : K < r.length
  · rw [if_pos ⟨rfl, h⟩]
  · obtain rfl : K = r.length := by omega
    rw [if_neg (by omega), Nat.sub_self]
    unfold crashE
    rw [show unE r es 0 = es by cases r <;> rfl]
    split
    · rw [if_neg (by omega)]
    · rfl
theorem crG_more {K : Nat} {t : Int} {j : Nat} (h : K < j) : crG r es K t j = unE r es (r.length - j) := by unfold crG; rw [if_neg (by omega)]
theorem crG_step {K : Nat} {t : Int} {j : Nat} {e : Un} (h1 : K ≤ j) (h2 : j < r.length) (he : r[r.length - 1 - j]? = some e) : crG r es K t j = undoE e (if j = K then t else 0) (crG r es K t (j + 1)) := by
  rw [crG_more (r := r) (es := es) (K := K) (t := t) (j := j + 1) (by omega)]
  by_cases h : j = K
  · subst h
    rw [if_pos rfl]
    unfold crG
    rw [if_pos ⟨rfl, h2⟩]
    unfold crashE
    rw [he]
    simp only
    rw [if_pos h2, show r.length - 1 - j = r.length - (j + 1) by omega]
  · rw [if_neg h, crG_more (by omega), show r.length - j = (r.length - (j + 1)) + 1 by omega]
    exact unE_step r es _ e (by rw [show r.length - (j + 1) = r.length - 1 - j by omega]; exact he)
theorem unE_rok {F : Nat → Prop} {own : Nat → Nat} {w : World} {db : Nat} : ∀ (r : List Un) (es : Es) (m : Nat), (∀ e ∈ r, e.ok F own w db) → (∀ x ∈ es, ROK F own w x.2) → ∀ x ∈ unE r es m, ROK F own w x.2
  | r, es, 0, _, h => by cases r <;> exact h
  | [], _, m + 1, _, h => h
  | a :: r, es, m + 1, hr, h => unE_rok r (undoE a 0 es) m (fun e he => hr e (List.mem_cons_of_mem _ he)) (undo_rok (hr a List.mem_cons_self) 0 h)
theorem crG_rok {F : Nat → Prop} {own : Nat → Nat} {w : World} {db : Nat} {K : Nat} {t : Int} {j : Nat} (hr : ∀ e ∈ r, e.ok F own w db) (h : ∀ x ∈ es, ROK F own w x.2) : ∀ x ∈ crG r es K t j, ROK F own w x.2 := by
  unfold crG
  split
  · unfold crashE
    split
    · rename_i e he
      split
      · exact undo_rok (hr e (List.mem_of_getElem? he)) t (unE_rok r es _ hr h)
      · exact h
    · exact h
  · exact unE_rok r es _ hr h
/-- How a crash's end stands. -/
theorem crash_good {K : Nat} {t : Int} (hK : K ≤ r.length) (hc : Chain N r (xsE es)) (hr : Roomy room r (fsE es)) : Good N (xsE (crashE r es K t)) ∧ (used (fsE (crashE r es K t)) : Int) ≤ room := by
  by_cases h : K < r.length
  · obtain ⟨e, he⟩ : ∃ e, r[r.length - 1 - K]? = some e := ⟨_, List.getElem?_eq_getElem (by omega)⟩
    have e1 : crashE r es K t = undoE e t (unE r es (r.length - 1 - K)) := by
      unfold crashE
      rw [he]
      simp only
      rw [if_pos h]
    have c1 := unE_chain r es (r.length - 1 - K) (by omega) hc
    have c2 := unE_roomy r es (r.length - 1 - K) (by omega) hr
    have hd : r.drop (r.length - 1 - K) = e :: r.drop (r.length - 1 - K + 1) := by
      rw [List.drop_eq_getElem_cons (by omega)]
      congr 1
      exact (List.getElem?_eq_some_iff.1 he).2
    rw [hd] at c1 c2
    have h3 := good_undo (e := e) c1.1 c1.2.2.good t (room := room) (by rw [fs_xs]; exact c2.1) (by rw [undo_xf, fs_xs]; exact c2.2.head)
    rw [e1, undo_ex]
    refine ⟨h3.1, ?_⟩
    rw [← fs_xs, undo_ex]
    exact h3.2
  · have e1 : crashE r es K t = es := by
      rw [← crG_end hK]
      obtain rfl : K = r.length := by omega
      exact crG_top (Nat.le_refl _)
    rw [e1]
    exact ⟨hc.good, hr.head⟩
theorem rev_at (r : List Un) {j : Nat} (h : j < r.length) : (r.reverse.map Un.v)[j]? = (r[r.length - 1 - j]?).map Un.v := by
  rw [List.getElem?_map, List.getElem?_reverse h]
set_option maxRecDepth 100000 in
set_option maxHeartbeats 8000000 in
theorem crash_any (h : DK F own N w db room es r) (keep torn : Int) (K : Nat) (hK : min (max keep 0) (r.length : Int) = (K : Int)) :
    Calls Try.prog 22 #[hd db, .int .i64 keep, .int .i64 torn] w (fun e w' => e = .returned (.tuple #[]) ∧ Hid (DK F own N w' db room (crashE r es K torn) [] ∧ Chg F w w')) := by
  obtain ⟨mb, A, n, c, hp⟩ := h.parts
  have hn : r.length = n := hp.2.1.1
  rw [hn] at hK
  have hKn : K ≤ n := by omega
  have c3 := (hp.1.1.cell 3).trans rfl
  have hnN : n ≤ 10000000000000 := by have := hp.2.2.2.2.1.2.2.2.1; have := hp.2.2.2.2.1.2.2.2.2; omega
  have e1 : IntKind.i64.wrap ((n : Int) - 1) = (n : Int) - 1 := Go.IntWalk.i64_in _ (by omega)
  have HP := Lib.hid (And.intro hp hn)
  clear hp h hn
  go_enter Try.func22, Try.ntmps22
  go_wp2_with fail
  clear c3
  go_loopw [6] (fun iv V => ∃ (z : Int) (j : Nat), iv = .int .i64 z ∧ z = (j : Int) - 1 ∧ K ≤ j ∧ j ≤ n ∧ Hid (Cor V db mb room A n c (crG r es K torn j) ∧ Chg (Two db mb) w V)) (fun iv _ => (intOf iv + 1).toNat)
  case atStart => exact ⟨_, n, rfl, rfl, hKn, Nat.le_refl _, Lib.hid ⟨by rw [← HP.out.2, crG_top (by have := HP.out.2; omega), HP.out.2]; exact HP.out.1.1, Chg.refl _ _⟩⟩
  case round =>
    obtain ⟨z, j, rfl, hz, hj1, hj2, hst⟩ := hrel
    have hrow := HP.out.1.row3 (U := w) (Below.refl _ w) hst.out.2
    have c3 := (hst.out.1.1.cell 3).trans rfl
    by_cases hlt : K < j
    · obtain ⟨j', rfl⟩ : ∃ j', j = j' + 1 := ⟨j - 1, by omega⟩
      obtain rfl : z = (j' : Int) := by omega
      obtain ⟨e, he⟩ : ∃ e, r[r.length - 1 - j']? = some e := ⟨_, List.getElem?_eq_getElem (by have := HP.out.2; omega)⟩
      have hrl := HP.out.2
      have hem := List.mem_of_getElem? he
      obtain ⟨g, cap, hv, _, hgl⟩ := hrow.form (by omega)
      injection hv with hA _ hcap
      subst hA hcap
      have hcell := hrow.cellAt j' (by omega)
      rw [rev_at r (by omega), he] at hcell
      have hstep := crG_step (es := es) (K := K) (t := torn) (j := j') (by omega) (by omega) he
      obtain ⟨esj, hesj⟩ : ∃ x, crG r es K torn (j' + 1) = x := ⟨_, rfl⟩
      have hrokw : ∀ x ∈ esj, ROK F own w x.2 := by rw [← hesj]; exact crG_rok HP.out.1.2.2.1.2 HP.out.1.2.2.1.1
      have hrok : ∀ x ∈ esj, ROK F own wr x.2 := fun x hx => by
        have q := hrokw x hx
        refine q.grow (fun _ h => h) (fun _ _ => rfl) fun g2 hg2 => hst.out.2.block g2 ?_ fun e => ?_
        · obtain ⟨_, _, _, q⟩ := q
          rcases q with ⟨q, _⟩ | ⟨g3, cur, q1, q2, _⟩
          · rw [q] at hg2; cases hg2
          · rw [q1] at hg2
            injection hg2 with hg2
            injection hg2 with hg2
            subst hg2
            exact HP.out.1.2.2.2.2.2.2.2.2 _ q2
        · rcases e with rfl | rfl
          · exact rok_ne q HP.out.1.1.1 (by decide) hg2
          · exact rok_map q HP.out.1.1.2 hg2
      have hch := unE_chain r es (r.length - (j' + 1)) (by omega) HP.out.1.2.2.2.2.1.1
      have hdrop : r.drop (r.length - (j' + 1)) = e :: r.drop (r.length - (j' + 1) + 1) := by
        rw [List.drop_eq_getElem_cons (by omega)]
        congr 1
        have := (List.getElem?_eq_some_iff.1 he).2
        rw [← this]
        congr 1
        omega
      rw [hdrop, ← crG_more (t := torn) hlt, hesj] at hch
      have hgood := hch.1
      have hch0 := hch.2.1
      have hus : used (fsE esj) ≤ 1073741824 := by have := hgood.2.2.2.2.1; rwa [fs_xs] at this
      have hlen : esj.length ≤ 10000000000000 := by
        have h1 : (esj.map fun x => (x.1, Fl.x x.2)).length ≤ N := hgood.2.2.2.2.2
        rw [List.length_map] at h1
        have := HP.out.1.2.2.2.2.1.2.2.2.2
        omega
      have hek : e.ok F own wr db := by
        refine Un.ok_lift (F := F) (own := own) (w := w) (db := db) (HP.out.1.2.2.1.2 e hem) (fun {b0 t0 v0} hb0 n1 n2 n3 => ⟨bn_two HP.out.1.1 hb0.1 n1 hst.out.2, hb0.2⟩) fun y hy hyk => ?_
        refine hyk.grow (fun _ h => h) (fun _ _ => rfl) fun g2 hg2 => hst.out.2.block g2 ?_ fun e => ?_
        · obtain ⟨_, _, _, q⟩ := hyk
          rcases q with ⟨q, _⟩ | ⟨g3, cur, q1, q2, _⟩
          · rw [q] at hg2; cases hg2
          · rw [q1] at hg2
            injection hg2 with hg2
            injection hg2 with hg2
            subst hg2
            exact HP.out.1.2.2.2.2.2.2.2.2 _ q2
        · rcases e with rfl | rfl
          · exact rok_ne hyk HP.out.1.1.1 (by decide) hg2
          · exact rok_map hyk HP.out.1.1.2 hg2
      have hC := hst.out.1
      rw [hesj] at hC hstep
      obtain ⟨tt, htt⟩ : ∃ z, (if j' = K then torn else 0) = z := ⟨_, rfl⟩
      rw [htt] at hstep
      have HS := Lib.hid (And.intro hstep hst.out.2)
      have z1 : (0 : Int) ≤ (j' : Int) := by omega
      have z2 : (j' : Int) < (n : Int) := by omega
      have d1 : decide ((K : Int) ≤ (j' : Int)) = true := decide_eq_true (by omega)
      have e2 : IntKind.i64.wrap ((j' : Int) - 1) = (j' : Int) - 1 := Go.IntWalk.i64_in _ (by omega)
      clear hst hrow hem hgl hrokw hch hdrop hgood hesj hstep
      rcases e with ⟨b1, b2, b3, b4, b5, s, wd, k, there, A4, c4⟩ | ⟨cut, b1, b2, b3, s, y⟩ | ⟨b1, b2, b3, b4, b5, b6, tn, from_, other, y2, y⟩
      · have hv := hch0
        obtain ⟨d0, i0, hf0, hl0⟩ := hv
        rw [show xsE esj = mapV Fl.x esj from rfl, find_map] at hf0
        obtain ⟨x, hx, hx2⟩ := Option.map_eq_some_iff.1 hf0
        have hxd : x.d = d0 := congrArg Prod.fst hx2
        rw [← hxd] at hl0
        replace hcell : wr.cell? ⟨g, j', none⟩ = some (.func (.func 39) #[] #[pt b1, pt b2, pt b3, pt b4, pt b5]) := hcell
        have hH := appU hC hek.1.1 hek.2.1.1 hek.2.2.1.1 hek.2.2.2.1.1 hek.2.2.2.2.1.1 hek.2.2.2.2.2.1 hek.2.2.2.2.2.2.1 hek.2.2.2.2.2.2.2 hx hl0 (hrok _ (find_some hx)).1 (hrok _ (find_some hx)).2.2.1 (by omega) (by omega) tt
        have hun : undoE (.app b1 b2 b3 b4 b5 s wd k there A4 c4) tt esj = (if there = true ∨ 0 < tor tt k then wit (wout esj s) s (tkE (wd + tor tt k) x) else wout esj s) := by
          unfold undoE undoG
          simp only
          rw [hx]
        rw [← hun] at hH
        have H1 := Lib.hid hH
        clear hH hun hf0 hx hx2 hl0 hxd
        by_cases hjk : j' = K
        · subst hjk
          rw [if_pos rfl] at htt
          subst htt
          have o1 : ((j' : Int) == (j' : Int)) = true := by simp
          clear hC hek hrok he hus hlen hz
          go_wp2_with fail
          refine H1.out.mono ?_
          rintro e3 w3 ⟨rfl, h3⟩
          have HE := Lib.hid (And.intro h3.out.1 (HS.out.2.trans h3.out.2 fun _ => .inl))
          go_wp2_with fail
          exact ⟨⟨_, j', rfl, rfl, by omega, by omega, Lib.hid ⟨by rw [HS.out.1]; exact HE.out.1, HE.out.2⟩⟩, by simp only [intOf]; omega⟩
        · rw [if_neg hjk] at htt
          subst htt
          have o1 : ((j' : Int) == (K : Int)) = false := by rw [beq_eq_false_iff_ne]; omega
          have o2 : ¬ (j' : Int) = (K : Int) := by omega
          clear hC hek hrok he hus hlen hz
          go_wp2_with fail
          refine H1.out.mono ?_
          rintro e3 w3 ⟨rfl, h3⟩
          have HE := Lib.hid (And.intro h3.out.1 (HS.out.2.trans h3.out.2 fun _ => .inl))
          go_wp2_with fail
          exact ⟨⟨_, j', rfl, rfl, by omega, by omega, Lib.hid ⟨by rw [HS.out.1]; exact HE.out.1, HE.out.2⟩⟩, by simp only [intOf]; omega⟩
      · clear hch0
        cases cut with
        | false =>
          replace hcell : wr.cell? ⟨g, j', none⟩ = some (.func (.func 43) #[] #[pt b1, pt b2, pt b3]) := hcell
          have H1 := Lib.hid (remU hC hek.1.1 hek.2.1.1 hek.2.2.1.1 hek.2.2.2.1 (by omega) hek.2.2.2.2.2.2.1 (by omega) tt)
          by_cases hjk : j' = K
          · subst hjk
            rw [if_pos rfl] at htt
            subst htt
            have o1 : ((j' : Int) == (j' : Int)) = true := by simp
            clear hC hek hrok he hus hlen hz
            go_wp2_with fail
            refine H1.out.mono ?_
            rintro e3 w3 ⟨rfl, h3⟩
            have HE := Lib.hid (And.intro h3.out.1 (HS.out.2.trans h3.out.2 fun _ => .inl))
            go_wp2_with fail
            exact ⟨⟨_, j', rfl, rfl, by omega, by omega, Lib.hid ⟨by rw [HS.out.1]; exact HE.out.1, HE.out.2⟩⟩, by simp only [intOf]; omega⟩
          · rw [if_neg hjk] at htt
            subst htt
            have o1 : ((j' : Int) == (K : Int)) = false := by rw [beq_eq_false_iff_ne]; omega
            have o2 : ¬ (j' : Int) = (K : Int) := by omega
            clear hC hek hrok he hus hlen hz
            go_wp2_with fail
            refine H1.out.mono ?_
            rintro e3 w3 ⟨rfl, h3⟩
            have HE := Lib.hid (And.intro h3.out.1 (HS.out.2.trans h3.out.2 fun _ => .inl))
            go_wp2_with fail
            exact ⟨⟨_, j', rfl, rfl, by omega, by omega, Lib.hid ⟨by rw [HS.out.1]; exact HE.out.1, HE.out.2⟩⟩, by simp only [intOf]; omega⟩
        | true =>
          replace hcell : wr.cell? ⟨g, j', none⟩ = some (.func (.func 46) #[] #[pt b1, pt b2, pt b3]) := hcell
          have H1 := Lib.hid (cutU hC hek.1.1 hek.2.1.1 hek.2.2.1.1 hek.2.2.2.1 (by omega) hek.2.2.2.2.2.2.1 (by omega) tt)
          by_cases hjk : j' = K
          · subst hjk
            rw [if_pos rfl] at htt
            subst htt
            have o1 : ((j' : Int) == (j' : Int)) = true := by simp
            clear hC hek hrok he hus hlen hz
            go_wp2_with fail
            refine H1.out.mono ?_
            rintro e3 w3 ⟨rfl, h3⟩
            have HE := Lib.hid (And.intro h3.out.1 (HS.out.2.trans h3.out.2 fun _ => .inl))
            go_wp2_with fail
            exact ⟨⟨_, j', rfl, rfl, by omega, by omega, Lib.hid ⟨by rw [HS.out.1]; exact HE.out.1, HE.out.2⟩⟩, by simp only [intOf]; omega⟩
          · rw [if_neg hjk] at htt
            subst htt
            have o1 : ((j' : Int) == (K : Int)) = false := by rw [beq_eq_false_iff_ne]; omega
            have o2 : ¬ (j' : Int) = (K : Int) := by omega
            clear hC hek hrok he hus hlen hz
            go_wp2_with fail
            refine H1.out.mono ?_
            rintro e3 w3 ⟨rfl, h3⟩
            have HE := Lib.hid (And.intro h3.out.1 (HS.out.2.trans h3.out.2 fun _ => .inl))
            go_wp2_with fail
            exact ⟨⟨_, j', rfl, rfl, by omega, by omega, Lib.hid ⟨by rw [HS.out.1]; exact HE.out.1, HE.out.2⟩⟩, by simp only [intOf]; omega⟩
      · clear hch0
        replace hcell : wr.cell? ⟨g, j', none⟩ = some (.func (.func 41) #[] #[pt b1, pt b2, pt b3, pt b4, pt b5, pt b6]) := hcell
        have H1 := Lib.hid (renU hC hek.1.1 hek.2.1.1 hek.2.2.1.1 hek.2.2.2.1.1 hek.2.2.2.2.1.1 hek.2.2.2.2.2.1.1 hek.2.2.2.2.2.2.1 hek.2.2.2.2.2.2.2.1 (by omega) (by have := hek.2.2.2.2.2.2.2.2.1.2.2.1; omega) hek.2.2.2.2.2.2.2.2.2.2.2.1 (by omega) tt)
        by_cases hjk : j' = K
        · subst hjk
          rw [if_pos rfl] at htt
          subst htt
          have o1 : ((j' : Int) == (j' : Int)) = true := by simp
          clear hC hek hrok he hus hlen hz
          go_wp2_with fail
          refine H1.out.mono ?_
          rintro e3 w3 ⟨rfl, h3⟩
          have HE := Lib.hid (And.intro h3.out.1 (HS.out.2.trans h3.out.2 fun _ => .inl))
          go_wp2_with fail
          exact ⟨⟨_, j', rfl, rfl, by omega, by omega, Lib.hid ⟨by rw [HS.out.1]; exact HE.out.1, HE.out.2⟩⟩, by simp only [intOf]; omega⟩
        · rw [if_neg hjk] at htt
          subst htt
          have o1 : ((j' : Int) == (K : Int)) = false := by rw [beq_eq_false_iff_ne]; omega
          have o2 : ¬ (j' : Int) = (K : Int) := by omega
          clear hC hek hrok he hus hlen hz
          go_wp2_with fail
          refine H1.out.mono ?_
          rintro e3 w3 ⟨rfl, h3⟩
          have HE := Lib.hid (And.intro h3.out.1 (HS.out.2.trans h3.out.2 fun _ => .inl))
          go_wp2_with fail
          exact ⟨⟨_, j', rfl, rfl, by omega, by omega, Lib.hid ⟨by rw [HS.out.1]; exact HE.out.1, HE.out.2⟩⟩, by simp only [intOf]; omega⟩
    · obtain rfl : j = K := by omega
      have d1 : decide ((j : Int) ≤ z) = false := decide_eq_false (by omega)
      have f3 := hst.out.1.1.frozen 3
      have hE := crG_end (es := es) (r := r) (K := j) (t := torn) (by have := HP.out.2; omega)
      have hC := hst.out.1
      rw [hE] at hC
      have hrk : ∀ x ∈ crashE r es j torn, ROK F own wr x.2 := fun x hx => by
        rw [← hE] at hx
        have q := crG_rok (K := j) (t := torn) (j := j) HP.out.1.2.2.1.2 HP.out.1.2.2.1.1 x hx
        refine q.grow (fun _ h => h) (fun _ _ => rfl) fun g2 hg2 => hst.out.2.block g2 ?_ fun e => ?_
        · obtain ⟨_, _, _, q⟩ := q
          rcases q with ⟨q, _⟩ | ⟨g3, cur, q1, q2, _⟩
          · rw [q] at hg2; cases hg2
          · rw [q1] at hg2
            injection hg2 with hg2
            injection hg2 with hg2
            subst hg2
            exact HP.out.1.2.2.2.2.2.2.2.2 _ q2
        · rcases e with rfl | rfl
          · exact rok_ne q HP.out.1.1.1 (by decide) hg2
          · exact rok_map q HP.out.1.1.2 hg2
      have hgd := crash_good (K := j) (t := torn) (by have := HP.out.2; omega) HP.out.1.2.2.2.2.1.1 HP.out.1.2.2.2.2.1.2.1
      have hdn := done_nil (N := N) hC hrk hgd.1 hgd.2 HP.out.1.2.2.2.2.1.2.2.1 HP.out.1.2.2.2.2.1.2.2.2.2 HP.out.1.2.2.2.2.2.1 HP.out.1.2.2.2.2.2.2.1 (fun i hi => Nat.lt_of_lt_of_le (HP.out.1.2.2.2.2.2.2.2.2 i hi) hst.out.2.size)
      have HE : Hid (DK F own N (wr.setCell ⟨db, 3, none⟩ (.slice none 0 0)) db room (crashE r es j torn) [] ∧ Chg F w (wr.setCell ⟨db, 3, none⟩ (.slice none 0 0))) := Lib.hid ⟨hdn.1, (hst.out.2.mono fun i hi => by
        rcases hi with rfl | rfl
        · exact HP.out.1.2.2.2.2.2.1
        · exact HP.out.1.2.2.2.2.2.2.1).trans hdn.2 fun _ => .inl⟩
      clear hst hrow hE hC hrk hgd hdn
      go_wp2_with fail
      exact bodyPost_end (v := .tuple #[]) (results_none rfl _ _ _) rfl ⟨rfl, HE⟩
end
end Disk
end Go.Proofs.Ytdcppjpjlhbanaa

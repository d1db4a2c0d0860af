/-
  MendTwice: what was taken once changes nothing more, and what is taken is never less than what was held. Up to a bulk of the input. Written by gen14/twice.py.
-/
import Derived.Test.YtekhaejhmlebbaaGreatPMendHeldUp
import Derived.Test.YtekhaejhmlebbaaGreatPMendKeyPlain
import Derived.Test.YtekhaejhmlebbaaGreatPMendWritten
namespace Go.Proofs.YtekhaejhmlebbaaGreat
namespace MendTwice
open Go.ChangeShapes Go.WideShapes Go.ChangeAt Go.RowKit Vers Num Ring Disk Blk Tree Mend
open Go.Proofs.YtekhaejhmlebbaaGreat.Code hiding Bn
attribute [local go_sem ↓] Go.wp_at_zero Go.wp_at_succ
theorem get_512 {b : List Rc} (h : okL b) (k : Nm) : (getF b k).length ≤ 512 := (getF_right h k).1
/-- Get, of records that are right. -/
theorem get_up (A : Option Addr) (c n : Nat) (b : List Rc) (hn : b.length = n) (hbig : n ≤ 140737488355328) (key : Nm) (zs : List Vr) (mz : Nat) (hz : getF b key = zs) (hm : zs.length = mz) (V : World) (hr : Rs V 0 V.heap.size A b) :
    Calls Tryz.prog 28 #[.slice A n c, .string key] V (fun e w' => ∃ A6 c6, e = .returned (.slice A6 mz c6) ∧ Hid (mz ≤ c6 ∧ Vs w' 0 w'.heap.size A6 zs) ∧ Below V.heap.size V w') := by
  refine (get_any A c n V.heap.size b hn key V (Nat.le_refl _) (rs_rb hr) hbig).mono ?_
  rintro e w' ⟨A6, m6, c6, rfl, h6, rfl⟩
  rw [hz, hm] at h6
  obtain rfl : mz = m6 := h6.out.1
  exact ⟨A6, c6, rfl, Lib.hid ⟨h6.out.2.1, h6.out.2.2.2⟩, Below.refl _ _⟩
set_option maxRecDepth 100000 in
set_option maxHeartbeats 4000000 in
theorem walk (w : World) (A : Option Addr) (c : Nat) (l : List Rc) (hl : Rs w 0 w.heap.size A l) (_hb : l.length * 40 ≤ 140737488351232) (_hlc : l.length ≤ c)
    (A' : Option Addr) (c' : Nat) (l' : List Rc) (hl' : Rs w 0 w.heap.size A' l') (_hb' : l'.length * 40 ≤ 140737488351232) (_hlc' : l'.length ≤ c') (hbulk : l.length + l'.length ≤ 1048576) :
    Calls Tryz.prog 8 #[.slice A l.length c, .slice A' l'.length c'] w fun e w' => e = .returned (.bool true) ∧ Below w.heap.size w w' := by
  obtain ⟨n, hn⟩ : ∃ n, l.length = n := ⟨_, rfl⟩
  obtain ⟨n', hn'⟩ : ∃ n, l'.length = n := ⟨_, rfl⟩
  rw [hn, hn'] at hbulk ⊢
  have hlW : ∀ W, Below w.heap.size w W → Rs W 0 W.heap.size A l := fun W h => (hl.below h).more h.size
  have hlW' : ∀ W, Below w.heap.size w W → Rs W 0 W.heap.size A' l' := fun W h => (hl'.below h).more h.size
  have HP := Lib.hid (And.intro hn (And.intro hn' (And.intro hlW hlW')))
  have H0 := Lib.hid (awake_any w)
  clear hl hl' hn hn' hlW hlW'
  go_enter Tryz.func8, Tryz.ntmps8
  go_wp2_with fail
  refine H0.out.mono ?_
  rintro e1 w1 ⟨rfl, b1⟩
  have B1 := Lib.hid b1
  have H1 := Lib.hid (held_up A c n l HP.out.1 (by omega) w1 (HP.out.2.2.1 _ b1))
  clear b1 H0
  go_wp2_with fail
  refine H1.out.mono ?_
  rintro e2 w2 (⟨hok, Aa, na, ca, rfl, h2, b2⟩ | ⟨_, rfl, b2⟩)
  rotate_left
  · have B2 := Lib.hid (B1.out.trans (b2.mono B1.out.size))
    have H2 := Lib.hid (held_up A' c' n' l' HP.out.2.1 (by omega) w2 (HP.out.2.2.2 _ B2.out))
    clear b2 H1
    go_wp2_with fail
    refine H2.out.mono ?_
    rintro e3 w3 (⟨_, Am, nm, cm, rfl, _, b3⟩ | ⟨_, rfl, b3⟩)
    all_goals
      have HF := Lib.hid (B2.out.trans (b3.mono B2.out.size))
      clear b3 H2
      go_wp2_with fail
      go_ret
      exact ⟨rfl, HF.out⟩
  · have B2 := Lib.hid (And.intro (B1.out.trans (b2.mono B1.out.size)) (And.intro hok h2.out))
    have hna : na ≤ n := h2.out.2.2.1
    have H2 := Lib.hid (held_up A' c' n' l' HP.out.2.1 (by omega) w2 (HP.out.2.2.2 _ B2.out.1))
    clear b2 H1 h2 hok
    go_wp2_with fail
    refine H2.out.mono ?_
    rintro e3 w3 (⟨hok3, Am, nm, cm, rfl, h3, b3⟩ | ⟨_, rfl, b3⟩)
    rotate_left
    · have HF := Lib.hid (B2.out.1.trans (b3.mono B2.out.1.size))
      clear b3 H2
      go_wp2_with fail
      go_ret
      exact ⟨rfl, HF.out⟩
    · have hnm : nm ≤ n' := h3.out.2.2.1
      obtain ⟨a, ha⟩ : ∃ a, heldF l = a := ⟨_, rfl⟩
      obtain ⟨t, hm⟩ : ∃ m, heldF l' = m := ⟨_, rfl⟩
      have La : Lst a := by rw [← ha]; exact Lst.held B2.out.2.1
      have Lm : Lst t := by rw [← hm]; exact Lst.held hok3
      have hra : Rs w3 0 w3.heap.size Aa a := by rw [← ha]; exact (B2.out.2.2.2.2.2.below b3).more b3.size
      have hrm : Rs w3 0 w3.heap.size Am t := by rw [← hm]; exact h3.out.2.2.2
      have hla : a.length = na := by rw [← ha]; exact B2.out.2.2.1
      have hlm : t.length = nm := by rw [← hm]; exact h3.out.1
      have HB := Lib.hid (both_any Aa Am ca cm na nm a t hla B2.out.2.2.2.1 hlm (by omega) w3 hra hrm)
      have B3 := Lib.hid (And.intro (B2.out.1.trans (b3.mono B2.out.1.size)) (And.intro La (And.intro Lm (And.intro hra (And.intro hla (And.intro hlm (And.intro hrm B2.out.2.2.2.1)))))))
      clear h3 b3 hok3 ha hm La Lm hra hrm hla hlm H2 B2
      go_wp2_with fail
      refine HB.out.mono ?_
      rintro e4 w4 (⟨hfine, Ab, nb, cb, rfl, _, b4⟩ | ⟨_, rfl, b4⟩)
      all_goals
        have hra4 : Rs w4 0 w4.heap.size Aa a := (B3.out.2.2.2.1.below b4).more b4.size
        have hrm4 : Rs w4 0 w4.heap.size Am t := (B3.out.2.2.2.2.2.2.1.below b4).more b4.size
        have ht := take_any Aa Am ca cm na nm a t B3.out.2.2.2.2.1 B3.out.2.2.2.2.2.1 (by omega) (by omega) w4 hra4 hrm4
        have e : takeR a t = (takeF a t, 0) := by unfold takeR; rw [if_pos ⟨B3.out.2.1.2, B3.out.2.2.1.2⟩]
        rw [e] at ht
        have HT := Lib.hid ht
        have B4 := Lib.hid (And.intro (B3.out.1.trans (b4.mono B3.out.1.size)) (And.intro hra4 hrm4))
        clear ht e hra4 hrm4 b4 HB
      rotate_left
      · go_wp2_with fail
        refine HT.out.mono ?_
        rintro e5 w5 ⟨A5, m5, c5, ps5, rfl, _, b5⟩
        have HF := Lib.hid (B4.out.1.trans (b5.mono B4.out.1.size))
        clear b5 HT
        go_wp2_with fail
        go_ret
        exact ⟨rfl, HF.out⟩
      · have HFi := Lib.hid hfine
        clear hfine
        go_wp2_with fail
        refine HT.out.mono ?_
        rintro e5 w5 ⟨A5, m5, c5, ps5, rfl, h5, b5⟩
        obtain ⟨M, hM⟩ : ∃ M, takeF a t = M := ⟨_, rfl⟩
        rw [hM] at h5
        have hMr : Rs w5 0 w5.heap.size A5 M := by
          have h := h5.out.2.2.2.rs.less (Nat.zero_le _)
          rwa [h5.out.1] at h
        have hMl : m5 ≤ na + nm := by
          have h1 := h5.out.2.1
          have h2 := now_len9 t a
          have h3 := List.length_filter_le (fun r : Rc => !decide (r.2 = getF (heldF a) r.1)) (nowF (heldF a) t)
          rw [← hM] at h1
          unfold takeF at h1
          rw [held_self B3.out.2.1.1] at h1 h3
          simp only at h1
          rw [B3.out.2.2.2.2.1, B3.out.2.2.2.2.2.1] at h2
          omega
        have hra5 : Rs w5 0 w5.heap.size Aa a := (B4.out.2.1.below b5).more b5.size
        have hrm5 : Rs w5 0 w5.heap.size Am t := (B4.out.2.2.below b5).more b5.size
        have HL := Lib.hid (laid_any Aa A5 ca c5 na m5 a M B3.out.2.2.2.2.1 B3.out.2.2.2.2.2.2.2 h5.out.2.1 (by omega) w5 hra5 hMr)
        have hMo : okL M := by rw [← hM]; exact take_okL B3.out.2.1.1 B3.out.2.1.2 B3.out.2.2.1.2
        have B5 := Lib.hid (And.intro (B4.out.1.trans (b5.mono B4.out.1.size)) (And.intro hra5 (And.intro hrm5 (And.intro hM (And.intro hMo h5.out.2.1)))))
        clear h5 b5 hMr hra5 hrm5 hM hMo HT
        go_wp2_with fail
        refine HL.out.mono ?_
        rintro e6 w6 ⟨A6n, n6, c6n, rfl, h6, b6⟩
        obtain ⟨N, hN⟩ : ∃ N, M.foldl withR a = N := ⟨_, rfl⟩
        rw [hN] at h6
        have LN : Lst N := by rw [← hN]; exact B3.out.2.1.fold B5.out.2.2.2.2.1
        have hn6 : n6 ≤ na + m5 := by
          have := Tree.fold_len M a
          rw [hN, h6.out.1, B3.out.2.2.2.2.1, B5.out.2.2.2.2.2] at this
          exact this
        have hra6 : Rs w6 0 w6.heap.size Aa a := (B5.out.2.1.below b6).more b6.size
        have hrm6 : Rs w6 0 w6.heap.size Am t := (B5.out.2.2.1.below b6).more b6.size
        have hk1 : ∀ k, plB (getF a k ++ getF t k) = true → lacksF (getF N k) (getF a k) = false := fun k hk => by
          rw [← hN, ← B5.out.2.2.2.1]
          exact twice_keeps B3.out.2.1.1 B3.out.2.1.2 B3.out.2.2.1.1 HFi.out hk
        have hk2 : ∀ r ∈ takeF N t, plB (getF a r.1 ++ getF t r.1) = false := fun r hr => by
          rw [← hN, ← B5.out.2.2.2.1] at hr
          exact twice_again B3.out.2.1.1 B3.out.2.1.2 B3.out.2.2.1.1 B3.out.2.2.1.2 HFi.out hr
        have B6 := Lib.hid (And.intro (B5.out.1.trans (b6.mono B5.out.1.size)) (And.intro hra6 (And.intro hrm6 (And.intro LN (And.intro h6.out (And.intro hk1 hk2))))))
        clear h6 b6 hN LN hra6 hrm6 hk1 hk2 HL
        go_wp2_with fail
        go_loopw [14] (fun iv wr => ∃ i : Nat, iv = .int .i64 i ∧ i ≤ na ∧ Hid (Below w6.heap.size w6 wr)) (fun iv _ => na - (intOf iv).toNat)
        case atStart => exact ⟨0, rfl, by omega, Lib.hid (Below.refl _ _)⟩
        case round =>
          obtain ⟨i, rfl, hi, hb⟩ := hrel
          by_cases hlt : i < na
          · have d3 : (0 : Int) ≤ (i : Int) := by omega
            have d4 : (i : Int) < (na : Int) := by omega
            obtain ⟨pb, off, A4, c4, rfl, _, hbB, k0, k1, k2, k3⟩ := (rs_rb B6.out.2.1).at B3.out.2.2.2.2.1 (Nat.le_refl _) hb.out hlt rfl
            have hia : i < a.length := by rw [B3.out.2.2.2.2.1]; exact hlt
            obtain ⟨r, hrr⟩ : ∃ r, a.getD i r0 = r := ⟨_, rfl⟩
            have hmem := getD_mem hia
            rw [hrr] at k0 k1 k2 k3 hmem
            have hget := getF_mem B3.out.2.1.1.1 hmem
            have hok := B3.out.2.1.2 _ hmem
            obtain ⟨key, lv⟩ := r
            simp only at k0 k1 k2 k3 hget
            obtain ⟨ml, hml⟩ : ∃ ml, lv.length = ml := ⟨_, rfl⟩
            rw [hml] at k1 k3
            have hsz := hb.out.size
            have hl512 : ml ≤ 512 := by have := hok.2.2.1; simp only at this; omega
            obtain ⟨zs, hzs⟩ : ∃ z, getF t key = z := ⟨_, rfl⟩
            obtain ⟨mz, hmz⟩ : ∃ z, zs.length = z := ⟨_, rfl⟩
            have hz512 : mz ≤ 512 := by rw [← hmz, ← hzs]; exact get_512 B3.out.2.2.1.2 key
            obtain ⟨xs, hxs⟩ : ∃ z, getF N key = z := ⟨_, rfl⟩
            obtain ⟨mx, hmx⟩ : ∃ z, xs.length = z := ⟨_, rfl⟩
            have hx512 : mx ≤ 512 := by rw [← hmx, ← hxs]; exact get_512 B6.out.2.2.2.1.2 key
            obtain ⟨q, hq⟩ : ∃ q, plB (lv ++ zs) = q := ⟨_, rfl⟩
            obtain ⟨lk, hlk⟩ : ∃ q, lacksF xs lv = q := ⟨_, rfl⟩
            have hdec : lk = false ∨ q = false := by
              cases hq2 : q with
              | false => exact .inr rfl
              | true =>
                refine .inl ?_
                have h := B6.out.2.2.2.2.2.1 key (by rw [hget, hzs, hq, hq2])
                rw [hget, hxs, hlk] at h
                exact h
            have g1 : ∀ V, RecAt wr pb (off + i * 2) key A4 ml c4 V → Calls Tryz.prog 28 #[.slice A6n n6 c6n, .string key] V (fun e w' => ∃ A6 c6, e = .returned (.slice A6 mx c6) ∧ Hid (mx ≤ c6 ∧ Vs w' 0 w'.heap.size A6 xs) ∧ Below V.heap.size V w') := fun V h => by
              have hVw := hb.out.trans (h.2.2.1.mono hsz)
              exact get_up A6n c6n n6 N B6.out.2.2.2.2.1.1 (by omega) key xs mx hxs hmx V ((B6.out.2.2.2.2.1.2.2.below hVw).more hVw.size)
            have g3 : ∀ V, RecAt wr pb (off + i * 2) key A4 ml c4 V → Calls Tryz.prog 28 #[.slice Am nm cm, .string key] V (fun e w' => ∃ A6 c6, e = .returned (.slice A6 mz c6) ∧ Hid (mz ≤ c6 ∧ Vs w' 0 w'.heap.size A6 zs) ∧ Below V.heap.size V w') := fun V h => by
              have hVw := hb.out.trans (h.2.2.1.mono hsz)
              exact get_up Am cm nm t B3.out.2.2.2.2.2.1 (by omega) key zs mz hzs hmz V ((B6.out.2.2.1.below hVw).more hVw.size)
            have g2 : ∀ V A c, RecAt wr pb (off + i * 2) key A4 ml c4 V → (mx ≤ c ∧ Vs V 0 V.heap.size A xs) → Calls Tryz.prog 27 #[.slice A mx c, .slice A4 ml c4] V (fun e w' => e = .returned (.bool lk) ∧ Below V.heap.size V w') := fun V A c h hv => by
              have h9 := ref_lacks_any A A4 c c4 mx ml xs lv hmx hml hv.1 k3.1 V hv.2 ((k2.below (h.2.2.1.mono hsz)).more (Nat.le_trans hsz h.2.2.1.size)) (by omega) (by omega)
              rwa [hlk] at h9
            have g4 : ∀ V A c, RecAt wr pb (off + i * 2) key A4 ml c4 V → Vs V 0 V.heap.size A zs → Calls Tryz.prog 29 #[.slice A4 ml c4, .slice A mz c] V (fun e w' => e = .returned (.bool q) ∧ Below V.heap.size V w') := fun V A c h hv => by
              have h9 := plain_any A4 A c4 c ml mz lv zs hml hmz V ((k2.below (h.2.2.1.mono hsz)).more (Nat.le_trans hsz h.2.2.1.size)) hv hl512 hz512
              rwa [hq] at h9
            have hst : RecAt wr pb (off + i * 2) key A4 ml c4 wr.drew := ⟨k0, k1, (Below.refl _ wr).drew, by show pb < wr.heap.size; omega⟩
            have G1 := Lib.hid g1
            have G2 := Lib.hid g2
            have G3 := Lib.hid g3
            have G4 := Lib.hid g4
            clear g1 g2 g3 g4 k0 k1 k2 k3 hia hrr hok hml hzs hmz hxs hmx hq hlk hmem hget
            go_wp2_with fail
            cases lk
            · refine wp_region_held_drew (S := (fun V => V.cell? ⟨pb, off + i * 2, none⟩ = some (.string key) ∧ V.cell? ⟨pb, off + i * 2 + 1, none⟩ = some (.slice A4 ml c4) ∧ Below wr.heap.size wr V ∧ pb < V.heap.size)) (by kernel_rfl) hst (fun hHeld => ?_)
              refine wpAnyH_take (i := 0) (oi := { dst := some 65, op := Op.move (Operand.tmp 13), type := 22, pos := "law.go:161", after := #[], guard := none }) (v := ?va1) rfl (by kernel_rfl) (by kernel_rfl) (by kernel_rfl) (fun _ _ _ h => h) (Or.inl ⟨by rfl, ?hya1⟩) (by assumption) ?resta1
              case hya1 =>
                intro w hSw
                (try dsimp only at hSw)
                go_simp
                (try with_reducible rfl)
              (try simp only [Act.put, List.setIfInBounds_toArray, List.set_cons_zero, List.set_cons_succ])
              refine wpAnyH_take (i := 1) (oi := { dst := some 66, op := Op.move (Operand.tmp 5), type := 22, pos := "law.go:161", after := #[], guard := none }) (v := ?va2) rfl (by kernel_rfl) (by kernel_rfl) (by kernel_rfl) (fun _ _ _ h => h) (Or.inl ⟨by rfl, ?hya2⟩) (by assumption) ?resta2
              case hya2 =>
                intro w hSw
                (try dsimp only at hSw)
                go_simp
                (try with_reducible rfl)
              (try simp only [Act.put, List.setIfInBounds_toArray, List.set_cons_zero, List.set_cons_succ])
              refine wpAnyH_take (i := 2) (oi := { dst := some 67, op := Op.move (Operand.tmp 14), type := 3, pos := "law.go:161", after := #[], guard := none }) (v := ?va3) rfl (by kernel_rfl) (by kernel_rfl) (by kernel_rfl) (fun _ _ _ h => h) (Or.inl ⟨by rfl, ?hya3⟩) (by assumption) ?resta3
              case hya3 =>
                intro w hSw
                (try dsimp only at hSw)
                go_simp
                (try with_reducible rfl)
              (try simp only [Act.put, List.setIfInBounds_toArray, List.set_cons_zero, List.set_cons_succ])
              refine wpAnyH_take (i := 3) (oi := { dst := some 68, op := Op.indexAddr 22 (Operand.tmp 66) (Operand.tmp 67), type := 0, pos := "law.go:161", after := #[{ on := 1, ground := Ground.data }, { on := 2, ground := Ground.data }], guard := none }) (v := ?va4) rfl (by kernel_rfl) (by kernel_rfl) (by kernel_rfl) (fun _ _ _ h => h) (Or.inl ⟨by rfl, ?hya4⟩) (by assumption) ?resta4
              case hya4 =>
                intro w hSw
                (try dsimp only at hSw)
                go_simp
                (try with_reducible rfl)
              (try simp only [Act.put, List.setIfInBounds_toArray, List.set_cons_zero, List.set_cons_succ])
              refine wpAnyH_take (i := 4) (oi := { dst := some 69, op := Op.fieldAddr 53 (Operand.tmp 68) 0, type := 0, pos := "law.go:161", after := #[{ on := 3, ground := Ground.data }], guard := none }) (v := ?va5) rfl (by kernel_rfl) (by kernel_rfl) (by kernel_rfl) (fun _ _ _ h => h) (Or.inl ⟨by rfl, ?hya5⟩) (by assumption) ?resta5
              case hya5 =>
                intro w hSw
                (try dsimp only at hSw)
                go_simp
                (try with_reducible rfl)
              (try simp only [Act.put, List.setIfInBounds_toArray, List.set_cons_zero, List.set_cons_succ])
              refine wpAnyH_take (i := 5) (oi := { dst := some 70, op := Op.load 9 (Operand.tmp 69), type := 9, pos := "law.go:161", after := #[{ on := 4, ground := Ground.data }], guard := none }) (v := ?va6) rfl (by kernel_rfl) (by kernel_rfl) (by kernel_rfl) (fun _ _ _ h => h) (Or.inl ⟨by rfl, ?hya6⟩) (by assumption) ?resta6
              case hya6 =>
                intro w hSw
                (try dsimp only at hSw)
                go_simp
                (try with_reducible rfl)
              (try simp only [Act.put, List.setIfInBounds_toArray, List.set_cons_zero, List.set_cons_succ])
              refine wpAnyH_take (i := 7) (oi := { dst := some 72, op := Op.move (Operand.tmp 5), type := 22, pos := "law.go:161", after := #[], guard := none }) (v := ?va7) rfl (by kernel_rfl) (by kernel_rfl) (by kernel_rfl) (fun _ _ _ h => h) (Or.inl ⟨by rfl, ?hya7⟩) (by assumption) ?resta7
              case hya7 =>
                intro w hSw
                (try dsimp only at hSw)
                go_simp
                (try with_reducible rfl)
              (try simp only [Act.put, List.setIfInBounds_toArray, List.set_cons_zero, List.set_cons_succ])
              refine wpAnyH_take (i := 8) (oi := { dst := some 73, op := Op.move (Operand.tmp 14), type := 3, pos := "law.go:161", after := #[], guard := none }) (v := ?va8) rfl (by kernel_rfl) (by kernel_rfl) (by kernel_rfl) (fun _ _ _ h => h) (Or.inl ⟨by rfl, ?hya8⟩) (by assumption) ?resta8
              case hya8 =>
                intro w hSw
                (try dsimp only at hSw)
                go_simp
                (try with_reducible rfl)
              (try simp only [Act.put, List.setIfInBounds_toArray, List.set_cons_zero, List.set_cons_succ])
              refine wpAnyH_take (i := 9) (oi := { dst := some 74, op := Op.indexAddr 22 (Operand.tmp 72) (Operand.tmp 73), type := 0, pos := "law.go:161", after := #[{ on := 7, ground := Ground.data }, { on := 8, ground := Ground.data }], guard := none }) (v := ?va9) rfl (by kernel_rfl) (by kernel_rfl) (by kernel_rfl) (fun _ _ _ h => h) (Or.inl ⟨by rfl, ?hya9⟩) (by assumption) ?resta9
              case hya9 =>
                intro w hSw
                (try dsimp only at hSw)
                go_simp
                (try with_reducible rfl)
              (try simp only [Act.put, List.setIfInBounds_toArray, List.set_cons_zero, List.set_cons_succ])
              refine wpAnyH_take (i := 10) (oi := { dst := some 75, op := Op.fieldAddr 53 (Operand.tmp 74) 1, type := 0, pos := "law.go:161", after := #[{ on := 9, ground := Ground.data }], guard := none }) (v := ?va10) rfl (by kernel_rfl) (by kernel_rfl) (by kernel_rfl) (fun _ _ _ h => h) (Or.inl ⟨by rfl, ?hya10⟩) (by assumption) ?resta10
              case hya10 =>
                intro w hSw
                (try dsimp only at hSw)
                go_simp
                (try with_reducible rfl)
              (try simp only [Act.put, List.setIfInBounds_toArray, List.set_cons_zero, List.set_cons_succ])
              refine wpAnyH_take (i := 11) (oi := { dst := some 76, op := Op.load 50 (Operand.tmp 75), type := 50, pos := "law.go:161", after := #[{ on := 10, ground := Ground.data }], guard := none }) (v := ?va11) rfl (by kernel_rfl) (by kernel_rfl) (by kernel_rfl) (fun _ _ _ h => h) (Or.inl ⟨by rfl, ?hya11⟩) (by assumption) ?resta11
              case hya11 =>
                intro w hSw
                (try dsimp only at hSw)
                go_simp
                (try with_reducible rfl)
              (try simp only [Act.put, List.setIfInBounds_toArray, List.set_cons_zero, List.set_cons_succ])
              refine wpAnyH_ready (rs := [6]) (by kernel_rfl) (by simp) ?_
              refine AllReadyH.cons (o := { dst := some 71, op := Op.call { callee := Callee.value (Operand.func 28), args := #[Operand.tmp 65, Operand.tmp 70], argTypes := #[22, 9] }, type := 50, pos := "law.go:161", after := #[{ on := 0, ground := Ground.data }, { on := 5, ground := Ground.data }], guard := none }) rfl (fun K hK => ?_) AllReadyH.nil
              go_simp
              (go_at_call 28; refine (G1.out _ (by exact hHeld)).mono ?_; rintro e v1 ⟨A6, c6, rfl, h6, b1⟩)
              go_wp2_with fail
              refine hK.out _ _ (recat_keep hHeld b1) (fun hHeld => ?_)
              clear hK K
              (try simp only [Act.put, List.setIfInBounds_toArray, List.set_cons_zero, List.set_cons_succ])
              refine wpAnyH_ready (rs := [12]) (by kernel_rfl) (by simp) ?_
              refine AllReadyH.cons (o := { dst := some 77, op := Op.call { callee := Callee.value (Operand.func 27), args := #[Operand.tmp 71, Operand.tmp 76], argTypes := #[50, 50] }, type := 4, pos := "law.go:161", after := #[{ on := 6, ground := Ground.data }, { on := 11, ground := Ground.data }, { on := 6, ground := Ground.chain }], guard := none }) rfl (fun K hK => ?_) AllReadyH.nil
              go_simp
              (go_at_call 27; refine (G2.out _ A6 c6 (by exact hHeld) h6.out).mono ?_; rintro e v2 ⟨rfl, b2⟩)
              go_wp2_with fail
              refine hK.out _ _ (recat_keep hHeld b2) (fun hHeld => ?_)
              clear hK K
              (try simp only [Act.put, List.setIfInBounds_toArray, List.set_cons_zero, List.set_cons_succ])
              refine wpAnyH_take (i := 13) (oi := { dst := some 78, op := Op.move (Operand.tmp 77), type := 4, pos := "law.go:161", after := #[{ on := 12, ground := Ground.data }, { on := 12, ground := Ground.chain }], guard := none }) (v := ?va12) rfl (by kernel_rfl) (by kernel_rfl) (by kernel_rfl) (fun _ _ _ h => h) (Or.inl ⟨by rfl, ?hya12⟩) (by assumption) ?resta12
              case hya12 =>
                intro w hSw
                (try dsimp only at hSw)
                go_simp
                (try with_reducible rfl)
              (try simp only [Act.put, List.setIfInBounds_toArray, List.set_cons_zero, List.set_cons_succ])
              refine wpAnyH_take (i := 14) (oi := { dst := some 79, op := Op.move (Operand.tmp 5), type := 22, pos := "law.go:161", after := #[{ on := 13, ground := Ground.guard }], guard := some (13, true) }) (v := undef) rfl (by kernel_rfl) (by kernel_rfl) (by kernel_rfl) (fun _ _ _ h => h) (Or.inr ⟨by rfl, rfl⟩) (by assumption) ?_
              (try simp only [Act.put, List.setIfInBounds_toArray, List.set_cons_zero, List.set_cons_succ])
              refine wpAnyH_take (i := 15) (oi := { dst := some 80, op := Op.move (Operand.tmp 14), type := 3, pos := "law.go:161", after := #[{ on := 13, ground := Ground.guard }], guard := some (13, true) }) (v := undef) rfl (by kernel_rfl) (by kernel_rfl) (by kernel_rfl) (fun _ _ _ h => h) (Or.inr ⟨by rfl, rfl⟩) (by assumption) ?_
              (try simp only [Act.put, List.setIfInBounds_toArray, List.set_cons_zero, List.set_cons_succ])
              refine wpAnyH_take (i := 16) (oi := { dst := some 81, op := Op.indexAddr 22 (Operand.tmp 79) (Operand.tmp 80), type := 0, pos := "law.go:161", after := #[{ on := 14, ground := Ground.data }, { on := 15, ground := Ground.data }, { on := 13, ground := Ground.guard }], guard := some (13, true) }) (v := undef) rfl (by kernel_rfl) (by kernel_rfl) (by kernel_rfl) (fun _ _ _ h => h) (Or.inr ⟨by rfl, rfl⟩) (by assumption) ?_
              (try simp only [Act.put, List.setIfInBounds_toArray, List.set_cons_zero, List.set_cons_succ])
              refine wpAnyH_take (i := 17) (oi := { dst := some 82, op := Op.fieldAddr 53 (Operand.tmp 81) 1, type := 0, pos := "law.go:161", after := #[{ on := 16, ground := Ground.data }, { on := 13, ground := Ground.guard }], guard := some (13, true) }) (v := undef) rfl (by kernel_rfl) (by kernel_rfl) (by kernel_rfl) (fun _ _ _ h => h) (Or.inr ⟨by rfl, rfl⟩) (by assumption) ?_
              (try simp only [Act.put, List.setIfInBounds_toArray, List.set_cons_zero, List.set_cons_succ])
              refine wpAnyH_take (i := 18) (oi := { dst := some 83, op := Op.load 50 (Operand.tmp 82), type := 50, pos := "law.go:161", after := #[{ on := 17, ground := Ground.data }, { on := 13, ground := Ground.guard }], guard := some (13, true) }) (v := undef) rfl (by kernel_rfl) (by kernel_rfl) (by kernel_rfl) (fun _ _ _ h => h) (Or.inr ⟨by rfl, rfl⟩) (by assumption) ?_
              (try simp only [Act.put, List.setIfInBounds_toArray, List.set_cons_zero, List.set_cons_succ])
              refine wpAnyH_take (i := 19) (oi := { dst := some 84, op := Op.move (Operand.tmp 7), type := 22, pos := "law.go:161", after := #[{ on := 13, ground := Ground.guard }], guard := some (13, true) }) (v := undef) rfl (by kernel_rfl) (by kernel_rfl) (by kernel_rfl) (fun _ _ _ h => h) (Or.inr ⟨by rfl, rfl⟩) (by assumption) ?_
              (try simp only [Act.put, List.setIfInBounds_toArray, List.set_cons_zero, List.set_cons_succ])
              refine wpAnyH_take (i := 20) (oi := { dst := some 85, op := Op.move (Operand.tmp 5), type := 22, pos := "law.go:161", after := #[{ on := 13, ground := Ground.guard }], guard := some (13, true) }) (v := undef) rfl (by kernel_rfl) (by kernel_rfl) (by kernel_rfl) (fun _ _ _ h => h) (Or.inr ⟨by rfl, rfl⟩) (by assumption) ?_
              (try simp only [Act.put, List.setIfInBounds_toArray, List.set_cons_zero, List.set_cons_succ])
              refine wpAnyH_take (i := 21) (oi := { dst := some 86, op := Op.move (Operand.tmp 14), type := 3, pos := "law.go:161", after := #[{ on := 13, ground := Ground.guard }], guard := some (13, true) }) (v := undef) rfl (by kernel_rfl) (by kernel_rfl) (by kernel_rfl) (fun _ _ _ h => h) (Or.inr ⟨by rfl, rfl⟩) (by assumption) ?_
              (try simp only [Act.put, List.setIfInBounds_toArray, List.set_cons_zero, List.set_cons_succ])
              refine wpAnyH_take (i := 22) (oi := { dst := some 87, op := Op.indexAddr 22 (Operand.tmp 85) (Operand.tmp 86), type := 0, pos := "law.go:161", after := #[{ on := 20, ground := Ground.data }, { on := 21, ground := Ground.data }, { on := 13, ground := Ground.guard }], guard := some (13, true) }) (v := undef) rfl (by kernel_rfl) (by kernel_rfl) (by kernel_rfl) (fun _ _ _ h => h) (Or.inr ⟨by rfl, rfl⟩) (by assumption) ?_
              (try simp only [Act.put, List.setIfInBounds_toArray, List.set_cons_zero, List.set_cons_succ])
              refine wpAnyH_take (i := 23) (oi := { dst := some 88, op := Op.fieldAddr 53 (Operand.tmp 87) 0, type := 0, pos := "law.go:161", after := #[{ on := 22, ground := Ground.data }, { on := 13, ground := Ground.guard }], guard := some (13, true) }) (v := undef) rfl (by kernel_rfl) (by kernel_rfl) (by kernel_rfl) (fun _ _ _ h => h) (Or.inr ⟨by rfl, rfl⟩) (by assumption) ?_
              (try simp only [Act.put, List.setIfInBounds_toArray, List.set_cons_zero, List.set_cons_succ])
              refine wpAnyH_take (i := 24) (oi := { dst := some 89, op := Op.load 9 (Operand.tmp 88), type := 9, pos := "law.go:161", after := #[{ on := 23, ground := Ground.data }, { on := 13, ground := Ground.guard }], guard := some (13, true) }) (v := undef) rfl (by kernel_rfl) (by kernel_rfl) (by kernel_rfl) (fun _ _ _ h => h) (Or.inr ⟨by rfl, rfl⟩) (by assumption) ?_
              (try simp only [Act.put, List.setIfInBounds_toArray, List.set_cons_zero, List.set_cons_succ])
              refine wpAnyH_take (i := 25) (oi := { dst := some 90, op := Op.call { callee := Callee.value (Operand.func 28), args := #[Operand.tmp 84, Operand.tmp 89], argTypes := #[22, 9] }, type := 50, pos := "law.go:161", after := #[{ on := 19, ground := Ground.data }, { on := 24, ground := Ground.data }, { on := 13, ground := Ground.chain }, { on := 13, ground := Ground.guard }], guard := some (13, true) }) (v := undef) rfl (by kernel_rfl) (by kernel_rfl) (by kernel_rfl) (fun _ _ _ h => h) (Or.inr ⟨by rfl, rfl⟩) (by assumption) ?_
              (try simp only [Act.put, List.setIfInBounds_toArray, List.set_cons_zero, List.set_cons_succ])
              refine wpAnyH_take (i := 26) (oi := { dst := some 91, op := Op.call { callee := Callee.value (Operand.func 29), args := #[Operand.tmp 83, Operand.tmp 90], argTypes := #[50, 50] }, type := 4, pos := "law.go:161", after := #[{ on := 18, ground := Ground.data }, { on := 25, ground := Ground.data }, { on := 25, ground := Ground.chain }, { on := 13, ground := Ground.guard }], guard := some (13, true) }) (v := undef) rfl (by kernel_rfl) (by kernel_rfl) (by kernel_rfl) (fun _ _ _ h => h) (Or.inr ⟨by rfl, rfl⟩) (by assumption) ?_
              (try simp only [Act.put, List.setIfInBounds_toArray, List.set_cons_zero, List.set_cons_succ])
              refine wpAnyH_take (i := 27) (oi := { dst := some 92, op := Op.pick (Operand.tmp 78) (Operand.tmp 91) (Operand.const (Value.bool false)), type := 4, pos := "law.go:161", after := #[{ on := 13, ground := Ground.data }, { on := 26, ground := Ground.data }], guard := none }) (v := ?va26) rfl (by kernel_rfl) (by kernel_rfl) (by kernel_rfl) (fun _ _ _ h => h) (Or.inl ⟨by rfl, ?hya26⟩) (by assumption) ?resta26
              case hya26 =>
                intro w hSw
                (try dsimp only at hSw)
                go_simp
                (try with_reducible rfl)
              (try simp only [Act.put, List.setIfInBounds_toArray, List.set_cons_zero, List.set_cons_succ])
              refine wpAnyH_done (by kernel_rfl) ?_ _
              have HF : Hid (Below w6.heap.size w6 v2) := Lib.hid (hb.out.trans ((show RecAt wr pb (off + i * 2) key A4 ml c4 v2 from hHeld).2.2.1.mono hsz))
              clear G1 G2 G3 G4 hHeld
              go_wp2_with fail
              go_roundw
              case rel => exact ⟨i + 1, by go_num, by omega, HF⟩
              case measure => simp only [intOf]; omega
            · obtain rfl : q = false := hdec.resolve_left (by decide)
              clear hdec
              refine wp_region_held_drew (S := (fun V => V.cell? ⟨pb, off + i * 2, none⟩ = some (.string key) ∧ V.cell? ⟨pb, off + i * 2 + 1, none⟩ = some (.slice A4 ml c4) ∧ Below wr.heap.size wr V ∧ pb < V.heap.size)) (by kernel_rfl) hst (fun hHeld => ?_)
              refine wpAnyH_take (i := 0) (oi := { dst := some 65, op := Op.move (Operand.tmp 13), type := 22, pos := "law.go:161", after := #[], guard := none }) (v := ?vb1) rfl (by kernel_rfl) (by kernel_rfl) (by kernel_rfl) (fun _ _ _ h => h) (Or.inl ⟨by rfl, ?hyb1⟩) (by assumption) ?restb1
              case hyb1 =>
                intro w hSw
                (try dsimp only at hSw)
                go_simp
                (try with_reducible rfl)
              (try simp only [Act.put, List.setIfInBounds_toArray, List.set_cons_zero, List.set_cons_succ])
              refine wpAnyH_take (i := 1) (oi := { dst := some 66, op := Op.move (Operand.tmp 5), type := 22, pos := "law.go:161", after := #[], guard := none }) (v := ?vb2) rfl (by kernel_rfl) (by kernel_rfl) (by kernel_rfl) (fun _ _ _ h => h) (Or.inl ⟨by rfl, ?hyb2⟩) (by assumption) ?restb2
              case hyb2 =>
                intro w hSw
                (try dsimp only at hSw)
                go_simp
                (try with_reducible rfl)
              (try simp only [Act.put, List.setIfInBounds_toArray, List.set_cons_zero, List.set_cons_succ])
              refine wpAnyH_take (i := 2) (oi := { dst := some 67, op := Op.move (Operand.tmp 14), type := 3, pos := "law.go:161", after := #[], guard := none }) (v := ?vb3) rfl (by kernel_rfl) (by kernel_rfl) (by kernel_rfl) (fun _ _ _ h => h) (Or.inl ⟨by rfl, ?hyb3⟩) (by assumption) ?restb3
              case hyb3 =>
                intro w hSw
                (try dsimp only at hSw)
                go_simp
                (try with_reducible rfl)
              (try simp only [Act.put, List.setIfInBounds_toArray, List.set_cons_zero, List.set_cons_succ])
              refine wpAnyH_take (i := 3) (oi := { dst := some 68, op := Op.indexAddr 22 (Operand.tmp 66) (Operand.tmp 67), type := 0, pos := "law.go:161", after := #[{ on := 1, ground := Ground.data }, { on := 2, ground := Ground.data }], guard := none }) (v := ?vb4) rfl (by kernel_rfl) (by kernel_rfl) (by kernel_rfl) (fun _ _ _ h => h) (Or.inl ⟨by rfl, ?hyb4⟩) (by assumption) ?restb4
              case hyb4 =>
                intro w hSw
                (try dsimp only at hSw)
                go_simp
                (try with_reducible rfl)
              (try simp only [Act.put, List.setIfInBounds_toArray, List.set_cons_zero, List.set_cons_succ])
              refine wpAnyH_take (i := 4) (oi := { dst := some 69, op := Op.fieldAddr 53 (Operand.tmp 68) 0, type := 0, pos := "law.go:161", after := #[{ on := 3, ground := Ground.data }], guard := none }) (v := ?vb5) rfl (by kernel_rfl) (by kernel_rfl) (by kernel_rfl) (fun _ _ _ h => h) (Or.inl ⟨by rfl, ?hyb5⟩) (by assumption) ?restb5
              case hyb5 =>
                intro w hSw
                (try dsimp only at hSw)
                go_simp
                (try with_reducible rfl)
              (try simp only [Act.put, List.setIfInBounds_toArray, List.set_cons_zero, List.set_cons_succ])
              refine wpAnyH_take (i := 5) (oi := { dst := some 70, op := Op.load 9 (Operand.tmp 69), type := 9, pos := "law.go:161", after := #[{ on := 4, ground := Ground.data }], guard := none }) (v := ?vb6) rfl (by kernel_rfl) (by kernel_rfl) (by kernel_rfl) (fun _ _ _ h => h) (Or.inl ⟨by rfl, ?hyb6⟩) (by assumption) ?restb6
              case hyb6 =>
                intro w hSw
                (try dsimp only at hSw)
                go_simp
                (try with_reducible rfl)
              (try simp only [Act.put, List.setIfInBounds_toArray, List.set_cons_zero, List.set_cons_succ])
              refine wpAnyH_take (i := 7) (oi := { dst := some 72, op := Op.move (Operand.tmp 5), type := 22, pos := "law.go:161", after := #[], guard := none }) (v := ?vb7) rfl (by kernel_rfl) (by kernel_rfl) (by kernel_rfl) (fun _ _ _ h => h) (Or.inl ⟨by rfl, ?hyb7⟩) (by assumption) ?restb7
              case hyb7 =>
                intro w hSw
                (try dsimp only at hSw)
                go_simp
                (try with_reducible rfl)
              (try simp only [Act.put, List.setIfInBounds_toArray, List.set_cons_zero, List.set_cons_succ])
              refine wpAnyH_take (i := 8) (oi := { dst := some 73, op := Op.move (Operand.tmp 14), type := 3, pos := "law.go:161", after := #[], guard := none }) (v := ?vb8) rfl (by kernel_rfl) (by kernel_rfl) (by kernel_rfl) (fun _ _ _ h => h) (Or.inl ⟨by rfl, ?hyb8⟩) (by assumption) ?restb8
              case hyb8 =>
                intro w hSw
                (try dsimp only at hSw)
                go_simp
                (try with_reducible rfl)
              (try simp only [Act.put, List.setIfInBounds_toArray, List.set_cons_zero, List.set_cons_succ])
              refine wpAnyH_take (i := 9) (oi := { dst := some 74, op := Op.indexAddr 22 (Operand.tmp 72) (Operand.tmp 73), type := 0, pos := "law.go:161", after := #[{ on := 7, ground := Ground.data }, { on := 8, ground := Ground.data }], guard := none }) (v := ?vb9) rfl (by kernel_rfl) (by kernel_rfl) (by kernel_rfl) (fun _ _ _ h => h) (Or.inl ⟨by rfl, ?hyb9⟩) (by assumption) ?restb9
              case hyb9 =>
                intro w hSw
                (try dsimp only at hSw)
                go_simp
                (try with_reducible rfl)
              (try simp only [Act.put, List.setIfInBounds_toArray, List.set_cons_zero, List.set_cons_succ])
              refine wpAnyH_take (i := 10) (oi := { dst := some 75, op := Op.fieldAddr 53 (Operand.tmp 74) 1, type := 0, pos := "law.go:161", after := #[{ on := 9, ground := Ground.data }], guard := none }) (v := ?vb10) rfl (by kernel_rfl) (by kernel_rfl) (by kernel_rfl) (fun _ _ _ h => h) (Or.inl ⟨by rfl, ?hyb10⟩) (by assumption) ?restb10
              case hyb10 =>
                intro w hSw
                (try dsimp only at hSw)
                go_simp
                (try with_reducible rfl)
              (try simp only [Act.put, List.setIfInBounds_toArray, List.set_cons_zero, List.set_cons_succ])
              refine wpAnyH_take (i := 11) (oi := { dst := some 76, op := Op.load 50 (Operand.tmp 75), type := 50, pos := "law.go:161", after := #[{ on := 10, ground := Ground.data }], guard := none }) (v := ?vb11) rfl (by kernel_rfl) (by kernel_rfl) (by kernel_rfl) (fun _ _ _ h => h) (Or.inl ⟨by rfl, ?hyb11⟩) (by assumption) ?restb11
              case hyb11 =>
                intro w hSw
                (try dsimp only at hSw)
                go_simp
                (try with_reducible rfl)
              (try simp only [Act.put, List.setIfInBounds_toArray, List.set_cons_zero, List.set_cons_succ])
              refine wpAnyH_ready (rs := [6]) (by kernel_rfl) (by simp) ?_
              refine AllReadyH.cons (o := { dst := some 71, op := Op.call { callee := Callee.value (Operand.func 28), args := #[Operand.tmp 65, Operand.tmp 70], argTypes := #[22, 9] }, type := 50, pos := "law.go:161", after := #[{ on := 0, ground := Ground.data }, { on := 5, ground := Ground.data }], guard := none }) rfl (fun K hK => ?_) AllReadyH.nil
              go_simp
              (go_at_call 28; refine (G1.out _ (by exact hHeld)).mono ?_; rintro e v1 ⟨A6, c6, rfl, h6, b1⟩)
              go_wp2_with fail
              refine hK.out _ _ (recat_keep hHeld b1) (fun hHeld => ?_)
              clear hK K
              (try simp only [Act.put, List.setIfInBounds_toArray, List.set_cons_zero, List.set_cons_succ])
              refine wpAnyH_ready (rs := [12]) (by kernel_rfl) (by simp) ?_
              refine AllReadyH.cons (o := { dst := some 77, op := Op.call { callee := Callee.value (Operand.func 27), args := #[Operand.tmp 71, Operand.tmp 76], argTypes := #[50, 50] }, type := 4, pos := "law.go:161", after := #[{ on := 6, ground := Ground.data }, { on := 11, ground := Ground.data }, { on := 6, ground := Ground.chain }], guard := none }) rfl (fun K hK => ?_) AllReadyH.nil
              go_simp
              (go_at_call 27; refine (G2.out _ A6 c6 (by exact hHeld) h6.out).mono ?_; rintro e v2 ⟨rfl, b2⟩)
              go_wp2_with fail
              refine hK.out _ _ (recat_keep hHeld b2) (fun hHeld => ?_)
              clear hK K
              (try simp only [Act.put, List.setIfInBounds_toArray, List.set_cons_zero, List.set_cons_succ])
              refine wpAnyH_take (i := 13) (oi := { dst := some 78, op := Op.move (Operand.tmp 77), type := 4, pos := "law.go:161", after := #[{ on := 12, ground := Ground.data }, { on := 12, ground := Ground.chain }], guard := none }) (v := ?vb12) rfl (by kernel_rfl) (by kernel_rfl) (by kernel_rfl) (fun _ _ _ h => h) (Or.inl ⟨by rfl, ?hyb12⟩) (by assumption) ?restb12
              case hyb12 =>
                intro w hSw
                (try dsimp only at hSw)
                go_simp
                (try with_reducible rfl)
              (try simp only [Act.put, List.setIfInBounds_toArray, List.set_cons_zero, List.set_cons_succ])
              refine wpAnyH_take (i := 14) (oi := { dst := some 79, op := Op.move (Operand.tmp 5), type := 22, pos := "law.go:161", after := #[{ on := 13, ground := Ground.guard }], guard := some (13, true) }) (v := ?vb13) rfl (by kernel_rfl) (by kernel_rfl) (by kernel_rfl) (fun _ _ _ h => h) (Or.inl ⟨by rfl, ?hyb13⟩) (by assumption) ?restb13
              case hyb13 =>
                intro w hSw
                (try dsimp only at hSw)
                go_simp
                (try with_reducible rfl)
              (try simp only [Act.put, List.setIfInBounds_toArray, List.set_cons_zero, List.set_cons_succ])
              refine wpAnyH_take (i := 15) (oi := { dst := some 80, op := Op.move (Operand.tmp 14), type := 3, pos := "law.go:161", after := #[{ on := 13, ground := Ground.guard }], guard := some (13, true) }) (v := ?vb14) rfl (by kernel_rfl) (by kernel_rfl) (by kernel_rfl) (fun _ _ _ h => h) (Or.inl ⟨by rfl, ?hyb14⟩) (by assumption) ?restb14
              case hyb14 =>
                intro w hSw
                (try dsimp only at hSw)
                go_simp
                (try with_reducible rfl)
              (try simp only [Act.put, List.setIfInBounds_toArray, List.set_cons_zero, List.set_cons_succ])
              refine wpAnyH_take (i := 16) (oi := { dst := some 81, op := Op.indexAddr 22 (Operand.tmp 79) (Operand.tmp 80), type := 0, pos := "law.go:161", after := #[{ on := 14, ground := Ground.data }, { on := 15, ground := Ground.data }, { on := 13, ground := Ground.guard }], guard := some (13, true) }) (v := ?vb15) rfl (by kernel_rfl) (by kernel_rfl) (by kernel_rfl) (fun _ _ _ h => h) (Or.inl ⟨by rfl, ?hyb15⟩) (by assumption) ?restb15
              case hyb15 =>
                intro w hSw
                (try dsimp only at hSw)
                go_simp
                (try with_reducible rfl)
              (try simp only [Act.put, List.setIfInBounds_toArray, List.set_cons_zero, List.set_cons_succ])
              refine wpAnyH_take (i := 17) (oi := { dst := some 82, op := Op.fieldAddr 53 (Operand.tmp 81) 1, type := 0, pos := "law.go:161", after := #[{ on := 16, ground := Ground.data }, { on := 13, ground := Ground.guard }], guard := some (13, true) }) (v := ?vb16) rfl (by kernel_rfl) (by kernel_rfl) (by kernel_rfl) (fun _ _ _ h => h) (Or.inl ⟨by rfl, ?hyb16⟩) (by assumption) ?restb16
              case hyb16 =>
                intro w hSw
                (try dsimp only at hSw)
                go_simp
                (try with_reducible rfl)
              (try simp only [Act.put, List.setIfInBounds_toArray, List.set_cons_zero, List.set_cons_succ])
              refine wpAnyH_take (i := 18) (oi := { dst := some 83, op := Op.load 50 (Operand.tmp 82), type := 50, pos := "law.go:161", after := #[{ on := 17, ground := Ground.data }, { on := 13, ground := Ground.guard }], guard := some (13, true) }) (v := ?vb17) rfl (by kernel_rfl) (by kernel_rfl) (by kernel_rfl) (fun _ _ _ h => h) (Or.inl ⟨by rfl, ?hyb17⟩) (by assumption) ?restb17
              case hyb17 =>
                intro w hSw
                (try dsimp only at hSw)
                go_simp
                (try with_reducible rfl)
              (try simp only [Act.put, List.setIfInBounds_toArray, List.set_cons_zero, List.set_cons_succ])
              refine wpAnyH_take (i := 19) (oi := { dst := some 84, op := Op.move (Operand.tmp 7), type := 22, pos := "law.go:161", after := #[{ on := 13, ground := Ground.guard }], guard := some (13, true) }) (v := ?vb18) rfl (by kernel_rfl) (by kernel_rfl) (by kernel_rfl) (fun _ _ _ h => h) (Or.inl ⟨by rfl, ?hyb18⟩) (by assumption) ?restb18
              case hyb18 =>
                intro w hSw
                (try dsimp only at hSw)
                go_simp
                (try with_reducible rfl)
              (try simp only [Act.put, List.setIfInBounds_toArray, List.set_cons_zero, List.set_cons_succ])
              refine wpAnyH_take (i := 20) (oi := { dst := some 85, op := Op.move (Operand.tmp 5), type := 22, pos := "law.go:161", after := #[{ on := 13, ground := Ground.guard }], guard := some (13, true) }) (v := ?vb19) rfl (by kernel_rfl) (by kernel_rfl) (by kernel_rfl) (fun _ _ _ h => h) (Or.inl ⟨by rfl, ?hyb19⟩) (by assumption) ?restb19
              case hyb19 =>
                intro w hSw
                (try dsimp only at hSw)
                go_simp
                (try with_reducible rfl)
              (try simp only [Act.put, List.setIfInBounds_toArray, List.set_cons_zero, List.set_cons_succ])
              refine wpAnyH_take (i := 21) (oi := { dst := some 86, op := Op.move (Operand.tmp 14), type := 3, pos := "law.go:161", after := #[{ on := 13, ground := Ground.guard }], guard := some (13, true) }) (v := ?vb20) rfl (by kernel_rfl) (by kernel_rfl) (by kernel_rfl) (fun _ _ _ h => h) (Or.inl ⟨by rfl, ?hyb20⟩) (by assumption) ?restb20
              case hyb20 =>
                intro w hSw
                (try dsimp only at hSw)
                go_simp
                (try with_reducible rfl)
              (try simp only [Act.put, List.setIfInBounds_toArray, List.set_cons_zero, List.set_cons_succ])
              refine wpAnyH_take (i := 22) (oi := { dst := some 87, op := Op.indexAddr 22 (Operand.tmp 85) (Operand.tmp 86), type := 0, pos := "law.go:161", after := #[{ on := 20, ground := Ground.data }, { on := 21, ground := Ground.data }, { on := 13, ground := Ground.guard }], guard := some (13, true) }) (v := ?vb21) rfl (by kernel_rfl) (by kernel_rfl) (by kernel_rfl) (fun _ _ _ h => h) (Or.inl ⟨by rfl, ?hyb21⟩) (by assumption) ?restb21
              case hyb21 =>
                intro w hSw
                (try dsimp only at hSw)
                go_simp
                (try with_reducible rfl)
              (try simp only [Act.put, List.setIfInBounds_toArray, List.set_cons_zero, List.set_cons_succ])
              refine wpAnyH_take (i := 23) (oi := { dst := some 88, op := Op.fieldAddr 53 (Operand.tmp 87) 0, type := 0, pos := "law.go:161", after := #[{ on := 22, ground := Ground.data }, { on := 13, ground := Ground.guard }], guard := some (13, true) }) (v := ?vb22) rfl (by kernel_rfl) (by kernel_rfl) (by kernel_rfl) (fun _ _ _ h => h) (Or.inl ⟨by rfl, ?hyb22⟩) (by assumption) ?restb22
              case hyb22 =>
                intro w hSw
                (try dsimp only at hSw)
                go_simp
                (try with_reducible rfl)
              (try simp only [Act.put, List.setIfInBounds_toArray, List.set_cons_zero, List.set_cons_succ])
              refine wpAnyH_take (i := 24) (oi := { dst := some 89, op := Op.load 9 (Operand.tmp 88), type := 9, pos := "law.go:161", after := #[{ on := 23, ground := Ground.data }, { on := 13, ground := Ground.guard }], guard := some (13, true) }) (v := ?vb23) rfl (by kernel_rfl) (by kernel_rfl) (by kernel_rfl) (fun _ _ _ h => h) (Or.inl ⟨by rfl, ?hyb23⟩) (by assumption) ?restb23
              case hyb23 =>
                intro w hSw
                (try dsimp only at hSw)
                go_simp
                (try with_reducible rfl)
              (try simp only [Act.put, List.setIfInBounds_toArray, List.set_cons_zero, List.set_cons_succ])
              refine wpAnyH_ready (rs := [25]) (by kernel_rfl) (by simp) ?_
              refine AllReadyH.cons (o := { dst := some 90, op := Op.call { callee := Callee.value (Operand.func 28), args := #[Operand.tmp 84, Operand.tmp 89], argTypes := #[22, 9] }, type := 50, pos := "law.go:161", after := #[{ on := 19, ground := Ground.data }, { on := 24, ground := Ground.data }, { on := 13, ground := Ground.chain }, { on := 13, ground := Ground.guard }], guard := some (13, true) }) rfl (fun K hK => ?_) AllReadyH.nil
              go_simp
              (go_at_call 28; refine (G3.out _ (by exact hHeld)).mono ?_; rintro e v3 ⟨A7, c7, rfl, h7, b3⟩)
              go_wp2_with fail
              refine hK.out _ _ (recat_keep hHeld b3) (fun hHeld => ?_)
              clear hK K
              (try simp only [Act.put, List.setIfInBounds_toArray, List.set_cons_zero, List.set_cons_succ])
              refine wpAnyH_ready (rs := [26]) (by kernel_rfl) (by simp) ?_
              refine AllReadyH.cons (o := { dst := some 91, op := Op.call { callee := Callee.value (Operand.func 29), args := #[Operand.tmp 83, Operand.tmp 90], argTypes := #[50, 50] }, type := 4, pos := "law.go:161", after := #[{ on := 18, ground := Ground.data }, { on := 25, ground := Ground.data }, { on := 25, ground := Ground.chain }, { on := 13, ground := Ground.guard }], guard := some (13, true) }) rfl (fun K hK => ?_) AllReadyH.nil
              go_simp
              (go_at_call 29; refine (G4.out _ A7 c7 (by exact hHeld) h7.out.2).mono ?_; rintro e v4 ⟨rfl, b4⟩)
              go_wp2_with fail
              refine hK.out _ _ (recat_keep hHeld b4) (fun hHeld => ?_)
              clear hK K
              (try simp only [Act.put, List.setIfInBounds_toArray, List.set_cons_zero, List.set_cons_succ])
              refine wpAnyH_take (i := 27) (oi := { dst := some 92, op := Op.pick (Operand.tmp 78) (Operand.tmp 91) (Operand.const (Value.bool false)), type := 4, pos := "law.go:161", after := #[{ on := 13, ground := Ground.data }, { on := 26, ground := Ground.data }], guard := none }) (v := ?vb24) rfl (by kernel_rfl) (by kernel_rfl) (by kernel_rfl) (fun _ _ _ h => h) (Or.inl ⟨by rfl, ?hyb24⟩) (by assumption) ?restb24
              case hyb24 =>
                intro w hSw
                (try dsimp only at hSw)
                go_simp
                (try with_reducible rfl)
              (try simp only [Act.put, List.setIfInBounds_toArray, List.set_cons_zero, List.set_cons_succ])
              refine wpAnyH_done (by kernel_rfl) ?_ _
              have HF : Hid (Below w6.heap.size w6 v4) := Lib.hid (hb.out.trans ((show RecAt wr pb (off + i * 2) key A4 ml c4 v4 from hHeld).2.2.1.mono hsz))
              clear G1 G2 G3 G4 hHeld
              go_wp2_with fail
              go_roundw
              case rel => exact ⟨i + 1, by go_num, by omega, HF⟩
              case measure => simp only [intOf]; omega
          · have him : i = na := by omega
            subst him
            have B7 := Lib.hid (B6.out.1.trans (hb.out.mono B6.out.1.size))
            have hNw : Rs wr 0 wr.heap.size A6n N := (B6.out.2.2.2.2.1.2.2.below hb.out).more hb.out.size
            have hraw : Rs wr 0 wr.heap.size Aa a := (B6.out.2.1.below hb.out).more hb.out.size
            have hrmw : Rs wr 0 wr.heap.size Am t := (B6.out.2.2.1.below hb.out).more hb.out.size
            have ht := take_any A6n Am c6n cm n6 nm N t B6.out.2.2.2.2.1.1 B3.out.2.2.2.2.2.1 (by omega) (by omega) wr hNw hrmw
            have e : takeR N t = (takeF N t, 0) := by unfold takeR; rw [if_pos ⟨B6.out.2.2.2.1.2, B3.out.2.2.1.2⟩]
            rw [e] at ht
            have HT2 := Lib.hid ht
            have BW := Lib.hid (And.intro hraw hrmw)
            clear ht e hNw hraw hrmw hb
            go_wp2_with fail
            refine HT2.out.mono ?_
            rintro e7 w7 ⟨A7n, m7, c7n, ps7, rfl, h7, b7⟩
            have hra7 : Rs w7 0 w7.heap.size Aa a := (BW.out.1.below b7).more b7.size
            have hrm7 : Rs w7 0 w7.heap.size Am t := (BW.out.2.below b7).more b7.size
            have hTr : Rs w7 0 w7.heap.size A7n (takeF N t) := by
              have h := h7.out.2.2.2.rs.less (Nat.zero_le _)
              rwa [h7.out.1] at h
            have hTo : okL (takeF N t) := take_okL B6.out.2.2.2.1.1 B6.out.2.2.2.1.2 B3.out.2.2.1.2
            have hk2 := B6.out.2.2.2.2.2.2
            obtain ⟨T, hT⟩ : ∃ T, takeF N t = T := ⟨_, rfl⟩
            have h71 := h7.out.2.1
            have hm7 : m7 ≤ n6 + nm := by
              have h1 := h71
              have h2 := now_len9 t N
              have h3 := List.length_filter_le (fun r : Rc => !decide (r.2 = getF (heldF N) r.1)) (nowF (heldF N) t)
              unfold takeF at h1
              rw [held_self B6.out.2.2.2.1.1] at h1 h3
              simp only at h1
              rw [B6.out.2.2.2.2.1.1, B3.out.2.2.2.2.2.1] at h2
              omega
            rw [hT] at hTr hTo hk2 h71
            have H7 := Lib.hid (And.intro (B7.out.trans (b7.mono B7.out.size)) (And.intro hra7 (And.intro hrm7 (And.intro hTr (And.intro hTo (And.intro hk2 h71))))))
            clear hra7 hrm7 hTr hTo hk2 h71 hT h7 b7 HT2
            go_wp2_with fail
            go_loopw [17] (fun iv wr => ∃ i : Nat, iv = .int .i64 i ∧ i ≤ m7 ∧ Hid (Below w7.heap.size w7 wr)) (fun iv _ => m7 - (intOf iv).toNat)
            case atStart => exact ⟨0, rfl, by omega, Lib.hid (Below.refl _ _)⟩
            case round =>
              obtain ⟨j, rfl, hj, hbj⟩ := hrel
              by_cases hltj : j < m7
              · have d3 : (0 : Int) ≤ (j : Int) := by omega
                have d4 : (j : Int) < (m7 : Int) := by omega
                obtain ⟨pb, off, A4, c4, rfl, _, hbB, k0, k1, k2, k3⟩ := (rs_rb H7.out.2.2.2.1).at H7.out.2.2.2.2.2.2 (Nat.le_refl _) hbj.out hltj rfl
                have hia : j < T.length := by rw [H7.out.2.2.2.2.2.2]; exact hltj
                obtain ⟨r, hrr⟩ : ∃ r, T.getD j r0 = r := ⟨_, rfl⟩
                have hmem := getD_mem hia
                rw [hrr] at k0 k1 k2 k3 hmem
                have hpl := H7.out.2.2.2.2.2.1 _ hmem
                obtain ⟨key, lv⟩ := r
                simp only at k0 k1 k2 k3 hpl
                obtain ⟨ml, hml⟩ : ∃ ml, lv.length = ml := ⟨_, rfl⟩
                rw [hml] at k1 k3
                have hsz := hbj.out.size
                obtain ⟨zs, hzs⟩ : ∃ z, getF t key = z := ⟨_, rfl⟩
                obtain ⟨mz, hmz⟩ : ∃ z, zs.length = z := ⟨_, rfl⟩
                have hz512 : mz ≤ 512 := by rw [← hmz, ← hzs]; exact get_512 B3.out.2.2.1.2 key
                obtain ⟨xs, hxs⟩ : ∃ z, getF a key = z := ⟨_, rfl⟩
                obtain ⟨mx, hmx⟩ : ∃ z, xs.length = z := ⟨_, rfl⟩
                have hx512 : mx ≤ 512 := by rw [← hmx, ← hxs]; exact get_512 B3.out.2.1.2 key
                rw [hxs, hzs] at hpl
                have g1 : ∀ V, RecAt wr pb (off + j * 2) key A4 ml c4 V → Calls Tryz.prog 28 #[.slice Aa i ca, .string key] V (fun e w' => ∃ A6 c6, e = .returned (.slice A6 mx c6) ∧ Hid (mx ≤ c6 ∧ Vs w' 0 w'.heap.size A6 xs) ∧ Below V.heap.size V w') := fun V h => by
                  have hVw := hbj.out.trans (h.2.2.1.mono hsz)
                  exact get_up Aa ca i a B3.out.2.2.2.2.1 (by omega) key xs mx hxs hmx V ((H7.out.2.1.below hVw).more hVw.size)
                have g3 : ∀ V, RecAt wr pb (off + j * 2) key A4 ml c4 V → Calls Tryz.prog 28 #[.slice Am nm cm, .string key] V (fun e w' => ∃ A6 c6, e = .returned (.slice A6 mz c6) ∧ Hid (mz ≤ c6 ∧ Vs w' 0 w'.heap.size A6 zs) ∧ Below V.heap.size V w') := fun V h => by
                  have hVw := hbj.out.trans (h.2.2.1.mono hsz)
                  exact get_up Am cm nm t B3.out.2.2.2.2.2.1 (by omega) key zs mz hzs hmz V ((H7.out.2.2.1.below hVw).more hVw.size)
                have g4 : ∀ V A1 c1 A2 c2, Vs V 0 V.heap.size A1 xs → Vs V 0 V.heap.size A2 zs → Calls Tryz.prog 29 #[.slice A1 mx c1, .slice A2 mz c2] V (fun e w' => e = .returned (.bool false) ∧ Below V.heap.size V w') := fun V A1 c1 A2 c2 hv1 hv2 => by
                  have h9 := plain_any A1 A2 c1 c2 mx mz xs zs hmx hmz V hv1 hv2 hx512 hz512
                  rwa [hpl] at h9
                have G1 := Lib.hid g1
                have G3 := Lib.hid g3
                have G4 := Lib.hid g4
                have HS : Hid (RecAt wr pb (off + j * 2) key A4 ml c4 wr.drew) := Lib.hid ⟨k0, k1, (Below.refl _ wr).drew, by show pb < wr.heap.size; omega⟩
                clear g1 g3 g4 k0 k1 k2 k3 hia hrr hml hzs hmz hxs hmx hmem hpl
                go_wp2_with fail
                go_region_held3 (fun V => V.cell? ⟨pb, off + j * 2, none⟩ = some (.string key) ∧ V.cell? ⟨pb, off + j * 2 + 1, none⟩ = some (.slice A4 ml c4) ∧ Below wr.heap.size wr V ∧ pb < V.heap.size)
                  (first
                    | exact HS.out
                    | exact recat_keep (by assumption) (by assumption))
                  (first
                    | (go_at_call 28; (fail_if_success have _t := K1); refine (G1.out _ (by assumption)).mono ?_; rintro e8 w8 ⟨A8, c8, rfl, h8, bb8⟩; have K1 := Lib.hid (And.intro h8.out.2 bb8))
                    | (go_at_call 28; refine (G3.out _ (by assumption)).mono ?_; rintro e9 w9 ⟨A9, c9, rfl, h9, bb9⟩)
                    | (go_at_call 29; refine (G4.out _ _ _ _ _ ((K1.out.1.below bb9).more bb9.size) h9.out.2).mono ?_; rintro e10 w10 ⟨rfl, bb10⟩))
                all_goals
                  have hb10 : Below wr.heap.size wr w10 := ((Below.refl _ wr).drew).trans (bb8.trans ((bb9.mono bb8.size).trans (bb10.mono (Nat.le_trans bb8.size bb9.size))))
                  have HF : Hid (Below w7.heap.size w7 w10) := Lib.hid (hbj.out.trans (hb10.mono hbj.out.size))
                  clear hb10 bb8 bb9 bb10 h8 h9 K1 G1 G3 G4 HS hbj
                  go_wp2_with fail
                  go_roundw
                  case rel => exact ⟨j + 1, by go_num, by omega, HF⟩
                  case measure => simp only [intOf]; omega
              · have hjm : j = m7 := by omega
                subst hjm
                have HF := Lib.hid (H7.out.1.trans (hbj.out.mono H7.out.1.size))
                clear hbj
                go_wp2_with fail
                go_ret
                exact ⟨rfl, HF.out⟩
-- ROW BEGIN
set_option maxRecDepth 100000 in
/-- What the walk gives, shut again. -/
theorem contract (H : Type) (enc : TypeId × Value → H) (W : World) (base : Nat) (args : Array Value) (ds gs : List (DataW H)) (before : List MemPlace)
    (hval : ∀ (j : Nat) t v, Tryz.f8.params[j]? = some t → args[j]? = some v → Value.okWide Tryz.prog W .any base t v)
    (hW : DataW.Whole enc Tryz.prog Tryz.f8.params.toList Rows.mendTwiceSpec.vars false W args.toList ds gs before)
    (hsz : (DataW.weightsEach Tryz.prog (Tryz.f8.params.toList ++ Rows.mendTwiceSpec.plain.varTypes Tryz.prog) (ds ++ gs)).all (· ≤ reachBytes) = true) (hk : Rows.uptoSmall H (ds ++ gs) = true) :
    Calls Tryz.prog 8 args W fun e W' => ∃ v, e = .returned v ∧ Rows.mendTwiceSpec.post enc Tryz.prog Tryz.f8 false true false false W args v W' := by
  have hW' := hW
  obtain ⟨p, q, hA0, hV, hbef, _, _⟩ := hW
  have hA : DataW.TrodAll enc Tryz.prog W 0 (fun _ => true) true Tryz.f8.params.toList args.toList ds p := hA0
  have hA1 := hA
  rw [Tryz.params8] at hA hval hsz
  obtain ⟨v0, vs0, d0, ds0, p0, q0, hargs, rfl, rfl, h0, r0⟩ := trodAll_cons hA
  obtain ⟨v1, vs1, d1, ds1, p1, q1, rfl, rfl, rfl, h1, r1⟩ := trodAll_cons r0
  obtain ⟨rfl, rfl, rfl⟩ := trodAll_nil r1
  obtain rfl : args = #[v0, v1] := by cases args; simp_all
  obtain ⟨rfl, rfl⟩ := trodVars_none hV
  clear hA hargs
  obtain ⟨A0, c0, a0, rfl, n0, l0, b0⟩ := Tree.arg_recs (hval 0 22 v0 rfl rfl) h0 (Vers.wt_arg hsz (j := 0) rfl rfl)
  obtain ⟨A1, c1, a1, rfl, n1, l1, b1⟩ := Tree.arg_recs (hval 1 22 v1 rfl rfl) h1 (Vers.wt_arg hsz (j := 1) rfl rfl)
  have hbulk : a0.length + a1.length ≤ 1048576 := by
    have h := Bulk.bound hk
    have e0 := Mend.recs_bulk h0
    have e1 := Mend.recs_bulk h1
    simp only [List.append_nil, Rows.uptoBulkAll] at h
    omega
  refine (walk W A0 c0 a0 n0 b0 l0 A1 c1 a1 n1 b1 l1 hbulk).mono fun e W' ⟨he, hb⟩ => ?_
  subst he
  exact ⟨_, rfl, law_post Facts.laid (by rfl) Tryz.underlying4 (by rw [Tryz.params8]; decide +kernel) hW' hA1 rfl hbef rfl rfl rfl hb⟩

set_option maxRecDepth 100000 in
theorem lifted (os : Os) (started : os.Started) (H : Type) (enc : TypeId × Value → H) (F : Stop.Interp) :
    ReturnsInHanded {} Tryz.checked os 8 .any ((Rows.OpenSpec.upto Rows.mendTwiceSpec).pre6 enc Tryz.prog Tryz.f8 Rows.mendTwiceUptoRow.domain false) (((Rows.OpenSpec.upto Rows.mendTwiceSpec).at F).post enc Tryz.prog Tryz.f8 false true false false) := by
  refine returnsInHanded_of_cond_sized (C := Tryz.checked) (s := Rows.OpenSpec.upto Rows.mendTwiceSpec) (k := Rows.uptoSmall) rfl Facts.own started (by kernel_rfl) Tryz.func8
    (OpenSpec.witness (enc := enc) (C := Tryz.checked) (s := Rows.OpenSpec.upto Rows.mendTwiceSpec) (k := Rows.uptoSmall) rfl false ⟨#[], #[.slice none 0 0, .slice none 0 0], []⟩ 8 (by kernel_rfl) (by kernel_rfl) (by kernel_rfl)
      (x := ([.nil, .nil], [], [])) (by kernel_rfl) rfl (by kernel_rfl)) ?_
  intro W base args ds gs before hval hW _ hk hsz _
  exact contract H enc W base args ds gs before hval hW hsz hk

theorem holds : Rows.MendTwiceUptoSaid :=
  OpenClaim.holds_of_cond 8 Tryz.f8 rfl rfl rfl rfl rfl rfl rfl ⟨rfl, rfl, rfl, rfl, rfl⟩ rfl rfl rfl rfl rfl (by kernel_rfl) Tryz.func8 (by kernel_rfl)
    (of_decide_eq_true (by kernel_rfl)) (by unfold Func.isWrapper; first | (rw [if_pos (by decide +kernel)]; kernel_rfl) | (rw [if_neg (by decide +kernel)]; exact ⟨rfl, rfl⟩))
    (fun os started H enc _ F => lifted os started H enc F)
-- ROW END
end MendTwice
end Go.Proofs.YtekhaejhmlebbaaGreat

/-
  The walk of the law HierOrder.
  Conditions: the tables hold what they hold at the start; classes that a machine may hold.
-/
import Derived.Test.YtpincofjopmaaaaGreatDoorM49
import Derived.Test.YtpincofjopmaaaaGreatDoorM38
import Derived.Test.YtpincofjopmaaaaGreatDoorM40
import Derived.Test.YtpincofjopmaaaaGreatDoorM37
import Derived.Test.YtpincofjopmaaaaGreatDoorM36
import Derived.Test.YtpincofjopmaaaaGreatDoorM28
import Derived.Test.YtpincofjopmaaaaGreatDoorM32
import Derived.Deep.RegionHeld
import Derived.Deep.DrawnRows
namespace Go.Proofs.YtpincofjopmaaaaGreatDoor
open Go.RowKit
theorem right_short {l : List UInt8} (h : rightB l = true) : l.length ≤ 38 := by
  have h1 := (nameB_pos (right_base h)).2
  rw [baseL_length] at h1
  unfold rightB at h
  simp at h
  omega
theorem NewOk.fld_small {cs : List Cls} (h : NewOk cs) (i : Nat) : ∀ f ∈ fldsAt (newT cs) i, (fldText f).length ≤ 100 := by
  intro f hf
  unfold fldsAt at hf
  cases he : (newT cs)[i]? with
  | none => rw [he] at hf; cases hf
  | some e =>
    rw [he] at hf
    rcases newT_at he with ⟨h1, h2⟩ | ⟨h1, c, h2, rfl⟩
    · have h3 : startL.all (fun e => e.cls.flds.all fun f => decide ((fldText f).length ≤ 100)) = true := by decide
      exact of_decide_eq_true (List.all_eq_true.1 (List.all_eq_true.1 h3 e (List.mem_of_getElem? h2)) f hf)
    · have hok := (h.lined.good c (List.mem_of_getElem? h2)).flds f hf
      unfold Fld.ok memB at hok
      simp only [Bool.and_eq_true] at hok
      have q1 := (nameB_pos hok.1.1).2
      have q2 := right_short hok.2
      unfold fldText
      split
      · simp
      · simp only [List.length_cons, List.length_append]; omega
theorem flat_short (l : List Fld) (B : Nat) (h : ∀ f ∈ l, (fldText f).length ≤ B) : (l.flatMap fldText).length ≤ l.length * B := by
  induction l with
  | nil => simp
  | cons f l ih =>
    have h0 := h f List.mem_cons_self
    have h1 := ih (fun x hx => h x (List.mem_cons_of_mem _ hx))
    rw [List.flatMap_cons, List.length_append, List.length_cons, Nat.succ_mul]
    omega
theorem NewOk.print_le {cs : List Cls} (h : NewOk cs) : ∀ L : List Nat, (printL (newT cs) L).length ≤ L.length * 4000
  | [] => by simp [printL]
  | [x] => by simp [printL]
  | x :: y :: l => by
    have ih := NewOk.print_le h (y :: l)
    have h1 := h.shape.nmE_le x
    have h2 := flat_short (fldsAt (newT cs) x) 100 (h.fld_small x)
    have h3 : (fldsAt (newT cs) x).length ≤ 32 := by
      unfold fldsAt
      cases he : (newT cs)[x]? with
      | none => simp
      | some e => exact h.shape.fl x e he
    show ((nmE (newT cs) x ++ [40]) ++ printL (newT cs) (y :: l) ++ [41] ++ (fldsAt (newT cs) x).flatMap fldText ++ [46]).length ≤ _
    simp only [List.length_append, List.length_cons, List.length_nil] at ih ⊢
    omega
theorem NewOk.print_len {cs : List Cls} (h : NewOk cs) (n : List UInt8) : (printE (newT cs) n).length ≤ 140737488355328 := by
  have h1 := h.print_le (lineE (newT cs) (placeE (newT cs) n))
  have h2 := lineF_len (newT cs) (newT cs).length (placeE (newT cs) n)
  have h3 := h.lined.len
  rw [newT_len] at h2
  unfold printE
  unfold lineE at h1 ⊢
  rw [newT_len] at h1 ⊢
  omega
set_option maxHeartbeats 400000 in
set_option maxRecDepth 100000 in
theorem hierOrder_any {A : Nat → Prop} (cs : List Cls) (sv : Value) (at_ : Nat) (w : World) (hs : Src 8 ClsR A w sv cs) (hT : HT6 w) (hfit : ∀ c ∈ cs, c.Fit) (hheld : ∀ c ∈ cs, c.held) (hlen : cs.length ≤ 9223372036854775807) (hat : at_ ≤ 255) :
    Calls Tryz.prog 11 #[sv, .int .u8 (at_ : Nat)] w (Said true w) := by
  have HA : Hid (∀ W, Below w.heap.size w W → Calls Tryz.prog 22 #[] W (Said true W)) := Lib.hid (fun W hW => awake6_any W (hT.ft.keep hW) (hT.ct.keep hW))
  have HF := Lib.hid (few6_any cs sv w hs hfit hlen)
  have HN : Hid (∀ (l : List Cls) (v : Value) W, Below w.heap.size w W → (∀ c ∈ l, c ∈ cs) → l.length ≤ 12 → Src 8 ClsR Anyw W v l → Calls Tryz.prog 23 #[v] W (NewG l W)) := Lib.hid (fun l v W hW hm hl hv => new_any l v W hv (hT.ft.keep hW) (hT.ct.keep hW) (fun c hc => hfit c (hm c hc)) (fun c hc => hheld c (hm c hc)) (by omega))
  have HS := Lib.hid (ClsR.st.any hs)
  unfold Few6G at HF
  unfold Said at HA
  obtain ⟨so, sc, rfl⟩ := hs.shape
  obtain ⟨n, hn⟩ : ∃ n, n = cs.length := ⟨_, rfl⟩
  rw [← hn] at HF HS ⊢
  have HNL := Lib.hid hn
  clear hs hT hfit hheld hlen hn
  unfold Said
  go_enter Tryz.func11, Tryz.ntmps11
  go_wp2_with fail
  with_reducible refine HF.out.mono ?_
  rintro e w1 ⟨b, rfl, hb12, hb1⟩
  have HB1 := Lib.hid hb1
  have H12 := Lib.hid hb12
  clear hb1 hb12 HF
  cases b with
  | false =>
    go_wp2_with fail
    with_reducible refine (HA.out w1 HB1.out).mono ?_
    rintro e wz0 ⟨rfl, hb⟩
    have HZ0 := Lib.hid (HB1.out.trans (hb.mono HB1.out.size))
    clear hb
    go_wp2
    go_ret
    exact ⟨rfl, HZ0.out⟩
  | true =>
    have hn12 : n ≤ 12 := H12.out rfl
    clear H12
    by_cases hn0 : n = 0
    · have HB2 := HB1
      have hni : (n : Int) = 0 := by omega
      clear hn12
      subst hn0
      go_wp2_with fail
      with_reducible refine (HA.out w1 HB1.out).mono ?_
      rintro e wz0 ⟨rfl, hb⟩
      have HZ0 := Lib.hid (HB1.out.trans (hb.mono HB1.out.size))
      clear hb
      go_wp2
      go_ret
      exact ⟨rfl, HZ0.out⟩
    have hn1 : (0 : Int) < (n : Int) := by omega
    have hne : ((n : Int) == 0) = false := by rw [beq_eq_false_iff_ne]; omega
    have hnz : (n : Int) ≠ 0 := by omega
    have ha0 : (0 : Int) ≤ (at_ : Int) := by omega
    have ha1 : (at_ : Int) ≤ 255 := by omega
    obtain ⟨k, hk⟩ : ∃ k, k = at_ % n := ⟨_, rfl⟩
    have hkn : k < n := by rw [hk]; exact Nat.mod_lt _ (by omega)
    have hki : Int.tmod (at_ : Int) (n : Int) = (k : Int) := by rw [hk]; rfl
    have hkj : (at_ : Int) % (n : Int) = (k : Int) := by rw [hk]; rfl
    have hk0 : (0 : Int) ≤ (k : Int) := by omega
    have hkm : (k : Int) < (n : Int) := by omega
    have hkl : (k : Int) ≤ (n : Int) := by omega
    obtain ⟨x0, hx0⟩ : ∃ x0, cs[0]? = some x0 := ⟨_, List.getElem?_eq_getElem (by rw [← HNL.out]; omega)⟩
    obtain ⟨b, o, _, rfl, _, _, _⟩ := Src.elem HS.out 0 x0 hx0
    obtain ⟨vs, hvs, hsv⟩ := src_vals (ClsR.st.below HS.out HB1.out)
    have hvl : n = vs.length := by rw [hvs.len, HNL.out]
    have hcap : n ≤ sc ∧ sc ≤ 9223372036854775807 := by
      rcases HS.out with ⟨_, _, he, h0⟩ | ⟨_, _, _, he, hso, _⟩
      · rw [h0] at hx0; cases hx0
      · injection he with _ _ e3
        have q := hso.2.2
        rw [← HNL.out, ← e3] at q
        exact q
    have HAP1 : Hid (∀ W v, TurnT w1.heap.size W v [] → Below w1.heap.size w1 W → ∃ v' w', (Builtin.append_ #[37, 37] 37 #[v, .slice (some ⟨b, o + k * 8, none⟩) (n - k) (sc - k)]).run Tryz.prog W = .ok v' w' ∧
        TurnT w1.heap.size w' v' (vs.drop k) ∧ Below w1.heap.size w1 w') := Lib.hid (fun W v ht hW => by
      obtain ⟨v', w', hr, q1, q2⟩ := turn_append w1.heap.size W v _ 37 [] (vs.drop k) ht hW.size (cv_tail (CVRst.below hsv hW) hvl hkn) (by simp; omega)
      exact ⟨v', w', hr, by rw [List.nil_append] at q1; exact q1, hW.trans q2⟩)
    have t0 := (turn_empty w1.heap.size w1 (Nat.le_refl _)).below CVRst (below_drew (Below.refl _ _))
    have b0 : Below w1.heap.size w1 (w1.alloc (.cells #[] 26)).drew := below_drew (below_alloc (Below.refl _ _) _)
    have T0 := Lib.hid t0
    have B0 := Lib.hid b0
    have hsk : ¬ sc = k := by omega
    clear t0 b0
    have HAP2 : Hid (∀ W v, TurnT w1.heap.size W v (vs.drop k) → Below w1.heap.size w1 W → ∃ v' w', (Builtin.append_ #[37, 37] 37 #[v, .slice (some ⟨b, o, none⟩) k sc]).run Tryz.prog W = .ok v' w' ∧
        TurnT w1.heap.size w' v' (vs.drop k ++ vs.take k) ∧ Below w1.heap.size w1 w') := Lib.hid (fun W v ht hW => by
      obtain ⟨v', w', hr, q1, q2⟩ := turn_append w1.heap.size W v _ 37 (vs.drop k) (vs.take k) ht hW.size (cv_head (CVRst.below hsv hW) hvl hkn) (by simp; omega)
      exact ⟨v', w', hr, q1, hW.trans q2⟩)
    have HVS := Lib.hid (hvs.turn k)
    have HK := Lib.hid hkn
    have hcp1 := hcap.1
    have hcp2 := hcap.2
    have hB := Below.refl w1.heap.size w1
    clear hk hvs hsv hvl hcap hx0
    go_upto_region 4 with fail
    have hsc : (n : Int) ≤ (sc : Int) := by omega
    have hks : (k : Int) ≤ (sc : Int) := by omega
    refine wp_region_held_drew (S := fun _ => True) (by kernel_rfl) trivial (fun hHeld => ?_)
    refine anyH_take2 (i := 1) 30 (v := ?_) rfl rfl (by kernel_rfl) (by kernel_rfl) (by kernel_rfl) (fun _ _ _ h => h) (Or.inl ⟨by rfl, ?_⟩) trivial ?_
    rotate_left
    · (intro W hSw; clear hSw; go_simp; try with_reducible rfl)
    simp only [Act.put, List.setIfInBounds_toArray, List.set_cons_zero, List.set_cons_succ]
    refine anyH_take2 (i := 2) 31 (v := ?_) rfl rfl (by kernel_rfl) (by kernel_rfl) (by kernel_rfl) (fun _ _ _ h => h) (Or.inl ⟨by rfl, ?_⟩) trivial ?_
    rotate_left
    · (intro W hSw; clear hSw; go_simp; try with_reducible rfl)
    simp only [Act.put, List.setIfInBounds_toArray, List.set_cons_zero, List.set_cons_succ]
    refine anyH_take2 (i := 3) 32 (v := ?_) rfl rfl (by kernel_rfl) (by kernel_rfl) (by kernel_rfl) (fun _ _ _ h => h) (Or.inl ⟨by rfl, ?_⟩) trivial ?_
    rotate_left
    · (intro W hSw; clear hSw; go_simp; try with_reducible rfl)
    simp only [Act.put, List.setIfInBounds_toArray, List.set_cons_zero, List.set_cons_succ]
    refine anyH_take2 (i := 5) 34 (v := ?_) rfl rfl (by kernel_rfl) (by kernel_rfl) (by kernel_rfl) (fun _ _ _ h => h) (Or.inl ⟨by rfl, ?_⟩) trivial ?_
    rotate_left
    · (intro W hSw; clear hSw; go_simp; try with_reducible rfl)
    simp only [Act.put, List.setIfInBounds_toArray, List.set_cons_zero, List.set_cons_succ]
    refine anyH_take2 (i := 6) 35 (v := ?_) rfl rfl (by kernel_rfl) (by kernel_rfl) (by kernel_rfl) (fun _ _ _ h => h) (Or.inl ⟨by rfl, ?_⟩) trivial ?_
    rotate_left
    · (intro W hSw; clear hSw; go_simp; try with_reducible rfl)
    simp only [Act.put, List.setIfInBounds_toArray, List.set_cons_zero, List.set_cons_succ]
    refine anyH_take2 (i := 7) 36 (v := ?_) rfl rfl (by kernel_rfl) (by kernel_rfl) (by kernel_rfl) (fun _ _ _ h => h) (Or.inl ⟨by rfl, ?_⟩) trivial ?_
    rotate_left
    · (intro W hSw; clear hSw; go_simp; try with_reducible rfl)
    simp only [Act.put, List.setIfInBounds_toArray, List.set_cons_zero, List.set_cons_succ]
    refine wpAnyH_ready (rs := [0]) (by kernel_rfl) (by simp) ?_
    refine AllReadyH.cons rfl (fun K hK => ?_) ?_
    · go_simp
      refine hK.out _ _ trivial (fun hHeld => ?_)
      clear hK K
      refine wpAnyH_ready (rs := [4]) (by kernel_rfl) (by simp) ?_
      refine AllReadyH.cons rfl (fun K hK => ?_) ?_
      · refine step_append_ex (by rfl) _ _ 37 (by rfl) _ _ (by rfl) (by rfl) (HAP1.out _ _ T0.out B0.out) ?_
        rintro v1 w4 ⟨t1, b1⟩
        refine hK.out _ _ trivial (fun hHeld => ?_)
        clear hK K
        refine wpAnyH_ready (rs := [8]) (by kernel_rfl) (by simp) ?_
        refine AllReadyH.cons rfl (fun K hK => ?_) ?_
        · refine step_append_ex (by rfl) _ _ 37 (by rfl) _ _ (by rfl) (by rfl) (HAP2.out _ _ t1 b1) ?_
          rintro v2 w5 ⟨t2, b2⟩
          refine hK.out _ _ trivial (fun hHeld => ?_)
          clear hK K
          refine wpAnyH_ready (rs := [9]) (by kernel_rfl) (by simp) ?_
          refine AllReadyH.cons rfl (fun K hK => ?_) ?_
          · go_simp
            refine hK.out _ _ trivial (fun hHeld => ?_)
            clear hK K
            refine wpAnyH_done (by kernel_rfl) ?_ _
            obtain ⟨so2, sc2, rfl⟩ := (t2.src CVRst).shape
            obtain ⟨n2, hn2⟩ : ∃ n2, n2 = (vs.drop k ++ vs.take k).length := ⟨_, rfl⟩
            rw [← hn2] at t2 ⊢
            have B5 := Lib.hid (HB1.out.trans (b2.mono HB1.out.size))
            have SRC2 := Lib.hid (vals_src (HVS.out.keep b2) (t2.src CVRst))
            have HN1 := Lib.hid (HN.out cs _ w5 B5.out (fun _ h => h) (by rw [← HNL.out]; exact hn12) (ClsR.st.below HS.out B5.out))
            have HN2 : Hid (∀ W, Below w5.heap.size w5 W → Calls Tryz.prog 23 #[.slice so2 n2 sc2] W (NewG (cs.drop k ++ cs.take k) W)) := Lib.hid (fun W hW => HN.out _ _ W (B5.out.trans (hW.mono B5.out.size)) (fun c hc => by
              rcases List.mem_append.1 hc with h | h
              · exact List.mem_of_mem_drop h
              · exact List.mem_of_mem_take h) (by rw [List.length_append, List.length_drop, List.length_take, ← HNL.out]; omega) (ClsR.st.below SRC2.out hW))
            clear t2 b2 HN HAP1 HAP2 T0 B0 hn2 SRC2 HVS
            go_wp2_with fail
            with_reducible refine HN1.out.mono ?_
            rintro e w6 h
            rcases h with ⟨i1, z1, hbad1, rfl, hb6⟩ | ⟨hok1, T1, mb1, B1, rfl, htb1, hb6⟩
            · have B6 := Lib.hid hb6
              have HBA1 := Lib.hid hbad1
              have hz1 : (z1 : Int) ≠ 0 := by have := hbad1.ne; omega
              have hy1 : ((z1 : Int) == 0) = false := beq_eq_false_iff_ne.2 hz1
              clear hb6 hbad1 HN1
              go_wp2_with fail
              with_reducible refine (HN2.out w6 B6.out).mono ?_
              rintro e w7 h
              rcases h with ⟨i2, z2, hbad2, rfl, hb7⟩ | ⟨hok2, _⟩
              · have hz2 : (z2 : Int) ≠ 0 := by have := hbad2.ne; omega
                have hy2 : ((z2 : Int) == 0) = false := beq_eq_false_iff_ne.2 hz2
                have B7 := Lib.hid (B5.out.trans ((B6.out.trans (hb7.mono B6.out.size)).mono B5.out.size))
                clear hb7 hbad2 HN2
                go_wp2_with fail
                with_reducible refine (HA.out w7 B7.out).mono ?_
                rintro e w8 ⟨rfl, hb⟩
                have B8 := Lib.hid (B7.out.trans (hb.mono B7.out.size))
                clear hb
                go_wp2
                go_ret
                exact ⟨rfl, B8.out⟩
              · exfalso
                have h := hok2.turn
                rw [List.take_append_drop] at h
                exact HBA1.out.not h
            · have B6 := Lib.hid hb6
              have HO1 := Lib.hid hok1
              have HT1 := Lib.hid htb1.tab
              clear hb6 hok1 htb1 HN1
              go_wp2_with fail
              with_reducible refine (HN2.out w6 B6.out).mono ?_
              rintro e w7 h
              rcases h with ⟨i2, z2, hbad2, rfl, hb7⟩ | ⟨hok2, T2, mb2, B2, rfl, htb2, hb7⟩
              · exfalso
                have h := HO1.out
                rw [← List.take_append_drop k cs] at h
                exact hbad2.not h.turn
              · have B7 := Lib.hid (B5.out.trans ((B6.out.trans (hb7.mono B6.out.size)).mono B5.out.size))
                have hiso : Iso (newT cs) (newT (cs.drop k ++ cs.take k)) (turnN (cs.take k).length (cs.drop k).length) := by
                  have h := HO1.out.lined
                  rw [← List.take_append_drop k cs] at h
                  have q := h.iso
                  rw [List.take_append_drop] at q
                  exact q
                have HSU1 : Hid (∀ (x y : List UInt8) W, x.length ≤ 32 → y.length ≤ 32 → Below w7.heap.size w7 W → Calls Tryz.prog 30 #[.pointer (some ⟨T1, 0, none⟩), .string (S x), .string (S y)] W (fun e w' => e = .returned (.bool (subE (newT cs) x y)) ∧ Below W.heap.size W w')) := Lib.hid (fun x y W hx hy hW => sub_any HT1.out HO1.out.shape x y W (hb7.trans (hW.mono hb7.size)) (by omega) (by omega))
                have HSU2 : Hid (∀ (x y : List UInt8) W, x.length ≤ 32 → y.length ≤ 32 → Below w7.heap.size w7 W → Calls Tryz.prog 30 #[.pointer (some ⟨T2, 0, none⟩), .string (S x), .string (S y)] W (fun e w' => e = .returned (.bool (subE (newT cs) x y)) ∧ Below W.heap.size W w')) := Lib.hid (fun x y W hx hy hW => by
                  have h := sub_any htb2.tab hok2.shape x y W hW (by omega) (by omega)
                  rw [hiso.subE] at h
                  exact h)
                have HPR1 : Hid (∀ (x : List UInt8) W, x.length ≤ 32 → Below w7.heap.size w7 W → Calls Tryz.prog 28 #[.pointer (some ⟨T1, 0, none⟩), .string (S x)] W (fun e w' => e = .returned (.string (S (printE (newT cs) x))) ∧ Below W.heap.size W w')) := Lib.hid (fun x W hx hW => printt_any HT1.out HO1.out.shape x W (hb7.trans (hW.mono hb7.size)) (by omega) (HO1.out.print_len x))
                have HPR2 : Hid (∀ (x : List UInt8) W, x.length ≤ 32 → Below w7.heap.size w7 W → Calls Tryz.prog 28 #[.pointer (some ⟨T2, 0, none⟩), .string (S x)] W (fun e w' => e = .returned (.string (S (printE (newT cs) x))) ∧ Below W.heap.size W w')) := Lib.hid (fun x W hx hW => by
                  have h := printt_any htb2.tab hok2.shape x W hW (by omega) (hok2.print_len x)
                  rw [hiso.printE] at h
                  exact h)
                have HNN : Hid (∀ (i : Nat) (x : Cls), cs[i]? = some x → x.name.length ≤ 32 ∧ ∀ W, Below w7.heap.size w7 W → W.cell? ⟨b, o + i * 8, none⟩ = some (.string (S x.name))) := Lib.hid (fun i x hx => by
                  refine ⟨?_, fun W hW => ?_⟩
                  · have hxt : (newT cs)[8 + i]? = some (linkOne cs x) := by
                      unfold newT
                      rw [List.getElem?_append_right (by rw [startL_len]; omega), startL_len, show 8 + i - 8 = i by omega, List.getElem?_map, hx]
                      rfl
                    exact HO1.out.wise.sh.nm (8 + i) _ hxt
                  · obtain ⟨b', o', v, he, hv, _, hcl⟩ := Src.elem (ClsR.st.below HS.out B7.out) i x hx
                    cases he
                    obtain ⟨_, _, _, rfl, _⟩ := hv
                    exact (Only.ofBelow (S := fun _ => False) hW).cell (a := ⟨b, o + i * 8, none⟩) (hcl 0 _ rfl) id)
                clear hb7 htb2 hok2 hiso HT1 HO1 HN2 HS
                go_wp2_with fail
                with_reducible refine (HA.out w7 B7.out).mono ?_
                rintro e w8 ⟨rfl, hb⟩
                have HR8 : Hid (Below w7.heap.size w7 w8) := Lib.hid hb
                clear hb HA
                go_wp2
                go_loopw [13] (fun v13 wr => ∃ i : Nat, i ≤ n ∧ v13 = .int .i64 i ∧ Below w7.heap.size w7 wr) (fun v13 _ => n - (intOf v13).toNat)
                case atStart => exact ⟨0, Nat.zero_le _, rfl, HR8.out⟩
                case round =>
                  obtain ⟨i, hi, rfl, hbw⟩ := hrel
                  have HBW := Lib.hid hbw
                  clear hbw
                  by_cases hlt : i < n
                  · obtain ⟨x, hx⟩ : ∃ x, cs[i]? = some x := ⟨_, List.getElem?_eq_getElem (by rw [← HNL.out]; exact hlt)⟩
                    obtain ⟨hxl, hxc⟩ := HNN.out i x hx
                    have HXL := Lib.hid hxl
                    have HXC := Lib.hid hxc
                    generalize x.name = xn at HXL HXC
                    have hi0 : (0 : Int) ≤ (i : Int) := by omega
                    have hin : (i : Int) < (n : Int) := by omega
                    clear hx hxl hxc
                    go_wp2
                    go_loopw [14] (fun v14 wr => ∃ j : Nat, j ≤ n ∧ v14 = .int .i64 j ∧ Below w7.heap.size w7 wr) (fun v14 _ => n - (intOf v14).toNat)
                    case atStart => exact ⟨0, Nat.zero_le _, rfl, HBW.out⟩
                    case round =>
                      obtain ⟨j, hj, rfl, hbw⟩ := hrel
                      have HBJ := Lib.hid hbw
                      clear hbw
                      by_cases hlj : j < n
                      · obtain ⟨y, hy⟩ : ∃ y, cs[j]? = some y := ⟨_, List.getElem?_eq_getElem (by rw [← HNL.out]; exact hlj)⟩
                        obtain ⟨hyl, hyc⟩ := HNN.out j y hy
                        generalize y.name = yn at hyl hyc
                        have hj0 : (0 : Int) ≤ (j : Int) := by omega
                        have hjn : (j : Int) < (n : Int) := by omega
                        have K1 := Lib.hid (fun W hW => HSU1.out xn yn W HXL.out hyl (HBJ.out.trans (Below.mono hW HBJ.out.size)))
                        have K2 := Lib.hid (fun W hW => HSU2.out xn yn W HXL.out hyl (HBJ.out.trans (Below.mono hW HBJ.out.size)))
                        have K3 := Lib.hid (fun W hW => HPR1.out xn W HXL.out (HBJ.out.trans (Below.mono hW HBJ.out.size)))
                        have K4 := Lib.hid (fun W hW => HPR2.out xn W HXL.out (HBJ.out.trans (Below.mono hW HBJ.out.size)))
                        have HCC : Hid (∀ W, Below wr.heap.size wr W → W.cell? ⟨b, o + i * 8, none⟩ = some (.string (S xn)) ∧ W.cell? ⟨b, o + j * 8, none⟩ = some (.string (S yn))) := Lib.hid (fun W hW => ⟨HXC.out W (HBJ.out.trans (hW.mono HBJ.out.size)), hyc W (HBJ.out.trans (hW.mono HBJ.out.size))⟩)
                        have hB := Below.refl wr.heap.size wr
                        obtain ⟨c0, c1⟩ := HCC.out wr hB
                        generalize subE (newT cs) xn yn = sb at K1 K2
                        generalize printE (newT cs) xn = pr at K3 K4
                        have e1 := S_toList pr
                        clear hy hyl hyc
                        go_upto_region 17 with fail
                        first
                        | (go_region_held3 (fun W => W.cell? ⟨b, o + i * 8, none⟩ = some (.string (S xn)) ∧ W.cell? ⟨b, o + j * 8, none⟩ = some (.string (S yn))) ((refine HCC.out _ ?_; (repeat (first | (with_reducible exact hB) | (with_reducible (apply below_step; rotate_left; assumption)) | (with_reducible refine below_alloc ?_ _) | (with_reducible refine below_drew ?_)))))
                            (first | ((go_at_call 30; (with_reducible refine (K1.out _ ?_).mono ?_); (focus ((repeat (first | (with_reducible exact hB) | (with_reducible (apply below_step; rotate_left; assumption)) | (with_reducible refine below_alloc ?_ _) | (with_reducible refine below_drew ?_))); done)); rintro e ws1 ⟨rfl, bs1⟩))
                                   | ((go_at_call 30; (with_reducible refine (K2.out _ ?_).mono ?_); (focus ((repeat (first | (with_reducible exact hB) | (with_reducible (apply below_step; rotate_left; assumption)) | (with_reducible refine below_alloc ?_ _) | (with_reducible refine below_drew ?_))); done)); rintro e ws2 ⟨rfl, bs2⟩))
                                   | ((go_at_call 28; (with_reducible refine (K3.out _ ?_).mono ?_); (focus ((repeat (first | (with_reducible exact hB) | (with_reducible (apply below_step; rotate_left; assumption)) | (with_reducible refine below_alloc ?_ _) | (with_reducible refine below_drew ?_))); done)); rintro e ws3 ⟨rfl, bs3⟩))
                                   | ((go_at_call 28; (with_reducible refine (K4.out _ ?_).mono ?_); (focus ((repeat (first | (with_reducible exact hB) | (with_reducible (apply below_step; rotate_left; assumption)) | (with_reducible refine below_alloc ?_ _) | (with_reducible refine below_drew ?_))); done)); rintro e ws4 ⟨rfl, bs4⟩))))
                        | fail
                        all_goals
                          go_wp2
                          go_roundw
                          case rel => exact ⟨j + 1, by omega, by go_num, HBJ.out.trans (Below.mono (by first | exact below_drewN _ _ | (repeat (first | (with_reducible exact hB) | (with_reducible (apply below_step; rotate_left; assumption)) | (with_reducible refine below_alloc ?_ _) | (with_reducible refine below_drew ?_)))) HBJ.out.size)⟩
                          case measure => simp [intOf]; omega
                      · obtain rfl : j = n := by omega
                        go_wp2
                        go_roundw
                        case rel => exact ⟨i + 1, by omega, by go_num, HBJ.out⟩
                        case measure => simp [intOf]; omega
                  · obtain rfl : i = n := by omega
                    have HE := Lib.hid (B7.out.trans (HBW.out.mono B7.out.size))
                    go_wp2
                    go_ret
                    exact ⟨rfl, HE.out⟩
          exact AllReadyH.nil
        exact AllReadyH.nil
      exact AllReadyH.nil
    exact AllReadyH.nil
end Go.Proofs.YtpincofjopmaaaaGreatDoor

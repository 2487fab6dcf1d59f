/-
  The walk of the law CodeOps: every operator is there, in order, and a list that was handed out is its own.
  Conditions: the tables hold what they hold at the start.
-/
import Derived.Test.YtcoobdbfgiiejaaDoorCAwake
import Derived.Deep.RegionHeld
namespace Go.Proofs.YtcoobdbfgiiejaaDoor
open Go.RowKit
/-- A list of all names, of the call's own. -/
structure Names (w0 w : World) (v : Value) : Prop where
  row : w.ownsRow 0 9 1 v 42 nameCells
  own : ∀ g, v.ownBlock = some g → w0.heap.size ≤ g
  bel : Below w0.heap.size w0 w
theorem Names.at {w0 w : World} {g c : Nat} (h : Names w0 w (.slice (some ⟨g, 0, none⟩) 42 c)) (k : Nat) (hk : k < 42) : w.cell? ⟨g, k, none⟩ = some (.string (S (nameAt k))) ∧ w.frozen? ⟨g, k, none⟩ = false ∧ g < w.heap.size := by
  have hc := h.row.cells (g := g) rfl k (.string (S (nameAt k))) (nameCells_at k hk)
  rw [Addr.add_mid, Nat.zero_add] at hc
  refine ⟨hc, ?_, World.block_lt_of_cell? w _ hc⟩
  rcases h.row.2 with ⟨h0, _⟩ | ⟨g', cap, cur, he, _, hgg, _⟩
  · cases h0
  · cases he
    simp [World.frozen?, hgg]
theorem Names.shape {w0 w : World} {v : Value} (h : Names w0 w v) : ∃ g c, v = .slice (some ⟨g, 0, none⟩) 42 c := by
  rcases h.row.2 with ⟨_, h0⟩ | ⟨g, cap, cur, rfl, _⟩
  · simp at h0
  · exact ⟨g, cap, rfl⟩
theorem Names.keep {w0 w w' : World} {v : Value} (h : Names w0 w v) (hb : Below w.heap.size w w') : Names w0 w' v :=
  ⟨(Only.ofBelow (S := fun _ => False) hb).row h.row (fun _ _ => id), h.own, h.bel.trans (hb.mono h.bel.size)⟩
theorem cell_set_ne {w : World} {b o p q : Nat} {u : Value} (h : p ≠ b) : (w.setCell ⟨b, o, none⟩ u).cell? ⟨p, q, none⟩ = w.cell? ⟨p, q, none⟩ := by
  have ho : Only (fun k => k = b) w (w.setCell ⟨b, o, none⟩ u) := (Only.refl (fun k => k = b) w).setCell (p := ⟨b, o, none⟩) rfl u
  cases hc : w.cell? ⟨p, q, none⟩ with
  | some v => exact ho.cell hc (fun e => h e)
  | none =>
    have hb : (w.setCell ⟨b, o, none⟩ u).heap[p]? = w.heap[p]? := by
      rcases Nat.lt_or_ge p w.heap.size with h1 | h1
      · exact ho.block p h1 (fun e => h e)
      · rw [Array.getElem?_eq_none h1, Array.getElem?_eq_none (by simpa using h1)]
    unfold World.cell? at hc ⊢
    rw [hb]
    exact hc
theorem below_dN (w : World) (q : Nat) : Below w.heap.size w (w.drewN q) := ⟨rfl, rfl, rfl, Nat.le_refl _, fun _ _ => rfl⟩
theorem below_dN' {B : Nat} {w : World} (h : B ≤ w.heap.size) (q : Nat) : Below B w (w.drewN q) := (below_dN w q).mono h
/-- What asking for the operators once more answers, at one place. -/
def OpsAgain (w : World) (gb j : Nat) (e : Ending) (w' : World) : Prop := ∃ g c, e = .returned (.slice (some ⟨g, 0, none⟩) 42 c) ∧ w'.cell? ⟨g, j, none⟩ = some (.string (S (nameAt j))) ∧ w'.cell? ⟨gb, j, none⟩ = some (.string (S (nameAt j))) ∧ Below w.heap.size w w'
theorem anyH_take' {P : Program} {md : Region.Mode} {ops : Array Oper} {Q : Exit → Act → World → Prop} {S : World → Prop} {i : Nat} {oi : Oper} {v : Value} {fuel : Nat} {listed : Array Bool} {a : Act} {w : World} (d : Nat) (hi : ops[i]? = some oi) (hd : oi.dst = some d)
    (hs : Region.noSelect ops = true) (hf : Region.free md ops listed i = true) (hr : (Region.ready md ops listed).contains i = true)
    (hQ : ∀ c a w, Q (.panic c) (a.put oi.dst v) w → Q (.panic c) a w) (hy : YieldsIf P ops S oi v a) (hS : S w)
    (h : wpAnyH P md ops Q S fuel (listed.setIfInBounds i true) (a.put (some d) v) w) : wpAnyH P md ops Q S (fuel + 1) listed a w :=
  wpAnyH_take hi hs hf hr hQ hy hS (by rw [hd]; exact h)
/-- The other list of all names. -/
def Other (w : World) (g : Nat) : Prop := ∀ k, k < 42 → w.cell? ⟨g, k, none⟩ = some (.string (S (nameAt k)))
theorem Other.keep {w w' : World} {g : Nat} (h : Other w g) (hb : Below w.heap.size w w') : Other w' g := fun k hk => (Only.ofBelow (S := fun _ => False) hb).cell (h k hk) id
set_option maxHeartbeats 2000000 in
set_option maxRecDepth 100000 in
theorem opsLaw_any (x : Int) (w : World) (hT : CT w) (hp : Pow10 w) (h0 : -9223372036854775808 ≤ x) (h1 : x ≤ 9223372036854775807) :
    Calls Tryd.prog 4 #[.int .i64 x] w fun e w' => e = .returned (.bool true) ∧ Below w.heap.size w w' := by
  have HT := Lib.hid hT
  have HP := Lib.hid hp
  clear hT hp
  go_enter Tryd.func4, Tryd.ntmps4
  go_wp2_with fail
  refine (ops_any w HT.out.ops).mono ?_
  rintro e w1 ⟨v1, rfl, hr1, ho1, hb1⟩
  have n1 : Names w w1 v1 := ⟨hr1, ho1, hb1⟩
  obtain ⟨ga, ca, rfl⟩ := n1.shape
  have N1 := Lib.hid n1
  clear hr1 ho1 hb1 n1
  go_wp2_with fail
  refine (refops_any w1).mono ?_
  rintro e w2 ⟨rfl, hw2⟩
  have o2 : Other w2 w1.heap.size := fun k hk => by rw [← hw2]; exact names_cell w1 k hk
  have b2 : Below w1.heap.size w1 w2 := by rw [← hw2]; exact (Below.refl _ w1).alloc (Nat.le_refl _) _
  have n2 := N1.out.keep b2
  have hne : w1.heap.size ≠ ga := by have := (N1.out.at 0 (by decide)).2.2; omega
  have hlo : w.heap.size ≤ w1.heap.size := N1.out.bel.size
  clear hw2 b2 N1
  generalize w1.heap.size = gb at o2 hne hlo ⊢
  have N2 := Lib.hid n2
  have O2 := Lib.hid o2
  clear n2 o2
  go_wp2_with fail
  refine (awake_any w2 (HT.out.keep N2.out.bel) (HP.out.keep N2.out.bel)).mono ?_
  rintro e w3 ⟨rfl, hb3⟩
  have n3 := N2.out.keep hb3
  have o3 := O2.out.keep hb3
  have N3 := Lib.hid n3
  have O3 := Lib.hid o3
  clear n3 o3 hb3 N2 O2
  go_wp2
  go_loopw [5] (fun v5 wr => ∃ k : Nat, k ≤ 42 ∧ v5 = .int .i64 k ∧ Names w wr (.slice (some ⟨ga, 0, none⟩) 42 ca) ∧ Other wr gb) (fun v5 _ => 42 - (intOf v5).toNat)
  case atStart => exact ⟨0, Nat.zero_le _, rfl, N3.out, O3.out⟩
  case round =>
    obtain ⟨k, hk, rfl, hn, ho⟩ := hrel
    have HN := Lib.hid hn
    have HO := Lib.hid ho
    clear hn ho
    by_cases hlt : k < 42
    · have hlt' : (k : Int) < 42 := by omega
      have hk0 : (0 : Int) ≤ k := by omega
      have c1 := (HN.out.at k hlt).1
      have c2 := HO.out k hlt
      go_wp2_with (go_quiet (fail))
      go_roundw
      case rel => exact ⟨k + 1, by omega, by go_num, HN.out.keep (by first | exact below_dN _ _ | exact (Below.refl _ _).drew), HO.out.keep (by first | exact below_dN _ _ | exact (Below.refl _ _).drew)⟩
      case measure => simp [intOf]; omega
    · obtain rfl : k = 42 := by omega
      by_cases hx0 : x < 0
      · go_wp2_with (go_quiet (fail))
        go_ret
        exact ⟨rfl, HN.out.bel.trans (below_dN' HN.out.bel.size _)⟩
      · by_cases hx1 : 42 ≤ x
        · have hx2 : ¬ (x < 42) := by omega
          have hx3 : 0 ≤ x := by omega
          go_wp2_with (go_quiet (fail))
          go_ret
          exact ⟨rfl, HN.out.bel.trans (below_dN' HN.out.bel.size _)⟩
        · obtain ⟨j, hj⟩ : ∃ j : Nat, x = j := ⟨x.toNat, by omega⟩
          subst hj
          have hj42 : j < 42 := by omega
          have hj0 : (0 : Int) ≤ j := by omega
          have hj1 : (j : Int) < 42 := by omega
          obtain ⟨c1, f1, _⟩ := HN.out.at j hj42
          clear hx0 hx1
          go_upto_region 11 with fail
          have b4 : Below w.heap.size w (wr.setCell ⟨ga, j, none⟩ (.string ⟨#[120]⟩)) := HN.out.bel.setCell (HN.out.own ga rfl) _
          have c4 : (wr.setCell ⟨ga, j, none⟩ (.string ⟨#[120]⟩)).cell? ⟨gb, j, none⟩ = some (.string (S (nameAt j))) := (cell_set_ne hne).trans (HO.out j hj42)
          generalize wr.setCell ⟨ga, j, none⟩ (.string ⟨#[120]⟩) = w4 at b4 c4 ⊢
          have HOPS : Hid (∀ W, Below w4.heap.size w4 W → Calls Tryd.prog 11 #[] W (OpsAgain w gb j)) := Lib.hid (fun W hW => by
            have bW : Below w.heap.size w W := b4.trans (hW.mono b4.size)
            refine (ops_any W (HT.out.keep bW).ops).mono ?_
            rintro e w' ⟨v, rfl, hr, ho, hb⟩
            have n : Names W w' v := ⟨hr, ho, hb⟩
            obtain ⟨g, c, rfl⟩ := n.shape
            exact ⟨g, c, rfl, (n.at j hj42).1, (Only.ofBelow (S := fun _ => False) hb).cell ((Only.ofBelow (S := fun _ => False) hW).cell c4 id) id, bW.trans (hb.mono bW.size)⟩)
          clear HN HO N3 O3 c1 f1 hne hlo h0 h1 hk hlt HP HT
          have hd0 : decide ((j : Int) < 0) = false := by simp
          have hd1 : decide ((42 : Int) ≤ (j : Int)) = false := by simp; omega
          refine wp_region_held_drew (S := fun W => W.cell? ⟨gb, j, none⟩ = some (.string (S (nameAt j)))) (by kernel_rfl) (by exact c4) (fun hHeld => ?_)
          refine anyH_take' (i := 0) 43 (v := ?_) rfl rfl (by kernel_rfl) (by kernel_rfl) (by kernel_rfl) (fun _ _ _ h => h) (Or.inl ⟨by rfl, ?_⟩) (by assumption) ?_
          rotate_left
          · (intro W hSw; (try dsimp only at hSw); go_simp; try with_reducible rfl)
          simp only [Act.put, List.setIfInBounds_toArray, List.set_cons_zero, List.set_cons_succ]
          refine anyH_take' (i := 1) 44 (v := ?_) rfl rfl (by kernel_rfl) (by kernel_rfl) (by kernel_rfl) (fun _ _ _ h => h) (Or.inl ⟨by rfl, ?_⟩) (by assumption) ?_
          rotate_left
          · (intro W hSw; (try dsimp only at hSw); go_simp; try with_reducible rfl)
          simp only [Act.put, List.setIfInBounds_toArray, List.set_cons_zero, List.set_cons_succ]
          refine anyH_take' (i := 2) 45 (v := ?_) rfl rfl (by kernel_rfl) (by kernel_rfl) (by kernel_rfl) (fun _ _ _ h => h) (Or.inl ⟨by rfl, ?_⟩) (by assumption) ?_
          rotate_left
          · (intro W hSw; (try dsimp only at hSw); go_simp; try with_reducible rfl)
          simp only [Act.put, List.setIfInBounds_toArray, List.set_cons_zero, List.set_cons_succ]
          refine anyH_take' (i := 3) 46 (v := ?_) rfl rfl (by kernel_rfl) (by kernel_rfl) (by kernel_rfl) (fun _ _ _ h => h) (Or.inl ⟨by rfl, ?_⟩) (by assumption) ?_
          rotate_left
          · (intro W hSw; (try dsimp only at hSw); go_simp; try with_reducible rfl)
          simp only [Act.put, List.setIfInBounds_toArray, List.set_cons_zero, List.set_cons_succ]
          refine anyH_take' (i := 4) 47 (v := ?_) rfl rfl (by kernel_rfl) (by kernel_rfl) (by kernel_rfl) (fun _ _ _ h => h) (Or.inl ⟨by rfl, ?_⟩) (by assumption) ?_
          rotate_left
          · (intro W hSw; (try dsimp only at hSw); go_simp; try with_reducible rfl)
          simp only [Act.put, List.setIfInBounds_toArray, List.set_cons_zero, List.set_cons_succ]
          refine anyH_take' (i := 5) 48 (v := ?_) rfl rfl (by kernel_rfl) (by kernel_rfl) (by kernel_rfl) (fun _ _ _ h => h) (Or.inl ⟨by rfl, ?_⟩) (by assumption) ?_
          rotate_left
          · (intro W hSw; (try dsimp only at hSw); go_simp; try with_reducible rfl)
          simp only [Act.put, List.setIfInBounds_toArray, List.set_cons_zero, List.set_cons_succ]
          refine anyH_take' (i := 6) 49 (v := ?_) rfl rfl (by kernel_rfl) (by kernel_rfl) (by kernel_rfl) (fun _ _ _ h => h) (Or.inl ⟨by rfl, ?_⟩) (by assumption) ?_
          rotate_left
          · (intro W hSw; (try dsimp only at hSw); go_simp; try with_reducible rfl)
          simp only [Act.put, List.setIfInBounds_toArray, List.set_cons_zero, List.set_cons_succ]
          refine anyH_take' (i := 7) 50 (v := ?_) rfl rfl (by kernel_rfl) (by kernel_rfl) (by kernel_rfl) (fun _ _ _ h => h) (Or.inl ⟨by rfl, ?_⟩) (by assumption) ?_
          rotate_left
          · (intro W hSw; (try dsimp only at hSw); go_simp; try with_reducible rfl)
          simp only [Act.put, List.setIfInBounds_toArray, List.set_cons_zero, List.set_cons_succ]
          refine anyH_take' (i := 8) 51 (v := ?_) rfl rfl (by kernel_rfl) (by kernel_rfl) (by kernel_rfl) (fun _ _ _ h => h) (Or.inl ⟨by rfl, ?_⟩) (by assumption) ?_
          rotate_left
          · (intro W hSw; (try dsimp only at hSw); go_simp; try with_reducible rfl)
          simp only [Act.put, List.setIfInBounds_toArray, List.set_cons_zero, List.set_cons_succ]
          refine anyH_take' (i := 10) 53 (v := ?_) rfl rfl (by kernel_rfl) (by kernel_rfl) (by kernel_rfl) (fun _ _ _ h => h) (Or.inl ⟨by rfl, ?_⟩) (by assumption) ?_
          rotate_left
          · (intro W hSw; (try dsimp only at hSw); go_simp; try with_reducible rfl)
          simp only [Act.put, List.setIfInBounds_toArray, List.set_cons_zero, List.set_cons_succ]
          refine anyH_take' (i := 13) 56 (v := ?_) rfl rfl (by kernel_rfl) (by kernel_rfl) (by kernel_rfl) (fun _ _ _ h => h) (Or.inl ⟨by rfl, ?_⟩) (by assumption) ?_
          rotate_left
          · (intro W hSw; (try dsimp only at hSw); go_simp; try with_reducible rfl)
          simp only [Act.put, List.setIfInBounds_toArray, List.set_cons_zero, List.set_cons_succ]
          refine anyH_take' (i := 14) 57 (v := ?_) rfl rfl (by kernel_rfl) (by kernel_rfl) (by kernel_rfl) (fun _ _ _ h => h) (Or.inl ⟨by rfl, ?_⟩) (by assumption) ?_
          rotate_left
          · (intro W hSw; (try dsimp only at hSw); go_simp; try with_reducible rfl)
          simp only [Act.put, List.setIfInBounds_toArray, List.set_cons_zero, List.set_cons_succ]
          refine anyH_take' (i := 15) 58 (v := ?_) rfl rfl (by kernel_rfl) (by kernel_rfl) (by kernel_rfl) (fun _ _ _ h => h) (Or.inl ⟨by rfl, ?_⟩) (by assumption) ?_
          rotate_left
          · (intro W hSw; (try dsimp only at hSw); go_simp; try with_reducible rfl)
          simp only [Act.put, List.setIfInBounds_toArray, List.set_cons_zero, List.set_cons_succ]
          refine anyH_take' (i := 16) 59 (v := ?_) rfl rfl (by kernel_rfl) (by kernel_rfl) (by kernel_rfl) (fun _ _ _ h => h) (Or.inl ⟨by rfl, ?_⟩) (by assumption) ?_
          rotate_left
          · (intro W hSw; (try dsimp only at hSw); go_simp; try with_reducible rfl)
          simp only [Act.put, List.setIfInBounds_toArray, List.set_cons_zero, List.set_cons_succ]
          refine wpAnyH_ready (rs := [9]) (by kernel_rfl) (by simp) ?_
          refine AllReadyH.cons rfl (fun K hK => ?_) ?_
          · go_simp
            go_wp2_with (go_at_call 11; refine (HOPS.out _ (by exact (Below.refl _ _).drew)).mono ?_; rintro e w5 ⟨g5, k5, rfl, a5, c5, b5⟩)
            refine hK.out _ _ (by exact c5) (fun hHeld => ?_)
            clear hK K
            refine anyH_take' (i := 11) 54 (v := ?_) rfl rfl (by kernel_rfl) (by kernel_rfl) (by kernel_rfl) (fun _ _ _ h => h) (Or.inl ⟨by rfl, ?_⟩) (by assumption) ?_
            rotate_left
            · (intro W hSw; (try dsimp only at hSw); go_simp; try with_reducible rfl)
            simp only [Act.put, List.setIfInBounds_toArray, List.set_cons_zero, List.set_cons_succ]
            refine wpAnyH_ready (rs := [12]) (by kernel_rfl) (by simp) ?_
            refine AllReadyH.cons rfl (fun K hK => ?_) ?_
            · go_simp
              refine hK.out _ _ (by exact c5) (fun hHeld => ?_)
              clear hK K
              refine anyH_take' (i := 17) 60 (v := ?_) rfl rfl (by kernel_rfl) (by kernel_rfl) (by kernel_rfl) (fun _ _ _ h => h) (Or.inl ⟨by rfl, ?_⟩) (by assumption) ?_
              rotate_left
              · (intro W hSw; (try dsimp only at hSw); go_simp; try with_reducible rfl)
              simp only [Act.put, List.setIfInBounds_toArray, List.set_cons_zero, List.set_cons_succ]
              refine anyH_take' (i := 18) 61 (v := ?_) rfl rfl (by kernel_rfl) (by kernel_rfl) (by kernel_rfl) (fun _ _ _ h => h) (Or.inl ⟨by rfl, ?_⟩) (by assumption) ?_
              rotate_left
              · (intro W hSw; (try dsimp only at hSw); go_simp; try with_reducible rfl)
              simp only [Act.put, List.setIfInBounds_toArray, List.set_cons_zero, List.set_cons_succ]
              refine anyH_take' (i := 19) 2 (v := ?_) rfl rfl (by kernel_rfl) (by kernel_rfl) (by kernel_rfl) (fun _ _ _ h => h) (Or.inl ⟨by rfl, ?_⟩) (by assumption) ?_
              rotate_left
              · (intro W hSw; (try dsimp only at hSw); go_simp; try with_reducible rfl)
              simp only [Act.put, List.setIfInBounds_toArray, List.set_cons_zero, List.set_cons_succ]
              refine wpAnyH_done (by kernel_rfl) ?_ _
              go_wp2
              go_ret
              exact ⟨rfl, b5⟩
            · exact AllReadyH.nil
          · exact AllReadyH.nil
end Go.Proofs.YtcoobdbfgiiejaaDoor

/-
  PackBack's contract: it answers true at any fields, and writes nothing that was there, in whatever order Go evaluates.
  Conditions: unicode/utf8's two tables hold what they hold at the start.
-/
import Derived.Test.YtlkgiloabonhhaaDoorBackPlain
import Derived.Test.YtlkgiloabonhhaaDoorWrites
import Derived.Deep.RegionHeld3
namespace Go.Proofs.YtlkgiloabonhhaaDoor
open Go.RowKit
/-- All texts are short and of whole characters. -/
def Good (fs : List Fld) : Prop := ∀ f ∈ fs, f.s.length ≤ 300 ∧ Lib.validD f.s = true
theorem good_nil (fs : List Fld) : Good (fs.take 0) := fun f hf => by simp at hf
theorem good_snoc {fs : List Fld} {k : Nat} {f : Fld} (h : Good (fs.take k)) (hf : fs[k]? = some f) (h1 : f.s.length ≤ 300) (h2 : Lib.validD f.s = true) : Good (fs.take (k + 1)) := by
  intro g hg
  rw [List.take_add_one] at hg
  rcases List.mem_append.1 hg with hg | hg
  · exact h g hg
  · rw [hf] at hg
    simp at hg
    subst hg
    exact ⟨h1, h2⟩
theorem fours_grow {fs : List Fld} {k : Nat} {L E : List UInt8} (h : fours (fs.take (k + 1)) = L ++ E) (hL : L.length ≤ 331 * k) (hE : E.length ≤ 331) : (fours (fs.take (k + 1))).length ≤ 331 * (k + 1) := by
  rw [h, List.length_append]
  omega
set_option maxHeartbeats 16000000 in
set_option maxRecDepth 100000 in
theorem back_some (a : Addr) (cap : Nat) (fs : List Fld) (w : World) (hT : Tabs w) (hA : ArgFields w (some a) cap fs) (hsm : fs.length ≤ 40) :
    Calls Tryd.prog 7 #[.slice (some a) fs.length cap] w fun e w' => e = .returned (.bool true) ∧ Below w.heap.size w w' := by
  obtain ⟨n, hn⟩ : ∃ n, n = fs.length := ⟨_, rfl⟩
  rw [← hn]
  have HN := Lib.hid hn
  have hz : (n : Int) ≤ 40 := by omega
  have HA := Lib.hid hA
  have HT := Lib.hid hT
  clear hn hA hT hsm
  go_enter Tryd.func7, Tryd.ntmps7
  go_wp2_with fail
  refine (write_any _).mono ?_
  rintro e w1 ⟨rfl, rfl⟩
  have s1 := WS.new (Below.refl w.heap.size w)
  generalize w.alloc (.cells #[.slice none 0 0] 68) = w1 at s1 ⊢
  go_wp2_with fail
  refine (awake_any _ (HT.out.below s1.bel)).mono ?_
  rintro e w2 ⟨rfl, b2⟩
  have s2 := s1.keep b2
  clear s1 b2
  go_wp2_with fail
  go_loopw [4] (fun vi wr => ∃ (k : Nat) (v : Value), k ≤ n ∧ vi = .int .i64 k ∧ (fours (fs.take k)).length ≤ 331 * k ∧ Good (fs.take k) ∧ WS w wr w.heap.size v (fours (fs.take k))) (fun vi _ => n - (intOf vi).toNat)
  case atStart => exact ⟨0, _, Nat.zero_le _, rfl, by simp [fours], good_nil fs, by simpa [fours] using s2⟩
  case round =>
    obtain ⟨k, v, hk, rfl, hlen, hgood, hws⟩ := hrel
    by_cases hlt : k < n
    · have hkn : k < fs.length := by have := HN.out; omega
      obtain ⟨f, hf⟩ : ∃ f, fs[k]? = some f := ⟨_, List.getElem?_eq_getElem hkn⟩
      have hfe : fs[k] = f := by rw [List.getElem?_eq_getElem hkn] at hf; exact Option.some.inj hf
      have hok := HA.out.ok f (by rw [← hfe]; exact List.getElem_mem hkn)
      have hsn := fours_snoc fs k hkn
      rw [hfe] at hsn
      obtain ⟨b, off, rfl⟩ := add_plain (HA.out.c0 a rfl 0 fs[0] (by simp))
      have pl : ∀ j, (⟨b, off, none⟩ : Addr).add j = ⟨b, off + j, none⟩ := fun j => by unfold Addr.add; split <;> simp_all
      have HCN : Hid (∀ W, Below w.heap.size w W → W.cell? ⟨b, off + k * 6 + 2, none⟩ = some (.int .u64 f.n)) := fun W hW => by have c := (HA.out.below hW).c2 _ rfl k f hf; rw [pl, ← Nat.add_assoc] at c; exact c
      have HCI : Hid (∀ W, Below w.heap.size w W → W.cell? ⟨b, off + k * 6 + 3, none⟩ = some (.int .i64 f.i)) := fun W hW => by have c := (HA.out.below hW).c3 _ rfl k f hf; rw [pl, ← Nat.add_assoc] at c; exact c
      have HCY : Hid (∀ W, Below w.heap.size w W → W.cell? ⟨b, off + k * 6 + 4, none⟩ = some (.bool f.yes)) := fun W hW => by have c := (HA.out.below hW).c4 _ rfl k f hf; rw [pl, ← Nat.add_assoc] at c; exact c
      have HCS : Hid (∀ W, Below w.heap.size w W → W.cell? ⟨b, off + k * 6 + 5, none⟩ = some (.string (S f.s))) := fun W hW => by have c := (HA.out.below hW).c5 _ rfl k f hf; rw [pl, ← Nat.add_assoc] at c; exact c
      have hss : ((S f.s).size : Int) = (f.s.length : Int) := by rw [S_size]
      have c5 := HCS.out wr hws.bel
      obtain ⟨L, hL⟩ : ∃ L, L = fours (fs.take k) := ⟨_, rfl⟩
      rw [← hL] at hlen hws hsn
      have HSN := Lib.hid hsn
      have HOK := Lib.hid hok
      have HWS := Lib.hid hws
      have HLE := Lib.hid hlen
      have HG := Lib.hid hgood
      have HF := Lib.hid hf
      clear hsn hok hf hfe pl hlen hL hgood
      by_cases h300 : 300 < f.s.length
      · have h3z : (300 : Int) < (f.s.length : Int) := by omega
        clear hws
        go_wp2
        go_ret
        exact ⟨rfl, HWS.out.bel⟩
      have h3z : (f.s.length : Int) ≤ 300 := by omega
      have HW : Hid (∀ w, Calls Tryd.prog 32 #[.string (S f.s)] w fun e w' => e = .returned (.bool (Lib.validD f.s)) ∧ ∃ q, w' = w.drewN q) := fun w => whole_any f.s w (by omega)
      cases hval : Lib.validD f.s with
      | false =>
        have HVAL := Lib.hid hval
        clear hws hval
        go_wp2_with (go_at_call 32; refine (HW.out _).mono ?_; rintro e w3 ⟨rfl, q3, rfl⟩; rw [HVAL.out])
        go_ret
        exact ⟨rfl, (HWS.out.keep (w' := wr.drewN q3) ⟨rfl, rfl, rfl, Nat.le_refl _, fun _ _ => rfl⟩).bel⟩
      | true =>
        have HVAL := Lib.hid hval
        clear hws hval
        go_wp2_with (go_at_call 32; refine (HW.out _).mono ?_; rintro e w3 ⟨rfl, q3, rfl⟩; rw [HVAL.out]; have s3 := HWS.out.keep (w' := wr.drewN q3) ⟨rfl, rfl, rfl, Nat.le_refl _, fun _ _ => rfl⟩; have c2 := HCN.out _ s3.bel)
        refine (did_num s3 wr.heap.size rfl f.n HOK.out.n (by have := HLE.out; omega)).mono ?_
        rintro e w4 ⟨rfl, v4, s4, _⟩
        have c3 := HCI.out _ s4.bel
        have l4 : (L ++ Lib.uvarint f.n).length ≤ 331 * k + 10 := by have h1 := Lib.uvarint_length64 HOK.out.n; have h2 := HLE.out; rw [List.length_append]; omega
        have LL4 := Lib.hid l4
        clear s3 c2 c5 l4
        go_wp2_with fail
        refine (did_int s4 w4.heap.size rfl f.i HOK.out.i (by have := LL4.out; omega)).mono ?_
        rintro e w5 ⟨rfl, v5, s5, _⟩
        have c4 := HCY.out _ s5.bel
        have l5 : (L ++ Lib.uvarint f.n ++ Lib.uvarint (Lib.zigzag f.i)).length ≤ 331 * k + 20 := by have h1 := Lib.uvarint_length64 (Lib.zigzag_lt HOK.out.i.1 HOK.out.i.2); have h2 := LL4.out; rw [List.length_append]; omega
        have LL5 := Lib.hid l5
        clear s4 c3 l5
        go_wp2_with fail
        refine (did_flag s5 w5.heap.size rfl f.yes (by have := LL5.out; omega)).mono ?_
        rintro e w6 ⟨rfl, v6, s6, _⟩
        have c5 := HCS.out _ s6.bel
        clear s5 c4
        go_wp2_with fail
        refine (did_text s6 w6.heap.size rfl f.s (by have := LL5.out; rw [List.length_append]; simp only [List.length_singleton]; omega)).mono ?_
        rintro e w7 ⟨rfl, v7, s7, _⟩
        have e7 : L ++ Lib.uvarint f.n ++ Lib.uvarint (Lib.zigzag f.i) ++ [flagByte f.yes] ++ textBytes f.s = fours (fs.take (k + 1)) := by rw [HSN.out]; simp [Fld.four]
        rw [e7] at s7
        have hfour := Lib.hid (four_le f HOK.out (by omega))
        clear s6 c5 e7
        go_wp2
        go_roundw
        case rel => exact ⟨k + 1, v7, by omega, by go_num, fours_grow HSN.out HLE.out hfour.out, good_snoc HG.out HF.out (by omega) HVAL.out, s7⟩
        case measure => simp [intOf]; omega
    · have hkn : fs.take k = fs := List.take_of_length_le (by have := HN.out; omega)
      rw [hkn] at hws hlen hgood
      clear hkn
      have hl2 : (fours fs).length ≤ 140737488355328 := by omega
      have HG := Lib.hid hgood
      have HL2 := Lib.hid hl2
      clear hgood hl2 hlen
      go_wp2_with fail
      refine (ws_bytes hws HL2.out).mono ?_
      rintro e w3 ⟨v3, rfl, s3⟩
      clear hws
      go_wp2_with fail
      refine (rs_read s3.bel v3 _ (.ofRow s3.row) HL2.out).mono ?_
      rintro e w4 ⟨br, vr, rfl, r4, _⟩
      clear s3
      go_wp2_with fail
      clear hlt hk
      obtain ⟨l, hl⟩ : ∃ l, l = fours fs := ⟨_, rfl⟩
      rw [← hl] at r4 HL2
      have HLL := Lib.hid hl
      clear hl
      go_loopw [6] (fun vi wr => ∃ (k : Nat), k ≤ n ∧ vi = .int .i64 k ∧ RS w wr br vr l (fours (fs.take k)).length 0) (fun vi _ => n - (intOf vi).toNat)
      case atStart => exact ⟨0, Nat.zero_le _, rfl, by simpa [fours] using r4⟩
      case round =>
        obtain ⟨k, hk, rfl, hrs⟩ := hrel
        by_cases hlt : k < n
        · have hkn : k < fs.length := by have := HN.out; omega
          obtain ⟨f, hf⟩ : ∃ f, fs[k]? = some f := ⟨_, List.getElem?_eq_getElem hkn⟩
          have hfe : fs[k] = f := by rw [List.getElem?_eq_getElem hkn] at hf; exact Option.some.inj hf
          have hmem : f ∈ fs := by rw [← hfe]; exact List.getElem_mem hkn
          have hok := HA.out.ok f hmem
          have hgd := HG.out f hmem
          obtain ⟨b, off, rfl⟩ := add_plain (HA.out.c0 a rfl 0 fs[0] (by simp))
          have pl : ∀ j, (⟨b, off, none⟩ : Addr).add j = ⟨b, off + j, none⟩ := fun j => by unfold Addr.add; split <;> simp_all
          have hsp := fours_split fs k hkn
          rw [hfe] at hsp
          obtain ⟨k0, k1, k3, hfour⟩ := four_at (fours (fs.take k)) (fours (fs.drop (k + 1))) f hok hgd.1
          rw [← hsp, ← HLL.out] at hfour
          have hsn := fours_snoc fs k hkn
          rw [hfe] at hsn
          have hfin : (fours (fs.take k)).length + k0 + k1 + 1 + k3 + f.s.length = (fours (fs.take (k + 1))).length := by rw [hsn, List.length_append]; exact hfour.fin
          have HC : Hid (∀ W, Below w.heap.size w W → W.cell? ⟨b, off + k * 6 + 2, none⟩ = some (.int .u64 f.n) ∧ W.cell? ⟨b, off + k * 6 + 3, none⟩ = some (.int .i64 f.i) ∧ W.cell? ⟨b, off + k * 6 + 4, none⟩ = some (.bool f.yes) ∧ W.cell? ⟨b, off + k * 6 + 5, none⟩ = some (.string (S f.s))) := fun W hW => by
            have d2 := (HA.out.below hW).c2 _ rfl k f hf
            have d3 := (HA.out.below hW).c3 _ rfl k f hf
            have d4 := (HA.out.below hW).c4 _ rfl k f hf
            have d5 := (HA.out.below hW).c5 _ rfl k f hf
            rw [pl, ← Nat.add_assoc] at d2 d3 d4 d5
            exact ⟨d2, d3, d4, d5⟩
          obtain ⟨p, hp⟩ : ∃ p, p = (fours (fs.take k)).length := ⟨_, rfl⟩
          rw [← hp] at hfour hfin hrs
          have HFR := Lib.hid hfour
          have HFN := Lib.hid hfin
          have HGD := Lib.hid hgd
          have r0 : RS w wr.drew br vr l p 0 := hrs.keep ((Below.refl _ _).drew)
          have HR0 := Lib.hid r0
          clear hf hfe hmem hok hgd pl hsp hsn hfour hfin hp r0 hrs
          go_wp2_with fail
          go_region_held3 (fun W => W.cell? ⟨b, off + k * 6 + 2, none⟩ = some (.int .u64 f.n) ∧ W.cell? ⟨b, off + k * 6 + 3, none⟩ = some (.int .i64 f.i) ∧ W.cell? ⟨b, off + k * 6 + 4, none⟩ = some (.bool f.yes) ∧ W.cell? ⟨b, off + k * 6 + 5, none⟩ = some (.string (S f.s))) (first | exact HC.out _ r4t.bel | exact HC.out _ r3t.bel | exact HC.out _ r2t.bel | exact HC.out _ r1t.bel | exact HC.out _ HR0.out.bel)
            (first | (go_at_call 33; refine (rnum_ok br vr l p f.n k0 _ (by exact HR0.out.rd) HFR.out.a0).mono ?_; rintro e w1t ⟨rfl, hon1, hrd1⟩; have r1t := HR0.out.step hon1 hrd1) | (go_at_call 34; refine (rint_ok br vr l (p + k0) _ k1 _ (by exact r1t.rd) HFR.out.a1).mono ?_; rintro e w2t ⟨rfl, hon2, hrd2⟩; rw [zag_zigzag]; have r2t := r1t.step hon2 hrd2) | (go_at_call 35; refine (rflag_ok br vr l (p + k0 + k1) f.yes _ (by exact r2t.rd) HFR.out.lt HFR.out.a2).mono ?_; rintro e w3t ⟨rfl, hon3, hrd3⟩; have r3t := r2t.step hon3 hrd3) | (go_at_call 36; refine (rtext_ok br vr l (p + k0 + k1 + 1) f.s.length k3 _ (by exact r3t.rd) (by exact HT.out.below r3t.bel) (r3t.ne HT.out).1 (r3t.ne HT.out).2 HFR.out.a3 (by have := HGD.out.1; omega) HFR.out.le (by rw [HFR.out.a4]; exact HGD.out.2)).mono ?_; rintro e w4t ⟨rfl, hon4, hrd4⟩; rw [HFR.out.a4]; have r4t := r3t.step hon4 hrd4))
          all_goals go_wp2
          all_goals
            go_roundw
            case rel => exact ⟨k + 1, by omega, by go_num, by rw [← HFN.out]; exact r4t⟩
            case measure => simp [intOf]; omega
        · have hkn : fs.take k = fs := List.take_of_length_le (by have := HN.out; omega)
          rw [hkn, ← HLL.out] at hrs
          clear hkn
          have hz0 : (((l.length : Int) - (l.length : Int)) == 0) = true := by simp
          go_wp2_with fail
          refine (end_ok br vr l _ hrs.rd).mono ?_
          rintro e w5 ⟨rfl, q5, rfl⟩
          have r5 := hrs.drewN q5
          go_wp2_with fail
          refine (left_any br vr l l.length 0 _ r5.rd).mono ?_
          rintro e w6 ⟨rfl, q6, rfl⟩
          have r6 := hrs.drewN (q5 + q6)
          clear r5 hrs
          go_wp2
          go_ret
          exact ⟨rfl, r6.bel⟩
set_option maxHeartbeats 4000000 in
set_option maxRecDepth 100000 in
theorem back_nil (w : World) (hT : Tabs w) :
    Calls Tryd.prog 7 #[.slice none 0 0] w fun e w' => e = .returned (.bool true) ∧ Below w.heap.size w w' := by
  have HT := Lib.hid hT
  clear hT
  go_enter Tryd.func7, Tryd.ntmps7
  go_wp2_with fail
  refine (write_any _).mono ?_
  rintro e w1 ⟨rfl, rfl⟩
  have s1 := WS.new (Below.refl w.heap.size w)
  generalize w.alloc (.cells #[.slice none 0 0] 68) = w1 at s1 ⊢
  go_wp2_with fail
  refine (awake_any _ (HT.out.below s1.bel)).mono ?_
  rintro e w2 ⟨rfl, b2⟩
  have s2 := s1.keep b2
  clear s1 b2
  go_wp2_with fail
  refine wp_loop_rounds 1 ?_
  rw [rounds_succ]
  go_wp2_with fail
  refine (ws_bytes s2 (by decide)).mono ?_
  rintro e w3 ⟨v3, rfl, s3⟩
  clear s2
  go_wp2_with fail
  refine (rs_read s3.bel v3 _ (.ofRow s3.row) (by decide)).mono ?_
  rintro e w4 ⟨br, vr, rfl, r4, _⟩
  clear s3
  go_wp2_with fail
  refine wp_loop_rounds 1 ?_
  rw [rounds_succ]
  go_wp2_with fail
  refine (end_ok br vr [] _ r4.rd).mono ?_
  rintro e w5 ⟨rfl, q5, rfl⟩
  have r5 := r4.drewN q5
  have hz0 : ((((([] : List UInt8).length : Nat) : Int) - ((([] : List UInt8).length : Nat) : Int)) == 0) = true := by simp
  go_wp2_with fail
  refine (left_any br vr [] 0 0 _ r5.rd).mono ?_
  rintro e w6 ⟨rfl, q6, rfl⟩
  have r6 := r4.drewN (q5 + q6)
  clear r5 r4
  go_wp2
  go_ret
  exact ⟨rfl, r6.bel⟩
set_option maxHeartbeats 4000000 in
set_option maxRecDepth 100000 in
theorem back_big (ao : Option Addr) (n cap : Nat) (w : World) (hT : Tabs w) (hn : 40 < n) :
    Calls Tryd.prog 7 #[.slice ao n cap] w fun e w' => e = .returned (.bool true) ∧ Below w.heap.size w w' := by
  have hz : (40 : Int) < (n : Int) := by omega
  have HA := Lib.hid (awake_any w hT)
  clear hT
  go_enter Tryd.func7, Tryd.ntmps7
  go_wp2_with (go_at_call 11; refine HA.out.mono ?_; rintro e w1 ⟨rfl, hb⟩)
  go_ret
  exact ⟨rfl, hb⟩
theorem back_any (ao : Option Addr) (cap : Nat) (fs : List Fld) (w : World) (hT : Tabs w) (hA : ArgFields w ao cap fs) :
    Calls Tryd.prog 7 #[.slice ao fs.length cap] w fun e w' => e = .returned (.bool true) ∧ Below w.heap.size w w' := by
  by_cases h : 40 < fs.length
  · exact back_big ao _ cap w hT h
  · cases ao with
    | none =>
      obtain ⟨rfl, rfl⟩ := hA.nil rfl
      exact back_nil w hT
    | some a => exact back_some a cap fs w hT hA (by omega)
end Go.Proofs.YtlkgiloabonhhaaDoor

/-
  PackStops's contract: it answers true at any text and any asks, and writes nothing that was there.
  Conditions: unicode/utf8's two tables hold what they hold at the start.
-/
import Derived.Test.YtfnhobikochfeaaDoorGet
import Derived.Test.YtfnhobikochfeaaDoorRound
namespace Go.Proofs.YtfnhobikochfeaaDoor
open Go.RowKit
theorem get_stop (b : Nat) (v : Value) (l : List UInt8) (i err : Nat) (kind most : Int) (w : World) (h : RdAt w b v l i err) (he : err ≠ 0) :
    Calls Tryd.prog 28 #[.pointer (some ⟨b, 0, none⟩), .int .i64 kind, .int .i64 most] w (Got b v l i err (fieldVal kind most 0 0 false []) w) := by
  by_cases k0 : kind = 0
  · subst k0; exact get_0 b v l i err i err 0 most w h (fun W hW => rnum_stop b v l i err W hW he)
  by_cases k1 : kind = 1
  · subst k1; exact get_1 b v l i err i err 0 most w h (fun W hW => rint_stop b v l i err W hW he)
  by_cases k2 : kind = 2
  · subst k2; exact get_2 b v l i err i err 0 most w h (by decide) (fun W hW => rcount_stop b v l i err most W hW he)
  by_cases k3 : kind = 3
  · subst k3; exact get_3 b v l i err i err false most w h (fun W hW => rflag_stop b v l i err W hW he)
  · exact get_4 b v l i err i err [] kind most w h k0 k1 k2 k3 (fun W hW => rtext_stop b v l i err W hW he)
/-- What came in reads as these numbers: a slice, nil or not. -/
structure ArgInts (w : World) (ao : Option Addr) (cap : Nat) (ns : List Int) : Prop where
  nil : ao = none → ns = [] ∧ cap = 0
  le : ns.length ≤ cap
  most : cap ≤ 9223372036854775807
  ok : ∀ y ∈ ns, -9223372036854775808 ≤ y ∧ y ≤ 9223372036854775807
  cells : ∀ a, ao = some a → ∀ j y, ns[j]? = some y → w.cell? (a.add j) = some (.int .i64 y)
theorem ArgInts.below {w w' : World} {ao : Option Addr} {cap : Nat} {ns : List Int} (h : ArgInts w ao cap ns) (hb : Below w.heap.size w w') : ArgInts w' ao cap ns :=
  ⟨h.nil, h.le, h.most, h.ok, fun a ha j y hj => (Only.ofBelow (S := fun _ => False) hb).cell (h.cells a ha j y hj) id⟩
theorem add_plain' {a : Addr} {w : World} {v : Value} (h : w.cell? a = some v) : ∃ b off, a = ⟨b, off, none⟩ := by
  obtain ⟨b, off, sp⟩ := a
  cases sp with
  | none => exact ⟨b, off, rfl⟩
  | some q =>
    exfalso
    unfold World.cell? at h
    split at h
    · simp at h
    · cases h
theorem numFrom_pos : ∀ (t : List UInt8) (k acc : Nat), (numFrom k acc t).1 = 0 → k < (numFrom k acc t).2.2 ∧ (numFrom k acc t).2.2 ≤ k + t.length
  | [], k, acc, h => by simp [numFrom] at h
  | x :: t, k, acc, h => by
    by_cases h1 : (0 < k ∧ x.toNat = 0) ∨ (k = 9 ∧ 1 < x.toNat)
    · rw [numFrom_bad h1] at h; simp at h
    · by_cases h2 : x.toNat < 128
      · rw [numFrom_done h1 h2]; simp
      · rw [numFrom_more h1 h2] at h ⊢
        have := numFrom_pos t (k + 1) _ h
        simp only [List.length_cons]
        omega
set_option maxHeartbeats 8000000 in
set_option maxRecDepth 100000 in
theorem stops_small (s : List UInt8) (ao : Option Addr) (cap : Nat) (ns : List Int) (w : World) (hT : Tabs w) (hA : ArgInts w ao cap ns) (hs : s.length ≤ 1000) (hn20 : ns.length ≤ 20) :
    Calls Tryd.prog 10 #[.string (S s), .slice ao ns.length cap] w fun e w' => e = .returned (.bool true) ∧ Below w.heap.size w w' := by
  obtain ⟨n, hn⟩ : ∃ n, n = ns.length := ⟨_, rfl⟩
  rw [← hn]
  have HN := Lib.hid hn
  have hz : (n : Int) ≤ 20 := by omega
  have hsz : ((S s).size : Int) = (s.length : Int) := by rw [S_size]
  have hs1 : (s.length : Int) ≤ 1000 := by omega
  have HA := Lib.hid hA
  have HT := Lib.hid hT
  have hcv := conv_back s w
  have hsrc := Lib.hid (src_back s w (grownCap w s.length 0 5))
  have b1 := below_back s w
  generalize Lib.bytesWorld w 5 (S s) = w1 at hcv hsrc b1
  have B1 := Lib.hid b1
  clear hn hA hT b1 hn20
  go_enter Tryd.func10, Tryd.ntmps10
  go_wp2_with fail
  refine (rs_read B1.out _ s hsrc.out (by omega)).mono ?_
  rintro e w3 ⟨br, vr, rfl, r3, _⟩
  clear hcv hsrc B1
  go_wp2_with fail
  refine (awake_any w3 (HT.out.below r3.bel)).mono ?_
  rintro e w4 ⟨rfl, b4⟩
  have r4 := r3.keep b4
  clear r3 b4
  go_wp2_with fail
  go_loopw [6] (fun vi wr => ∃ (k i err : Nat), vi = .int .i64 k ∧ k ≤ i + 1 ∧ (err = 0 → k ≤ i) ∧ RS w wr br vr s i err) (fun vi _ => 2000 - (intOf vi).toNat)
  case atStart => exact ⟨0, 0, 0, rfl, by omega, fun _ => by omega, r4⟩
  case round =>
    obtain ⟨k, i, err, rfl, hk1, hk2, hrs⟩ := hrel
    have hi := hrs.rd.le
    have HK2 := Lib.hid hk2
    clear hk2 r4
    have hk : k ≤ 1001 := by omega
    by_cases he : err = 0
    · subst he
      have hk3 := HK2.out rfl
      have hko : k ≤ 1000 := by omega
      go_wp2_with fail
      refine (err_ok br vr s i wr hrs.rd).mono ?_
      rintro e w5 ⟨rfl, rfl⟩
      obtain ⟨⟨E, V, K⟩, hR⟩ : ∃ R, R = numFrom 0 0 (s.drop i) := ⟨_, rfl⟩
      have hpos := numFrom_pos (s.drop i) 0 0
      rw [← hR] at hpos
      have HR := Lib.hid hR.symm
      have HP := Lib.hid hpos
      clear hR hpos
      by_cases hE : E = 0
      · subst hE
        have hpK := HP.out rfl
        go_wp2_with fail
        refine (rnum_ok br vr s i V K wr hrs.rd HR.out).mono ?_
        rintro e w6 ⟨rfl, hon6, hrd6⟩
        have r6 := hrs.step hon6 hrd6
        clear hon6 hrd6 hrs
        go_wp2
        go_roundw
        case rel => exact ⟨k + 1, i + K, 0, by go_num, by simp at hpK; omega, fun _ => by simp at hpK; omega, r6⟩
        case measure => simp [intOf]; omega
      · go_wp2_with fail
        refine (rnum_bad br vr s i E V K wr hrs.rd HR.out hE).mono ?_
        rintro e w6 ⟨rfl, hon6, hrd6⟩
        have r6 := hrs.step hon6 hrd6
        clear hon6 hrd6 hrs
        go_wp2
        go_roundw
        case rel => exact ⟨k + 1, i, E, by go_num, by omega, fun h => absurd h hE, r6⟩
        case measure => simp [intOf]; omega
    · have heb : ((err : Int) != 0) = true := by rw [bne_iff_ne]; omega
      go_wp2_with fail
      refine (err_bad br vr s i err wr hrs.rd he).mono ?_
      rintro e w5 ⟨rfl, q5, rfl⟩
      have r5 := hrs.drewN q5
      generalize wr.drewN q5 = w5 at r5 ⊢
      clear hrs
      go_wp2_with fail
      refine (err_bad br vr s i err w5 r5.rd he).mono ?_
      rintro e w6 ⟨rfl, q6, rfl⟩
      have r6 := r5.drewN q6
      generalize w5.drewN q6 = w6 at r6 ⊢
      clear r5
      go_wp2_with fail
      refine (left_any br vr s i err w6 r6.rd).mono ?_
      rintro e w7 ⟨rfl, q7, rfl⟩
      have r7 := r6.drewN q7
      generalize w6.drewN q7 = w7 at r7 ⊢
      clear r6
      go_wp2_with fail
      clear hk1 hk HK2
      go_loopw [12] (fun vi wr => ∃ (k : Nat), k ≤ n ∧ vi = .int .i64 k ∧ RS w wr br vr s i err) (fun vi _ => n - (intOf vi).toNat)
      case atStart => exact ⟨0, Nat.zero_le _, rfl, r7⟩
      case round =>
        obtain ⟨k, hk, rfl, hrs⟩ := hrel
        clear r7
        by_cases hlt : k < n
        · have hkn : k < ns.length := by have := HN.out; omega
          obtain ⟨y, hy⟩ : ∃ y, ns[k]? = some y := ⟨_, List.getElem?_eq_getElem hkn⟩
          cases ao with
          | none => exact absurd (HA.out.nil rfl).1 (fun e => by rw [e] at hkn; simp at hkn)
          | some a =>
            obtain ⟨b, off, rfl⟩ := add_plain' (HA.out.cells a rfl 0 ns[0] (by simp))
            have pl : ∀ j, (⟨b, off, none⟩ : Addr).add j = ⟨b, off + j, none⟩ := fun j => by unfold Addr.add; split <;> simp_all
            have HC : Hid (∀ W, Below w.heap.size w W → W.cell? ⟨b, off + k, none⟩ = some (.int .i64 y)) := fun W hW => by have c := (HA.out.below hW).cells _ rfl k y hy; rw [pl] at c; exact c
            have hbw := World.block_lt_of_cell? w _ (HC.out w (Below.refl _ _))
            have cy := HC.out wr hrs.bel
            clear pl hy
            go_wp2_with fail
            refine (get_stop br vr s i err y 9 wr hrs.rd he).mono ?_
            rintro e w8 ⟨rfl, hon8, hrd8⟩
            have r8 := hrs.step hon8 hrd8
            have cy8 := HC.out w8 r8.bel
            have hb8 : b < w8.heap.size := Nat.lt_of_lt_of_le hbw r8.bel.size
            rw [show fieldVal y 9 0 0 false [] = .agg #[.int .i64 y, .int .i64 9, .int .u64 0, .int .i64 0, .bool false, .string ⟨#[]⟩] from rfl]
            clear hon8 hrd8 hrs cy
            go_wp2
            go_quiet (fail)
            go_wp2
            go_roundw
            case rel => exact ⟨k + 1, by omega, by go_num, (r8.keep ((Below.refl _ _).alloc (Nat.le_refl _) _)).drewN _⟩
            case measure => simp [intOf]; omega
        · have hfin : ((i : Int) == (s.length : Int) - ((s.length : Int) - (i : Int))) = true := beq_iff_eq.2 (by omega)
          go_wp2_with fail
          refine (end_bad br vr s i err wr hrs.rd he).mono ?_
          rintro e w8 ⟨rfl, q8, rfl⟩
          have r8 := hrs.drewN q8
          go_wp2_with fail
          refine (left_any br vr s i err _ r8.rd).mono ?_
          rintro e w9 ⟨rfl, q9, rfl⟩
          have r9 := hrs.drewN (q8 + q9)
          clear r8 hrs
          go_wp2
          go_ret
          exact ⟨rfl, r9.bel⟩
set_option maxHeartbeats 4000000 in
set_option maxRecDepth 100000 in
theorem stops_big (s : List UInt8) (ao : Option Addr) (n cap : Nat) (w : World) (hT : Tabs w) (hb : 1000 < s.length ∨ 20 < n) :
    Calls Tryd.prog 10 #[.string (S s), .slice ao n cap] w fun e w' => e = .returned (.bool true) ∧ Below w.heap.size w w' := by
  have hsz : ((S s).size : Int) = (s.length : Int) := by rw [S_size]
  have HA := Lib.hid (awake_any w hT)
  clear hT
  by_cases h1 : 1000 < s.length
  · have hz : (1000 : Int) < (s.length : Int) := by omega
    clear hb
    go_enter Tryd.func10, Tryd.ntmps10
    go_wp2_with (go_at_call 11; refine HA.out.mono ?_; rintro e w1 ⟨rfl, hb⟩)
    go_ret
    exact ⟨rfl, hb⟩
  · have hz : (s.length : Int) ≤ 1000 := by omega
    have hz2 : (20 : Int) < (n : Int) := by omega
    clear hb
    go_enter Tryd.func10, Tryd.ntmps10
    go_wp2_with (go_at_call 11; refine HA.out.mono ?_; rintro e w1 ⟨rfl, hb⟩)
    go_ret
    exact ⟨rfl, hb⟩
theorem stops_any (s : List UInt8) (ao : Option Addr) (cap : Nat) (ns : List Int) (w : World) (hT : Tabs w) (hA : ArgInts w ao cap ns) :
    Calls Tryd.prog 10 #[.string (S s), .slice ao ns.length cap] w fun e w' => e = .returned (.bool true) ∧ Below w.heap.size w w' := by
  by_cases h : 1000 < s.length ∨ 20 < ns.length
  · exact stops_big s ao _ cap w hT h
  · exact stops_small s ao cap ns w hT hA (by omega) (by omega)
end Go.Proofs.YtfnhobikochfeaaDoor

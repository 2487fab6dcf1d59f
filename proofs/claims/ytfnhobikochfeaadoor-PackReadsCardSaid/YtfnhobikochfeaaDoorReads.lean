/-
  PackReads's contract: it answers true at any text and any asks, and writes nothing that was there.
  Conditions: unicode/utf8's two tables hold what they hold at the start.
-/
import Derived.Test.YtfnhobikochfeaaDoorReadsMem
namespace Go.Proofs.YtfnhobikochfeaaDoor
open Go.RowKit
set_option maxHeartbeats 8000000 in
set_option maxRecDepth 100000 in
theorem reads_small (s : List UInt8) (ao : Option Addr) (cap : Nat) (ns : List (Int × Int)) (w : World) (hT : Tabs w) (hA : ArgPairs w ao cap ns) (hs : s.length ≤ 5000) (hn20 : ns.length ≤ 60) :
    Calls Tryd.prog 6 #[.string (S s), .slice ao ns.length cap] w fun e w' => e = .returned (.bool true) ∧ Below w.heap.size w w' := by
  obtain ⟨n, hn⟩ : ∃ n, n = ns.length := ⟨_, rfl⟩
  rw [← hn]
  have HN := Lib.hid hn
  have hz : (n : Int) ≤ 60 := by omega
  have hsz : ((S s).size : Int) = (s.length : Int) := by rw [S_size]
  have hs1 : (s.length : Int) ≤ 5000 := by omega
  have HA := Lib.hid hA
  have HT := Lib.hid hT
  have hcv := conv_back s w
  have hsrc := Lib.hid (src_back s w (grownCap w s.length 0 5))
  have b1 := below_back s w
  generalize Lib.bytesWorld w 5 (S s) = w1 at hcv hsrc b1
  have B1 := Lib.hid b1
  clear hn hA hT b1 hn20
  go_enter Tryd.func6, Tryd.ntmps6
  go_wp2_with fail
  refine (rs_read B1.out _ s hsrc.out (by omega)).mono ?_
  rintro e w3 ⟨br, vr, rfl, r3, _⟩
  clear hcv hsrc B1
  go_wp2_with fail
  refine (awake_any w3 (HT.out.below r3.bel)).mono ?_
  rintro e w4 ⟨rfl, b4⟩
  have r4 := r3.keep b4
  clear r3 b4
  go_wp2_with fail
  go_loopw [6, 7, 8, 9] (fun vr_ ve va vi wr => ∃ (k i err : Nat), vi = .int .i64 k ∧ k ≤ n ∧ vr_ = .string (S (s.drop i)) ∧ ve = .int .i64 err ∧ va = .int .i64 (if err = 0 then 0 else i : Nat) ∧ RS w wr br vr s i err) (fun _ _ _ vi _ => n - (intOf vi).toNat)
  case atStart => exact ⟨0, 0, 0, rfl, by omega, rfl, rfl, rfl, r4⟩
  case round =>
    obtain ⟨k, i, err, rfl, hkn, rfl, rfl, rfl, hrs⟩ := hrel
    have hi := hrs.rd.le
    clear r4
    have hrl : ((S (s.drop i)).size : Int) = (s.length : Int) - (i : Int) := by rw [S_size, List.length_drop]; omega
    by_cases hlt : k < n
    · have hkl : k < ns.length := by have := HN.out; omega
      obtain ⟨⟨y, m⟩, hy⟩ : ∃ y, ns[k]? = some y := ⟨_, List.getElem?_eq_getElem hkl⟩
      have hok := HA.out.ok _ (List.mem_of_getElem? hy)
      cases ao with
      | none => exact absurd (HA.out.nil rfl).1 (fun e => by rw [e] at hkl; simp at hkl)
      | some a =>
        obtain ⟨b, off, rfl⟩ := add_plain' (HA.out.cells a rfl 0 ns[0] (by simp)).1
        have pl : ∀ j, (⟨b, off, none⟩ : Addr).add j = ⟨b, off + j, none⟩ := fun j => by unfold Addr.add; split <;> simp_all
        have HC : Hid (∀ W, Below w.heap.size w W → W.cell? ⟨b, off + k * 2, none⟩ = some (.int .i64 y) ∧ W.cell? ⟨b, off + k * 2 + 1, none⟩ = some (.int .i64 m)) := fun W hW => by have c := (HA.out.below hW).cells _ rfl k (y, m) hy; rw [pl, pl] at c; exact c
        have hbw := World.block_lt_of_cell? w _ (HC.out w (Below.refl _ _)).1
        obtain ⟨cy, cm⟩ := HC.out wr hrs.bel
        clear pl hy
        have R0 := Lib.hid (hrs.keep ((Below.refl _ _).drew))
        by_cases he : err = 0
        · subst he
          go_wp2_with fail
          go_region_held3 (fun W => W.cell? ⟨b, off + k * 2, none⟩ = some (.int .i64 y) ∧ W.cell? ⟨b, off + k * 2 + 1, none⟩ = some (.int .i64 m)) (first | exact HC.out _ R0.out.bel | exact HC.out _ (R0.out.bel.alloc R0.out.bel.size _)) (first | fail)
          refine want_block R0.out _ (fun w5 r5 q5 hb1 hb2 hb3 => ?_)
          clear hrs cy cm R0
          generalize wr.heap.size = bw at q5 hb1 hb2 hb3 ⊢
          have HOW := Lib.hid hb3
          clear hb3
          go_wp2_with fail
          obtain ⟨cy, cm⟩ := HC.out w5 r5.bel
          have hlw := lt_of_block q5
          have H5 := r5.bel.size
          have RA := Lib.hid r5
          have R5 := Lib.hid (r5.keep ((Below.refl _ _).drew))
          have Q5 := Lib.hid q5
          obtain ⟨E, n', I, yy, st, k', hB⟩ := both_any br vr s i y m r5.rd.small hi hok.2.2
          have HB := Lib.hid hB
          clear r5 q5 hB
          go_region_held3 (fun W => W.cell? ⟨b, off + k * 2, none⟩ = some (.int .i64 y) ∧ W.cell? ⟨b, off + k * 2 + 1, none⟩ = some (.int .i64 m)) (first | with_reducible exact HC.out _ r6.bel | with_reducible exact HC.out _ (r6.bel.alloc r6.bel.size _) | with_reducible exact HC.out _ R5.out.bel | with_reducible exact HC.out _ ((RA.out.bel.alloc RA.out.bel.size _).drew) | with_reducible exact HC.out _ (((((((r6.bel).setCell H5 _).setCell H5 _).setCell H5 _).setCell H5 _).setCell H5 _).setCell H5 _) | fail)
            (first | (go_at_call 27; refine (HB.out.ref _).mono ?_; rintro e w6 ⟨rfl, b6⟩; unfold fieldVal; first | (have r6 := R5.out.keep b6; have q6 := pre_keep' Q5.out b6) | (have r6 := pre_rs R5.out b6; have q6 := pre_keep Q5.out b6; have qf := pre_block b6; obtain ⟨g0, g1, g2, g3, g4, g5⟩ := cells6 qf; have gf := free6 qf)))
          all_goals first | (with_reducible refine way1 r6 q6 _ (fun w7 st => ?_); clear r6 q6 b6; generalize w6.heap.size = bf at st ⊢) | (with_reducible refine way2 R5.out hlw r6 q6 qf (fun w7 st => ?_); clear r6 q6 qf g0 g1 g2 g3 g4 g5 gf b6; generalize w5.heap.size = bf at st ⊢)
          all_goals
            obtain ⟨a0, a1, a2, a3, a4, a5⟩ := cells6 st.qw
            obtain ⟨d0, d1, d2, d3, d4, d5⟩ := cells6 st.qf
            have f0 := free6 st.qw
            have f1 := free6 st.qf
            have ST := Lib.hid st
            clear st
            by_cases hE : E = 0
            · subst hE
              go_wp2_with fail
              with_reducible refine set6 ST.out.rs ST.out.qw hb1 (Nat.ne_of_lt hb2) (fun g hg => Nat.ne_of_lt (HOW.out g hg)) (fun w8 r8 q8 _ => ?_)
              clear a0 a1 a2 a3 a4 a5 d0 d1 d2 d3 d4 d5 f0 f1 ST cy cm
              have R8 := Lib.hid (r8.keep ((Below.refl _ _).drew))
              have Q8 := Lib.hid (show w8.drew.heap[bw]? = some _ from q8)
              obtain ⟨cy, cm⟩ := HC.out w8 r8.bel
              obtain ⟨a0, a1, a2, a3, a4, a5⟩ := cells6 q8
              have hne := r8.ne HT.out
              have HNE := Lib.hid hne
              have HTT := Lib.hid (HT.out.below (r8.keep ((Below.refl _ _).drew)).bel)
              have hlen : ((S (s.drop (i + k'))).size : Int) = (s.length : Int) - ((i + k' : Nat) : Int) := by rw [S_size, List.length_drop]; have := HB.out.le; omega
              clear r8 q8 hne
              go_region_held3 (fun W => W.cell? ⟨b, off + k * 2, none⟩ = some (.int .i64 y) ∧ W.cell? ⟨b, off + k * 2 + 1, none⟩ = some (.int .i64 m) ∧ W.cell? ⟨bw, 0, none⟩ = some (.int .i64 y) ∧ W.cell? ⟨bw, 1, none⟩ = some (.int .i64 m) ∧ W.cell? ⟨bw, 2, none⟩ = some (.int .u64 n') ∧ W.cell? ⟨bw, 3, none⟩ = some (.int .i64 I) ∧ W.cell? ⟨bw, 4, none⟩ = some (.bool yy) ∧ W.cell? ⟨bw, 5, none⟩ = some (.string (S st))) (first | with_reducible exact ⟨(HC.out _ r10.bel).1, (HC.out _ r10.bel).2, i0, i1, i2, i3, i4, i5⟩ | with_reducible exact ⟨(HC.out _ r9.bel).1, (HC.out _ r9.bel).2, e0, e1, e2, e3, e4, e5⟩ | with_reducible exact ⟨(HC.out _ R8.out.bel).1, (HC.out _ R8.out.bel).2, (cells6 Q8.out).1, (cells6 Q8.out).2.1, (cells6 Q8.out).2.2.1, (cells6 Q8.out).2.2.2.1, (cells6 Q8.out).2.2.2.2.1, (cells6 Q8.out).2.2.2.2.2⟩ | fail)
                (first | (go_at_call 28; refine (HB.out.prog _ (by exact R8.out.rd) (by exact HTT.out) HNE.out.1 HNE.out.2).mono ?_; rintro e w9 ⟨rfl, hon9, hrd9⟩; unfold fieldVal; have r9 := R8.out.step hon9 hrd9; have q9 := hon9.heap Q8.out (Nat.ne_of_gt hb2); obtain ⟨e0, e1, e2, e3, e4, e5⟩ := cells6 q9) | (go_at_call 29; refine (left_any br vr s (i + k') 0 _ (by exact r9.rd)).mono ?_; rintro e w10 ⟨rfl, q10, rfl⟩; have r10 := r9.drewN q10; have qq10 := cells6 (show (w9.drewN q10).heap[bw]? = some _ from q9); obtain ⟨i0, i1, i2, i3, i4, i5⟩ := qq10))
              all_goals
                generalize w9.drewN q10 = w10 at r10 ⊢
                go_wp2_with fail
                refine (err_ok br vr s (i + k') _ r10.rd).mono ?_
                rintro e w11 ⟨rfl, rfl⟩
                go_wp2
                go_roundw
                case rel => exact ⟨k + 1, i + k', 0, by go_num, by omega, rfl, rfl, rfl, r10⟩
                case measure => simp [intOf]; omega
            · have hEb : ((E : Int) == 0) = false := beq_eq_false_iff_ne.2 (by omega)
              have HBB := HB.out.bad hE
              obtain ⟨rfl, rfl, rfl, rfl, rfl⟩ := HBB
              simp only [Nat.add_zero]
              have hat : (s.length : Int) - ((s.length : Int) - (i : Int)) = (i : Int) := by omega
              go_wp2_with fail
              clear a0 a1 a2 a3 a4 a5 d0 d1 d2 d3 d4 d5 f0 f1 cy cm
              obtain ⟨r7, q7, _⟩ := ST.out
              have R8 := Lib.hid (r7.keep ((Below.refl _ _).drew))
              have Q8 := Lib.hid (show w7.drew.heap[bw]? = some _ from q7)
              obtain ⟨cy, cm⟩ := HC.out w7 r7.bel
              obtain ⟨a0, a1, a2, a3, a4, a5⟩ := cells6 q7
              have HNE := Lib.hid (r7.ne HT.out)
              have HTT := Lib.hid (HT.out.below (r7.keep ((Below.refl _ _).drew)).bel)
              clear r7 q7
              go_region_held3 (fun W => W.cell? ⟨b, off + k * 2, none⟩ = some (.int .i64 y) ∧ W.cell? ⟨b, off + k * 2 + 1, none⟩ = some (.int .i64 m) ∧ W.cell? ⟨bw, 0, none⟩ = some (.int .i64 y) ∧ W.cell? ⟨bw, 1, none⟩ = some (.int .i64 m) ∧ W.cell? ⟨bw, 2, none⟩ = some (.int .u64 0) ∧ W.cell? ⟨bw, 3, none⟩ = some (.int .i64 0) ∧ W.cell? ⟨bw, 4, none⟩ = some (.bool false) ∧ W.cell? ⟨bw, 5, none⟩ = some (.string ⟨#[]⟩)) (first | with_reducible exact ⟨(HC.out _ r10.bel).1, (HC.out _ r10.bel).2, i0, i1, i2, i3, i4, i5⟩ | with_reducible exact ⟨(HC.out _ r9.bel).1, (HC.out _ r9.bel).2, e0, e1, e2, e3, e4, e5⟩ | with_reducible exact ⟨(HC.out _ R8.out.bel).1, (HC.out _ R8.out.bel).2, (cells6 Q8.out).1, (cells6 Q8.out).2.1, (cells6 Q8.out).2.2.1, (cells6 Q8.out).2.2.2.1, (cells6 Q8.out).2.2.2.2.1, (cells6 Q8.out).2.2.2.2.2⟩ | fail)
                (first | (go_at_call 28; refine (HB.out.prog _ (by exact R8.out.rd) (by exact HTT.out) HNE.out.1 HNE.out.2).mono ?_; rintro e w9 ⟨rfl, hon9, hrd9⟩; rw [show fieldVal y m 0 0 false [] = .agg #[.int .i64 y, .int .i64 m, .int .u64 0, .int .i64 0, .bool false, .string ⟨#[]⟩] from rfl]; have r9 := R8.out.step hon9 hrd9; have q9 := hon9.heap Q8.out (Nat.ne_of_gt hb2); obtain ⟨e0, e1, e2, e3, e4, e5⟩ := cells6 q9) | (go_at_call 29; refine (left_any br vr s i E _ (by exact r9.rd)).mono ?_; rintro e w10 ⟨rfl, q10, rfl⟩; have r10 := r9.drewN q10; have qq10 := cells6 (show (w9.drewN q10).heap[bw]? = some _ from q9); obtain ⟨i0, i1, i2, i3, i4, i5⟩ := qq10))
              all_goals
                clear R8 Q8 HNE HTT hon9 hrd9 r9 q9
                generalize w9.drewN q10 = w10 at r10 ⊢
                go_wp2_with fail
                refine (err_bad br vr s i E _ r10.rd hE).mono ?_
                rintro e w11 ⟨rfl, q11, rfl⟩
                have r11 := r10.drewN q11
                go_wp2
                go_roundw
                case rel => exact ⟨k + 1, i, E, by go_num, by omega, rfl, rfl, by rw [if_neg hE], r11⟩
                case measure => simp [intOf]; omega
        · have heb : ((err : Int) == 0) = false := beq_eq_false_iff_ne.2 (by omega)
          simp only [if_neg he]
          go_wp2_with fail
          go_region_held3 (fun W => W.cell? ⟨b, off + k * 2, none⟩ = some (.int .i64 y) ∧ W.cell? ⟨b, off + k * 2 + 1, none⟩ = some (.int .i64 m)) (first | exact HC.out _ R0.out.bel | exact HC.out _ (R0.out.bel.alloc R0.out.bel.size _)) (first | fail)
          refine want_block R0.out _ (fun w5 r5 q5 hb1 hb2 hb3 => ?_)
          clear hrs cy cm R0
          generalize wr.heap.size = bw at q5 hb1 hb2 hb3 ⊢
          clear hb3
          go_wp2_with fail
          have R8 := Lib.hid (r5.keep ((Below.refl _ _).drew))
          have Q8 := Lib.hid (show w5.drew.heap[bw]? = some _ from q5)
          obtain ⟨cy, cm⟩ := HC.out w5 r5.bel
          obtain ⟨a0, a1, a2, a3, a4, a5⟩ := cells6 q5
          have HNE := Lib.hid (r5.ne HT.out)
          have HTT := Lib.hid (HT.out.below (r5.keep ((Below.refl _ _).drew)).bel)
          clear r5 q5
          go_region_held3 (fun W => W.cell? ⟨b, off + k * 2, none⟩ = some (.int .i64 y) ∧ W.cell? ⟨b, off + k * 2 + 1, none⟩ = some (.int .i64 m) ∧ W.cell? ⟨bw, 0, none⟩ = some (.int .i64 y) ∧ W.cell? ⟨bw, 1, none⟩ = some (.int .i64 m) ∧ W.cell? ⟨bw, 2, none⟩ = some (.int .u64 0) ∧ W.cell? ⟨bw, 3, none⟩ = some (.int .i64 0) ∧ W.cell? ⟨bw, 4, none⟩ = some (.bool false) ∧ W.cell? ⟨bw, 5, none⟩ = some (.string ⟨#[]⟩)) (first | with_reducible exact ⟨(HC.out _ r10.bel).1, (HC.out _ r10.bel).2, i0, i1, i2, i3, i4, i5⟩ | with_reducible exact ⟨(HC.out _ r9.bel).1, (HC.out _ r9.bel).2, e0, e1, e2, e3, e4, e5⟩ | with_reducible exact ⟨(HC.out _ R8.out.bel).1, (HC.out _ R8.out.bel).2, (cells6 Q8.out).1, (cells6 Q8.out).2.1, (cells6 Q8.out).2.2.1, (cells6 Q8.out).2.2.2.1, (cells6 Q8.out).2.2.2.2.1, (cells6 Q8.out).2.2.2.2.2⟩ | fail)
            (first | (go_at_call 28; refine (get_stop br vr s i err y m _ (by exact R8.out.rd) he).mono ?_; rintro e w9 ⟨rfl, hon9, hrd9⟩; rw [show fieldVal y m 0 0 false [] = .agg #[.int .i64 y, .int .i64 m, .int .u64 0, .int .i64 0, .bool false, .string ⟨#[]⟩] from rfl]; have r9 := R8.out.step hon9 hrd9; have q9 := hon9.heap Q8.out (Nat.ne_of_gt hb2); obtain ⟨e0, e1, e2, e3, e4, e5⟩ := cells6 q9) | (go_at_call 29; refine (left_any br vr s i err _ (by exact r9.rd)).mono ?_; rintro e w10 ⟨rfl, q10, rfl⟩; have r10 := r9.drewN q10; have qq10 := cells6 (show (w9.drewN q10).heap[bw]? = some _ from q9); obtain ⟨i0, i1, i2, i3, i4, i5⟩ := qq10))
          all_goals
            clear R8 Q8 HNE HTT hon9 hrd9 r9 q9
            generalize w9.drewN q10 = w10 at r10 ⊢
            go_wp2_with fail
            refine (err_bad br vr s i err _ r10.rd he).mono ?_
            rintro e w11 ⟨rfl, q11, rfl⟩
            have r11 := r10.drewN q11
            go_wp2
            go_roundw
            case rel => exact ⟨k + 1, i, err, by go_num, by omega, rfl, rfl, by rw [if_neg he], r11⟩
            case measure => simp [intOf]; omega
    · by_cases he : err = 0
      · subst he
        by_cases hil : i < s.length
        · have hne : (S (s.drop i)).toList.isEmpty = false := by rw [S_toList, List.isEmpty_eq_false_iff]; intro e; have := congrArg List.length e; simp at this; omega
          have hat : (s.length : Int) - ((s.length : Int) - (i : Int)) = (i : Int) := by omega
          go_wp2_with fail
          refine (end_more br vr s i _ hrs.rd hil).mono ?_
          rintro e w5 ⟨rfl, q5, rfl⟩
          have r5 := hrs.drewN q5
          go_wp2
          go_ret
          exact ⟨rfl, r5.bel⟩
        · obtain rfl : i = s.length := by omega
          rw [List.drop_length]
          have hne : (S []).toList.isEmpty = true := by rw [S_toList]; rfl
          go_wp2_with fail
          refine (end_ok br vr s _ hrs.rd).mono ?_
          rintro e w5 ⟨rfl, q5, rfl⟩
          have r5 := hrs.drewN q5
          go_wp2
          go_ret
          exact ⟨rfl, r5.bel⟩
      · have heb : ((err : Int) == 0) = false := beq_eq_false_iff_ne.2 (by omega)
        simp only [if_neg he]
        go_wp2_with fail
        refine (end_bad br vr s i err _ hrs.rd he).mono ?_
        rintro e w5 ⟨rfl, q5, rfl⟩
        have r5 := hrs.drewN q5
        go_wp2
        go_ret
        exact ⟨rfl, r5.bel⟩
set_option maxHeartbeats 4000000 in
set_option maxRecDepth 100000 in
theorem reads_big (s : List UInt8) (ao : Option Addr) (n cap : Nat) (w : World) (hT : Tabs w) (hb : 5000 < s.length ∨ 60 < n) :
    Calls Tryd.prog 6 #[.string (S s), .slice ao n cap] w fun e w' => e = .returned (.bool true) ∧ Below w.heap.size w w' := by
  have hsz : ((S s).size : Int) = (s.length : Int) := by rw [S_size]
  have HA := Lib.hid (awake_any w hT)
  clear hT
  by_cases h1 : 5000 < s.length
  · have hz : (5000 : Int) < (s.length : Int) := by omega
    clear hb
    go_enter Tryd.func6, Tryd.ntmps6
    go_wp2_with (go_at_call 11; refine HA.out.mono ?_; rintro e w1 ⟨rfl, hb⟩)
    go_ret
    exact ⟨rfl, hb⟩
  · have hz : (s.length : Int) ≤ 5000 := by omega
    have hz2 : (60 : Int) < (n : Int) := by omega
    clear hb
    go_enter Tryd.func6, Tryd.ntmps6
    go_wp2_with (go_at_call 11; refine HA.out.mono ?_; rintro e w1 ⟨rfl, hb⟩)
    go_ret
    exact ⟨rfl, hb⟩
theorem reads_any (s : List UInt8) (ao : Option Addr) (cap : Nat) (ns : List (Int × Int)) (w : World) (hT : Tabs w) (hA : ArgPairs w ao cap ns) :
    Calls Tryd.prog 6 #[.string (S s), .slice ao ns.length cap] w fun e w' => e = .returned (.bool true) ∧ Below w.heap.size w w' := by
  by_cases h : 5000 < s.length ∨ 60 < ns.length
  · exact reads_big s ao _ cap w hT h
  · exact reads_small s ao cap ns w hT hA (by omega) (by omega)
end Go.Proofs.YtfnhobikochfeaaDoor

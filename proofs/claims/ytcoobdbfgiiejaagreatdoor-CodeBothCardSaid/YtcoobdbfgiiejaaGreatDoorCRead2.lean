/-
  The contract of package code's guess: some instruction; the one whose line it is, if it is one's.
  Conditions: the tables and the two errors of strconv hold what they hold at the start; lines have at most 2^20 bytes.
-/
import Derived.Test.YtcoobdbfgiiejaaGreatDoorCRead1
namespace Go.Proofs.YtcoobdbfgiiejaaGreatDoor
open Go.RowKit
def GuessG (l : List UInt8) (w : World) (e : Ending) (w' : World) : Prop :=
  ∃ x : Ins, e = .returned x.v ∧ x.ok ∧ Below w.heap.size w w' ∧ (∀ y : Ins, y.ok → y.e = 0 → l = y.text → x = y)
theorem rest_le (t : List UInt8) : (restL t).length ≤ t.length := by unfold restL; rw [List.length_drop]; omega
theorem text_chop (y : Ins) : chopL y.text = nameAt (idx y.op) ++ argText (hasAt (idx y.op)) y.n y.s := by
  unfold Ins.text
  rw [← List.append_assoc]
  exact chop_snoc _
set_option maxHeartbeats 4000000 in
set_option maxRecDepth 100000 in
theorem guess_any (l : List UInt8) (w : World) (hT : CT w) (hE : EV w) (hlim : l.length ≤ 1048576) : Calls Tryz.prog 49 #[.string (S l)] w (GuessG l w) := by
  have HT := Lib.hid hT
  have HEV := Lib.hid hE
  have HL := Lib.hid hlim
  clear hT hE hlim
  have HTR : Hid (∀ W, Calls Tryz.prog 76 #[.string (S l), .string ⟨#[10]⟩] W fun e w' => e = .returned (.string (S (chopL l))) ∧ W = w') := Lib.hid (fun W => trimlf_any l W (by have := HL.out; omega))
  have hcl := chop_le l
  have hrl := rest_le (chopL l)
  have HRL : Hid ((restL (chopL l)).length ≤ 1048576) := Lib.hid (by have := HL.out; omega)
  have HCT : Hid (∀ W, Calls Tryz.prog 75 #[.string (S (chopL l)), .string ⟨#[32]⟩] W (CutSp (chopL l) W)) := Lib.hid (fun W => cutsp_any (chopL l) W (by have := HL.out; omega))
  have HG : Hid (∀ y : Ins, y.e = 0 → l = y.text → headL (chopL l) = y.op ∧ restL (chopL l) = (if hasAt (idx y.op) = 1 then Lib.itoa y.n else if 2 ≤ hasAt (idx y.op) then y.s else [])) := Lib.hid (fun y hy hl => by
    rw [hl, text_chop]
    exact line_cut hy)
  clear hcl hrl
  go_enter Tryz.func49, Tryz.ntmps49
  go_wp2_with fail
  have hbA : Below w.heap.size w (w.alloc (.cells #[.string ⟨#[]⟩, .int .i64 0, .string ⟨#[]⟩] 50)) := (Below.refl _ w).alloc (Nat.le_refl _) _
  have qA := Three.new w (.string ⟨#[]⟩) (.int .i64 0) (.string ⟨#[]⟩)
  generalize w.alloc (.cells #[.string ⟨#[]⟩, .int .i64 0, .string ⟨#[]⟩] 50) = wA at hbA qA ⊢
  generalize chopL l = t at HTR HCT HG HRL
  refine (HTR.out wA).mono ?_
  rintro e w' ⟨rfl, rfl⟩
  go_wp2_with fail
  refine (HCT.out wA).mono ?_
  rintro e wB ⟨⟨q, hwB⟩, fb, rfl⟩
  have hbB : Below wA.heap.size wA wB := by rw [hwB]; exact below_drewN wA q
  have b1 : Below w.heap.size w wB := hbA.trans (hbB.mono hbA.size)
  have q1 := qA.below hbB
  have B1 := Lib.hid b1
  have Q1 := Lib.hid q1
  clear hwB hbB b1 q1 hbA qA HTR HCT
  generalize headL t = name at HG ⊢
  generalize restL t = rest at HG HRL ⊢
  go_wp2_with fail
  refine (cnamed_any name wB (HT.out.keep B1.out).ops).mono ?_
  rintro e w2 ⟨rfl, hb2⟩
  have b2 : Below w.heap.size w w2 := B1.out.trans (hb2.mono B1.out.size)
  have q2 := Q1.out.below hb2
  unfold lookV
  obtain ⟨nm, hnm⟩ : ∃ nm, nm = nameAt (idx name) := ⟨_, rfl⟩
  obtain ⟨h, hh⟩ : ∃ h, h = hasAt (idx name) := ⟨_, rfl⟩
  rw [← hnm, ← hh]
  have HGN : Hid (∀ y : Ins, y.e = 0 → l = y.text → nm = y.op ∧ h = hasAt (idx y.op) ∧ rest = (if h = 1 then Lib.itoa y.n else if 2 ≤ h then y.s else [])) := Lib.hid (fun y hy hl => by
    obtain ⟨e1, e2⟩ := HG.out y hy hl
    have e3 : h = hasAt (idx y.op) := by rw [hh, e1]
    exact ⟨by rw [hnm, e1]; exact (ins_fine hy).2.1, e3, by rw [e3]; exact e2⟩)
  generalize (if idx name < 42 then idx name else 0) = qq
  generalize decide (idx name < 42) = dd
  clear hnm hh HG
  have iB : Three ((w2.alloc (.cells #[.string (S nm), .int .i64 (h : Nat)] 59)).alloc (.cells #[.string (S nm), .int .i64 0, .string ⟨#[]⟩] 50)) (w2.heap.size + 1) (.string (S nm)) (.int .i64 0) (.string ⟨#[]⟩) := by
    have h := Three.new (w2.alloc (.cells #[.string (S nm), .int .i64 (h : Nat)] 59)) (.string (S nm)) (.int .i64 0) (.string ⟨#[]⟩)
    simpa using h
  have bB : Below w.heap.size w ((w2.alloc (.cells #[.string (S nm), .int .i64 (h : Nat)] 59)).alloc (.cells #[.string (S nm), .int .i64 0, .string ⟨#[]⟩] 50)) := (b2.alloc b2.size _).alloc (by simp; have := b2.size; omega) _
  have qB := (q2.alloc (.cells #[.string (S nm), .int .i64 (h : Nat)] 59)).alloc (.cells #[.string (S nm), .int .i64 0, .string ⟨#[]⟩] 50)
  have oB : ((w2.alloc (.cells #[.string (S nm), .int .i64 (h : Nat)] 59)).alloc (.cells #[.string (S nm), .int .i64 0, .string ⟨#[]⟩] 50)).heap[w2.heap.size]? = some (.cells #[.string (S nm), .int .i64 (h : Nat)] 59 (0, 0)) := ((Only.refl (fun _ => False) _).alloc _).heap (heap_alloc_new w2 _) id
  have hIR : w2.heap.size + 1 ≠ w.heap.size := by have := b2.size; omega
  have hIW : w.heap.size ≤ w2.heap.size + 1 := by have := b2.size; omega
  have HIR := Lib.hid hIR
  have HIW := Lib.hid hIW
  clear hb2 b2 q2 B1 Q1 hIR hIW
  go_upto_region 4 with fail
  generalize (w2.alloc (.cells #[.string (S nm), .int .i64 (h : Nat)] 59)).alloc (.cells #[.string (S nm), .int .i64 0, .string ⟨#[]⟩] 50) = wI at iB bB qB oB ⊢
  generalize w2.heap.size + 1 = I at iB HIR HIW ⊢
  have oc1 : wI.cell? ⟨w2.heap.size, 1, none⟩ = some (.int .i64 (h : Nat)) := by simp [World.cell?, oB]
  have IB := Lib.hid iB
  have BB := Lib.hid bB
  have QB := Lib.hid qB
  clear iB bB qB oB
  by_cases h1 : h = 1
  · subst h1
    go_wp2_with fail
    refine (parse_any rest wI (HEV.out.keep BB.out) (by have := HRL.out; omega)).mono ?_
    rintro e w3 ⟨n, ev, rfl, hn, hb3, g3⟩
    have i3 := IB.out.below hb3
    have q3 := QB.out.below hb3
    have b3 : Below w.heap.size w w3 := BB.out.trans (hb3.mono BB.out.size)
    obtain ⟨⟨_, z1, _⟩, zf, _⟩ := i3.cells
    have zf1 := zf 1
    have I3 := Lib.hid i3
    have Q3 := Lib.hid q3
    have B3 := Lib.hid b3
    have G3 := Lib.hid g3
    have HNB := Lib.hid hn
    clear i3 q3 b3 hb3 g3 hn zf oc1 IB BB QB
    go_upto_region 8 with fail
    have I9 := Lib.hid (I3.out.one (y' := .int .i64 n))
    have Q9 := Lib.hid (Q3.out.set_ne (o := 1) (u := .int .i64 n) (fun e => HIR.out e.symm))
    have B9 := Lib.hid (B3.out.setCell (p := ⟨I, 1, none⟩) HIW.out (.int .i64 n))
    generalize w3.setCell ⟨I, 1, none⟩ (.int .i64 n) = w9 at I9 Q9 B9 ⊢
    clear z1 zf1 I3 Q3 B3
    obtain ⟨⟨y0, y1, y2⟩, _, _⟩ := I9.out.cells
    obtain ⟨⟨x0, x1, x2⟩, xf, xl⟩ := Q9.out.cells
    have xf0 := xf 0
    have xf1 := xf 1
    have xf2 := xf 2
    clear xf
    go_wp2
    have l5 := load_ins (Q9.out.all (x' := .string (S nm)) (y' := .int .i64 n) (z' := .string ⟨#[]⟩))
    have b5 : Below w.heap.size w (((w9.setCell ⟨w.heap.size, 0, none⟩ (.string (S nm))).setCell ⟨w.heap.size, 1, none⟩ (.int .i64 n)).setCell ⟨w.heap.size, 2, none⟩ (.string ⟨#[]⟩)) := ((B9.out.setCell (p := ⟨w.heap.size, 0, none⟩) (Nat.le_refl _) _).setCell (p := ⟨w.heap.size, 1, none⟩) (Nat.le_refl _) _).setCell (p := ⟨w.heap.size, 2, none⟩) (Nat.le_refl _) _
    refine bodyPost_ret (v := .agg #[.string (S nm), .int .i64 n, .string ⟨#[]⟩]) ?_ rfl ?_
    · simp [results, Tryz.results49, asAddr, l5]
    · refine ⟨⟨nm, n, []⟩, rfl, ⟨HNB.out, by simp⟩, b5, fun y hy hye hd => ?_⟩
      obtain ⟨e1, e2, e3⟩ := HGN.out y hye hd
      have e5 : rest = Lib.itoa y.n := by simpa using e3
      exact ins_eq e1 (G3.out y.n hy.1 e5) (ins_short hye (by rw [← e2]; decide)).symm
  · have e1 : ((h : Int) == 1) = false := by rw [beq_eq_false_iff_ne]; omega
    by_cases h2 : 2 ≤ h
    · have HIT : Hid (∀ W, Calls Tryz.prog 30 #[.int .i64 h] W fun e w' => e = .returned (.bool true) ∧ W = w') := Lib.hid (fun W => by
        have q := istext_any h W
        rw [decide_eq_true h2] at q
        exact q)
      have HH1 := Lib.hid h1
      have HH2 := Lib.hid h2
      have HCL : Hid (∀ W, Calls Tryz.prog 78 #[.string (S rest)] W fun e w' => e = .returned (.string (S rest)) ∧ Below W.heap.size W w') := Lib.hid (fun W => sclone_any (S rest) W (by rw [S_size]; have := HRL.out; omega))
      clear h1 h2
      go_wp2_with (go_at_call 30; refine (HIT.out _).mono ?_; rintro e w' ⟨rfl, rfl⟩)
      refine (HCL.out wI).mono ?_
      rintro e w3 ⟨rfl, hb3⟩
      have i3 := IB.out.below hb3
      have q3 := QB.out.below hb3
      have b3 : Below w.heap.size w w3 := BB.out.trans (hb3.mono BB.out.size)
      obtain ⟨⟨_, _, z2⟩, zf, _⟩ := i3.cells
      have zf2 := zf 2
      have I3 := Lib.hid i3
      have Q3 := Lib.hid q3
      have B3 := Lib.hid b3
      clear i3 q3 b3 hb3 zf oc1 IB BB QB
      go_upto_region 8 with fail
      have I9 := Lib.hid (I3.out.two (z' := .string (S rest)))
      have Q9 := Lib.hid (Q3.out.set_ne (o := 2) (u := .string (S rest)) (fun e => HIR.out e.symm))
      have B9 := Lib.hid (B3.out.setCell (p := ⟨I, 2, none⟩) HIW.out (.string (S rest)))
      generalize w3.setCell ⟨I, 2, none⟩ (.string (S rest)) = w9 at I9 Q9 B9 ⊢
      clear z2 zf2 I3 Q3 B3 e1
      obtain ⟨⟨y0, y1, y2⟩, _, _⟩ := I9.out.cells
      obtain ⟨⟨x0, x1, x2⟩, xf, xl⟩ := Q9.out.cells
      have xf0 := xf 0
      have xf1 := xf 1
      have xf2 := xf 2
      clear xf
      go_wp2
      have l5 := load_ins (Q9.out.all (x' := .string (S nm)) (y' := .int .i64 0) (z' := .string (S rest)))
      have b5 : Below w.heap.size w (((w9.setCell ⟨w.heap.size, 0, none⟩ (.string (S nm))).setCell ⟨w.heap.size, 1, none⟩ (.int .i64 0)).setCell ⟨w.heap.size, 2, none⟩ (.string (S rest))) := ((B9.out.setCell (p := ⟨w.heap.size, 0, none⟩) (Nat.le_refl _) _).setCell (p := ⟨w.heap.size, 1, none⟩) (Nat.le_refl _) _).setCell (p := ⟨w.heap.size, 2, none⟩) (Nat.le_refl _) _
      refine bodyPost_ret (v := .agg #[.string (S nm), .int .i64 0, .string (S rest)]) ?_ rfl ?_
      · simp [results, Tryz.results49, asAddr, l5]
      · refine ⟨⟨nm, 0, rest⟩, rfl, ⟨⟨by show (-9223372036854775808 : Int) ≤ 0; decide, by show (0 : Int) ≤ 9223372036854775807; decide⟩, HRL.out⟩, b5, fun y hy hye hd => ?_⟩
        obtain ⟨e1, e2, e3⟩ := HGN.out y hye hd
        rw [if_neg HH1.out, if_pos HH2.out] at e3
        exact ins_eq e1 ((ins_fine hye).2.2.1 (by rw [← e2]; exact HH1.out)).symm e3
    · have HIT : Hid (∀ W, Calls Tryz.prog 30 #[.int .i64 h] W fun e w' => e = .returned (.bool false) ∧ W = w') := Lib.hid (fun W => by
        have q := istext_any h W
        rw [decide_eq_false h2] at q
        exact q)
      have HH1 := Lib.hid h1
      have HH2 := Lib.hid h2
      clear h1 h2
      go_upto_region 8 with (go_at_call 30; refine (HIT.out _).mono ?_; rintro e w' ⟨rfl, rfl⟩)
      generalize hw9 : wI = w9 at IB BB QB ⊢
      have I9 := IB
      have Q9 := QB
      have B9 := BB
      clear IB BB QB oc1 hw9 e1
      obtain ⟨⟨y0, y1, y2⟩, _, _⟩ := I9.out.cells
      obtain ⟨⟨x0, x1, x2⟩, xf, xl⟩ := Q9.out.cells
      have xf0 := xf 0
      have xf1 := xf 1
      have xf2 := xf 2
      clear xf
      go_wp2
      have l5 := load_ins (Q9.out.all (x' := .string (S nm)) (y' := .int .i64 0) (z' := .string ⟨#[]⟩))
      have b5 : Below w.heap.size w (((w9.setCell ⟨w.heap.size, 0, none⟩ (.string (S nm))).setCell ⟨w.heap.size, 1, none⟩ (.int .i64 0)).setCell ⟨w.heap.size, 2, none⟩ (.string ⟨#[]⟩)) := ((B9.out.setCell (p := ⟨w.heap.size, 0, none⟩) (Nat.le_refl _) _).setCell (p := ⟨w.heap.size, 1, none⟩) (Nat.le_refl _) _).setCell (p := ⟨w.heap.size, 2, none⟩) (Nat.le_refl _) _
      refine bodyPost_ret (v := .agg #[.string (S nm), .int .i64 0, .string ⟨#[]⟩]) ?_ rfl ?_
      · simp [results, Tryz.results49, asAddr, l5]
      · refine ⟨⟨nm, 0, []⟩, rfl, ⟨⟨by show (-9223372036854775808 : Int) ≤ 0; decide, by show (0 : Int) ≤ 9223372036854775807; decide⟩, by simp⟩, b5, fun y hy hye hd => ?_⟩
        obtain ⟨e1, e2, e3⟩ := HGN.out y hye hd
        exact ins_eq e1 ((ins_fine hye).2.2.1 (by rw [← e2]; exact HH1.out)).symm (ins_short hye (by rw [← e2]; have := HH2.out; omega)).symm
end Go.Proofs.YtcoobdbfgiiejaaGreatDoor

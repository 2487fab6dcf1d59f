/-
  The contract of the document's Take of layer 4: the instructions that bytes begin with, and what is behind them, or that there are none.
  Conditions: at most 2^40 bytes.
-/
import Derived.Test.YtcoobdbfgiiejaaGreatDoorCRefT1
import Derived.Test.YtcoobdbfgiiejaaGreatDoorCE
namespace Go.Proofs.YtcoobdbfgiiejaaGreatDoor
open Go.RowKit
theorem idx_name : ∀ k : Fin 42, idx (nameAt k.val) = k.val := by decide +kernel
theorem idx_at' {V : Nat} (h : V < 42) : idx (nameAt V) = V := idx_name ⟨V, h⟩
theorem el0 {V : Nat} {rest a r0 : List UInt8} {y0 : Ins} (hr : rest = Lib.uvarint V ++ a) (hV : V < 18446744073709551616) (hy : y0.e = 0) (hd : rest = y0.bytes ++ r0) : idx y0.op = V ∧ y0.op = nameAt V ∧ a = argBytes (hasAt V) y0.n y0.s ++ r0 := by
  rw [hr] at hd
  unfold Ins.bytes at hd
  rw [List.append_assoc] at hd
  obtain ⟨e1, e2⟩ := uvar_inj hV (by have := idx_le y0.op; omega) hd
  refine ⟨e1.symm, ?_, by rw [e1]; exact e2⟩
  rw [e1]
  exact (ins_fine hy).2.1.symm
theorem fail_at {s rest : List UInt8} {n : Nat} {m : List Ins} (hs : s = Lib.uvarint n ++ (m.flatMap Ins.bytes ++ rest)) (hk : m.length < n) (hn : n ≤ 200) (hm : ∀ x ∈ m, x.ok ∧ x.e = 0)
    (hno : ∀ (y0 : Ins) (r0 : List UInt8), y0.ok → y0.e = 0 → rest ≠ y0.bytes ++ r0) : ∀ (y : List Ins) (r : List UInt8), (∀ x ∈ y, x.ok) → allE y = 0 → y.length ≤ 200 → s ≠ putL y ++ r := by
  intro y r hy hz hl hd
  rw [hs, putL, List.append_assoc] at hd
  obtain ⟨e1, e2⟩ := uvar_inj (by omega) (by omega) hd
  have hy' : ∀ x ∈ y, x.ok ∧ x.e = 0 := fun x hx => ⟨hy x hx, allE_mem y hz x hx⟩
  obtain ⟨_, e4⟩ := many_inj m y rest r (by omega) hm hy' e2
  have hk' : m.length < y.length := by omega
  rw [List.drop_eq_getElem_cons hk', List.flatMap_cons, List.append_assoc] at e4
  have hmem : y[m.length] ∈ y := List.getElem_mem hk'
  exact hno _ _ (hy' _ hmem).1 (hy' _ hmem).2 e4
theorem allE_all : ∀ (l : List Ins), (∀ x ∈ l, x.e = 0) → allE l = 0
  | [], _ => rfl
  | x :: l, h => by
    unfold allE
    rw [if_pos (h x (by simp))]
    exact allE_all l (fun y hy => h y (by simp [hy]))
/-- What is said of the document's Take. -/
def RTakeG (s : List UInt8) (w : World) (e : Ending) (w' : World) : Prop :=
  Below w.heap.size w w' ∧ ((∃ vs m rest, e = .returned (.tuple #[vs, .string (S rest), .bool true]) ∧ IR w w' vs m ∧ s = putL m ++ rest ∧ allE m = 0 ∧ m.length ≤ 200 ∧ (∀ x ∈ m, x.ok)) ∨
    (e = .returned (.tuple #[.slice none 0 0, .string ⟨#[]⟩, .bool false]) ∧ ∀ (y : List Ins) (r : List UInt8), (∀ x ∈ y, x.ok) → allE y = 0 → y.length ≤ 200 → s ≠ putL y ++ r))
/-- What stays during a round. -/
structure ST (w W W' : World) (vs : Value) (m : List Ins) (Fb n : Nat) : Prop where
  ir : IR w W' vs m
  bel : Below w.heap.size w W'
  fld : W'.heap[Fb]? = some (.cells #[.int .i64 2, .int .i64 200, .int .u64 (n : Nat), .int .i64 0, .bool false, .string (S [])] 69 (0, 0))
  glt : ∀ g, vs.ownBlock = some g → g < W.heap.size
  flt : Fb < W.heap.size
  lo : w.heap.size ≤ W.heap.size
  sz : W.heap.size ≤ W'.heap.size
theorem ST.start {w W : World} {vs : Value} {m : List Ins} {Fb n : Nat} (ir : IR w W vs m) (bel : Below w.heap.size w W) (fld : W.heap[Fb]? = some (.cells #[.int .i64 2, .int .i64 200, .int .u64 (n : Nat), .int .i64 0, .bool false, .string (S [])] 69 (0, 0))) : ST w W W vs m Fb n :=
  ⟨ir, bel, fld, fun g hg => (ir.row.lt g hg).2, lt_of_block fld, bel.size, Nat.le_refl _⟩
theorem ST.below {w W W' W'' : World} {vs : Value} {m : List Ins} {Fb n : Nat} (h : ST w W W' vs m Fb n) (hb : Below W'.heap.size W' W'') : ST w W W'' vs m Fb n :=
  ⟨h.ir.keep hb, h.bel.trans (hb.mono h.bel.size), (Only.ofBelow (S := fun _ => False) hb).heap h.fld id, h.glt, h.flt, h.lo, Nat.le_trans h.sz hb.size⟩
theorem ST.alloc {w W W' : World} {vs : Value} {m : List Ins} {Fb n : Nat} (h : ST w W W' vs m Fb n) (o : Obj) : ST w W (W'.alloc o) vs m Fb n := h.below ((Below.refl _ _).alloc (Nat.le_refl _) o)
theorem ST.set {w W W' : World} {vs : Value} {m : List Ins} {Fb n : Nat} (h : ST w W W' vs m Fb n) {I : Nat} (hI : W.heap.size ≤ I) (o : Nat) (u : Value) : ST w W (W'.setCell ⟨I, o, none⟩ u) vs m Fb n := by
  have ho : Only (fun k => k = I) W' (W'.setCell ⟨I, o, none⟩ u) := (Only.refl (fun k => k = I) W').setCell (p := ⟨I, o, none⟩) rfl u
  refine ⟨⟨ho.row h.ir.row (fun g hg e => ?_), h.ir.own⟩, h.bel.setCell (p := ⟨I, o, none⟩) (Nat.le_trans h.lo hI) u, ho.heap h.fld (fun e => ?_), h.glt, h.flt, h.lo, ?_⟩
  · have := h.glt g hg; omega
  · have := h.flt; omega
  · simpa using h.sz
set_option maxHeartbeats 8000000 in
set_option maxRecDepth 100000 in
theorem reftake_any (s : List UInt8) (w : World) (hs : s.length ≤ 1099511627776) : Calls Tryz.prog 15 #[.string (S s)] w (RTakeG s w) := by
  obtain ⟨j0, hji, hz0, hz1, hz2⟩ := info_parts info_ins
  have HSL := Lib.hid hs
  clear hs
  go_enter Tryz.func15, Tryz.ntmps15
  go_wp2_with fail
  have hb1 : Below w.heap.size w (w.alloc (.cells #[] 50)) := (Below.refl _ w).alloc (Nat.le_refl _) _
  have ir1 : IR w (w.alloc (.cells #[] 50)) (.slice (some ⟨w.heap.size, 0, none⟩) 0 0) [] :=
    ⟨⟨rfl, .inr ⟨w.heap.size, 0, #[], rfl, Nat.zero_le _, heap_alloc_new w _, Nat.le_refl _, Nat.zero_le _, rfl, rfl⟩⟩, fun g hg => by simp [Value.ownBlock] at hg; omega⟩
  generalize w.alloc (.cells #[] 50) = w1 at hb1 ir1 ⊢
  refine (refget2_g s w1 HSL.out).mono ?_
  rintro e w2 ⟨n, E, rest, rfl, hb2, hrl, hok, hno⟩
  have b2 : Below w.heap.size w w2 := hb1.trans (hb2.mono hb1.size)
  have ir2 := ir1.keep hb2
  have B2 := Lib.hid b2
  have IR2 := Lib.hid ir2
  clear hb1 hb2 ir1 b2 ir2
  by_cases hE : E = 0
  · subst hE
    obtain ⟨hn200, hsn⟩ := hok rfl
    have HSN := Lib.hid hsn
    have HRL := Lib.hid hrl
    clear hok hno hsn hrl
    go_wp2
    have st2 : ST w (w2.alloc (.cells #[.int .i64 2, .int .i64 200, .int .u64 (n : Nat), .int .i64 0, .bool false, .string (S [])] 69)) (w2.alloc (.cells #[.int .i64 2, .int .i64 200, .int .u64 (n : Nat), .int .i64 0, .bool false, .string (S [])] 69)) (.slice (some ⟨w.heap.size, 0, none⟩) 0 0) [] w2.heap.size n :=
      ST.start (IR2.out.keep ((Below.refl _ _).alloc (Nat.le_refl _) _)) (B2.out.alloc B2.out.size _) (heap_alloc_new w2 _)
    have ST2 := Lib.hid st2
    clear st2 B2 IR2
    generalize w2.alloc (.cells #[.int .i64 2, .int .i64 200, .int .u64 (n : Nat), .int .i64 0, .bool false, .string (S [])] 69) = w3 at ST2 ⊢
    generalize w2.heap.size = Fb at ST2 ⊢
    go_loopw [5, 7, 9] (fun v5 v7 v9 wr => ∃ (k : Nat) (m : List Ins) (rest : List UInt8), k ≤ n ∧ v9 = .int .u64 (k : Nat) ∧ v7 = .string (S rest) ∧ m.length = k ∧ ST w wr wr v5 m Fb n ∧ (∀ x ∈ m, x.ok ∧ x.e = 0) ∧ s = Lib.uvarint n ++ (m.flatMap Ins.bytes ++ rest) ∧ rest.length ≤ s.length) (fun _ _ v9 _ => n - (intOf v9).toNat)
    case atStart => exact ⟨0, [], rest, Nat.zero_le _, rfl, rfl, rfl, ST.start ST2.out.ir ST2.out.bel ST2.out.fld, (fun x hx => by simp at hx), by simpa using HSN.out, HRL.out⟩
    case round =>
      clear ST2 HSN HRL
      obtain ⟨k, m, rest, hk, rfl, rfl, hmk, hst, hmv, hsr, hrl⟩ := hrel
      have HST := Lib.hid hst
      have HMV := Lib.hid hmv
      have HSR := Lib.hid hsr
      have HMK := Lib.hid hmk
      have HRL : Hid (rest.length ≤ 1099511627776) := Lib.hid (by have := HSL.out; omega)
      have HRL2 := Lib.hid hrl
      obtain ⟨ao, cp, rfl⟩ := hst.ir.shape
      rw [hmk]
      have fc : wr.cell? ⟨Fb, 2, none⟩ = some (.int .u64 (n : Nat)) := by simp [World.cell?, hst.fld]
      clear hst hmv hsr hrl
      by_cases hlt : k < n
      · have hlt' : (k : Int) < (n : Int) := by omega
        -- what a way out without an answer must show
        have HFAIL : Hid ((∀ (y0 : Ins) (r0 : List UInt8), y0.ok → y0.e = 0 → rest ≠ y0.bytes ++ r0) → ∀ (y : List Ins) (r : List UInt8), (∀ x ∈ y, x.ok) → allE y = 0 → y.length ≤ 200 → s ≠ putL y ++ r) := Lib.hid (fun h => fail_at HSR.out (by rw [HMK.out]; exact hlt) hn200 HMV.out h)
        clear hmk
        go_wp2_with fail
        refine (refnum_g rest wr HRL.out).mono ?_
        rintro e w3 ⟨V, E, a, rfl, ⟨q, hw3⟩, hV, hl3, hok3, hno3⟩
        have s3 : ST w wr w3 (.slice ao k cp) m Fb n := by rw [hw3, ← HMK.out]; exact HST.out.below (below_drewN wr q)
        have S3 := Lib.hid s3
        have HOK3 := Lib.hid hok3
        have HNO3 := Lib.hid hno3
        have HAL : Hid (a.length ≤ 1099511627776) := Lib.hid (by have := HRL.out; omega)
        have HAL2 : Hid (a.length ≤ s.length) := Lib.hid (by have := HRL2.out; omega)
        have HV64 := Lib.hid hV
        clear hw3 s3 hok3 hno3 hl3 fc HST HRL2
        by_cases hE : E = 0
        · subst hE
          by_cases hV42 : V < 42
          · have hra := HOK3.out rfl
            have HRA := Lib.hid hra
            have hd42 : decide ((42 : Int) ≤ (V : Int)) = false := by simp; omega
            have hV0 : (0 : Int) ≤ (V : Int) := by omega
            have hV1 : (V : Int) < 42 := by omega
            have hin := idx_at' hV42
            have hrt : refT (nameAt V) = if hasAt V = 1 then 1 else if 2 ≤ hasAt V then 2 else 0 := by
              unfold refT
              rw [hin, if_pos hV42]
            have HTK : Hid (∀ W, Calls Tryz.prog 35 #[.string (S (nameAt V))] W fun e w' => e = .returned (.int .i64 (if hasAt V = 1 then 1 else if 2 ≤ hasAt V then 2 else 0)) ∧ Below W.heap.size W w') := Lib.hid (fun W => by
              have h := reftakes_any (nameAt V) W
              rw [hrt] at h
              exact h)
            have nc := names_cell w3 V hV42
            have HEL : Hid (∀ (y0 : Ins) (r0 : List UInt8), y0.e = 0 → rest = y0.bytes ++ r0 → nameAt V = y0.op ∧ a = argBytes (hasAt V) y0.n y0.s ++ r0 ∧ hasAt (idx y0.op) = hasAt V) := Lib.hid (fun y0 r0 h1 h2 => by
              obtain ⟨e1, e2, e3⟩ := el0 HRA.out HV64.out h1 h2
              exact ⟨e2.symm, e3, by rw [e1]⟩)
            have HBY : Hid (∀ (nn : Int) (ss : List UInt8), (⟨nameAt V, nn, ss⟩ : Ins).bytes = Lib.uvarint V ++ argBytes (hasAt V) nn ss) := Lib.hid (fun nn ss => by
              unfold Ins.bytes
              simp only [hin])
            obtain ⟨nm, hnm⟩ : ∃ nm, nm = nameAt V := ⟨_, rfl⟩
            obtain ⟨h, hh⟩ : ∃ h, h = hasAt V := ⟨_, rfl⟩
            rw [← hnm] at HTK nc HEL HBY
            rw [← hh] at HTK HEL HBY
            clear hra hin hrt hnm hh HNO3 HOK3 hV hV42
            go_wp2_with (go_at_call 40; refine (refops_any _).mono ?_; rintro e w' ⟨rfl, rfl⟩)
            have i4 : Three ((w3.alloc (.cells nameCells.toArray 9)).alloc (.cells #[.string (S nm), .int .i64 0, .string ⟨#[]⟩] 50)) (w3.heap.size + 1) (.string (S nm)) (.int .i64 0) (.string ⟨#[]⟩) := by
              have h := Three.new (w3.alloc (.cells nameCells.toArray 9)) (.string (S nm)) (.int .i64 0) (.string ⟨#[]⟩)
              simpa using h
            have s4 := (S3.out.alloc (.cells nameCells.toArray 9)).alloc (.cells #[.string (S nm), .int .i64 0, .string ⟨#[]⟩] 50)
            have hIW : wr.heap.size ≤ w3.heap.size + 1 := by have := S3.out.sz; omega
            generalize (w3.alloc (.cells nameCells.toArray 9)).alloc (.cells #[.string (S nm), .int .i64 0, .string ⟨#[]⟩] 50) = w4 at i4 s4 ⊢
            generalize w3.heap.size + 1 = I at i4 hIW ⊢
            refine (HTK.out w4).mono ?_
            rintro e w5 ⟨rfl, hb5⟩
            have i5 := i4.below hb5
            have s5 := s4.below hb5
            have I5 := Lib.hid i5
            have S5 := Lib.hid s5
            have HIW := Lib.hid hIW
            clear i4 s4 i5 s5 hb5 nc S3 HTK hIW
            by_cases h1 : h = 1
            · subst h1
              rw [if_pos rfl]
              have HAB : Hid (∀ (nn : Int) (ss : List UInt8), argBytes 1 nn ss = Lib.uvarint (Lib.zigzag nn)) := Lib.hid (fun _ _ => if_pos rfl)
              go_wp2_with fail
              refine (refget1_g a w5 HAL.out).mono ?_
              rintro e w6 ⟨n1, E1, r1, rfl, hb6, hl6, hnb, hok6, hno6⟩
              have i6 := I5.out.below hb6
              have s6 := S5.out.below hb6
              have HNB := Lib.hid hnb
              have HR1 : Hid (r1.length ≤ s.length) := Lib.hid (by have := HAL2.out; omega)
              have HOK6 := Lib.hid hok6
              have HNO6 := Lib.hid hno6
              have hI6 : I < w6.heap.size := i6.cells.2.2
              obtain ⟨⟨_, z1, _⟩, zf, _⟩ := i6.cells
              have zf1 := zf 1
              have I6 := Lib.hid i6
              have S6 := Lib.hid s6
              clear i6 s6 hb6 hl6 hnb hok6 hno6 zf I5 S5
              by_cases hE1 : E1 = 0
              · subst hE1
                have HA1 := Lib.hid (HOK6.out rfl)
                go_upto_region 23 with fail
                have i8 := (I6.out.one (y' := .int .i64 n1)).alloc (.cells #[.int .i64 1, .int .i64 0, .int .u64 (0 : Nat), .int .i64 n1, .bool false, .string (S [])] 69)
                have s8 := (S6.out.set (I := I) HIW.out 1 (.int .i64 n1)).alloc (.cells #[.int .i64 1, .int .i64 0, .int .u64 (0 : Nat), .int .i64 n1, .bool false, .string (S [])] 69)
                generalize (w6.setCell ⟨I, 1, none⟩ (.int .i64 n1)).alloc (.cells #[.int .i64 1, .int .i64 0, .int .u64 (0 : Nat), .int .i64 n1, .bool false, .string (S [])] 69) = w8 at i8 s8 ⊢
                have I8 := Lib.hid i8
                have S8 := Lib.hid s8
                clear i8 s8 z1 zf1 hI6 I6 S6 HOK6 HNO6
                have HCK := Lib.hid (refcheck_any nm n1 [] w8 (by simp))
                obtain ⟨⟨x0, x1, x2⟩, _, _⟩ := I8.out.cells
                obtain ⟨Ez, hEz⟩ : ∃ Ez, Ez = checkE nm n1 [] := ⟨_, rfl⟩
                rw [← hEz] at HCK
                have HEZ := Lib.hid hEz
                clear hEz
                go_wp2_with fail
                refine HCK.out.mono ?_
                rintro e w9 ⟨rfl, hb9⟩
                have i9 := I8.out.below hb9
                have s9 := S8.out.below hb9
                obtain ⟨⟨y0, y1, y2⟩, _, _⟩ := i9.cells
                have I9 := Lib.hid i9
                have S9 := Lib.hid s9
                clear x0 x1 x2 hb9 i9 s9 I8 S8 HCK
                by_cases hz : Ez = 0
                · have HZ := Lib.hid hz
                  subst hz
                  have HXO : Hid ((⟨nm, n1, []⟩ : Ins).ok ∧ (⟨nm, n1, []⟩ : Ins).e = 0) := Lib.hid (by exact ⟨⟨HNB.out, by simp⟩, HEZ.out.symm⟩)
                  have HNEW : Hid (s = Lib.uvarint n ++ ((m ++ [(⟨nm, n1, []⟩ : Ins)]).flatMap Ins.bytes ++ r1)) := Lib.hid (by
                    rw [List.flatMap_append, List.append_assoc]
                    have hone : ([⟨nm, n1, []⟩] : List Ins).flatMap Ins.bytes = (⟨nm, n1, []⟩ : Ins).bytes := by simp
                    rw [hone, HBY.out]
                    rw [HAB.out, List.append_assoc, ← HA1.out, ← HRA.out]
                    exact HSR.out)
                  have HRW := Lib.hid (((Only.refl (fun _ => False) w9).alloc (.cells #[.string (S nm), .int .i64 n1, .string ⟨#[]⟩] 50)).row S9.out.ir.row (fun _ _ => id))
                  rw [HMK.out] at HRW
                  have HNW : Hid (Three (w9.alloc (.cells #[.string (S nm), .int .i64 n1, .string ⟨#[]⟩] 50)) w9.heap.size (.string (S nm)) (.int .i64 n1) (.string ⟨#[]⟩)) := Lib.hid (Three.new w9 _ _ _)
                  go_wp2_with (at_builtin; refine wpList_append_fine _ rfl _ _ 22 rfl 50 j0 (.agg #[.string ⟨#[]⟩, .int .i64 0, .string ⟨#[]⟩]) 3 40 Tryz.underlying22 hji hz0 hz1 hz2 rfl (by decide) _ _ _ rfl HRW.out ⟨w9.heap.size, 0, none⟩ 1 1 [.string (S nm), .int .i64 n1, .string ⟨#[]⟩] rfl rfl (by intro j u hj; have q := range3 HNW.out j u hj; rw [Addr.add_mid]; exact q) (by intro u hu; simp at hu; rcases hu with rfl | rfl | rfl <;> rfl) ?c3 ?c4 ?_)
                  case c3 => unfold maxLen; omega
                  case c4 => omega
                  intro v' wz hown' hgrow
                  have sA := S9.out.alloc (.cells #[.string (S nm), .int .i64 n1, .string ⟨#[]⟩] 50)
                  have irz : IR w wz v' (m ++ [⟨nm, n1, []⟩]) := ⟨by rw [List.length_append, HMK.out, insCells_snoc]; exact hown', fun g hg => by
                    rcases hgrow.came with e | e
                    · exact sA.ir.own g (e ▸ hg)
                    · have h1 := e g hg
                      have h2 := sA.bel.size
                      omega⟩
                  have fz : wz.heap[Fb]? = some (.cells #[.int .i64 2, .int .i64 200, .int .u64 (n : Nat), .int .i64 0, .bool false, .string (S [])] 69 (0, 0)) := hgrow.only.heap sA.fld (fun e => by
                    have g1 := sA.ir.row
                    rcases g1.2 with ⟨h0, _⟩ | ⟨g', cap, cur, he, _, hgg, _⟩
                    · rw [h0] at e; simp [Value.ownBlock] at e
                    · rw [he] at e
                      simp [Value.ownBlock] at e
                      rw [e] at hgg
                      have := sA.fld
                      rw [hgg] at this
                      simp at this)
                  have bz : Below w.heap.size w wz := sA.bel.trans (hgrow.only.below sA.bel.size (fun g hg => sA.ir.own g hg))
                  have SZ := Lib.hid (ST.start irz bz fz)
                  clear hown' hgrow sA irz fz bz
                  go_wp2
                  go_roundw
                  case rel => exact ⟨k + 1, m ++ [⟨nm, n1, []⟩], r1, by omega, by go_num, rfl, by rw [List.length_append, HMK.out]; rfl, SZ.out, (fun z hz => by
                    rcases List.mem_append.1 hz with hz | hz
                    · exact HMV.out z hz
                    · rw [List.mem_singleton.1 hz]; exact HXO.out), HNEW.out, HR1.out⟩
                  case measure => simp [intOf]; omega
                · have hzb : ((Ez : Int) != 0) = true := by rw [bne_iff_ne]; omega
                  have HZ := Lib.hid hz
                  clear hz
                  go_wp2
                  go_ret3
                  refine ⟨S9.out.bel, .inr ⟨rfl, HFAIL.out (fun y0 r0 hy hye hd => ?_)⟩⟩
                  obtain ⟨e1, e2, e4⟩ := HEL.out y0 r0 hye hd
                  rw [HAB.out, HA1.out] at e2
                  obtain ⟨e3, _⟩ := uvar_inj (Lib.zigzag_lt HNB.out.1 HNB.out.2) (Lib.zigzag_lt hy.1.1 hy.1.2) e2
                  have hx : (⟨nm, n1, []⟩ : Ins) = y0 := ins_eq e1 (zz_inj e3) (ins_short hye (by rw [e4]; decide)).symm
                  exact HZ.out (by rw [HEZ.out, ← hye, ← hx]; rfl)
              · have hzb : ((E1 : Int) != 0) = true := by rw [bne_iff_ne]; omega
                have HE1 := Lib.hid hE1
                clear hE1
                go_wp2
                go_ret3
                refine ⟨(S6.out.alloc (.cells #[.int .i64 1, .int .i64 0, .int .u64 (0 : Nat), .int .i64 n1, .bool false, .string (S [])] 69)).bel, .inr ⟨rfl, HFAIL.out (fun y0 r0 hy hye hd => ?_)⟩⟩
                obtain ⟨e1, e2, e4⟩ := HEL.out y0 r0 hye hd
                rw [HAB.out] at e2
                exact HNO6.out HE1.out y0.n r0 hy.1 e2
            · rw [if_neg h1]
              by_cases h2 : 2 ≤ h
              · rw [if_pos h2]
                have HAB : Hid (∀ (nn : Int) (ss : List UInt8), argBytes h nn ss = textBytes ss) := Lib.hid (fun _ _ => (if_neg h1).trans (if_pos h2))
                have HH1 := Lib.hid h1
                clear h1 h2
                go_wp2_with fail
                refine (refget4_g a w5 HAL.out).mono ?_
                rintro e w6 ⟨s1, E1, r1, rfl, hb6, hl6, hnb, hok6, hno6⟩
                have i6 := I5.out.below hb6
                have s6 := S5.out.below hb6
                have HNB := Lib.hid hnb
                have HR1 : Hid (r1.length ≤ s.length) := Lib.hid (by have := HAL2.out; omega)
                have HOK6 := Lib.hid hok6
                have HNO6 := Lib.hid hno6
                have hI6 : I < w6.heap.size := i6.cells.2.2
                obtain ⟨⟨_, _, z2⟩, zf, _⟩ := i6.cells
                have zf2 := zf 2
                have I6 := Lib.hid i6
                have S6 := Lib.hid s6
                clear i6 s6 hb6 hl6 hnb hok6 hno6 zf I5 S5
                by_cases hE1 : E1 = 0
                · subst hE1
                  have HA1 := Lib.hid (HOK6.out rfl)
                  go_upto_region 23 with fail
                  have i8 := (I6.out.two (z' := .string (S s1))).alloc (.cells #[.int .i64 4, .int .i64 0, .int .u64 (0 : Nat), .int .i64 0, .bool false, .string (S s1)] 69)
                  have s8 := (S6.out.set (I := I) HIW.out 2 (.string (S s1))).alloc (.cells #[.int .i64 4, .int .i64 0, .int .u64 (0 : Nat), .int .i64 0, .bool false, .string (S s1)] 69)
                  generalize (w6.setCell ⟨I, 2, none⟩ (.string (S s1))).alloc (.cells #[.int .i64 4, .int .i64 0, .int .u64 (0 : Nat), .int .i64 0, .bool false, .string (S s1)] 69) = w8 at i8 s8 ⊢
                  have I8 := Lib.hid i8
                  have S8 := Lib.hid s8
                  clear i8 s8 z2 zf2 hI6 I6 S6 HOK6 HNO6
                  have HCK := Lib.hid (refcheck_any nm 0 s1 w8 (by have := HNB.out; omega))
                  obtain ⟨⟨x0, x1, x2⟩, _, _⟩ := I8.out.cells
                  obtain ⟨Ez, hEz⟩ : ∃ Ez, Ez = checkE nm 0 s1 := ⟨_, rfl⟩
                  rw [← hEz] at HCK
                  have HEZ := Lib.hid hEz
                  clear hEz
                  go_wp2_with fail
                  refine HCK.out.mono ?_
                  rintro e w9 ⟨rfl, hb9⟩
                  have i9 := I8.out.below hb9
                  have s9 := S8.out.below hb9
                  obtain ⟨⟨y0, y1, y2⟩, _, _⟩ := i9.cells
                  have I9 := Lib.hid i9
                  have S9 := Lib.hid s9
                  clear x0 x1 x2 hb9 i9 s9 I8 S8 HCK
                  by_cases hz : Ez = 0
                  · have HZ := Lib.hid hz
                    subst hz
                    have HXO : Hid ((⟨nm, 0, s1⟩ : Ins).ok ∧ (⟨nm, 0, s1⟩ : Ins).e = 0) := Lib.hid (by exact ⟨⟨⟨by show (-9223372036854775808 : Int) ≤ 0; decide, by show (0 : Int) ≤ 9223372036854775807; decide⟩, by have := HNB.out; show s1.length ≤ 1048576; omega⟩, HEZ.out.symm⟩)
                    have HNEW : Hid (s = Lib.uvarint n ++ ((m ++ [(⟨nm, 0, s1⟩ : Ins)]).flatMap Ins.bytes ++ r1)) := Lib.hid (by
                      rw [List.flatMap_append, List.append_assoc]
                      have hone : ([⟨nm, 0, s1⟩] : List Ins).flatMap Ins.bytes = (⟨nm, 0, s1⟩ : Ins).bytes := by simp
                      rw [hone, HBY.out]
                      rw [HAB.out, List.append_assoc, ← HA1.out, ← HRA.out]
                      exact HSR.out)
                    have HRW := Lib.hid (((Only.refl (fun _ => False) w9).alloc (.cells #[.string (S nm), .int .i64 0, .string (S s1)] 50)).row S9.out.ir.row (fun _ _ => id))
                    rw [HMK.out] at HRW
                    have HNW : Hid (Three (w9.alloc (.cells #[.string (S nm), .int .i64 0, .string (S s1)] 50)) w9.heap.size (.string (S nm)) (.int .i64 0) (.string (S s1))) := Lib.hid (Three.new w9 _ _ _)
                    go_wp2_with (at_builtin; refine wpList_append_fine _ rfl _ _ 22 rfl 50 j0 (.agg #[.string ⟨#[]⟩, .int .i64 0, .string ⟨#[]⟩]) 3 40 Tryz.underlying22 hji hz0 hz1 hz2 rfl (by decide) _ _ _ rfl HRW.out ⟨w9.heap.size, 0, none⟩ 1 1 [.string (S nm), .int .i64 0, .string (S s1)] rfl rfl (by intro j u hj; have q := range3 HNW.out j u hj; rw [Addr.add_mid]; exact q) (by intro u hu; simp at hu; rcases hu with rfl | rfl | rfl <;> rfl) ?c3 ?c4 ?_)
                    case c3 => unfold maxLen; omega
                    case c4 => omega
                    intro v' wz hown' hgrow
                    have sA := S9.out.alloc (.cells #[.string (S nm), .int .i64 0, .string (S s1)] 50)
                    have irz : IR w wz v' (m ++ [⟨nm, 0, s1⟩]) := ⟨by rw [List.length_append, HMK.out, insCells_snoc]; exact hown', fun g hg => by
                      rcases hgrow.came with e | e
                      · exact sA.ir.own g (e ▸ hg)
                      · have h1 := e g hg
                        have h2 := sA.bel.size
                        omega⟩
                    have fz : wz.heap[Fb]? = some (.cells #[.int .i64 2, .int .i64 200, .int .u64 (n : Nat), .int .i64 0, .bool false, .string (S [])] 69 (0, 0)) := hgrow.only.heap sA.fld (fun e => by
                      have g1 := sA.ir.row
                      rcases g1.2 with ⟨h0, _⟩ | ⟨g', cap, cur, he, _, hgg, _⟩
                      · rw [h0] at e; simp [Value.ownBlock] at e
                      · rw [he] at e
                        simp [Value.ownBlock] at e
                        rw [e] at hgg
                        have := sA.fld
                        rw [hgg] at this
                        simp at this)
                    have bz : Below w.heap.size w wz := sA.bel.trans (hgrow.only.below sA.bel.size (fun g hg => sA.ir.own g hg))
                    have SZ := Lib.hid (ST.start irz bz fz)
                    clear hown' hgrow sA irz fz bz
                    go_wp2
                    go_roundw
                    case rel => exact ⟨k + 1, m ++ [⟨nm, 0, s1⟩], r1, by omega, by go_num, rfl, by rw [List.length_append, HMK.out]; rfl, SZ.out, (fun z hz => by
                      rcases List.mem_append.1 hz with hz | hz
                      · exact HMV.out z hz
                      · rw [List.mem_singleton.1 hz]; exact HXO.out), HNEW.out, HR1.out⟩
                    case measure => simp [intOf]; omega
                  · have hzb : ((Ez : Int) != 0) = true := by rw [bne_iff_ne]; omega
                    have HZ := Lib.hid hz
                    clear hz
                    go_wp2
                    go_ret3
                    refine ⟨S9.out.bel, .inr ⟨rfl, HFAIL.out (fun y0 r0 hy hye hd => ?_)⟩⟩
                    obtain ⟨e1, e2, e4⟩ := HEL.out y0 r0 hye hd
                    rw [HAB.out, HA1.out] at e2
                    unfold textBytes at e2
                    rw [List.append_assoc, List.append_assoc] at e2
                    have hs1 : y0.s.length ≤ 1048576 := hy.2
                    obtain ⟨e3, e5⟩ := uvar_inj (by have := HNB.out; omega) (by omega) e2
                    have e6 : s1 = y0.s := by
                      have := congrArg (List.take s1.length) e5
                      rw [List.take_left, e3, List.take_left] at this
                      exact this
                    have hx : (⟨nm, 0, s1⟩ : Ins) = y0 := ins_eq e1 ((ins_fine hye).2.2.1 (by rw [e4]; exact HH1.out)).symm e6
                    exact HZ.out (by rw [HEZ.out, ← hye, ← hx]; rfl)
                · have hzb : ((E1 : Int) != 0) = true := by rw [bne_iff_ne]; omega
                  have HE1 := Lib.hid hE1
                  clear hE1
                  go_wp2
                  go_ret3
                  refine ⟨(S6.out.alloc (.cells #[.int .i64 4, .int .i64 0, .int .u64 (0 : Nat), .int .i64 0, .bool false, .string (S s1)] 69)).bel, .inr ⟨rfl, HFAIL.out (fun y0 r0 hy hye hd => ?_)⟩⟩
                  obtain ⟨e1, e2, e4⟩ := HEL.out y0 r0 hye hd
                  rw [HAB.out] at e2
                  have htx := allows_text (ins_fine hye).2.2.2
                  exact HNO6.out HE1.out y0.s r0 htx.2.1 htx.1 e2
              · rw [if_neg h2]
                have HAB : Hid (∀ (nn : Int) (ss : List UInt8), argBytes h nn ss = []) := Lib.hid (fun _ _ => (if_neg h1).trans (if_neg h2))
                have HH1 := Lib.hid h1
                have HH2 := Lib.hid h2
                clear h1 h2
                go_upto_region 23 with fail
                generalize hw8 : w5 = w8 at I5 S5 ⊢
                have I8 := I5
                have S8 := S5
                clear hw8 I5 S5
                have HCK := Lib.hid (refcheck_any nm 0 [] w8 (by simp))
                obtain ⟨⟨x0, x1, x2⟩, _, _⟩ := I8.out.cells
                obtain ⟨Ez, hEz⟩ : ∃ Ez, Ez = checkE nm 0 [] := ⟨_, rfl⟩
                rw [← hEz] at HCK
                have HEZ := Lib.hid hEz
                clear hEz
                go_wp2_with fail
                refine HCK.out.mono ?_
                rintro e w9 ⟨rfl, hb9⟩
                have i9 := I8.out.below hb9
                have s9 := S8.out.below hb9
                obtain ⟨⟨y0, y1, y2⟩, _, _⟩ := i9.cells
                have I9 := Lib.hid i9
                have S9 := Lib.hid s9
                clear x0 x1 x2 hb9 i9 s9 I8 S8 HCK
                by_cases hz : Ez = 0
                · have HZ := Lib.hid hz
                  subst hz
                  have HXO : Hid ((⟨nm, 0, []⟩ : Ins).ok ∧ (⟨nm, 0, []⟩ : Ins).e = 0) := Lib.hid (by exact ⟨⟨⟨by show (-9223372036854775808 : Int) ≤ 0; decide, by show (0 : Int) ≤ 9223372036854775807; decide⟩, by simp⟩, HEZ.out.symm⟩)
                  have HNEW : Hid (s = Lib.uvarint n ++ ((m ++ [(⟨nm, 0, []⟩ : Ins)]).flatMap Ins.bytes ++ a)) := Lib.hid (by
                    rw [List.flatMap_append, List.append_assoc]
                    have hone : ([⟨nm, 0, []⟩] : List Ins).flatMap Ins.bytes = (⟨nm, 0, []⟩ : Ins).bytes := by simp
                    rw [hone, HBY.out]
                    rw [HAB.out, List.append_nil, ← HRA.out]
                    exact HSR.out)
                  have HRW := Lib.hid (((Only.refl (fun _ => False) w9).alloc (.cells #[.string (S nm), .int .i64 0, .string ⟨#[]⟩] 50)).row S9.out.ir.row (fun _ _ => id))
                  rw [HMK.out] at HRW
                  have HNW : Hid (Three (w9.alloc (.cells #[.string (S nm), .int .i64 0, .string ⟨#[]⟩] 50)) w9.heap.size (.string (S nm)) (.int .i64 0) (.string ⟨#[]⟩)) := Lib.hid (Three.new w9 _ _ _)
                  go_wp2_with (at_builtin; refine wpList_append_fine _ rfl _ _ 22 rfl 50 j0 (.agg #[.string ⟨#[]⟩, .int .i64 0, .string ⟨#[]⟩]) 3 40 Tryz.underlying22 hji hz0 hz1 hz2 rfl (by decide) _ _ _ rfl HRW.out ⟨w9.heap.size, 0, none⟩ 1 1 [.string (S nm), .int .i64 0, .string ⟨#[]⟩] rfl rfl (by intro j u hj; have q := range3 HNW.out j u hj; rw [Addr.add_mid]; exact q) (by intro u hu; simp at hu; rcases hu with rfl | rfl | rfl <;> rfl) ?c3 ?c4 ?_)
                  case c3 => unfold maxLen; omega
                  case c4 => omega
                  intro v' wz hown' hgrow
                  have sA := S9.out.alloc (.cells #[.string (S nm), .int .i64 0, .string ⟨#[]⟩] 50)
                  have irz : IR w wz v' (m ++ [⟨nm, 0, []⟩]) := ⟨by rw [List.length_append, HMK.out, insCells_snoc]; exact hown', fun g hg => by
                    rcases hgrow.came with e | e
                    · exact sA.ir.own g (e ▸ hg)
                    · have h1 := e g hg
                      have h2 := sA.bel.size
                      omega⟩
                  have fz : wz.heap[Fb]? = some (.cells #[.int .i64 2, .int .i64 200, .int .u64 (n : Nat), .int .i64 0, .bool false, .string (S [])] 69 (0, 0)) := hgrow.only.heap sA.fld (fun e => by
                    have g1 := sA.ir.row
                    rcases g1.2 with ⟨h0, _⟩ | ⟨g', cap, cur, he, _, hgg, _⟩
                    · rw [h0] at e; simp [Value.ownBlock] at e
                    · rw [he] at e
                      simp [Value.ownBlock] at e
                      rw [e] at hgg
                      have := sA.fld
                      rw [hgg] at this
                      simp at this)
                  have bz : Below w.heap.size w wz := sA.bel.trans (hgrow.only.below sA.bel.size (fun g hg => sA.ir.own g hg))
                  have SZ := Lib.hid (ST.start irz bz fz)
                  clear hown' hgrow sA irz fz bz
                  go_wp2
                  go_roundw
                  case rel => exact ⟨k + 1, m ++ [⟨nm, 0, []⟩], a, by omega, by go_num, rfl, by rw [List.length_append, HMK.out]; rfl, SZ.out, (fun z hz => by
                    rcases List.mem_append.1 hz with hz | hz
                    · exact HMV.out z hz
                    · rw [List.mem_singleton.1 hz]; exact HXO.out), HNEW.out, HAL2.out⟩
                  case measure => simp [intOf]; omega
                · have hzb : ((Ez : Int) != 0) = true := by rw [bne_iff_ne]; omega
                  have HZ := Lib.hid hz
                  clear hz
                  go_wp2
                  go_ret3
                  refine ⟨S9.out.bel, .inr ⟨rfl, HFAIL.out (fun y0 r0 hy hye hd => ?_)⟩⟩
                  obtain ⟨e1, e2, e4⟩ := HEL.out y0 r0 hye hd
                  have hx : (⟨nm, 0, []⟩ : Ins) = y0 := ins_eq e1 ((ins_fine hye).2.2.1 (by rw [e4]; exact HH1.out)).symm (ins_short hye (by rw [e4]; have := HH2.out; omega)).symm
                  exact HZ.out (by rw [HEZ.out, ← hye, ← hx]; rfl)
          · have hd42 : decide ((42 : Int) ≤ (V : Int)) = true := by simp; omega
            have HVV := Lib.hid hV42
            clear hV42
            go_wp2
            go_ret3
            refine ⟨S3.out.bel, .inr ⟨rfl, HFAIL.out (fun y0 r0 hy hye hd => ?_)⟩⟩
            obtain ⟨e1, _, _⟩ := el0 (HOK3.out (by trivial)) HV64.out hye hd
            have h1 := (ins_fine hye).1
            have h2 := HVV.out
            omega
        · have hzb : ((E : Int) != 0) = true := by rw [bne_iff_ne]; omega
          have HE := Lib.hid hE
          clear hE
          go_wp2
          go_ret3
          refine ⟨S3.out.bel, .inr ⟨rfl, HFAIL.out (fun y0 r0 hy hye hd => ?_)⟩⟩
          refine HNO3.out HE.out (idx y0.op) (argBytes (hasAt (idx y0.op)) y0.n y0.s ++ r0) (by have := idx_le y0.op; omega) ?_
          rw [hd]
          unfold Ins.bytes
          rw [List.append_assoc]
      · obtain rfl : k = n := by omega
        clear hmk
        go_wp2
        go_ret3
        refine ⟨HST.out.bel, .inl ⟨_, m, rest, rfl, by have h := HST.out.ir; rw [HMK.out] at h; exact h, ?_, allE_all m (fun x hx => (HMV.out x hx).2), by rw [HMK.out]; exact hn200, fun x hx => (HMV.out x hx).1⟩⟩
        rw [putL, HMK.out, List.append_assoc]
        exact HSR.out
  · have hzb : ((E : Int) != 0) = true := by rw [bne_iff_ne]; omega
    have HE := Lib.hid hE
    have HNO := Lib.hid hno
    clear hE hok hno hrl
    go_wp2
    go_ret3
    refine ⟨B2.out.alloc B2.out.size _, .inr ⟨rfl, fun y r hy hz hl hd => ?_⟩⟩
    refine HNO.out HE.out y.length (y.flatMap Ins.bytes ++ r) hl (by rw [List.length_append]; have := bytes_many y; omega) ?_
    rw [hd, putL, List.append_assoc]
end Go.Proofs.YtcoobdbfgiiejaaGreatDoor

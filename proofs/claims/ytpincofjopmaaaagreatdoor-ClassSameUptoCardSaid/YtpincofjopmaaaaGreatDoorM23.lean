/-
  The contract of package class's takeMethod: some method, or THE method, if it was written there.
  Conditions: the tables hold what they hold at the start.
-/
import Derived.Test.YtpincofjopmaaaaGreatDoorM19
import Derived.Test.YtpincofjopmaaaaGreatDoorM22
import Derived.Deep.RegionHeld
import Derived.Deep.DrawnRows
import Derived.Deep.Cut
namespace Go.Proofs.YtpincofjopmaaaaGreatDoor
open Go.RowKit
attribute [local go_sem ↓] Go.wp_at_zero Go.wp_at_succ
def goodT (y : List UInt8) : Prop := y.length ≤ 4096 ∧ Lib.validD y = true
def fitT (y : List UInt8) : Prop := y.length ≤ 4096
theorem give_text {w0 w : World} {b : Nat} {v : Value} {l : List UInt8} {i err : Nat} (r0 : RS w0 w b v l i err) (hT : CT w0) :
    Calls Tryz.prog 149 #[.pointer (some ⟨b, 0, none⟩)] w (GiveG StrR 1 textBytes goodT fitT w0 b v l i err w) :=
  (rtext_g r0.rd (hT.tabs.below r0.bel) (r0.ne hT.tabs).1 (r0.ne hT.tabs).2).mono fun _ _ ⟨s, i', err', hs, ⟨he, ho, rd⟩, g⟩ => ⟨s, strV s, i', err', he, (TK.start r0).got ho rd, rfl, rfl, hs, fun y r h0 hy hd => g y r h0 hy.1 hy.2 hd⟩
def goodF (_ : Bool) : Prop := True
theorem give_flag {w0 w : World} {b : Nat} {v : Value} {l : List UInt8} {i err : Nat} (r0 : RS w0 w b v l i err) :
    Calls Tryz.prog 151 #[.pointer (some ⟨b, 0, none⟩)] w fun e w' => ∃ (t : Bool) (i' err' : Nat), e = .returned (.bool t) ∧ TK w0 w w' b v l i' err' ∧ (∀ (q : Bool) (r : List UInt8), err = 0 → l.drop i = flagByte q :: r → t = q ∧ i' = i + 1 ∧ err' = 0) :=
  (rflag_g r0.rd).mono fun _ _ ⟨t, i', err', ⟨he, ho, rd⟩, g⟩ => ⟨t, i', err', he, (TK.start r0).got ho rd, g⟩
theorem text_pos (y : List UInt8) : 1 ≤ (textBytes y).length := by unfold textBytes; rw [List.length_append]; have := uvarint_one y.length; omega
theorem cat_pos (y : Cat) : 1 ≤ y.bytes.length := by unfold Cat.bytes; simp only [List.length_append]; have := uvarint_one y.fr.toNat; omega
theorem cell_set_ne {w : World} {P M o j : Nat} {u x : Value} (hn : P ≠ M) (h : w.cell? ⟨P, o, none⟩ = some u) : (w.setCell ⟨M, j, none⟩ x).cell? ⟨P, o, none⟩ = some u :=
  ((Only.refl (fun k => k = M) w).setCell (p := ⟨M, j, none⟩) rfl x).cell h hn
theorem src_set {α : Type} {n : Nat} {R : ElemRel α} (hR : Stays R) {L M j : Nat} {w : World} {sv x : Value} {m : List α} (h : Src n R (fun k => L ≤ k) w sv m) (hM : M < L) : Src n R (fun k => L ≤ k) (w.setCell ⟨M, j, none⟩ x) sv m :=
  hR.src h ((Only.refl (fun k => k = M) w).setCell (p := ⟨M, j, none⟩) rfl x) (fun k hk e => by have : L ≤ k := hk; omega)
theorem src_got {α : Type} {n : Nat} {R : ElemRel α} (hR : Stays R) {L b : Nat} {w w' : World} {sv : Value} {m : List α} (h : Src n R (fun k => L ≤ k) w sv m) (ho : Only (fun k => k = b) w w') (hb : b < L) : Src n R (fun k => L ≤ k) w' sv m :=
  hR.src h ho (fun k hk e => by have : L ≤ k := hk; omega)
theorem src_of_ir {w w' : World} {vs : Value} {m : List Ins} (h : IR w w' vs m) : Src 3 InsR (fun k => w.heap.size ≤ k) w' vs m := by
  rcases h.row.2 with ⟨rfl, h0⟩ | ⟨g, cap, cur, rfl, _, hgg, hnc, hcm, _⟩
  · exact .inl ⟨_, _, rfl, List.length_eq_zero_iff.1 h0⟩
  · refine .inr ⟨g, 0, cap, rfl, ⟨h.own g rfl, lt_of_block hgg, hnc, hcm⟩, fun k x hx => ⟨insVal x, rfl, rfl, fun j u hj => ?_⟩⟩
    obtain ⟨h0, h1, h2⟩ := insCells_at m k x hx
    have c0 := h.row.cells (g := g) rfl _ _ h0
    have c1 := h.row.cells (g := g) rfl _ _ h1
    have c2 := h.row.cells (g := g) rfl _ _ h2
    rw [Addr.add_mid] at c0 c1 c2
    have hj3 := cells_lt (n := 3) rfl hj
    match j, hj, hj3 with
    | 0, hj, _ => cases hj; rw [Nat.add_zero]; exact c0
    | 1, hj, _ => cases hj; rw [Nat.add_assoc]; exact c1
    | 2, hj, _ => cases hj; rw [Nat.add_assoc]; exact c2
theorem sizef_mth : (Tryz.prog.info? 33).map (·.size) = some 7 := by kernel_rfl
theorem load_mth {w : World} {B : Nat} {a b c d e g h : Value} (hx : Box w B #[a, b, c, d, e, g, h] 33) : (loadVar 33 ⟨B, 0, none⟩).run Tryz.prog w = .ok (.agg #[a, b, c, d, e, g, h]) w :=
  run_loadVar_mid (P := Tryz.prog) w B 0 33 [a, b, c, d, e, g, h] _ hx.range Tryz.underlying33 rfl sizef_mth
/-- What a machine may hold, and Check may be asked of. -/
def Mth.fitM (m : Mth) : Prop := m.Fit ∧ m.held
theorem good_params {y : Mth} (h : y.Good) : ∀ x ∈ y.params, goodT x := fun x hx => ⟨by have := right_len (h.params x hx); omega, rightB_valid (h.params x hx)⟩
set_option maxHeartbeats 40000000 in
set_option maxRecDepth 100000 in
theorem takemethod_any {w0 w : World} {b : Nat} {v : Value} {l : List UInt8} {i err : Nat} (r0 : RS w0 w b v l i err) (hT : CT w0) :
    Calls Tryz.prog 157 #[.pointer (some ⟨b, 0, none⟩)] w (GiveG MthR 7 Mth.bytes Mth.Good Mth.fitM w0 b v l i err w) := by
  have hmf : ∀ (fn : Fn) (first cap : Array Value) (w : World), (Instr.makeFunc fn first cap).run Tryz.prog w = .ok (.func fn first cap) w := fun _ _ _ _ => rfl
  have HT := Lib.hid hT
  have t := TK.start r0
  have T0 := Lib.hid ((t.alloc (.cells #[.pointer (some ⟨b, 0, none⟩)] 127)).alloc (.cells #[.string ⟨#[]⟩, .slice none 0 0, .string ⟨#[]⟩, .bool false, .int .i64 0, .slice none 0 0, .slice none 0 0] 33))
  have XP0 := Lib.hid ((Box.new w #[.pointer (some ⟨b, 0, none⟩)] 127).below (w' := (w.alloc (.cells #[.pointer (some ⟨b, 0, none⟩)] 127)).alloc (.cells #[.string ⟨#[]⟩, .slice none 0 0, .string ⟨#[]⟩, .bool false, .int .i64 0, .slice none 0 0, .slice none 0 0] 33)) ((Below.refl _ _).alloc (Nat.le_refl _) _))
  have XR0 := Lib.hid (show Box ((w.alloc (.cells #[.pointer (some ⟨b, 0, none⟩)] 127)).alloc (.cells #[.string ⟨#[]⟩, .slice none 0 0, .string ⟨#[]⟩, .bool false, .int .i64 0, .slice none 0 0, .slice none 0 0] 33)) (w.heap.size + 1) #[.string ⟨#[]⟩, .slice none 0 0, .string ⟨#[]⟩, .bool false, .int .i64 0, .slice none 0 0, .slice none 0 0] 33 from by have q := Box.new (w.alloc (.cells #[.pointer (some ⟨b, 0, none⟩)] 127)) #[.string ⟨#[]⟩, .slice none 0 0, .string ⟨#[]⟩, .bool false, .int .i64 0, .slice none 0 0, .slice none 0 0] 33; simpa using q)
  have hPb : w.heap.size ≠ b := by have := t.blt; omega
  have hRb : w.heap.size + 1 ≠ b := by have := t.blt; omega
  clear r0 hT t
  go_enter Tryz.func157, Tryz.ntmps157
  go_wp2_with fail
  generalize (w.alloc (.cells #[.pointer (some ⟨b, 0, none⟩)] 127)).alloc (.cells #[.string ⟨#[]⟩, .slice none 0 0, .string ⟨#[]⟩, .bool false, .int .i64 0, .slice none 0 0, .slice none 0 0] 33) = W0 at T0 XP0 XR0 ⊢
  obtain ⟨R, hR⟩ : ∃ R, R = w.heap.size + 1 := ⟨_, rfl⟩
  obtain ⟨P, hP⟩ : ∃ P, P = w.heap.size := ⟨_, rfl⟩
  rw [← hR] at XR0 hRb ⊢
  rw [← hP] at XP0 hPb ⊢
  have HPB := Lib.hid hPb
  have HRB := Lib.hid hRb
  have HPR : Hid (P ≠ R) := Lib.hid (by omega)
  have HPL : Hid (w.heap.size ≤ P) := Lib.hid (by omega)
  have HRL : Hid (w.heap.size ≤ R) := Lib.hid (by omega)
  clear hPb hRb hP hR
  refine (give_text T0.out.rs HT.out).mono ?_
  rintro e w1 ⟨s1, _, i1, err1, rfl, t1, rfl, _, hs1, g1⟩
  have T1 := Lib.hid (T0.out.got t1.on t1.rs.rd)
  have XP1 := Lib.hid (XP0.out.got t1.on HPB.out)
  have XR1 := Lib.hid (XR0.out.got t1.on HRB.out)
  have G1 := Lib.hid g1
  have S1 := Lib.hid hs1
  clear t1 g1 hs1 T0 XP0 XR0
  have pA : ∀ o : Obj, (w1.alloc o).cell? ⟨P, 0, none⟩ = some (.pointer (some ⟨b, 0, none⟩)) := fun o => ((Only.refl (fun _ => False) w1).alloc o).cell (XP1.out.cell 0 rfl) id
  have pB := XP1.out.cell 0 rfl
  go_wp2_with fail
  have hb1 : Below w1.heap.size w1 (w1.alloc (.cells #[.string (S s1), .slice none 0 0, .string ⟨#[]⟩, .bool false, .int .i64 0, .slice none 0 0, .slice none 0 0] 33)) := (Below.refl _ w1).alloc (Nat.le_refl _) _
  have T2 := Lib.hid (T1.out.alloc (.cells #[.string (S s1), .slice none 0 0, .string ⟨#[]⟩, .bool false, .int .i64 0, .slice none 0 0, .slice none 0 0] 33))
  have XP2 := Lib.hid (XP1.out.below hb1)
  have XR2 := Lib.hid (XR1.out.below hb1)
  have XM2 := Lib.hid (Box.new w1 #[.string (S s1), .slice none 0 0, .string ⟨#[]⟩, .bool false, .int .i64 0, .slice none 0 0, .slice none 0 0] 33)
  have hMb : w1.heap.size ≠ b := by have q1 := T1.out.blt; have q2 := T1.out.on.size; omega
  have hPM : P ≠ w1.heap.size := by have := XP1.out.lt; omega
  have hRM : R ≠ w1.heap.size := by have := XR1.out.lt; omega
  have hML : w.heap.size ≤ w1.heap.size := T1.out.on.size
  generalize w1.alloc (.cells #[.string (S s1), .slice none 0 0, .string ⟨#[]⟩, .bool false, .int .i64 0, .slice none 0 0, .slice none 0 0] 33) = W2 at T2 XP2 XR2 XM2 ⊢
  generalize w1.heap.size = M at XM2 hMb hPM hRM hML ⊢
  have HMB := Lib.hid hMb
  have HPM := Lib.hid hPM
  have HRM := Lib.hid hRM
  have HML := Lib.hid hML
  clear hMb hPM hRM hML pA pB hb1
  refine (takel_str 149 #[.pointer (some ⟨b, 0, none⟩)] #[] textBytes goodT fitT 32 T2.out.rs (enters_fn Tryz.func149 (by kernel_rfl) rfl) (fun wr i' err' t => give_text t.rs HT.out) text_pos (by decide)).mono ?_
  rintro e w3 ⟨vs3, ps, us3, i3, err3, rfl, row3, hn3, hf3, t3, g3⟩
  obtain ⟨ao3, c3, rfl⟩ := row3.shape
  have T3 := Lib.hid (T2.out.got t3.on t3.rs.rd)
  have XP3 := Lib.hid (XP2.out.got t3.on HPB.out)
  have XR3 := Lib.hid (XR2.out.got t3.on HRB.out)
  have XM3 := Lib.hid (XM2.out.got t3.on HMB.out)
  have SP3 := Lib.hid (row3.src StrR.st)
  have HL3 : Hid (M < W2.heap.size ∧ R < W2.heap.size ∧ P < W2.heap.size ∧ b < W2.heap.size ∧ w.heap.size ≤ W2.heap.size) := Lib.hid ⟨XM2.out.lt, XR2.out.lt, XP2.out.lt, t3.blt, T2.out.on.size⟩
  have G3 := Lib.hid g3
  have N3 := Lib.hid hn3
  have F3 := Lib.hid hf3
  clear row3 hn3 hf3 t3 g3 T2 XP2 XR2 XM2
  generalize W2.heap.size = L3 at SP3 HL3
  have c1 := XM3.out.cell 1 rfl
  have f1 := XM3.out.free 1
  have p3 := XP3.out.cell 0 rfl
  go_upto_region 3 with fail
  have T4 := Lib.hid (T3.out.set (I := M) HML.out 1 (.slice ao3 ps.length c3))
  have XP4 := Lib.hid (XP3.out.set_ne HPM.out 1 (.slice ao3 ps.length c3))
  have XR4 := Lib.hid (XR3.out.set_ne HRM.out 1 (.slice ao3 ps.length c3))
  have XM4 := Lib.hid (XM3.out.set 1 (.slice ao3 ps.length c3))
  have SP4 := Lib.hid (src_set (j := 1) (x := .slice ao3 ps.length c3) StrR.st SP3.out HL3.out.1)
  generalize w3.setCell ⟨M, 1, none⟩ (.slice ao3 ps.length c3) = w4 at T4 XP4 XR4 XM4 SP4 ⊢
  clear c1 f1 p3 T3 XP3 XR3 XM3 SP3
  have HTX : Hid (∀ W, Below w4.heap.size w4 W → Calls Tryz.prog 149 #[.pointer (some ⟨b, 0, none⟩)] W fun e w' => ∃ s i' err', e = .returned (.string (S s)) ∧ s.length ≤ 4096 ∧ TK w0 w4 w' b v l i' err' ∧ (∀ (y r : List UInt8), err3 = 0 → goodT y → l.drop i3 = textBytes y ++ r → s = y ∧ i' = i3 + (textBytes y).length ∧ err' = 0)) := Lib.hid (fun W hW => (give_text (T4.out.rs.keep hW) HT.out).mono fun _ _ ⟨s, u, i', err', he, t, hu, _, hf, g⟩ => ⟨s, i', err', by rw [he, hu], hf, ((TK.start T4.out.rs).below hW).got t.on t.rs.rd, g⟩)
  have HFL : Hid (∀ W i' err', TK w0 w4 W b v l i' err' → Calls Tryz.prog 151 #[.pointer (some ⟨b, 0, none⟩)] W fun e w' => ∃ t i2 err2, e = .returned (.bool t) ∧ TK w0 w4 w' b v l i2 err2 ∧ (∀ (q : Bool) (r : List UInt8), err' = 0 → l.drop i' = flagByte q :: r → t = q ∧ i2 = i' + 1 ∧ err2 = 0)) := Lib.hid (fun W i' err' t => (give_flag t.rs).mono fun _ _ ⟨q, i2, err2, he, t2, g⟩ => ⟨q, i2, err2, he, t.got t2.on t2.rs.rd, g⟩)
  have HSP : Hid (∀ W i' err', TK w0 w4 W b v l i' err' → W.cell? ⟨P, 0, none⟩ = some (.pointer (some ⟨b, 0, none⟩))) := Lib.hid (fun W i' err' t => (XP4.out.got t.on HPB.out).cell 0 rfl)
  have p4 := XP4.out.cell 0 rfl
  have t0 := TK.start T4.out.rs
  first
  | (go_region_held (fun W => W.cell? ⟨P, 0, none⟩ = some (.pointer (some ⟨b, 0, none⟩))) ((first | (with_reducible (apply HSP.out; assumption)) | (with_reducible (apply HSP.out; apply TK.drew; assumption)) | ((with_reducible refine cell_set_ne HPM.out ?_); (with_reducible (apply HSP.out; assumption))) | ((with_reducible refine cell_set_ne HPM.out ?_); (with_reducible refine cell_set_ne HPM.out ?_); (with_reducible (apply HSP.out; assumption)))))
      (first
       | (go_at_call 149; refine (HTX.out _ ?_).mono ?_; (focus (first | (with_reducible exact Below.refl _ _) | (exact (Below.refl _ _).drew))); rintro e w5 ⟨s2, i5, err5, rfl, hs2, t5, g5⟩)
       | (go_at_call 151; refine (HFL.out _ _ _ t5).mono ?_; rintro e w6 ⟨ab, i6, err6, rfl, t6, g6⟩; have k2 := (XM4.out.got t6.on HMB.out).cell 2 rfl; have f2 := (XM4.out.got t6.on HMB.out).free 2; have k3 := (XM4.out.got t6.on HMB.out).cell 3 rfl; have f3 := (XM4.out.got t6.on HMB.out).free 3; have hlM := (XM4.out.got t6.on HMB.out).lt)))
  | fail
  have T6 := Lib.hid (T4.out.got t6.on t6.rs.rd)
  have XP6 := Lib.hid (XP4.out.got t6.on HPB.out)
  have XR6 := Lib.hid (XR4.out.got t6.on HRB.out)
  have XM6 := Lib.hid (XM4.out.got t6.on HMB.out)
  have SP6 := Lib.hid (src_got StrR.st SP4.out t6.on HL3.out.2.2.2.1)
  have G5 := Lib.hid g5
  have G6 := Lib.hid g6
  have S2 := Lib.hid hs2
  clear t5 t6 g5 g6 hs2 k2 f2 k3 f3 hlM t0 p4 HTX HFL HSP T4 XP4 XR4 XM4 SP4
  have T7 := Lib.hid (T6.out.set (I := M) HML.out 2 (.string (S s2)))
  have XP7 := Lib.hid (XP6.out.set_ne HPM.out 2 (.string (S s2)))
  have XR7 := Lib.hid (XR6.out.set_ne HRM.out 2 (.string (S s2)))
  have XM7 := Lib.hid (XM6.out.set 2 (.string (S s2)))
  have SP7 := Lib.hid (src_set (j := 2) (x := .string (S s2)) StrR.st SP6.out HL3.out.1)
  have T8 := Lib.hid (T7.out.set (I := M) HML.out 3 (.bool ab))
  have XP8 := Lib.hid (XP7.out.set_ne HPM.out 3 (.bool ab))
  have XR8 := Lib.hid (XR7.out.set_ne HRM.out 3 (.bool ab))
  have XM8 := Lib.hid (XM7.out.set 3 (.bool ab))
  have SP8 := Lib.hid (src_set (j := 3) (x := .bool ab) StrR.st SP7.out HL3.out.1)
  generalize (w6.setCell ⟨M, 2, none⟩ (.string (S s2))).setCell ⟨M, 3, none⟩ (.bool ab) = w8 at T8 XP8 XR8 XM8 SP8 ⊢
  clear T7 XP7 XR7 XM7 SP7 T6 XP6 XR6 XM6 SP6
  have HH : Hid (∀ (y : Mth) (r : List UInt8), err = 0 → y.Good → l.drop i = y.head ++ r → s1 = y.name ∧ ps = y.params ∧ s2 = y.res ∧ ab = y.abs ∧ i6 = i + y.head.length ∧ err6 = 0) := Lib.hid (fun y r he hy hd => by
    have hd1 : l.drop i = textBytes y.name ++ (listB textBytes y.params ++ (textBytes y.res ++ (flagByte y.abs :: r))) := by rw [hd]; unfold Mth.head; simp
    obtain ⟨e1, e2, e3⟩ := G1.out y.name _ he ⟨by have := memB_len hy.name; omega, memB_valid hy.name⟩ hd1
    have hd2 := drop_more hd1 rfl
    rw [← e2] at hd2
    obtain ⟨e4, e5, e6⟩ := G3.out y.params _ e3 (good_params hy) hy.nums.1 hd2
    have hd3 := drop_more hd2 rfl
    rw [← e5] at hd3
    obtain ⟨e7, e8, e9⟩ := G5.out y.res _ e6 ⟨by have := hy.res_len; omega, hy.res_valid⟩ hd3
    have hd4 := drop_more hd3 rfl
    rw [← e8] at hd4
    obtain ⟨e10, e11, e12⟩ := G6.out y.abs r e9 hd4
    refine ⟨e1, e4, e7, e10, ?_, e12⟩
    rw [e11, e8, e5, e2]
    unfold Mth.head
    simp
    omega)
  clear G1 G3 G5 G6
  cases ab
  case true =>
    have m0 := XM8.out.cell 0 rfl
    have m1 := XM8.out.cell 1 rfl
    have m2 := XM8.out.cell 2 rfl
    have m3 := XM8.out.cell 3 rfl
    have m4 := XM8.out.cell 4 rfl
    have m5 := XM8.out.cell 5 rfl
    have m6 := XM8.out.cell 6 rfl
    have r0 := XR8.out.cell 0 rfl
    have fr0 := XR8.out.free 0
    have r1 := XR8.out.cell 1 rfl
    have fr1 := XR8.out.free 1
    have r2 := XR8.out.cell 2 rfl
    have fr2 := XR8.out.free 2
    have r3 := XR8.out.cell 3 rfl
    have fr3 := XR8.out.free 3
    have r4 := XR8.out.cell 4 rfl
    have fr4 := XR8.out.free 4
    have r5 := XR8.out.cell 5 rfl
    have fr5 := XR8.out.free 5
    have r6 := XR8.out.cell 6 rfl
    have fr6 := XR8.out.free 6
    have hltR := XR8.out.lt
    have hltM := XM8.out.lt
    go_wp2
    have tE := (((((((T8.out).set (I := R) HRL.out 0 (.string (S s1))).set (I := R) HRL.out 1 (.slice ao3 ps.length c3)).set (I := R) HRL.out 2 (.string (S s2))).set (I := R) HRL.out 3 (.bool true)).set (I := R) HRL.out 4 (.int .i64 0)).set (I := R) HRL.out 5 (.slice none 0 0)).set (I := R) HRL.out 6 (.slice none 0 0)
    have lE := load_mth (show Box _ R #[.string (S s1), .slice ao3 ps.length c3, .string (S s2), .bool true, .int .i64 0, .slice none 0 0, .slice none 0 0] 33 from (((((((XR8.out).set 0 (.string (S s1))).set 1 (.slice ao3 ps.length c3)).set 2 (.string (S s2))).set 3 (.bool true)).set 4 (.int .i64 0)).set 5 (.slice none 0 0)).set 6 (.slice none 0 0))
    have SPE := src_set (j := 6) (x := .slice none 0 0) StrR.st (src_set (j := 5) (x := .slice none 0 0) StrR.st (src_set (j := 4) (x := .int .i64 0) StrR.st (src_set (j := 3) (x := .bool true) StrR.st (src_set (j := 2) (x := .string (S s2)) StrR.st (src_set (j := 1) (x := .slice ao3 ps.length c3) StrR.st (src_set (j := 0) (x := .string (S s1)) StrR.st (SP8.out) HL3.out.2.1) HL3.out.2.1) HL3.out.2.1) HL3.out.2.1) HL3.out.2.1) HL3.out.2.1) HL3.out.2.1
    refine bodyPost_ret (v := .agg #[.string (S s1), .slice ao3 ps.length c3, .string (S s2), .bool true, .int .i64 0, .slice none 0 0, .slice none 0 0]) ?_ rfl ?_
    · simp [results, Tryz.results157, asAddr, lE]
    · refine ⟨⟨s1, ps, s2, true, 0, [], []⟩, _, i6, err6, rfl, tE, ⟨_, _, _, rfl, StrR.st.srcMono SPE (fun k _ hk => Nat.le_trans HL3.out.2.2.2.2 hk), Src.nil, Src.nil⟩, rfl, ⟨?_, ?_⟩, fun y r he hy hd => ?_⟩
      · exact ⟨Nat.le_trans S1.out (by decide), Nat.le_trans S2.out (by decide), fun x hx => Nat.le_trans (F3.out x hx) (by decide), fun x hx => by simp at hx, fun x hx => by simp at hx, Nat.le_trans N3.out (by decide), by simp, by simp⟩
      · exact ⟨(show i64 0 from ⟨by decide, by decide⟩), fun x hx => by simp at hx, fun x hx => by simp at hx⟩
      · cases hya : y.abs with
        | true =>
          have hbb : y.bytes = y.head := by unfold Mth.bytes; rw [hya]; rfl
          rw [hbb] at hd ⊢
          obtain ⟨e1, e2, e3, _, e5, e6⟩ := HH.out y r he hy hd
          have hbd := hy.body
          unfold Mth.body at hbd
          rw [hya] at hbd
          simp only [if_true, Bool.and_eq_true, decide_eq_true_eq, List.length_eq_zero_iff] at hbd
          refine ⟨?_, e5, e6⟩
          obtain ⟨yn, yp, yr, ya, yl, yc, yk⟩ := y
          dsimp only at e1 e2 e3 hya hbd
          obtain ⟨h1, h2, h3⟩ := hbd
          subst e1 e2 e3 hya h1 h2 h3
          rfl
        | false =>
          have hbb : y.bytes = y.head ++ y.tail := by unfold Mth.bytes; rw [hya]; rfl
          rw [hbb, List.append_assoc] at hd
          obtain ⟨_, _, _, e4, _, _⟩ := HH.out y _ he hy hd
          rw [hya] at e4
          cases e4
  case false =>
    have p8 := XP8.out.cell 0 rfl
    have m3 := XM8.out.cell 3 rfl
    go_wp2_with fail
    refine (rnum_g T8.out.rs.rd).mono ?_
    rintro e w9 ⟨N, i9, err9, _, ⟨rfl, ho9, rd9⟩, g9⟩
    have T9 := Lib.hid (T8.out.got ho9 rd9)
    have XP9 := Lib.hid (XP8.out.got ho9 HPB.out)
    have XR9 := Lib.hid (XR8.out.got ho9 HRB.out)
    have XM9 := Lib.hid (XM8.out.got ho9 HMB.out)
    have SP9 := Lib.hid (src_got StrR.st SP8.out ho9 HL3.out.2.2.2.1)
    have G9 := Lib.hid g9
    clear ho9 rd9 g9 p8 m3 T8 XP8 XR8 XM8 SP8
    obtain ⟨z, hz⟩ : ∃ z, IntKind.i64.wrap (N : Int) = z := ⟨_, rfl⟩
    have HZ := Lib.hid hz
    have k4 := XM9.out.cell 4 rfl
    have f4 := XM9.out.free 4
    have p9 := cell_set_ne (j := 4) (x := .int .i64 z) HPM.out (XP9.out.cell 0 rfl)
    have hlM := XM9.out.lt
    go_wp2_with fail
    have T10 := Lib.hid (T9.out.set (I := M) HML.out 4 (.int .i64 z))
    have XP10 := Lib.hid (XP9.out.set_ne HPM.out 4 (.int .i64 z))
    have XR10 := Lib.hid (XR9.out.set_ne HRM.out 4 (.int .i64 z))
    have XM10 := Lib.hid (XM9.out.set 4 (.int .i64 z))
    have SP10 := Lib.hid (src_set (j := 4) (x := .int .i64 z) StrR.st SP9.out HL3.out.1)
    generalize w9.setCell ⟨M, 4, none⟩ (.int .i64 z) = w10 at T10 XP10 XR10 XM10 SP10 ⊢
    clear k4 f4 p9 hlM hz T9 XP9 XR9 XM9 SP9
    refine (take_any T10.out.rs HT.out).mono ?_
    rintro e w11 ⟨vs11, cd, i11, err11, rfl, ir11, hm11, hok11, t11, g11⟩
    obtain ⟨ao11, c11, rfl⟩ := ir11.shape
    have T11 := Lib.hid (T10.out.got t11.on t11.rs.rd)
    have XP11 := Lib.hid (XP10.out.got t11.on HPB.out)
    have XR11 := Lib.hid (XR10.out.got t11.on HRB.out)
    have XM11 := Lib.hid (XM10.out.got t11.on HMB.out)
    have SP11 := Lib.hid (src_got StrR.st SP10.out t11.on HL3.out.2.2.2.1)
    have SC11 := Lib.hid (src_of_ir ir11)
    have HL11 : Hid (M < w10.heap.size ∧ R < w10.heap.size ∧ P < w10.heap.size ∧ b < w10.heap.size ∧ w.heap.size ≤ w10.heap.size) := Lib.hid ⟨XM10.out.lt, XR10.out.lt, XP10.out.lt, t11.blt, T10.out.on.size⟩
    have G11 := Lib.hid g11
    have N11 := Lib.hid hm11
    have O11 := Lib.hid hok11
    clear ir11 hm11 hok11 t11 g11 T10 XP10 XR10 XM10 SP10
    generalize w10.heap.size = L11 at SC11 HL11
    have k5 := XM11.out.cell 5 rfl
    have f5 := XM11.out.free 5
    have p11 := cell_set_ne (j := 5) (x := .slice ao11 cd.length c11) HPM.out (XP11.out.cell 0 rfl)
    have hlM := XM11.out.lt
    go_wp2_with fail
    have T12 := Lib.hid (T11.out.set (I := M) HML.out 5 (.slice ao11 cd.length c11))
    have XP12 := Lib.hid (XP11.out.set_ne HPM.out 5 (.slice ao11 cd.length c11))
    have XR12 := Lib.hid (XR11.out.set_ne HRM.out 5 (.slice ao11 cd.length c11))
    have XM12 := Lib.hid (XM11.out.set 5 (.slice ao11 cd.length c11))
    have SP12 := Lib.hid (src_set (j := 5) (x := .slice ao11 cd.length c11) StrR.st SP11.out HL3.out.1)
    have SC12 := Lib.hid (src_set (j := 5) (x := .slice ao11 cd.length c11) InsR.st SC11.out HL11.out.1)
    generalize w11.setCell ⟨M, 5, none⟩ (.slice ao11 cd.length c11) = w12 at T12 XP12 XR12 XM12 SP12 SC12 ⊢
    clear k5 f5 p11 hlM T11 XP11 XR11 XM11 SP11 SC11
    refine (takel_cat 222 #[] #[.pointer (some ⟨P, 0, none⟩)] Cat.bytes Cat.good Cat.fit 32 T12.out.rs (enters_fn Tryz.func222 (by kernel_rfl) rfl) (fun wr i' err' t => takem1_any t.rs HT.out ((XP12.out.got t.on HPB.out).cell 0 rfl)) cat_pos (by decide)).mono ?_
    rintro e w13 ⟨vs13, ks, us13, i13, err13, rfl, row13, hn13, hf13, t13, g13⟩
    obtain ⟨ao13, c13, rfl⟩ := row13.shape
    have T13 := Lib.hid (T12.out.got t13.on t13.rs.rd)
    have XP13 := Lib.hid (XP12.out.got t13.on HPB.out)
    have XR13 := Lib.hid (XR12.out.got t13.on HRB.out)
    have XM13 := Lib.hid (XM12.out.got t13.on HMB.out)
    have SP13 := Lib.hid (src_got StrR.st SP12.out t13.on HL3.out.2.2.2.1)
    have SC13 := Lib.hid (src_got InsR.st SC12.out t13.on HL11.out.2.2.2.1)
    have SK13 := Lib.hid (row13.src CatR.st)
    have HL13 : Hid (M < w12.heap.size ∧ R < w12.heap.size ∧ P < w12.heap.size ∧ b < w12.heap.size ∧ w.heap.size ≤ w12.heap.size) := Lib.hid ⟨XM12.out.lt, XR12.out.lt, XP12.out.lt, t13.blt, T12.out.on.size⟩
    have G13 := Lib.hid g13
    have N13 := Lib.hid hn13
    have F13 := Lib.hid hf13
    clear row13 hn13 hf13 t13 g13 T12 XP12 XR12 XM12 SP12 SC12
    generalize w12.heap.size = L13 at SK13 HL13
    have k6 := XM13.out.cell 6 rfl
    have f6 := XM13.out.free 6
    have hlM := XM13.out.lt
    go_upto_region 9 with fail
    have T14 := Lib.hid (T13.out.set (I := M) HML.out 6 (.slice ao13 ks.length c13))
    have XP14 := Lib.hid (XP13.out.set_ne HPM.out 6 (.slice ao13 ks.length c13))
    have XR14 := Lib.hid (XR13.out.set_ne HRM.out 6 (.slice ao13 ks.length c13))
    have XM14 := Lib.hid (XM13.out.set 6 (.slice ao13 ks.length c13))
    have SP14 := Lib.hid (src_set (j := 6) (x := .slice ao13 ks.length c13) StrR.st SP13.out HL3.out.1)
    have SC14 := Lib.hid (src_set (j := 6) (x := .slice ao13 ks.length c13) InsR.st SC13.out HL11.out.1)
    have SK14 := Lib.hid (src_set (j := 6) (x := .slice ao13 ks.length c13) CatR.st SK13.out HL13.out.1)
    generalize w13.setCell ⟨M, 6, none⟩ (.slice ao13 ks.length c13) = w14 at T14 XP14 XR14 XM14 SP14 SC14 SK14 ⊢
    clear k6 f6 hlM T13 XP13 XR13 XM13 SP13 SC13 SK13
    have m0 := XM14.out.cell 0 rfl
    have m1 := XM14.out.cell 1 rfl
    have m2 := XM14.out.cell 2 rfl
    have m3 := XM14.out.cell 3 rfl
    have m4 := XM14.out.cell 4 rfl
    have m5 := XM14.out.cell 5 rfl
    have m6 := XM14.out.cell 6 rfl
    have r0 := XR14.out.cell 0 rfl
    have fr0 := XR14.out.free 0
    have r1 := XR14.out.cell 1 rfl
    have fr1 := XR14.out.free 1
    have r2 := XR14.out.cell 2 rfl
    have fr2 := XR14.out.free 2
    have r3 := XR14.out.cell 3 rfl
    have fr3 := XR14.out.free 3
    have r4 := XR14.out.cell 4 rfl
    have fr4 := XR14.out.free 4
    have r5 := XR14.out.cell 5 rfl
    have fr5 := XR14.out.free 5
    have r6 := XR14.out.cell 6 rfl
    have fr6 := XR14.out.free 6
    have hltR := XR14.out.lt
    have hltM := XM14.out.lt
    go_wp2
    have tE := (((((((T14.out).set (I := R) HRL.out 0 (.string (S s1))).set (I := R) HRL.out 1 (.slice ao3 ps.length c3)).set (I := R) HRL.out 2 (.string (S s2))).set (I := R) HRL.out 3 (.bool false)).set (I := R) HRL.out 4 (.int .i64 z)).set (I := R) HRL.out 5 (.slice ao11 cd.length c11)).set (I := R) HRL.out 6 (.slice ao13 ks.length c13)
    have lE := load_mth (show Box _ R #[.string (S s1), .slice ao3 ps.length c3, .string (S s2), .bool false, .int .i64 z, .slice ao11 cd.length c11, .slice ao13 ks.length c13] 33 from (((((((XR14.out).set 0 (.string (S s1))).set 1 (.slice ao3 ps.length c3)).set 2 (.string (S s2))).set 3 (.bool false)).set 4 (.int .i64 z)).set 5 (.slice ao11 cd.length c11)).set 6 (.slice ao13 ks.length c13))
    have SPE := src_set (j := 6) (x := .slice ao13 ks.length c13) StrR.st (src_set (j := 5) (x := .slice ao11 cd.length c11) StrR.st (src_set (j := 4) (x := .int .i64 z) StrR.st (src_set (j := 3) (x := .bool false) StrR.st (src_set (j := 2) (x := .string (S s2)) StrR.st (src_set (j := 1) (x := .slice ao3 ps.length c3) StrR.st (src_set (j := 0) (x := .string (S s1)) StrR.st (SP14.out) HL3.out.2.1) HL3.out.2.1) HL3.out.2.1) HL3.out.2.1) HL3.out.2.1) HL3.out.2.1) HL3.out.2.1
    have SCE := src_set (j := 6) (x := .slice ao13 ks.length c13) InsR.st (src_set (j := 5) (x := .slice ao11 cd.length c11) InsR.st (src_set (j := 4) (x := .int .i64 z) InsR.st (src_set (j := 3) (x := .bool false) InsR.st (src_set (j := 2) (x := .string (S s2)) InsR.st (src_set (j := 1) (x := .slice ao3 ps.length c3) InsR.st (src_set (j := 0) (x := .string (S s1)) InsR.st (SC14.out) HL11.out.2.1) HL11.out.2.1) HL11.out.2.1) HL11.out.2.1) HL11.out.2.1) HL11.out.2.1) HL11.out.2.1
    have SKE := src_set (j := 6) (x := .slice ao13 ks.length c13) CatR.st (src_set (j := 5) (x := .slice ao11 cd.length c11) CatR.st (src_set (j := 4) (x := .int .i64 z) CatR.st (src_set (j := 3) (x := .bool false) CatR.st (src_set (j := 2) (x := .string (S s2)) CatR.st (src_set (j := 1) (x := .slice ao3 ps.length c3) CatR.st (src_set (j := 0) (x := .string (S s1)) CatR.st (SK14.out) HL13.out.2.1) HL13.out.2.1) HL13.out.2.1) HL13.out.2.1) HL13.out.2.1) HL13.out.2.1) HL13.out.2.1
    refine bodyPost_ret (v := .agg #[.string (S s1), .slice ao3 ps.length c3, .string (S s2), .bool false, .int .i64 z, .slice ao11 cd.length c11, .slice ao13 ks.length c13]) ?_ rfl ?_
    · simp [results, Tryz.results157, asAddr, lE]
    · refine ⟨⟨s1, ps, s2, false, z, cd, ks⟩, _, i13, err13, rfl, tE, ⟨_, _, _, rfl, StrR.st.srcMono SPE (fun k _ hk => Nat.le_trans HL3.out.2.2.2.2 hk), InsR.st.srcMono SCE (fun k _ hk => Nat.le_trans HL11.out.2.2.2.2 hk), CatR.st.srcMono SKE (fun k _ hk => Nat.le_trans HL13.out.2.2.2.2 hk)⟩, rfl, ⟨?_, ?_⟩, fun y r he hy hd => ?_⟩
      · exact ⟨Nat.le_trans S1.out (by decide), Nat.le_trans S2.out (by decide), fun x hx => Nat.le_trans (F3.out x hx) (by decide), fun x hx => Nat.le_trans (O11.out x hx).2 (by decide), fun x hx => Nat.le_trans (F13.out x hx).2 (by decide), Nat.le_trans N3.out (by decide), Nat.le_trans N11.out (by decide), Nat.le_trans N13.out (by decide)⟩
      · exact ⟨by rw [← HZ.out]; exact wrap_held N, fun x hx => (O11.out x hx).1, fun x hx => (F13.out x hx).1⟩
      · cases hya : y.abs with
        | true =>
          have hbb : y.bytes = y.head := by unfold Mth.bytes; rw [hya]; rfl
          rw [hbb] at hd
          obtain ⟨_, _, _, e4, _, _⟩ := HH.out y r he hy hd
          rw [hya] at e4
          cases e4
        | false =>
          have hbb : y.bytes = y.head ++ y.tail := by unfold Mth.bytes; rw [hya]; rfl
          rw [hbb, List.append_assoc] at hd
          obtain ⟨e1, e2, e3, _, e5, e6⟩ := HH.out y _ he hy hd
          have hd1 := drop_more hd rfl
          rw [← e5] at hd1
          have hr := hy.real hya
          have hn := hy.nums
          have hc := hy.code hya
          have hd2 : l.drop i6 = Lib.uvarint y.loc.toNat ++ (putL y.code ++ (listB Cat.bytes y.cats ++ r)) := by rw [hd1]; unfold Mth.tail; simp
          obtain ⟨q1, q2, q3⟩ := G9.out y.loc.toNat _ e6 (by omega) hd2
          have hd3 := drop_more hd2 rfl
          rw [← q2] at hd3
          obtain ⟨q4, q5, q6⟩ := G11.out y.code _ q3 hc.2 hc.1 hn.2.2.1 hd3
          have hd4 := drop_more hd3 rfl
          rw [← q5] at hd4
          obtain ⟨q7, q8, q9⟩ := G13.out y.cats r q6 (fun x hx => ⟨_, hn.2.2.1, hr.2.2.1 x hx⟩) hn.2.1 hd4
          have hz1 := wrap_small q1 (by omega) (by omega)
          rw [HZ.out] at hz1
          refine ⟨?_, ?_, q9⟩
          · obtain ⟨yn, yp, yr, ya, yl, yc, yk⟩ := y
            dsimp only at e1 e2 e3 hya hz1 q4 q7
            subst e1 e2 e3 hya hz1 q4 q7
            rfl
          · rw [q8, q5, q2, e5, hbb]
            unfold Mth.tail
            simp
            omega
end Go.Proofs.YtpincofjopmaaaaGreatDoor

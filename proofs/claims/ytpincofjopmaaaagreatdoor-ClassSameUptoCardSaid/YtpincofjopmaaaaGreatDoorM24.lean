/-
  The contract of package class's takeClass: some class, or THE class, if it was written there.
  Conditions: the tables hold what they hold at the start.
-/
import Derived.Test.YtpincofjopmaaaaGreatDoorM23
import Derived.Deep.DeepCutAuto
namespace Go.Proofs.YtpincofjopmaaaaGreatDoor
open Go.RowKit
attribute [local go_sem ↓] Go.wp_at_zero Go.wp_at_succ
theorem sizef_cls : (Tryz.prog.info? 26).map (·.size) = some 8 := by kernel_rfl
theorem load_cls {w : World} {B : Nat} {a b c d e g h k : Value} (hx : Box w B #[a, b, c, d, e, g, h, k] 26) : (loadVar 26 ⟨B, 0, none⟩).run Tryz.prog w = .ok (.agg #[a, b, c, d, e, g, h, k]) w :=
  run_loadVar_mid (P := Tryz.prog) w B 0 26 [a, b, c, d, e, g, h, k] _ hx.range Tryz.underlying26 rfl sizef_cls
theorem mth_set {L M j : Nat} {w : World} {m : Mth} {u x : Value} (h : MthR (fun k => L ≤ k) w m u) (hM : M < L) : MthR (fun k => L ≤ k) (w.setCell ⟨M, j, none⟩ x) m u :=
  MthR.st.keep h ((Only.refl (fun k => k = M) w).setCell (p := ⟨M, j, none⟩) rfl x) (fun k hk e => by have : L ≤ k := hk; omega)
theorem box8 {w : World} {M : Nat} {a b c d e g h k : Value} (hx : Box w M #[a, b, c, d, e, g, h, k] 26) : (w.cell? ⟨M, 0, none⟩ = some a ∧ w.cell? ⟨M, 1, none⟩ = some b ∧ w.cell? ⟨M, 2, none⟩ = some c ∧ w.cell? ⟨M, 3, none⟩ = some d ∧ w.cell? ⟨M, 4, none⟩ = some e ∧ w.cell? ⟨M, 5, none⟩ = some g ∧ w.cell? ⟨M, 6, none⟩ = some h ∧ w.cell? ⟨M, 7, none⟩ = some k) ∧ (∀ o, w.frozen? ⟨M, o, none⟩ = false) ∧ M < w.heap.size :=
  ⟨⟨hx.cell 0 rfl, hx.cell 1 rfl, hx.cell 2 rfl, hx.cell 3 rfl, hx.cell 4 rfl, hx.cell 5 rfl, hx.cell 6 rfl, hx.cell 7 rfl⟩, hx.free, hx.lt⟩
theorem fld_pos (y : Fld) : 1 ≤ y.bytes.length := by unfold Fld.bytes; simp only [List.length_append]; have := text_pos y.name; omega
theorem mth_pos (y : Mth) : 1 ≤ y.bytes.length := by
  have h : 1 ≤ y.head.length := by unfold Mth.head; simp only [List.length_append]; have := text_pos y.name; omega
  unfold Mth.bytes
  split
  · exact h
  · rw [List.length_append]; omega
set_option maxHeartbeats 4000000 in
set_option maxRecDepth 100000 in
theorem takec2_any {w0 w : World} {b c : Nat} {v : Value} {l : List UInt8} {i err : Nat} (r0 : RS w0 w b v l i err) (hT : CT w0) (hc : w.cell? ⟨c, 0, none⟩ = some (.pointer (some ⟨b, 0, none⟩))) :
    Calls Tryz.prog 156 #[.pointer (some ⟨c, 0, none⟩)] w (GiveG MthR 7 Mth.bytes Mth.Good Mth.fitM w0 b v l i err w) := by
  have t := TK.start r0
  have hbR : w.heap.size ≠ b := by have := t.blt; omega
  have HBR := Lib.hid hbR
  have T0 := Lib.hid (t.alloc (.cells #[.string ⟨#[]⟩, .slice none 0 0, .string ⟨#[]⟩, .bool false, .int .i64 0, .slice none 0 0, .slice none 0 0] 33))
  have X0 := Lib.hid (Box.new w #[.string ⟨#[]⟩, .slice none 0 0, .string ⟨#[]⟩, .bool false, .int .i64 0, .slice none 0 0, .slice none 0 0] 33)
  have HTF := Lib.hid (takemethod_any T0.out.rs hT)
  have hcA : (w.alloc (.cells #[.string ⟨#[]⟩, .slice none 0 0, .string ⟨#[]⟩, .bool false, .int .i64 0, .slice none 0 0, .slice none 0 0] 33)).cell? ⟨c, 0, none⟩ = some (.pointer (some ⟨b, 0, none⟩)) := ((Only.refl (fun _ => False) w).alloc _).cell hc id
  clear r0 hT t hbR hc
  go_enter Tryz.func156, Tryz.ntmps156
  go_wp2_with fail
  have HSZ : Hid (w.heap.size < (w.alloc (.cells #[.string ⟨#[]⟩, .slice none 0 0, .string ⟨#[]⟩, .bool false, .int .i64 0, .slice none 0 0, .slice none 0 0] 33)).heap.size) := Lib.hid (by simp)
  generalize w.alloc (.cells #[.string ⟨#[]⟩, .slice none 0 0, .string ⟨#[]⟩, .bool false, .int .i64 0, .slice none 0 0, .slice none 0 0] 33) = W0 at T0 X0 HTF hcA HSZ ⊢
  obtain ⟨B, hB⟩ : ∃ B, B = w.heap.size := ⟨_, rfl⟩
  rw [← hB] at HBR X0 ⊢
  have HBL : Hid (B < W0.heap.size) := Lib.hid (by rw [hB]; exact HSZ.out)
  have HLB : Hid (w.heap.size ≤ B) := Lib.hid (by omega)
  clear hB
  refine HTF.out.mono ?_
  rintro e w1 ⟨x, u, i1, err1, rfl, t1, hx, hsz, hfit, g⟩
  have T1 := Lib.hid (T0.out.got t1.on t1.rs.rd)
  have X1 := Lib.hid (X0.out.got t1.on HBR.out)
  have G1 := Lib.hid g
  have F1 := Lib.hid hfit
  have XR := Lib.hid hx
  obtain ⟨_, _, _, rfl, ⟨po, pc, rfl⟩, ⟨co, cc, rfl⟩, ⟨ko, kc, rfl⟩⟩ := mth_shape hx
  clear t1 hfit g hsz hcA HTF T0 X0 hx
  have c0 := X1.out.cell 0 rfl
  have f0 := X1.out.free 0
  have c1 := X1.out.cell 1 rfl
  have f1 := X1.out.free 1
  have c2 := X1.out.cell 2 rfl
  have f2 := X1.out.free 2
  have c3 := X1.out.cell 3 rfl
  have f3 := X1.out.free 3
  have c4 := X1.out.cell 4 rfl
  have f4 := X1.out.free 4
  have c5 := X1.out.cell 5 rfl
  have f5 := X1.out.free 5
  have c6 := X1.out.cell 6 rfl
  have f6 := X1.out.free 6
  have hlt := X1.out.lt
  go_wp2
  have tE := (((((((T1.out).set (I := B) HLB.out 0 (.string (S x.name))).set (I := B) HLB.out 1 (.slice po x.params.length pc)).set (I := B) HLB.out 2 (.string (S x.res))).set (I := B) HLB.out 3 (.bool x.abs)).set (I := B) HLB.out 4 (.int .i64 x.loc)).set (I := B) HLB.out 5 (.slice co x.code.length cc)).set (I := B) HLB.out 6 (.slice ko x.cats.length kc)
  have lE := load_mth (show Box _ B #[.string (S x.name), .slice po x.params.length pc, .string (S x.res), .bool x.abs, .int .i64 x.loc, .slice co x.code.length cc, .slice ko x.cats.length kc] 33 from (((((((X1.out).set 0 (.string (S x.name))).set 1 (.slice po x.params.length pc)).set 2 (.string (S x.res))).set 3 (.bool x.abs)).set 4 (.int .i64 x.loc)).set 5 (.slice co x.code.length cc)).set 6 (.slice ko x.cats.length kc))
  have xE := mth_set (j := 6) (x := .slice ko x.cats.length kc) (mth_set (j := 5) (x := .slice co x.code.length cc) (mth_set (j := 4) (x := .int .i64 x.loc) (mth_set (j := 3) (x := .bool x.abs) (mth_set (j := 2) (x := .string (S x.res)) (mth_set (j := 1) (x := .slice po x.params.length pc) (mth_set (j := 0) (x := .string (S x.name)) (XR.out) HBL.out) HBL.out) HBL.out) HBL.out) HBL.out) HBL.out) HBL.out
  refine bodyPost_ret (v := .agg #[.string (S x.name), .slice po x.params.length pc, .string (S x.res), .bool x.abs, .int .i64 x.loc, .slice co x.code.length cc, .slice ko x.cats.length kc]) ?_ rfl ?_
  · simp [results, Tryz.results156, asAddr, lE]
  · exact ⟨x, _, i1, err1, rfl, tE, MthR.st.mono xE (fun k _ hk => Nat.le_trans (Nat.le_of_lt HSZ.out) hk), rfl, F1.out, G1.out⟩
/-- What takeClass's first statement leaves: a class with its two names. -/
def NamedAt (w0 W : World) (b : Nat) (v : Value) (l : List UInt8) (i err : Nat) (sl : Value) (wx : World) : Prop :=
  ∃ (M : Nat) (s1 s2 : List UInt8) (i2 err2 : Nat), sl = .pointer (some ⟨M, 0, none⟩) ∧ W.heap.size ≤ M ∧ Box wx M #[.string (S s1), .string (S s2), .slice none 0 0, .bool false, .bool false, .bool false, .slice none 0 0, .slice none 0 0] 26 ∧ TK w0 W wx b v l i2 err2 ∧ s1.length ≤ 4096 ∧ s2.length ≤ 4096 ∧
    (∀ (y z r : List UInt8), err = 0 → goodT y → goodT z → l.drop i = textBytes y ++ (textBytes z ++ r) → s1 = y ∧ s2 = z ∧ i2 = i + ((textBytes y).length + (textBytes z).length) ∧ err2 = 0)
set_option maxHeartbeats 40000000 in
set_option maxRecDepth 100000 in
theorem takeclass_any {w0 w : World} {b : Nat} {v : Value} {l : List UInt8} {i err : Nat} (r0 : RS w0 w b v l i err) (hT : CT w0) :
    Calls Tryz.prog 95 #[.pointer (some ⟨b, 0, none⟩)] w (GiveG ClsR 8 Cls.bytes Cls.Good (fun c => c.Fit ∧ c.held) w0 b v l i err w) := by
  have hmf : ∀ (fn : Fn) (first cap : Array Value) (w : World), (Instr.makeFunc fn first cap).run Tryz.prog w = .ok (.func fn first cap) w := fun _ _ _ _ => rfl
  have HT := Lib.hid hT
  have t := TK.start r0
  have T0 := Lib.hid ((t.alloc (.cells #[.pointer (some ⟨b, 0, none⟩)] 127)).alloc (.cells #[.string ⟨#[]⟩, .string ⟨#[]⟩, .slice none 0 0, .bool false, .bool false, .bool false, .slice none 0 0, .slice none 0 0] 26))
  have XP0 := Lib.hid ((Box.new w #[.pointer (some ⟨b, 0, none⟩)] 127).below (w' := (w.alloc (.cells #[.pointer (some ⟨b, 0, none⟩)] 127)).alloc (.cells #[.string ⟨#[]⟩, .string ⟨#[]⟩, .slice none 0 0, .bool false, .bool false, .bool false, .slice none 0 0, .slice none 0 0] 26)) ((Below.refl _ _).alloc (Nat.le_refl _) _))
  have XR0 := Lib.hid (show Box ((w.alloc (.cells #[.pointer (some ⟨b, 0, none⟩)] 127)).alloc (.cells #[.string ⟨#[]⟩, .string ⟨#[]⟩, .slice none 0 0, .bool false, .bool false, .bool false, .slice none 0 0, .slice none 0 0] 26)) (w.heap.size + 1) #[.string ⟨#[]⟩, .string ⟨#[]⟩, .slice none 0 0, .bool false, .bool false, .bool false, .slice none 0 0, .slice none 0 0] 26 from by have q := Box.new (w.alloc (.cells #[.pointer (some ⟨b, 0, none⟩)] 127)) #[.string ⟨#[]⟩, .string ⟨#[]⟩, .slice none 0 0, .bool false, .bool false, .bool false, .slice none 0 0, .slice none 0 0] 26; simpa using q)
  have hPb : w.heap.size ≠ b := by have := t.blt; omega
  have hRb : w.heap.size + 1 ≠ b := by have := t.blt; omega
  clear r0 hT t
  go_enter Tryz.func95, Tryz.ntmps95
  go_upto_region 1 with fail
  generalize (w.alloc (.cells #[.pointer (some ⟨b, 0, none⟩)] 127)).alloc (.cells #[.string ⟨#[]⟩, .string ⟨#[]⟩, .slice none 0 0, .bool false, .bool false, .bool false, .slice none 0 0, .slice none 0 0] 26) = W0 at T0 XP0 XR0 ⊢
  obtain ⟨R, hR⟩ : ∃ R, R = w.heap.size + 1 := ⟨_, rfl⟩
  obtain ⟨P, hP⟩ : ∃ P, P = w.heap.size := ⟨_, rfl⟩
  rw [← hR] at XR0 hRb ⊢
  rw [← hP] at XP0 hPb ⊢
  have HPB := Lib.hid hPb
  have HRB := Lib.hid hRb
  have HPL : Hid (w.heap.size ≤ P) := Lib.hid (by omega)
  have HRL : Hid (w.heap.size ≤ R) := Lib.hid (by omega)
  clear hPb hRb hP hR
  go_cut [3] (NamedAt w0 W0 b v l i err)
  case first =>
    have HTX : Hid (∀ W i' err', TK w0 W0 W b v l i' err' → Calls Tryz.prog 149 #[.pointer (some ⟨b, 0, none⟩)] W fun e w' => ∃ s i2 err2, e = .returned (.string (S s)) ∧ s.length ≤ 4096 ∧ TK w0 W0 w' b v l i2 err2 ∧ Only (fun k => k = b) W w' ∧ (∀ (y r : List UInt8), err' = 0 → goodT y → l.drop i' = textBytes y ++ r → s = y ∧ i2 = i' + (textBytes y).length ∧ err2 = 0)) := Lib.hid (fun W i' err' t => (give_text t.rs HT.out).mono fun _ _ ⟨s, u, i2, err2, he, t2, hu, _, hf, g⟩ => ⟨s, i2, err2, by rw [he, hu], hf, t.got t2.on t2.rs.rd, t2.on, g⟩)
    have HSP : Hid (∀ W i' err', TK w0 W0 W b v l i' err' → W.cell? ⟨P, 0, none⟩ = some (.pointer (some ⟨b, 0, none⟩))) := Lib.hid (fun W i' err' t => (XP0.out.got t.on HPB.out).cell 0 rfl)
    have t0 := TK.start T0.out.rs
    have p0 := XP0.out.cell 0 rfl
    have hPl := XP0.out.lt
    have hbl := t0.blt
    first
    | (go_region_held (fun W => W.cell? ⟨P, 0, none⟩ = some (.pointer (some ⟨b, 0, none⟩))) (first | ((with_reducible apply HSP.out); (first | (with_reducible assumption) | (with_reducible (apply TK.drew; assumption)) | (with_reducible (apply TK.alloc; assumption)) | (with_reducible (apply TK.drew; apply TK.alloc; assumption)) | (with_reducible (apply TK.alloc; apply TK.drew; assumption)) | (with_reducible (apply TK.drew; apply TK.drew; assumption)) | (with_reducible (apply TK.drew; apply TK.drew; apply TK.alloc; assumption)) | (with_reducible (apply TK.drew; apply TK.alloc; apply TK.drew; assumption)))) | (with_reducible exact p0) | ((repeat ((with_reducible refine cell_set_ne ?_ ?_); (focus omega))); (with_reducible apply HSP.out); (first | (with_reducible assumption) | (with_reducible (apply TK.drew; assumption)) | (with_reducible (apply TK.alloc; assumption)) | (with_reducible (apply TK.drew; apply TK.alloc; assumption)) | (with_reducible (apply TK.alloc; apply TK.drew; assumption)) | (with_reducible (apply TK.drew; apply TK.drew; assumption)) | (with_reducible (apply TK.drew; apply TK.drew; apply TK.alloc; assumption)) | (with_reducible (apply TK.drew; apply TK.alloc; apply TK.drew; assumption)))))
        (first
         | (go_at_call 149; refine (HTX.out _ i1 err1 ?_).mono ?_; (focus (first | (with_reducible assumption) | (with_reducible (apply TK.drew; assumption)) | (with_reducible (apply TK.alloc; assumption)) | (with_reducible (apply TK.drew; apply TK.alloc; assumption)) | (with_reducible (apply TK.alloc; apply TK.drew; assumption)) | (with_reducible (apply TK.drew; apply TK.drew; assumption)) | (with_reducible (apply TK.drew; apply TK.drew; apply TK.alloc; assumption)) | (with_reducible (apply TK.drew; apply TK.alloc; apply TK.drew; assumption)))); rintro e w2 ⟨s2, i2, err2, rfl, hs2, t2, o2, g2⟩; (first | ((with_reducible have o3 : Only (fun k => k = b) (w1.alloc (.cells #[.string ⟨#[]⟩, .string ⟨#[]⟩, .slice none 0 0, .bool false, .bool false, .bool false, .slice none 0 0, .slice none 0 0] 26)) w2 := o2); have kx : Box w2 w1.heap.size #[.string ⟨#[]⟩, .string ⟨#[]⟩, .slice none 0 0, .bool false, .bool false, .bool false, .slice none 0 0, .slice none 0 0] 26 := o3.heap (Box.new w1 #[.string ⟨#[]⟩, .string ⟨#[]⟩, .slice none 0 0, .bool false, .bool false, .bool false, .slice none 0 0, .slice none 0 0] 26) (by omega); obtain ⟨⟨k0, k1, k2, k3, k4, k5, k6, k7⟩, kf, kl⟩ := box8 kx) | ((with_reducible have o3 : Only (fun k => k = b) (w1.alloc (.cells #[.string ⟨#[]⟩, .string ⟨#[]⟩, .slice none 0 0, .bool false, .bool false, .bool false, .slice none 0 0, .slice none 0 0] 26)).drew w2 := o2); have kx : Box w2 w1.heap.size #[.string ⟨#[]⟩, .string ⟨#[]⟩, .slice none 0 0, .bool false, .bool false, .bool false, .slice none 0 0, .slice none 0 0] 26 := o3.heap (Box.new w1 #[.string ⟨#[]⟩, .string ⟨#[]⟩, .slice none 0 0, .bool false, .bool false, .bool false, .slice none 0 0, .slice none 0 0] 26) (by omega); obtain ⟨⟨k0, k1, k2, k3, k4, k5, k6, k7⟩, kf, kl⟩ := box8 kx) | ((with_reducible have o3 : Only (fun k => k = b) (W0.alloc (.cells #[.string ⟨#[]⟩, .string ⟨#[]⟩, .slice none 0 0, .bool false, .bool false, .bool false, .slice none 0 0, .slice none 0 0] 26)) w1 := o1); have kx : Box w2 W0.heap.size #[.string ⟨#[]⟩, .string ⟨#[]⟩, .slice none 0 0, .bool false, .bool false, .bool false, .slice none 0 0, .slice none 0 0] 26 := o2.heap (o3.heap (Box.new W0 #[.string ⟨#[]⟩, .string ⟨#[]⟩, .slice none 0 0, .bool false, .bool false, .bool false, .slice none 0 0, .slice none 0 0] 26) (by omega)) (by omega); obtain ⟨⟨k0, k1, k2, k3, k4, k5, k6, k7⟩, kf, kl⟩ := box8 kx) | ((with_reducible have o3 : Only (fun k => k = b) (W0.alloc (.cells #[.string ⟨#[]⟩, .string ⟨#[]⟩, .slice none 0 0, .bool false, .bool false, .bool false, .slice none 0 0, .slice none 0 0] 26)).drew w1 := o1); have kx : Box w2 W0.heap.size #[.string ⟨#[]⟩, .string ⟨#[]⟩, .slice none 0 0, .bool false, .bool false, .bool false, .slice none 0 0, .slice none 0 0] 26 := o2.heap (o3.heap (Box.new W0 #[.string ⟨#[]⟩, .string ⟨#[]⟩, .slice none 0 0, .bool false, .bool false, .bool false, .slice none 0 0, .slice none 0 0] 26) (by omega)) (by omega); obtain ⟨⟨k0, k1, k2, k3, k4, k5, k6, k7⟩, kf, kl⟩ := box8 kx) | skip))
         | (go_at_call 149; refine (HTX.out _ i err ?_).mono ?_; (focus (first | exact t0 | exact t0.drew | exact t0.alloc _ | exact (t0.alloc _).drew)); rintro e w1 ⟨s1, i1, err1, rfl, hs1, t1, o1, g1⟩; have hw1 := t1.on.size)))
    | fail
    ·
      have hg : ∀ (y z r : List UInt8), err = 0 → goodT y → goodT z → l.drop i = textBytes y ++ (textBytes z ++ r) → s1 = y ∧ s2 = z ∧ i2 = i + ((textBytes y).length + (textBytes z).length) ∧ err2 = 0 := fun y z r he hy hz hd => by
        obtain ⟨e1, e2, e3⟩ := g1 y _ he hy hd
        have hd2 := drop_more hd rfl
        rw [← e2] at hd2
        obtain ⟨e4, e5, e6⟩ := g2 z r e3 hz hd2
        exact ⟨e1, e4, by rw [e5, e2]; omega, e6⟩
      have HG := Lib.hid hg
      have hw2 := t2.on.size
      clear hg g1 g2
      go_wp2_with fail
      go_meet
      exact ⟨w2.heap.size, s1, s2, i2, err2, rfl, hw2, Box.new w2 _ _, t2.alloc _, hs1, hs2, HG.out⟩
    ·
      have hg : ∀ (y z r : List UInt8), err = 0 → goodT y → goodT z → l.drop i = textBytes y ++ (textBytes z ++ r) → s1 = y ∧ s2 = z ∧ i2 = i + ((textBytes y).length + (textBytes z).length) ∧ err2 = 0 := fun y z r he hy hz hd => by
        obtain ⟨e1, e2, e3⟩ := g1 y _ he hy hd
        have hd2 := drop_more hd rfl
        rw [← e2] at hd2
        obtain ⟨e4, e5, e6⟩ := g2 z r e3 hz hd2
        exact ⟨e1, e4, by rw [e5, e2]; omega, e6⟩
      have HG := Lib.hid hg
      have hw2 := t2.on.size
      clear hg g1 g2
      go_wp2_with fail
      go_meet
      exact ⟨w1.heap.size, s1, s2, i2, err2, rfl, hw1, (((((((((show Box w2 _ _ _ from kx)).set 0 (.string (S s1))).set 1 (.string (S s2))).set 2 (.slice none 0 0)).set 3 (.bool false)).set 4 (.bool false)).set 5 (.bool false)).set 6 (.slice none 0 0)).set 7 (.slice none 0 0), ((((((((t2).set (I := _) (by omega) 0 (.string (S s1))).set (I := _) (by omega) 1 (.string (S s2))).set (I := _) (by omega) 2 (.slice none 0 0)).set (I := _) (by omega) 3 (.bool false)).set (I := _) (by omega) 4 (.bool false)).set (I := _) (by omega) 5 (.bool false)).set (I := _) (by omega) 6 (.slice none 0 0)).set (I := _) (by omega) 7 (.slice none 0 0), hs1, hs2, HG.out⟩
    ·
      have hg : ∀ (y z r : List UInt8), err = 0 → goodT y → goodT z → l.drop i = textBytes y ++ (textBytes z ++ r) → s1 = y ∧ s2 = z ∧ i2 = i + ((textBytes y).length + (textBytes z).length) ∧ err2 = 0 := fun y z r he hy hz hd => by
        obtain ⟨e1, e2, e3⟩ := g1 y _ he hy hd
        have hd2 := drop_more hd rfl
        rw [← e2] at hd2
        obtain ⟨e4, e5, e6⟩ := g2 z r e3 hz hd2
        exact ⟨e1, e4, by rw [e5, e2]; omega, e6⟩
      have HG := Lib.hid hg
      have hw2 := t2.on.size
      clear hg g1 g2
      go_wp2_with fail
      go_meet
      exact ⟨W0.heap.size, s1, s2, i2, err2, rfl, Nat.le_refl _, (((((((((show Box w2 _ _ _ from kx)).set 0 (.string (S s1))).set 1 (.string (S s2))).set 2 (.slice none 0 0)).set 3 (.bool false)).set 4 (.bool false)).set 5 (.bool false)).set 6 (.slice none 0 0)).set 7 (.slice none 0 0), ((((((((t2).set (I := _) (by omega) 0 (.string (S s1))).set (I := _) (by omega) 1 (.string (S s2))).set (I := _) (by omega) 2 (.slice none 0 0)).set (I := _) (by omega) 3 (.bool false)).set (I := _) (by omega) 4 (.bool false)).set (I := _) (by omega) 5 (.bool false)).set (I := _) (by omega) 6 (.slice none 0 0)).set (I := _) (by omega) 7 (.slice none 0 0), hs1, hs2, HG.out⟩
  case rest =>
    obtain ⟨M, s1, s2, i2, err2, rfl, hM, xm, t2, hs1, hs2, g2⟩ := hcut
    have T2 := Lib.hid (T0.out.got t2.on t2.rs.rd)
    have XP2 := Lib.hid (XP0.out.got t2.on HPB.out)
    have XR2 := Lib.hid (XR0.out.got t2.on HRB.out)
    have XM2 := Lib.hid xm
    have G2 := Lib.hid g2
    have S1 := Lib.hid hs1
    have S2 := Lib.hid hs2
    have HMB : Hid (M ≠ b) := Lib.hid (by have := t2.blt; omega)
    have HPM : Hid (P ≠ M) := Lib.hid (by have := XP0.out.lt; omega)
    have HRM : Hid (R ≠ M) := Lib.hid (by have := XR0.out.lt; omega)
    have HML : Hid (w.heap.size ≤ M) := Lib.hid (Nat.le_trans T0.out.on.size hM)
    clear hM xm t2 hs1 hs2 g2 T0 XP0 XR0
    have p2 := XP2.out.cell 0 rfl
    go_wp2_with fail
    refine (takel_str 149 #[.pointer (some ⟨b, 0, none⟩)] #[] textBytes goodT fitT 32 T2.out.rs (enters_fn Tryz.func149 (by kernel_rfl) rfl) (fun wr i' err' t => give_text t.rs HT.out) text_pos (by decide)).mono ?_
    rintro e w3 ⟨vs3, ps, us3, i3, err3, rfl, row3, hn3, hf3, t3, g3⟩
    obtain ⟨ao3, c3, rfl⟩ := row3.shape
    have T3 := Lib.hid (T2.out.got t3.on t3.rs.rd)
    have XP3 := Lib.hid (XP2.out.got t3.on HPB.out)
    have XR3 := Lib.hid (XR2.out.got t3.on HRB.out)
    have XM3 := Lib.hid (XM2.out.got t3.on HMB.out)
    have SP3 := Lib.hid (row3.src StrR.st)
    have HL3 : Hid (M < wc.heap.size ∧ R < wc.heap.size ∧ P < wc.heap.size ∧ b < wc.heap.size ∧ w.heap.size ≤ wc.heap.size) := Lib.hid ⟨XM2.out.lt, XR2.out.lt, XP2.out.lt, t3.blt, T2.out.on.size⟩
    have G3 := Lib.hid g3
    have N3 := Lib.hid hn3
    have F3 := Lib.hid hf3
    clear row3 hn3 hf3 t3 g3 T2 XP2 XR2 XM2 
    generalize wc.heap.size = L3 at SP3 HL3
    have k2 := XM3.out.cell 2 rfl
    have f2 := XM3.out.free 2
    have p3 := XP3.out.cell 0 rfl
    go_upto_region 4 with fail
    have T4 := Lib.hid (T3.out.set (I := M) HML.out 2 (.slice ao3 ps.length c3))
    have XP4 := Lib.hid (XP3.out.set_ne HPM.out 2 (.slice ao3 ps.length c3))
    have XR4 := Lib.hid (XR3.out.set_ne HRM.out 2 (.slice ao3 ps.length c3))
    have XM4 := Lib.hid (show Box _ M #[.string (S s1), .string (S s2), .slice ao3 ps.length c3, .bool false, .bool false, .bool false, .slice none 0 0, .slice none 0 0] 26 from XM3.out.set 2 (.slice ao3 ps.length c3))
    have SP4 := Lib.hid (src_set (j := 2) (x := .slice ao3 ps.length c3) StrR.st SP3.out HL3.out.1)
    generalize w3.setCell ⟨M, 2, none⟩ (.slice ao3 ps.length c3) = w4 at T4 XP4 XR4 XM4 SP4 ⊢
    clear k2 f2 p2 p3 T3 XP3 XR3 XM3 SP3
    have HFL : Hid (∀ W i' err', TK w0 w4 W b v l i' err' → Calls Tryz.prog 151 #[.pointer (some ⟨b, 0, none⟩)] W fun e w' => ∃ t i2 err2, e = .returned (.bool t) ∧ TK w0 w4 w' b v l i2 err2 ∧ (∀ (q : Bool) (r : List UInt8), err' = 0 → l.drop i' = flagByte q :: r → t = q ∧ i2 = i' + 1 ∧ err2 = 0)) := Lib.hid (fun W i' err' t => (give_flag t.rs).mono fun _ _ ⟨q, i2, err2, he, t2, g⟩ => ⟨q, i2, err2, he, t.got t2.on t2.rs.rd, g⟩)
    have HSP : Hid (∀ W i' err', TK w0 w4 W b v l i' err' → W.cell? ⟨P, 0, none⟩ = some (.pointer (some ⟨b, 0, none⟩))) := Lib.hid (fun W i' err' t => (XP4.out.got t.on HPB.out).cell 0 rfl)
    have p4 := XP4.out.cell 0 rfl
    have t0 := TK.start T4.out.rs
    first
    | (go_region_held (fun W => W.cell? ⟨P, 0, none⟩ = some (.pointer (some ⟨b, 0, none⟩))) ((first | (with_reducible (apply HSP.out; assumption)) | (with_reducible (apply HSP.out; apply TK.drew; assumption)) | ((with_reducible refine cell_set_ne HPM.out ?_); (first | (with_reducible (apply HSP.out; assumption)) | (with_reducible (apply HSP.out; apply TK.drew; assumption)))) | ((with_reducible refine cell_set_ne HPM.out ?_); (with_reducible refine cell_set_ne HPM.out ?_); (first | (with_reducible (apply HSP.out; assumption)) | (with_reducible (apply HSP.out; apply TK.drew; assumption)))) | ((with_reducible refine cell_set_ne HPM.out ?_); (with_reducible refine cell_set_ne HPM.out ?_); (with_reducible refine cell_set_ne HPM.out ?_); (first | (with_reducible (apply HSP.out; assumption)) | (with_reducible (apply HSP.out; apply TK.drew; assumption))))))
        (first
         | (go_at_call 151; refine (HFL.out _ i6 err6 ?_).mono ?_; (focus (first | (with_reducible assumption) | (with_reducible (apply TK.drew; assumption)))); rintro e w7 ⟨b3, i7, err7, rfl, t7, g7⟩; have k3 := (XM4.out.got t7.on HMB.out).cell 3 rfl; have f3 := (XM4.out.got t7.on HMB.out).free 3; have k4 := (XM4.out.got t7.on HMB.out).cell 4 rfl; have f4 := (XM4.out.got t7.on HMB.out).free 4; have k5 := (XM4.out.got t7.on HMB.out).cell 5 rfl; have f5 := (XM4.out.got t7.on HMB.out).free 5; have hlM := (XM4.out.got t7.on HMB.out).lt)
         | (go_at_call 151; refine (HFL.out _ i5 err5 ?_).mono ?_; (focus (first | (with_reducible assumption) | (with_reducible (apply TK.drew; assumption)))); rintro e w6 ⟨b2, i6, err6, rfl, t6, g6⟩)
         | (go_at_call 151; refine (HFL.out _ i3 err3 ?_).mono ?_; (focus (first | (with_reducible assumption) | (with_reducible (apply TK.drew; assumption)))); rintro e w5 ⟨b1, i5, err5, rfl, t5, g5⟩)))
    | fail
    have T7 := Lib.hid (T4.out.got t7.on t7.rs.rd)
    have XP7 := Lib.hid (XP4.out.got t7.on HPB.out)
    have XR7 := Lib.hid (XR4.out.got t7.on HRB.out)
    have XM7 := Lib.hid (XM4.out.got t7.on HMB.out)
    have SP7 := Lib.hid (src_got StrR.st SP4.out t7.on HL3.out.2.2.2.1)
    have G5 := Lib.hid g5
    have G6 := Lib.hid g6
    have G7 := Lib.hid g7
    clear t5 t6 t7 g5 g6 g7 k3 f3 k4 f4 k5 f5 hlM t0 p4 HFL HSP T4 XP4 XR4 XM4 SP4
    have T8 := Lib.hid (T7.out.set (I := M) HML.out 3 (.bool b1))
    have XP8 := Lib.hid (XP7.out.set_ne HPM.out 3 (.bool b1))
    have XR8 := Lib.hid (XR7.out.set_ne HRM.out 3 (.bool b1))
    have XM8 := Lib.hid (show Box _ M #[.string (S s1), .string (S s2), .slice ao3 ps.length c3, .bool b1, .bool false, .bool false, .slice none 0 0, .slice none 0 0] 26 from XM7.out.set 3 (.bool b1))
    have SP8 := Lib.hid (src_set (j := 3) (x := .bool b1) StrR.st SP7.out HL3.out.1)
    have T9 := Lib.hid (T8.out.set (I := M) HML.out 4 (.bool b2))
    have XP9 := Lib.hid (XP8.out.set_ne HPM.out 4 (.bool b2))
    have XR9 := Lib.hid (XR8.out.set_ne HRM.out 4 (.bool b2))
    have XM9 := Lib.hid (show Box _ M #[.string (S s1), .string (S s2), .slice ao3 ps.length c3, .bool b1, .bool b2, .bool false, .slice none 0 0, .slice none 0 0] 26 from XM8.out.set 4 (.bool b2))
    have SP9 := Lib.hid (src_set (j := 4) (x := .bool b2) StrR.st SP8.out HL3.out.1)
    have T10 := Lib.hid (T9.out.set (I := M) HML.out 5 (.bool b3))
    have XP10 := Lib.hid (XP9.out.set_ne HPM.out 5 (.bool b3))
    have XR10 := Lib.hid (XR9.out.set_ne HRM.out 5 (.bool b3))
    have XM10 := Lib.hid (show Box _ M #[.string (S s1), .string (S s2), .slice ao3 ps.length c3, .bool b1, .bool b2, .bool b3, .slice none 0 0, .slice none 0 0] 26 from XM9.out.set 5 (.bool b3))
    have SP10 := Lib.hid (src_set (j := 5) (x := .bool b3) StrR.st SP9.out HL3.out.1)
    generalize ((w7.setCell ⟨M, 3, none⟩ (.bool b1)).setCell ⟨M, 4, none⟩ (.bool b2)).setCell ⟨M, 5, none⟩ (.bool b3) = w10 at T10 XP10 XR10 XM10 SP10 ⊢
    clear T7 XP7 XR7 XM7 SP7 T8 XP8 XR8 XM8 SP8 T9 XP9 XR9 XM9 SP9
    have p10 := XP10.out.cell 0 rfl
    go_wp2_with fail
    refine (takel_fld 153 #[] #[.pointer (some ⟨P, 0, none⟩)] Fld.bytes (fun y => y.ok = true) Fld.fit 32 T10.out.rs (enters_fn Tryz.func153 (by kernel_rfl) rfl) (fun wr i' err' t => takec1_any t.rs HT.out ((XP10.out.got t.on HPB.out).cell 0 rfl)) fld_pos (by decide)).mono ?_
    rintro e w11 ⟨vs11, fs, us11, i11, err11, rfl, row11, hn11, hf11, t11, g11⟩
    obtain ⟨ao11, c11, rfl⟩ := row11.shape
    have T11 := Lib.hid (T10.out.got t11.on t11.rs.rd)
    have XP11 := Lib.hid (XP10.out.got t11.on HPB.out)
    have XR11 := Lib.hid (XR10.out.got t11.on HRB.out)
    have XM11 := Lib.hid (XM10.out.got t11.on HMB.out)
    have SP11 := Lib.hid (src_got StrR.st SP10.out t11.on HL3.out.2.2.2.1)
    have SF11 := Lib.hid (row11.src FldR.st)
    have HL11 : Hid (M < w10.heap.size ∧ R < w10.heap.size ∧ P < w10.heap.size ∧ b < w10.heap.size ∧ w.heap.size ≤ w10.heap.size) := Lib.hid ⟨XM10.out.lt, XR10.out.lt, XP10.out.lt, t11.blt, T10.out.on.size⟩
    have G11 := Lib.hid g11
    have N11 := Lib.hid hn11
    have F11 := Lib.hid hf11
    clear row11 hn11 hf11 t11 g11 T10 XP10 XR10 XM10 SP10
    generalize w10.heap.size = L11 at SF11 HL11
    clear p10
    have k6 := XM11.out.cell 6 rfl
    have f6 := XM11.out.free 6
    have p11 := cell_set_ne (j := 6) (x := .slice ao11 fs.length c11) HPM.out (XP11.out.cell 0 rfl)
    have hlM := XM11.out.lt
    go_wp2_with fail
    have T12 := Lib.hid (T11.out.set (I := M) HML.out 6 (.slice ao11 fs.length c11))
    have XP12 := Lib.hid (XP11.out.set_ne HPM.out 6 (.slice ao11 fs.length c11))
    have XR12 := Lib.hid (XR11.out.set_ne HRM.out 6 (.slice ao11 fs.length c11))
    have XM12 := Lib.hid (show Box _ M #[.string (S s1), .string (S s2), .slice ao3 ps.length c3, .bool b1, .bool b2, .bool b3, .slice ao11 fs.length c11, .slice none 0 0] 26 from XM11.out.set 6 (.slice ao11 fs.length c11))
    have SP12 := Lib.hid (src_set (j := 6) (x := .slice ao11 fs.length c11) StrR.st SP11.out HL3.out.1)
    have SF12 := Lib.hid (src_set (j := 6) (x := .slice ao11 fs.length c11) FldR.st SF11.out HL11.out.1)
    generalize w11.setCell ⟨M, 6, none⟩ (.slice ao11 fs.length c11) = w12 at T12 XP12 XR12 XM12 SP12 SF12 ⊢
    clear k6 f6 p11 hlM T11 XP11 XR11 XM11 SP11 SF11
    refine (takel_mth 156 #[] #[.pointer (some ⟨P, 0, none⟩)] Mth.bytes Mth.Good Mth.fitM 32 T12.out.rs (enters_fn Tryz.func156 (by kernel_rfl) rfl) (fun wr i' err' t => takec2_any t.rs HT.out ((XP12.out.got t.on HPB.out).cell 0 rfl)) mth_pos (by decide)).mono ?_
    rintro e w13 ⟨vs13, ms, us13, i13, err13, rfl, row13, hn13, hf13, t13, g13⟩
    obtain ⟨ao13, c13, rfl⟩ := row13.shape
    have T13 := Lib.hid (T12.out.got t13.on t13.rs.rd)
    have XP13 := Lib.hid (XP12.out.got t13.on HPB.out)
    have XR13 := Lib.hid (XR12.out.got t13.on HRB.out)
    have XM13 := Lib.hid (XM12.out.got t13.on HMB.out)
    have SP13 := Lib.hid (src_got StrR.st SP12.out t13.on HL3.out.2.2.2.1)
    have SF13 := Lib.hid (src_got FldR.st SF12.out t13.on HL11.out.2.2.2.1)
    have SM13 := Lib.hid (row13.src MthR.st)
    have HL13 : Hid (M < w12.heap.size ∧ R < w12.heap.size ∧ P < w12.heap.size ∧ b < w12.heap.size ∧ w.heap.size ≤ w12.heap.size) := Lib.hid ⟨XM12.out.lt, XR12.out.lt, XP12.out.lt, t13.blt, T12.out.on.size⟩
    have G13 := Lib.hid g13
    have N13 := Lib.hid hn13
    have F13 := Lib.hid hf13
    clear row13 hn13 hf13 t13 g13 T12 XP12 XR12 XM12 SP12 SF12
    generalize w12.heap.size = L13 at SM13 HL13
    have k7 := XM13.out.cell 7 rfl
    have f7 := XM13.out.free 7
    have hlM := XM13.out.lt
    go_upto_region 6 with fail
    have T14 := Lib.hid (T13.out.set (I := M) HML.out 7 (.slice ao13 ms.length c13))
    have XP14 := Lib.hid (XP13.out.set_ne HPM.out 7 (.slice ao13 ms.length c13))
    have XR14 := Lib.hid (XR13.out.set_ne HRM.out 7 (.slice ao13 ms.length c13))
    have XM14 := Lib.hid (show Box _ M #[.string (S s1), .string (S s2), .slice ao3 ps.length c3, .bool b1, .bool b2, .bool b3, .slice ao11 fs.length c11, .slice ao13 ms.length c13] 26 from XM13.out.set 7 (.slice ao13 ms.length c13))
    have SP14 := Lib.hid (src_set (j := 7) (x := .slice ao13 ms.length c13) StrR.st SP13.out HL3.out.1)
    have SF14 := Lib.hid (src_set (j := 7) (x := .slice ao13 ms.length c13) FldR.st SF13.out HL11.out.1)
    have SM14 := Lib.hid (src_set (j := 7) (x := .slice ao13 ms.length c13) MthR.st SM13.out HL13.out.1)
    generalize w13.setCell ⟨M, 7, none⟩ (.slice ao13 ms.length c13) = w14 at T14 XP14 XR14 XM14 SP14 SF14 SM14 ⊢
    clear k7 f7 hlM T13 XP13 XR13 XM13 SP13 SF13 SM13
    have m0 := XM14.out.cell 0 rfl
    have m1 := XM14.out.cell 1 rfl
    have m2 := XM14.out.cell 2 rfl
    have m3 := XM14.out.cell 3 rfl
    have m4 := XM14.out.cell 4 rfl
    have m5 := XM14.out.cell 5 rfl
    have m6 := XM14.out.cell 6 rfl
    have m7 := XM14.out.cell 7 rfl
    have r0 := XR14.out.cell 0 rfl
    have fr0 := XR14.out.free 0
    have r1 := XR14.out.cell 1 rfl
    have fr1 := XR14.out.free 1
    have r2 := XR14.out.cell 2 rfl
    have fr2 := XR14.out.free 2
    have r3 := XR14.out.cell 3 rfl
    have fr3 := XR14.out.free 3
    have r4 := XR14.out.cell 4 rfl
    have fr4 := XR14.out.free 4
    have r5 := XR14.out.cell 5 rfl
    have fr5 := XR14.out.free 5
    have r6 := XR14.out.cell 6 rfl
    have fr6 := XR14.out.free 6
    have r7 := XR14.out.cell 7 rfl
    have fr7 := XR14.out.free 7
    have hltR := XR14.out.lt
    have hltM := XM14.out.lt
    go_wp2
    have xb0 := (show Box _ R #[.string (S s1), .string ⟨#[]⟩, .slice none 0 0, .bool false, .bool false, .bool false, .slice none 0 0, .slice none 0 0] 26 from XR14.out.set 0 (.string (S s1)))
    have xb1 := (show Box _ R #[.string (S s1), .string (S s2), .slice none 0 0, .bool false, .bool false, .bool false, .slice none 0 0, .slice none 0 0] 26 from xb0.set 1 (.string (S s2)))
    have xb2 := (show Box _ R #[.string (S s1), .string (S s2), .slice ao3 ps.length c3, .bool false, .bool false, .bool false, .slice none 0 0, .slice none 0 0] 26 from xb1.set 2 (.slice ao3 ps.length c3))
    have xb3 := (show Box _ R #[.string (S s1), .string (S s2), .slice ao3 ps.length c3, .bool b1, .bool false, .bool false, .slice none 0 0, .slice none 0 0] 26 from xb2.set 3 (.bool b1))
    have xb4 := (show Box _ R #[.string (S s1), .string (S s2), .slice ao3 ps.length c3, .bool b1, .bool b2, .bool false, .slice none 0 0, .slice none 0 0] 26 from xb3.set 4 (.bool b2))
    have xb5 := (show Box _ R #[.string (S s1), .string (S s2), .slice ao3 ps.length c3, .bool b1, .bool b2, .bool b3, .slice none 0 0, .slice none 0 0] 26 from xb4.set 5 (.bool b3))
    have xb6 := (show Box _ R #[.string (S s1), .string (S s2), .slice ao3 ps.length c3, .bool b1, .bool b2, .bool b3, .slice ao11 fs.length c11, .slice none 0 0] 26 from xb5.set 6 (.slice ao11 fs.length c11))
    have xb7 := (show Box _ R #[.string (S s1), .string (S s2), .slice ao3 ps.length c3, .bool b1, .bool b2, .bool b3, .slice ao11 fs.length c11, .slice ao13 ms.length c13] 26 from xb6.set 7 (.slice ao13 ms.length c13))
    have tE := ((((((((T14.out).set (I := R) HRL.out 0 (.string (S s1))).set (I := R) HRL.out 1 (.string (S s2))).set (I := R) HRL.out 2 (.slice ao3 ps.length c3)).set (I := R) HRL.out 3 (.bool b1)).set (I := R) HRL.out 4 (.bool b2)).set (I := R) HRL.out 5 (.bool b3)).set (I := R) HRL.out 6 (.slice ao11 fs.length c11)).set (I := R) HRL.out 7 (.slice ao13 ms.length c13)
    have lE := load_cls xb7
    have SPE := src_set (j := 7) (x := .slice ao13 ms.length c13) StrR.st (src_set (j := 6) (x := .slice ao11 fs.length c11) StrR.st (src_set (j := 5) (x := .bool b3) StrR.st (src_set (j := 4) (x := .bool b2) StrR.st (src_set (j := 3) (x := .bool b1) StrR.st (src_set (j := 2) (x := .slice ao3 ps.length c3) StrR.st (src_set (j := 1) (x := .string (S s2)) StrR.st (src_set (j := 0) (x := .string (S s1)) StrR.st (SP14.out) HL3.out.2.1) HL3.out.2.1) HL3.out.2.1) HL3.out.2.1) HL3.out.2.1) HL3.out.2.1) HL3.out.2.1) HL3.out.2.1
    have SFE := src_set (j := 7) (x := .slice ao13 ms.length c13) FldR.st (src_set (j := 6) (x := .slice ao11 fs.length c11) FldR.st (src_set (j := 5) (x := .bool b3) FldR.st (src_set (j := 4) (x := .bool b2) FldR.st (src_set (j := 3) (x := .bool b1) FldR.st (src_set (j := 2) (x := .slice ao3 ps.length c3) FldR.st (src_set (j := 1) (x := .string (S s2)) FldR.st (src_set (j := 0) (x := .string (S s1)) FldR.st (SF14.out) HL11.out.2.1) HL11.out.2.1) HL11.out.2.1) HL11.out.2.1) HL11.out.2.1) HL11.out.2.1) HL11.out.2.1) HL11.out.2.1
    have SME := src_set (j := 7) (x := .slice ao13 ms.length c13) MthR.st (src_set (j := 6) (x := .slice ao11 fs.length c11) MthR.st (src_set (j := 5) (x := .bool b3) MthR.st (src_set (j := 4) (x := .bool b2) MthR.st (src_set (j := 3) (x := .bool b1) MthR.st (src_set (j := 2) (x := .slice ao3 ps.length c3) MthR.st (src_set (j := 1) (x := .string (S s2)) MthR.st (src_set (j := 0) (x := .string (S s1)) MthR.st (SM14.out) HL13.out.2.1) HL13.out.2.1) HL13.out.2.1) HL13.out.2.1) HL13.out.2.1) HL13.out.2.1) HL13.out.2.1) HL13.out.2.1
    refine bodyPost_ret (v := .agg #[.string (S s1), .string (S s2), .slice ao3 ps.length c3, .bool b1, .bool b2, .bool b3, .slice ao11 fs.length c11, .slice ao13 ms.length c13]) ?_ rfl ?_
    · simp [results, Tryz.results95, asAddr, lE]
    · refine ⟨⟨s1, s2, ps, b1, b2, b3, fs, ms⟩, _, i13, err13, rfl, tE, ⟨_, _, _, rfl, StrR.st.srcMono SPE (fun k _ hk => Nat.le_trans HL3.out.2.2.2.2 hk), FldR.st.srcMono SFE (fun k _ hk => Nat.le_trans HL11.out.2.2.2.2 hk), MthR.st.srcMono SME (fun k _ hk => Nat.le_trans HL13.out.2.2.2.2 hk)⟩, rfl, ⟨?_, ?_⟩, fun y r he hy hd => ?_⟩
      · exact ⟨Nat.le_trans S1.out (by decide), Nat.le_trans S2.out (by decide), fun x hx => Nat.le_trans (F3.out x hx) (by decide), fun x hx => ⟨Nat.le_trans (F11.out x hx).1 (by decide), Nat.le_trans (F11.out x hx).2 (by decide)⟩, fun x hx => (F13.out x hx).1, Nat.le_trans N3.out (by decide), Nat.le_trans N11.out (by decide), Nat.le_trans N13.out (by decide)⟩
      · exact fun x hx => (F13.out x hx).2
      · have hd1 : l.drop i = textBytes y.name ++ (textBytes y.sup ++ (listB textBytes y.like ++ ([flagByte y.itf] ++ ([flagByte y.abs] ++ ([flagByte y.fin] ++ (listB Fld.bytes y.flds ++ (listB Mth.bytes y.mths ++ r))))))) := by rw [hd]; unfold Cls.bytes; simp
        obtain ⟨e1, e2, e3, e4⟩ := G2.out y.name y.sup _ he ⟨by have := classB_len hy.name; omega, classB_valid hy.name⟩ ⟨by have := classB_len hy.above.1; omega, classB_valid hy.above.1⟩ hd1
        have hd2 := drop_more (drop_more hd1 rfl) rfl
        rw [Nat.add_assoc, ← e3] at hd2
        obtain ⟨e5, e6, e7⟩ := G3.out y.like _ e4 (fun x hx => ⟨by have := classB_len (hy.above.2 x hx); omega, classB_valid (hy.above.2 x hx)⟩) hy.nums.1 hd2
        have hd3 := drop_more hd2 rfl
        rw [← e6] at hd3
        obtain ⟨e8, e9, e10⟩ := G5.out y.itf _ e7 hd3
        have hd4 := drop_more hd3 (show 1 = _ from rfl)
        rw [← e9] at hd4
        obtain ⟨e11, e12, e13⟩ := G6.out y.abs _ e10 hd4
        have hd5 := drop_more hd4 (show 1 = _ from rfl)
        rw [← e12] at hd5
        obtain ⟨e14, e15, e16⟩ := G7.out y.fin _ e13 hd5
        have hd6 := drop_more hd5 (show 1 = _ from rfl)
        rw [← e15] at hd6
        obtain ⟨e17, e18, e19⟩ := G11.out y.flds _ e16 hy.flds hy.nums.2.1 hd6
        have hd7 := drop_more hd6 rfl
        rw [← e18] at hd7
        obtain ⟨e20, e21, e22⟩ := G13.out y.mths r e19 hy.mths hy.nums.2.2 hd7
        refine ⟨?_, ?_, e22⟩
        · obtain ⟨y1, y2, y3, y4, y5, y6, y7, y8⟩ := y
          dsimp only at e1 e2 e5 e8 e11 e14 e17 e20
          subst e1 e2 e5 e8 e11 e14 e17 e20
          rfl
        · rw [e21, e18, e15, e12, e9, e6, e3]
          unfold Cls.bytes
          simp
          omega
end Go.Proofs.YtpincofjopmaaaaGreatDoor

/-
  The contracts of package hier's copyMethod and copyClass: what comes back is alike, in memory of its own.
  Conditions: the parts lie in memory that was there before; texts of at most 2^48 bytes, lists of at most 2^20.
  The given classes: what Given answers, in the program and in the document.
  Conditions: the program's table of faults holds what it holds at the start.
  The given classes in the document.
  Conditions: none.
-/
import Derived.Test.YtpincofjopmaaaaGreatDoorM26
import Derived.Laws.OwnMore
import Derived.Deep.MidRow
namespace Go.Proofs.YtpincofjopmaaaaGreatDoor
open Go.RowKit
structure Mth.Small (m : Mth) : Prop where
  name : m.name.length ≤ 281474976710656
  res : m.res.length ≤ 281474976710656
  n1 : m.params.length ≤ 1048576
  n2 : m.code.length ≤ 1048576
  n3 : m.cats.length ≤ 1048576
  params : ∀ x ∈ m.params, x.length ≤ 281474976710656
  code : ∀ x ∈ m.code, x.op.length ≤ 281474976710656 ∧ x.s.length ≤ 281474976710656
  cats : ∀ x ∈ m.cats, x.cls.length ≤ 281474976710656
structure Cls.Small (c : Cls) : Prop where
  name : c.name.length ≤ 281474976710656
  sup : c.sup.length ≤ 281474976710656
  n1 : c.like.length ≤ 1048576
  n2 : c.flds.length ≤ 1048576
  n3 : c.mths.length ≤ 1048576
  like : ∀ x ∈ c.like, x.length ≤ 281474976710656
  flds : ∀ x ∈ c.flds, x.name.length ≤ 281474976710656 ∧ x.kind.length ≤ 281474976710656
  mths : ∀ x ∈ c.mths, x.Small
theorem copyF_str (l : List (List UInt8)) (w : World) (h : ∀ x ∈ l, x.length ≤ 281474976710656) : CopyF StrR 83 #[] l w := fun x v W hx _ hv => by
  obtain rfl := hv
  exact (sclone_any (S x) W (by rw [S_size]; exact h x hx)).mono fun e W' ⟨h1, h2⟩ => ⟨_, h1, rfl, h2⟩
theorem copyF_fld (l : List Fld) (w : World) (h : ∀ x ∈ l, x.name.length ≤ 281474976710656 ∧ x.kind.length ≤ 281474976710656) : CopyF FldR 126 #[] l w := fun x v W hx _ hv => by
  obtain rfl := hv
  exact (cp_fld x W (h x hx).1 (h x hx).2).mono fun e W' ⟨h1, h2⟩ => ⟨_, h1, rfl, h2⟩
theorem copyF_ins (l : List Ins) (w : World) (h : ∀ x ∈ l, x.op.length ≤ 281474976710656 ∧ x.s.length ≤ 281474976710656) : CopyF InsR 137 #[] l w := fun x v W hx _ hv => by
  obtain rfl := hv
  exact (cp_ins x W (h x hx).1 (h x hx).2).mono fun e W' ⟨h1, h2⟩ => ⟨_, h1, rfl, h2⟩
theorem copyF_cat (l : List Cat) (w : World) (h : ∀ x ∈ l, x.cls.length ≤ 281474976710656) : CopyF CatR 139 #[] l w := fun x v W hx _ hv => by
  obtain rfl := hv
  exact (cp_cat x W (h x hx)).mono fun e W' ⟨h1, h2⟩ => ⟨_, h1, rfl, h2⟩
/-- The flat relations' copies are called with no captured variables. -/
theorem enters_ok {f : FuncId} {fn : Func} {c : Code} (hf : Tryz.prog.funcs[f]? = some fn) (hname : (fn.name == "runtime.NumGoroutine") = false) (hb : fn.body = some c) : ∀ args w, (callFunc f args).run Tryz.prog w = .ok (.enter f args) w := enters_fn hf hname hb
theorem sizec_mth : (Tryz.prog.info? 33).map (·.size) = some 7 := by kernel_rfl
set_option maxHeartbeats 8000000 in
set_option maxRecDepth 100000 in
theorem cp_mth {A : Nat → Prop} (m : Mth) (v : Value) (w : World) (hv : MthR A w m v) (hsm : m.Small) : Calls Tryz.prog 91 #[v] w (fun e w' => ∃ v', e = .returned v' ∧ MthR (fun i => w.heap.size ≤ i) w' m v' ∧ Below w.heap.size w w') := by
  obtain ⟨pv, cv, kv, rfl, hs1, hs5, hs6⟩ := hv
  obtain ⟨po, pc, rfl⟩ := hs1.shape
  obtain ⟨co, cc, rfl⟩ := hs5.shape
  obtain ⟨ko, kc, rfl⟩ := hs6.shape
  have HF := Lib.hid (fb_new w #[.string (S m.name), .slice po m.params.length pc, .string (S m.res), .bool m.abs, .int .i64 m.loc, .slice co m.code.length cc, .slice ko m.cats.length kc] #[.string ⟨#[]⟩, .slice none 0 0, .string ⟨#[]⟩, .bool false, .int .i64 0, .slice none 0 0, .slice none 0 0] 33)
  have HC0 := Lib.hid (fun w => sclone_any (S m.name) w (by rw [S_size]; exact hsm.name))
  have HC2 := Lib.hid (fun w => sclone_any (S m.res) w (by rw [S_size]; exact hsm.res))
  have HL1 : Hid (∀ W, Below w.heap.size w W → Calls Tryz.prog 124 #[.slice po m.params.length pc, .func (.func 83) #[] #[]] W (CopiedG 1 StrR m.params W)) := Lib.hid (fun W hW => copyl_str _ _ (enters_fn Tryz.func83 (by kernel_rfl) rfl) m.params _ W (StrR.st.below hs1 hW) hsm.n1 (copyF_str m.params W hsm.params))
  have HL5 : Hid (∀ W, Below w.heap.size w W → Calls Tryz.prog 136 #[.slice co m.code.length cc, .func (.func 137) #[] #[]] W (CopiedG 3 InsR m.code W)) := Lib.hid (fun W hW => copyl_ins _ _ (enters_fn Tryz.func137 (by kernel_rfl) rfl) m.code _ W (InsR.st.below hs5 hW) hsm.n2 (copyF_ins m.code W hsm.code))
  have HL6 : Hid (∀ W, Below w.heap.size w W → Calls Tryz.prog 138 #[.slice ko m.cats.length kc, .func (.func 139) #[] #[]] W (CopiedG 4 CatR m.cats W)) := Lib.hid (fun W hW => copyl_cat _ _ (enters_fn Tryz.func139 (by kernel_rfl) rfl) m.cats _ W (CatR.st.below hs6 hW) hsm.n3 (copyF_cat m.cats W hsm.cats))
  clear hsm hs1 hs5 hs6
  obtain ⟨W1, hW1⟩ : ∃ W1, W1 = (w.alloc (.cells #[.string (S m.name), .slice po m.params.length pc, .string (S m.res), .bool m.abs, .int .i64 m.loc, .slice co m.code.length cc, .slice ko m.cats.length kc] 33)).alloc (.cells #[.string ⟨#[]⟩, .slice none 0 0, .string ⟨#[]⟩, .bool false, .int .i64 0, .slice none 0 0, .slice none 0 0] 33) := ⟨_, rfl⟩
  unfold CopiedG at HL1 HL5 HL6
  go_enter Tryz.func91, Tryz.ntmps91
  go_upto_region 1 with fail
  rw [← hW1] at HF ⊢
  clear hW1
  obtain ⟨c1, hc1⟩ : ∃ c, c = w.heap.size := ⟨_, rfl⟩
  rw [← hc1] at HF ⊢
  obtain ⟨c2, hc2⟩ : ∃ c, c = c1 + 1 := ⟨_, rfl⟩
  rw [← hc2] at HF ⊢
  have HC12 : Hid (c1 < c2) := Lib.hid (by omega)
  have HCW : Hid (c1 = w.heap.size) := Lib.hid hc1
  clear hc2 hc1
  have f0 := HF.out
  have HS : Hid (∀ W, FB w c1 c2 #[.string (S m.name), .slice po m.params.length pc, .string (S m.res), .bool m.abs, .int .i64 m.loc, .slice co m.code.length cc, .slice ko m.cats.length kc] #[.string ⟨#[]⟩, .slice none 0 0, .string ⟨#[]⟩, .bool false, .int .i64 0, .slice none 0 0, .slice none 0 0] 33 W → W.cell? ⟨c1, 0, none⟩ = some (.string (S m.name)) ∧ W.frozen? ⟨c1, 0, none⟩ = false ∧ W.cell? ⟨c1, 2, none⟩ = some (.string (S m.res)) ∧ W.frozen? ⟨c1, 2, none⟩ = false) := Lib.hid (fun W h => ⟨h.b1.cell 0 rfl, h.b1.free 0, h.b1.cell 2 rfl, h.b1.free 2⟩)
  obtain ⟨g1, g2, g3, g4⟩ := HS.out W1 f0
  first
  | (go_region_held3 (fun W => W.cell? ⟨c1, 0, none⟩ = some (.string (S m.name)) ∧ W.frozen? ⟨c1, 0, none⟩ = false ∧ W.cell? ⟨c1, 2, none⟩ = some (.string (S m.res)) ∧ W.frozen? ⟨c1, 2, none⟩ = false) ((refine HS.out _ ?_; (repeat (first | (with_reducible assumption) | (with_reducible refine fb_drew ?_) | (with_reducible (apply fb_below; assumption)) | (with_reducible refine fb_put rfl ?_)))))
      (first
       | ((go_at_call 83; (with_reducible refine (HC0.out _).mono ?_); rintro en wx1 ⟨rfl, bx1⟩))
       | ((go_at_call 83; (with_reducible refine (HC2.out _).mono ?_); rintro en wx2 ⟨rfl, bx2⟩))))
  | fail
  all_goals
    go_upto_region 2 with fail
    refine wp_forget (FB w c1 c2 #[.string (S m.name), .slice po m.params.length pc, .string (S m.res), .bool m.abs, .int .i64 m.loc, .slice co m.code.length cc, .slice ko m.cats.length kc] #[.string ⟨#[]⟩, .slice none 0 0, .string ⟨#[]⟩, .bool false, .int .i64 0, .slice none 0 0, .slice none 0 0] 33) (by (repeat (first | (with_reducible assumption) | (with_reducible refine fb_drew ?_) | (with_reducible (apply fb_below; assumption)) | (with_reducible refine fb_put rfl ?_)))) ?_
    intro W2 f2
    clear g1 g2 g3 g4 f0
    have F2 := Lib.hid f2
    clear f2
    have x1 := F2.out.b1.cell 1 rfl
    go_wp2_with fail
    refine (HL1.out W2 F2.out.bel).mono ?_
    rintro e v2 ⟨u1, rfl, hu1, hb1⟩
    obtain ⟨so1, sc1, rfl⟩ := hu1.shape
    have G2 := Lib.hid (fb_below hb1 F2.out)
    have T1_2 : Hid (Src 1 StrR (fun i => c2 < i) v2 (.slice so1 m.params.length sc1) m.params) := Lib.hid (StrR.st.srcMono hu1 (fun i _ hi => Nat.lt_of_lt_of_le F2.out.b2.lt hi))
    have y1 := G2.out.b1.cell 1 rfl
    have z1 := G2.out.b1.free 1
    clear x1 hu1 hb1
    go_upto_region 3 with fail
    refine wp_forget (fun W => FB w c1 c2 #[.string (S m.name), .slice so1 m.params.length sc1, .string (S m.res), .bool m.abs, .int .i64 m.loc, .slice co m.code.length cc, .slice ko m.cats.length kc] #[.string ⟨#[]⟩, .slice none 0 0, .string ⟨#[]⟩, .bool false, .int .i64 0, .slice none 0 0, .slice none 0 0] 33 W ∧ Src 1 StrR (fun i => c2 < i) W (.slice so1 m.params.length sc1) m.params) ⟨fb_set 1 _ G2.out, StrR.st.src T1_2.out ((Only.refl (fun i => i = c1) _).setCell rfl _) (fun i (hi : c2 < i) (h : i = c1) => by have := HC12.out; omega)⟩ ?_
    rintro W3 ⟨f3, s1⟩
    have F3 := Lib.hid f3
    have S1_3 := Lib.hid s1
    clear f3 y1 z1 s1
    have x5 := F3.out.b1.cell 5 rfl
    go_wp2_with fail
    refine (HL5.out W3 F3.out.bel).mono ?_
    rintro e v3 ⟨u5, rfl, hu5, hb5⟩
    obtain ⟨so5, sc5, rfl⟩ := hu5.shape
    have G3 := Lib.hid (fb_below hb5 F3.out)
    have T1_3 := Lib.hid (StrR.st.below S1_3.out hb5)
    have T5_3 : Hid (Src 3 InsR (fun i => c2 < i) v3 (.slice so5 m.code.length sc5) m.code) := Lib.hid (InsR.st.srcMono hu5 (fun i _ hi => Nat.lt_of_lt_of_le F3.out.b2.lt hi))
    have y5 := G3.out.b1.cell 5 rfl
    have z5 := G3.out.b1.free 5
    clear x5 hu5 hb5
    go_upto_region 4 with fail
    refine wp_forget (fun W => FB w c1 c2 #[.string (S m.name), .slice so1 m.params.length sc1, .string (S m.res), .bool m.abs, .int .i64 m.loc, .slice so5 m.code.length sc5, .slice ko m.cats.length kc] #[.string ⟨#[]⟩, .slice none 0 0, .string ⟨#[]⟩, .bool false, .int .i64 0, .slice none 0 0, .slice none 0 0] 33 W ∧ Src 1 StrR (fun i => c2 < i) W (.slice so1 m.params.length sc1) m.params ∧ Src 3 InsR (fun i => c2 < i) W (.slice so5 m.code.length sc5) m.code) ⟨fb_set 5 _ G3.out, StrR.st.src T1_3.out ((Only.refl (fun i => i = c1) _).setCell rfl _) (fun i (hi : c2 < i) (h : i = c1) => by have := HC12.out; omega), InsR.st.src T5_3.out ((Only.refl (fun i => i = c1) _).setCell rfl _) (fun i (hi : c2 < i) (h : i = c1) => by have := HC12.out; omega)⟩ ?_
    rintro W4 ⟨f4, s1, s5⟩
    have F4 := Lib.hid f4
    have S1_4 := Lib.hid s1
    have S5_4 := Lib.hid s5
    clear f4 y5 z5 s1 s5
    have x6 := F4.out.b1.cell 6 rfl
    go_wp2_with fail
    refine (HL6.out W4 F4.out.bel).mono ?_
    rintro e v4 ⟨u6, rfl, hu6, hb6⟩
    obtain ⟨so6, sc6, rfl⟩ := hu6.shape
    have G4 := Lib.hid (fb_below hb6 F4.out)
    have T1_4 := Lib.hid (StrR.st.below S1_4.out hb6)
    have T5_4 := Lib.hid (InsR.st.below S5_4.out hb6)
    have T6_4 : Hid (Src 4 CatR (fun i => c2 < i) v4 (.slice so6 m.cats.length sc6) m.cats) := Lib.hid (CatR.st.srcMono hu6 (fun i _ hi => Nat.lt_of_lt_of_le F4.out.b2.lt hi))
    have y6 := G4.out.b1.cell 6 rfl
    have z6 := G4.out.b1.free 6
    clear x6 hu6 hb6
    go_upto_region 5 with fail
    refine wp_forget (fun W => FB w c1 c2 #[.string (S m.name), .slice so1 m.params.length sc1, .string (S m.res), .bool m.abs, .int .i64 m.loc, .slice so5 m.code.length sc5, .slice so6 m.cats.length sc6] #[.string ⟨#[]⟩, .slice none 0 0, .string ⟨#[]⟩, .bool false, .int .i64 0, .slice none 0 0, .slice none 0 0] 33 W ∧ Src 1 StrR (fun i => c2 < i) W (.slice so1 m.params.length sc1) m.params ∧ Src 3 InsR (fun i => c2 < i) W (.slice so5 m.code.length sc5) m.code ∧ Src 4 CatR (fun i => c2 < i) W (.slice so6 m.cats.length sc6) m.cats) ⟨fb_set 6 _ G4.out, StrR.st.src T1_4.out ((Only.refl (fun i => i = c1) _).setCell rfl _) (fun i (hi : c2 < i) (h : i = c1) => by have := HC12.out; omega), InsR.st.src T5_4.out ((Only.refl (fun i => i = c1) _).setCell rfl _) (fun i (hi : c2 < i) (h : i = c1) => by have := HC12.out; omega), CatR.st.src T6_4.out ((Only.refl (fun i => i = c1) _).setCell rfl _) (fun i (hi : c2 < i) (h : i = c1) => by have := HC12.out; omega)⟩ ?_
    rintro W5 ⟨f5, s1, s5, s6⟩
    have F5 := Lib.hid f5
    have S1_5 := Lib.hid s1
    have S5_5 := Lib.hid s5
    have S6_5 := Lib.hid s6
    clear f5 y6 z6 s1 s5 s6
    have p0 := F5.out.b1.cell 0 rfl
    have q0 := F5.out.b2.cell 0 rfl
    have r0 := F5.out.b2.free 0
    have p1 := F5.out.b1.cell 1 rfl
    have q1 := F5.out.b2.cell 1 rfl
    have r1 := F5.out.b2.free 1
    have p2 := F5.out.b1.cell 2 rfl
    have q2 := F5.out.b2.cell 2 rfl
    have r2 := F5.out.b2.free 2
    have p3 := F5.out.b1.cell 3 rfl
    have q3 := F5.out.b2.cell 3 rfl
    have r3 := F5.out.b2.free 3
    have p4 := F5.out.b1.cell 4 rfl
    have q4 := F5.out.b2.cell 4 rfl
    have r4 := F5.out.b2.free 4
    have p5 := F5.out.b1.cell 5 rfl
    have q5 := F5.out.b2.cell 5 rfl
    have r5 := F5.out.b2.free 5
    have p6 := F5.out.b1.cell 6 rfl
    have q6 := F5.out.b2.cell 6 rfl
    have r6 := F5.out.b2.free 6
    go_wp2
    have l := load_box (P := Tryz.prog) (w := (((((((W5.setCell ⟨c2, 0, none⟩ (.string (S m.name))).setCell ⟨c2, 1, none⟩ (.slice so1 m.params.length sc1)).setCell ⟨c2, 2, none⟩ (.string (S m.res))).setCell ⟨c2, 3, none⟩ (.bool m.abs)).setCell ⟨c2, 4, none⟩ (.int .i64 m.loc)).setCell ⟨c2, 5, none⟩ (.slice so5 m.code.length sc5)).setCell ⟨c2, 6, none⟩ (.slice so6 m.cats.length sc6))) (cs := #[.string (S m.name), .slice so1 m.params.length sc1, .string (S m.res), .bool m.abs, .int .i64 m.loc, .slice so5 m.code.length sc5, .slice so6 m.cats.length sc6]) (((((((F5.out.b2.set 0 (.string (S m.name))).set 1 (.slice so1 m.params.length sc1)).set 2 (.string (S m.res))).set 3 (.bool m.abs)).set 4 (.int .i64 m.loc)).set 5 (.slice so5 m.code.length sc5)).set 6 (.slice so6 m.cats.length sc6)) Tryz.underlying33 rfl sizec_mth
    have hb : Below w.heap.size w (((((((W5.setCell ⟨c2, 0, none⟩ (.string (S m.name))).setCell ⟨c2, 1, none⟩ (.slice so1 m.params.length sc1)).setCell ⟨c2, 2, none⟩ (.string (S m.res))).setCell ⟨c2, 3, none⟩ (.bool m.abs)).setCell ⟨c2, 4, none⟩ (.int .i64 m.loc)).setCell ⟨c2, 5, none⟩ (.slice so5 m.code.length sc5)).setCell ⟨c2, 6, none⟩ (.slice so6 m.cats.length sc6)) := (((((((F5.out.bel.setCell F5.out.ge2 (.string (S m.name))).setCell F5.out.ge2 (.slice so1 m.params.length sc1)).setCell F5.out.ge2 (.string (S m.res))).setCell F5.out.ge2 (.bool m.abs)).setCell F5.out.ge2 (.int .i64 m.loc)).setCell F5.out.ge2 (.slice so5 m.code.length sc5)).setCell F5.out.ge2 (.slice so6 m.cats.length sc6))
    have ho : Only (fun i => i = c2) W5 (((((((W5.setCell ⟨c2, 0, none⟩ (.string (S m.name))).setCell ⟨c2, 1, none⟩ (.slice so1 m.params.length sc1)).setCell ⟨c2, 2, none⟩ (.string (S m.res))).setCell ⟨c2, 3, none⟩ (.bool m.abs)).setCell ⟨c2, 4, none⟩ (.int .i64 m.loc)).setCell ⟨c2, 5, none⟩ (.slice so5 m.code.length sc5)).setCell ⟨c2, 6, none⟩ (.slice so6 m.cats.length sc6)) := ((((((((Only.refl (fun i => i = c2) W5).setCell rfl (.string (S m.name))).setCell rfl (.slice so1 m.params.length sc1)).setCell rfl (.string (S m.res))).setCell rfl (.bool m.abs)).setCell rfl (.int .i64 m.loc)).setCell rfl (.slice so5 m.code.length sc5)).setCell rfl (.slice so6 m.cats.length sc6))
    refine bodyPost_ret (v := .agg #[.string (S m.name), .slice so1 m.params.length sc1, .string (S m.res), .bool m.abs, .int .i64 m.loc, .slice so5 m.code.length sc5, .slice so6 m.cats.length sc6]) ?_ rfl ⟨_, rfl, ⟨_, _, _, rfl, StrR.st.srcMono (StrR.st.src S1_5.out ho (fun i (hi : c2 < i) (h : i = c2) => by omega)) (fun i _ (hi : c2 < i) => by have h1 := HC12.out; have h2 := HCW.out; show w.heap.size ≤ i; omega), InsR.st.srcMono (InsR.st.src S5_5.out ho (fun i (hi : c2 < i) (h : i = c2) => by omega)) (fun i _ (hi : c2 < i) => by have h1 := HC12.out; have h2 := HCW.out; show w.heap.size ≤ i; omega), CatR.st.srcMono (CatR.st.src S6_5.out ho (fun i (hi : c2 < i) (h : i = c2) => by omega)) (fun i _ (hi : c2 < i) => by have h1 := HC12.out; have h2 := HCW.out; show w.heap.size ≤ i; omega)⟩, hb⟩
    simp only [results, Tryz.results91]
    simp [asAddr, l]
theorem copyF_mth (l : List Mth) (w : World) (h : ∀ x ∈ l, x.Small) : CopyF MthR 91 #[] l w := fun x v W hx _ hv => cp_mth x v W hv (h x hx)
theorem sizec_cls : (Tryz.prog.info? 26).map (·.size) = some 8 := by kernel_rfl
set_option maxHeartbeats 8000000 in
set_option maxRecDepth 100000 in
theorem cp_cls {A : Nat → Prop} (c : Cls) (v : Value) (w : World) (hv : ClsR A w c v) (hsm : c.Small) : Calls Tryz.prog 72 #[v] w (fun e w' => ∃ v', e = .returned v' ∧ ClsR (fun i => w.heap.size ≤ i) w' c v' ∧ Below w.heap.size w w') := by
  obtain ⟨lv, fv, mv, rfl, hs2, hs6, hs7⟩ := hv
  obtain ⟨lo, lc, rfl⟩ := hs2.shape
  obtain ⟨fo, fc, rfl⟩ := hs6.shape
  obtain ⟨mo, mc, rfl⟩ := hs7.shape
  have HF := Lib.hid (fb_new w #[.string (S c.name), .string (S c.sup), .slice lo c.like.length lc, .bool c.itf, .bool c.abs, .bool c.fin, .slice fo c.flds.length fc, .slice mo c.mths.length mc] #[.string ⟨#[]⟩, .string ⟨#[]⟩, .slice none 0 0, .bool false, .bool false, .bool false, .slice none 0 0, .slice none 0 0] 26)
  have HC0 := Lib.hid (fun w => sclone_any (S c.name) w (by rw [S_size]; exact hsm.name))
  have HC1 := Lib.hid (fun w => sclone_any (S c.sup) w (by rw [S_size]; exact hsm.sup))
  have HL2 : Hid (∀ W, Below w.heap.size w W → Calls Tryz.prog 124 #[.slice lo c.like.length lc, .func (.func 83) #[] #[]] W (CopiedG 1 StrR c.like W)) := Lib.hid (fun W hW => copyl_str _ _ (enters_fn Tryz.func83 (by kernel_rfl) rfl) c.like _ W (StrR.st.below hs2 hW) hsm.n1 (copyF_str c.like W hsm.like))
  have HL6 : Hid (∀ W, Below w.heap.size w W → Calls Tryz.prog 125 #[.slice fo c.flds.length fc, .func (.func 126) #[] #[]] W (CopiedG 3 FldR c.flds W)) := Lib.hid (fun W hW => copyl_fld _ _ (enters_fn Tryz.func126 (by kernel_rfl) rfl) c.flds _ W (FldR.st.below hs6 hW) hsm.n2 (copyF_fld c.flds W hsm.flds))
  have HL7 : Hid (∀ W, Below w.heap.size w W → Calls Tryz.prog 127 #[.slice mo c.mths.length mc, .func (.func 91) #[] #[]] W (CopiedG 7 MthR c.mths W)) := Lib.hid (fun W hW => copyl_mth _ _ (enters_fn Tryz.func91 (by kernel_rfl) rfl) c.mths _ W (MthR.st.below hs7 hW) hsm.n3 (copyF_mth c.mths W hsm.mths))
  clear hsm hs2 hs6 hs7
  obtain ⟨W1, hW1⟩ : ∃ W1, W1 = (w.alloc (.cells #[.string (S c.name), .string (S c.sup), .slice lo c.like.length lc, .bool c.itf, .bool c.abs, .bool c.fin, .slice fo c.flds.length fc, .slice mo c.mths.length mc] 26)).alloc (.cells #[.string ⟨#[]⟩, .string ⟨#[]⟩, .slice none 0 0, .bool false, .bool false, .bool false, .slice none 0 0, .slice none 0 0] 26) := ⟨_, rfl⟩
  unfold CopiedG at HL2 HL6 HL7
  go_enter Tryz.func72, Tryz.ntmps72
  go_upto_region 1 with fail
  rw [← hW1] at HF ⊢
  clear hW1
  obtain ⟨c1, hc1⟩ : ∃ c, c = w.heap.size := ⟨_, rfl⟩
  rw [← hc1] at HF ⊢
  obtain ⟨c2, hc2⟩ : ∃ c, c = c1 + 1 := ⟨_, rfl⟩
  rw [← hc2] at HF ⊢
  have HC12 : Hid (c1 < c2) := Lib.hid (by omega)
  have HCW : Hid (c1 = w.heap.size) := Lib.hid hc1
  clear hc2 hc1
  have f0 := HF.out
  have HS : Hid (∀ W, FB w c1 c2 #[.string (S c.name), .string (S c.sup), .slice lo c.like.length lc, .bool c.itf, .bool c.abs, .bool c.fin, .slice fo c.flds.length fc, .slice mo c.mths.length mc] #[.string ⟨#[]⟩, .string ⟨#[]⟩, .slice none 0 0, .bool false, .bool false, .bool false, .slice none 0 0, .slice none 0 0] 26 W → W.cell? ⟨c1, 0, none⟩ = some (.string (S c.name)) ∧ W.frozen? ⟨c1, 0, none⟩ = false ∧ W.cell? ⟨c1, 1, none⟩ = some (.string (S c.sup)) ∧ W.frozen? ⟨c1, 1, none⟩ = false) := Lib.hid (fun W h => ⟨h.b1.cell 0 rfl, h.b1.free 0, h.b1.cell 1 rfl, h.b1.free 1⟩)
  obtain ⟨g1, g2, g3, g4⟩ := HS.out W1 f0
  first
  | (go_region_held3 (fun W => W.cell? ⟨c1, 0, none⟩ = some (.string (S c.name)) ∧ W.frozen? ⟨c1, 0, none⟩ = false ∧ W.cell? ⟨c1, 1, none⟩ = some (.string (S c.sup)) ∧ W.frozen? ⟨c1, 1, none⟩ = false) ((refine HS.out _ ?_; (repeat (first | (with_reducible assumption) | (with_reducible refine fb_drew ?_) | (with_reducible (apply fb_below; assumption)) | (with_reducible refine fb_put rfl ?_)))))
      (first
       | ((go_at_call 83; (with_reducible refine (HC0.out _).mono ?_); rintro en wx1 ⟨rfl, bx1⟩))
       | ((go_at_call 83; (with_reducible refine (HC1.out _).mono ?_); rintro en wx2 ⟨rfl, bx2⟩))))
  | fail
  all_goals
    go_upto_region 2 with fail
    refine wp_forget (FB w c1 c2 #[.string (S c.name), .string (S c.sup), .slice lo c.like.length lc, .bool c.itf, .bool c.abs, .bool c.fin, .slice fo c.flds.length fc, .slice mo c.mths.length mc] #[.string ⟨#[]⟩, .string ⟨#[]⟩, .slice none 0 0, .bool false, .bool false, .bool false, .slice none 0 0, .slice none 0 0] 26) (by (repeat (first | (with_reducible assumption) | (with_reducible refine fb_drew ?_) | (with_reducible (apply fb_below; assumption)) | (with_reducible refine fb_put rfl ?_)))) ?_
    intro W2 f2
    clear g1 g2 g3 g4 f0
    have F2 := Lib.hid f2
    clear f2
    have x2 := F2.out.b1.cell 2 rfl
    go_wp2_with fail
    refine (HL2.out W2 F2.out.bel).mono ?_
    rintro e v2 ⟨u2, rfl, hu2, hb2⟩
    obtain ⟨so2, sc2, rfl⟩ := hu2.shape
    have G2 := Lib.hid (fb_below hb2 F2.out)
    have T2_2 : Hid (Src 1 StrR (fun i => c2 < i) v2 (.slice so2 c.like.length sc2) c.like) := Lib.hid (StrR.st.srcMono hu2 (fun i _ hi => Nat.lt_of_lt_of_le F2.out.b2.lt hi))
    have y2 := G2.out.b1.cell 2 rfl
    have z2 := G2.out.b1.free 2
    clear x2 hu2 hb2
    go_upto_region 3 with fail
    refine wp_forget (fun W => FB w c1 c2 #[.string (S c.name), .string (S c.sup), .slice so2 c.like.length sc2, .bool c.itf, .bool c.abs, .bool c.fin, .slice fo c.flds.length fc, .slice mo c.mths.length mc] #[.string ⟨#[]⟩, .string ⟨#[]⟩, .slice none 0 0, .bool false, .bool false, .bool false, .slice none 0 0, .slice none 0 0] 26 W ∧ Src 1 StrR (fun i => c2 < i) W (.slice so2 c.like.length sc2) c.like) ⟨fb_set 2 _ G2.out, StrR.st.src T2_2.out ((Only.refl (fun i => i = c1) _).setCell rfl _) (fun i (hi : c2 < i) (h : i = c1) => by have := HC12.out; omega)⟩ ?_
    rintro W3 ⟨f3, s2⟩
    have F3 := Lib.hid f3
    have S2_3 := Lib.hid s2
    clear f3 y2 z2 s2
    have x6 := F3.out.b1.cell 6 rfl
    go_wp2_with fail
    refine (HL6.out W3 F3.out.bel).mono ?_
    rintro e v3 ⟨u6, rfl, hu6, hb6⟩
    obtain ⟨so6, sc6, rfl⟩ := hu6.shape
    have G3 := Lib.hid (fb_below hb6 F3.out)
    have T2_3 := Lib.hid (StrR.st.below S2_3.out hb6)
    have T6_3 : Hid (Src 3 FldR (fun i => c2 < i) v3 (.slice so6 c.flds.length sc6) c.flds) := Lib.hid (FldR.st.srcMono hu6 (fun i _ hi => Nat.lt_of_lt_of_le F3.out.b2.lt hi))
    have y6 := G3.out.b1.cell 6 rfl
    have z6 := G3.out.b1.free 6
    clear x6 hu6 hb6
    go_upto_region 4 with fail
    refine wp_forget (fun W => FB w c1 c2 #[.string (S c.name), .string (S c.sup), .slice so2 c.like.length sc2, .bool c.itf, .bool c.abs, .bool c.fin, .slice so6 c.flds.length sc6, .slice mo c.mths.length mc] #[.string ⟨#[]⟩, .string ⟨#[]⟩, .slice none 0 0, .bool false, .bool false, .bool false, .slice none 0 0, .slice none 0 0] 26 W ∧ Src 1 StrR (fun i => c2 < i) W (.slice so2 c.like.length sc2) c.like ∧ Src 3 FldR (fun i => c2 < i) W (.slice so6 c.flds.length sc6) c.flds) ⟨fb_set 6 _ G3.out, StrR.st.src T2_3.out ((Only.refl (fun i => i = c1) _).setCell rfl _) (fun i (hi : c2 < i) (h : i = c1) => by have := HC12.out; omega), FldR.st.src T6_3.out ((Only.refl (fun i => i = c1) _).setCell rfl _) (fun i (hi : c2 < i) (h : i = c1) => by have := HC12.out; omega)⟩ ?_
    rintro W4 ⟨f4, s2, s6⟩
    have F4 := Lib.hid f4
    have S2_4 := Lib.hid s2
    have S6_4 := Lib.hid s6
    clear f4 y6 z6 s2 s6
    have x7 := F4.out.b1.cell 7 rfl
    go_wp2_with fail
    refine (HL7.out W4 F4.out.bel).mono ?_
    rintro e v4 ⟨u7, rfl, hu7, hb7⟩
    obtain ⟨so7, sc7, rfl⟩ := hu7.shape
    have G4 := Lib.hid (fb_below hb7 F4.out)
    have T2_4 := Lib.hid (StrR.st.below S2_4.out hb7)
    have T6_4 := Lib.hid (FldR.st.below S6_4.out hb7)
    have T7_4 : Hid (Src 7 MthR (fun i => c2 < i) v4 (.slice so7 c.mths.length sc7) c.mths) := Lib.hid (MthR.st.srcMono hu7 (fun i _ hi => Nat.lt_of_lt_of_le F4.out.b2.lt hi))
    have y7 := G4.out.b1.cell 7 rfl
    have z7 := G4.out.b1.free 7
    clear x7 hu7 hb7
    go_upto_region 5 with fail
    refine wp_forget (fun W => FB w c1 c2 #[.string (S c.name), .string (S c.sup), .slice so2 c.like.length sc2, .bool c.itf, .bool c.abs, .bool c.fin, .slice so6 c.flds.length sc6, .slice so7 c.mths.length sc7] #[.string ⟨#[]⟩, .string ⟨#[]⟩, .slice none 0 0, .bool false, .bool false, .bool false, .slice none 0 0, .slice none 0 0] 26 W ∧ Src 1 StrR (fun i => c2 < i) W (.slice so2 c.like.length sc2) c.like ∧ Src 3 FldR (fun i => c2 < i) W (.slice so6 c.flds.length sc6) c.flds ∧ Src 7 MthR (fun i => c2 < i) W (.slice so7 c.mths.length sc7) c.mths) ⟨fb_set 7 _ G4.out, StrR.st.src T2_4.out ((Only.refl (fun i => i = c1) _).setCell rfl _) (fun i (hi : c2 < i) (h : i = c1) => by have := HC12.out; omega), FldR.st.src T6_4.out ((Only.refl (fun i => i = c1) _).setCell rfl _) (fun i (hi : c2 < i) (h : i = c1) => by have := HC12.out; omega), MthR.st.src T7_4.out ((Only.refl (fun i => i = c1) _).setCell rfl _) (fun i (hi : c2 < i) (h : i = c1) => by have := HC12.out; omega)⟩ ?_
    rintro W5 ⟨f5, s2, s6, s7⟩
    have F5 := Lib.hid f5
    have S2_5 := Lib.hid s2
    have S6_5 := Lib.hid s6
    have S7_5 := Lib.hid s7
    clear f5 y7 z7 s2 s6 s7
    have p0 := F5.out.b1.cell 0 rfl
    have q0 := F5.out.b2.cell 0 rfl
    have r0 := F5.out.b2.free 0
    have p1 := F5.out.b1.cell 1 rfl
    have q1 := F5.out.b2.cell 1 rfl
    have r1 := F5.out.b2.free 1
    have p2 := F5.out.b1.cell 2 rfl
    have q2 := F5.out.b2.cell 2 rfl
    have r2 := F5.out.b2.free 2
    have p3 := F5.out.b1.cell 3 rfl
    have q3 := F5.out.b2.cell 3 rfl
    have r3 := F5.out.b2.free 3
    have p4 := F5.out.b1.cell 4 rfl
    have q4 := F5.out.b2.cell 4 rfl
    have r4 := F5.out.b2.free 4
    have p5 := F5.out.b1.cell 5 rfl
    have q5 := F5.out.b2.cell 5 rfl
    have r5 := F5.out.b2.free 5
    have p6 := F5.out.b1.cell 6 rfl
    have q6 := F5.out.b2.cell 6 rfl
    have r6 := F5.out.b2.free 6
    have p7 := F5.out.b1.cell 7 rfl
    have q7 := F5.out.b2.cell 7 rfl
    have r7 := F5.out.b2.free 7
    go_wp2
    have l := load_box (P := Tryz.prog) (w := ((((((((W5.setCell ⟨c2, 0, none⟩ (.string (S c.name))).setCell ⟨c2, 1, none⟩ (.string (S c.sup))).setCell ⟨c2, 2, none⟩ (.slice so2 c.like.length sc2)).setCell ⟨c2, 3, none⟩ (.bool c.itf)).setCell ⟨c2, 4, none⟩ (.bool c.abs)).setCell ⟨c2, 5, none⟩ (.bool c.fin)).setCell ⟨c2, 6, none⟩ (.slice so6 c.flds.length sc6)).setCell ⟨c2, 7, none⟩ (.slice so7 c.mths.length sc7))) (cs := #[.string (S c.name), .string (S c.sup), .slice so2 c.like.length sc2, .bool c.itf, .bool c.abs, .bool c.fin, .slice so6 c.flds.length sc6, .slice so7 c.mths.length sc7]) ((((((((F5.out.b2.set 0 (.string (S c.name))).set 1 (.string (S c.sup))).set 2 (.slice so2 c.like.length sc2)).set 3 (.bool c.itf)).set 4 (.bool c.abs)).set 5 (.bool c.fin)).set 6 (.slice so6 c.flds.length sc6)).set 7 (.slice so7 c.mths.length sc7)) Tryz.underlying26 rfl sizec_cls
    have hb : Below w.heap.size w ((((((((W5.setCell ⟨c2, 0, none⟩ (.string (S c.name))).setCell ⟨c2, 1, none⟩ (.string (S c.sup))).setCell ⟨c2, 2, none⟩ (.slice so2 c.like.length sc2)).setCell ⟨c2, 3, none⟩ (.bool c.itf)).setCell ⟨c2, 4, none⟩ (.bool c.abs)).setCell ⟨c2, 5, none⟩ (.bool c.fin)).setCell ⟨c2, 6, none⟩ (.slice so6 c.flds.length sc6)).setCell ⟨c2, 7, none⟩ (.slice so7 c.mths.length sc7)) := ((((((((F5.out.bel.setCell F5.out.ge2 (.string (S c.name))).setCell F5.out.ge2 (.string (S c.sup))).setCell F5.out.ge2 (.slice so2 c.like.length sc2)).setCell F5.out.ge2 (.bool c.itf)).setCell F5.out.ge2 (.bool c.abs)).setCell F5.out.ge2 (.bool c.fin)).setCell F5.out.ge2 (.slice so6 c.flds.length sc6)).setCell F5.out.ge2 (.slice so7 c.mths.length sc7))
    have ho : Only (fun i => i = c2) W5 ((((((((W5.setCell ⟨c2, 0, none⟩ (.string (S c.name))).setCell ⟨c2, 1, none⟩ (.string (S c.sup))).setCell ⟨c2, 2, none⟩ (.slice so2 c.like.length sc2)).setCell ⟨c2, 3, none⟩ (.bool c.itf)).setCell ⟨c2, 4, none⟩ (.bool c.abs)).setCell ⟨c2, 5, none⟩ (.bool c.fin)).setCell ⟨c2, 6, none⟩ (.slice so6 c.flds.length sc6)).setCell ⟨c2, 7, none⟩ (.slice so7 c.mths.length sc7)) := (((((((((Only.refl (fun i => i = c2) W5).setCell rfl (.string (S c.name))).setCell rfl (.string (S c.sup))).setCell rfl (.slice so2 c.like.length sc2)).setCell rfl (.bool c.itf)).setCell rfl (.bool c.abs)).setCell rfl (.bool c.fin)).setCell rfl (.slice so6 c.flds.length sc6)).setCell rfl (.slice so7 c.mths.length sc7))
    refine bodyPost_ret (v := .agg #[.string (S c.name), .string (S c.sup), .slice so2 c.like.length sc2, .bool c.itf, .bool c.abs, .bool c.fin, .slice so6 c.flds.length sc6, .slice so7 c.mths.length sc7]) ?_ rfl ⟨_, rfl, ⟨_, _, _, rfl, StrR.st.srcMono (StrR.st.src S2_5.out ho (fun i (hi : c2 < i) (h : i = c2) => by omega)) (fun i _ (hi : c2 < i) => by have h1 := HC12.out; have h2 := HCW.out; show w.heap.size ≤ i; omega), FldR.st.srcMono (FldR.st.src S6_5.out ho (fun i (hi : c2 < i) (h : i = c2) => by omega)) (fun i _ (hi : c2 < i) => by have h1 := HC12.out; have h2 := HCW.out; show w.heap.size ≤ i; omega), MthR.st.srcMono (MthR.st.src S7_5.out ho (fun i (hi : c2 < i) (h : i = c2) => by omega)) (fun i _ (hi : c2 < i) => by have h1 := HC12.out; have h2 := HCW.out; show w.heap.size ≤ i; omega)⟩, hb⟩
    simp only [results, Tryz.results72]
    simp [asAddr, l]
end Go.Proofs.YtpincofjopmaaaaGreatDoor
namespace Go.Proofs.YtpincofjopmaaaaGreatDoor
open Go.RowKit
def faultL : List UInt8 := [70, 97, 117, 108, 116]
def whatL : List UInt8 := [119, 104, 97, 116]
def textK : List UInt8 := [116, 101, 120, 116]
/-- The faults that a run causes by itself. -/
def faultsL : List (List UInt8) := [[78, 117, 108, 108, 70, 97, 117, 108, 116], [73, 110, 100, 101, 120, 70, 97, 117, 108, 116], [67, 97, 115, 116, 70, 97, 117, 108, 116], [90, 101, 114, 111, 70, 97, 117, 108, 116],
  [82, 111, 111, 109, 70, 97, 117, 108, 116], [67, 97, 108, 108, 70, 97, 117, 108, 116]]
def objC : Cls := ⟨objL, [], [], false, false, false, [], []⟩
def faultC : Cls := ⟨faultL, objL, [], false, false, false, [⟨whatL, textK, false⟩], []⟩
def oneF (n : List UInt8) : Cls := ⟨n, faultL, [], false, false, true, [], []⟩
/-- The given classes. -/
def givenL : List Cls := objC :: faultC :: faultsL.map oneF
def faultCells : List Value := faultsL.map fun n => .string (S n)
def faultAt (k : Nat) : List UInt8 := faultsL.getD k []
/-- The table of faults is as at the start. -/
def FaultTab (w : World) : Prop := w.rangeAt 0 0 faultCells
theorem FaultTab.keep {w w' : World} (h : FaultTab w) (hb : Below w.heap.size w w') : FaultTab w' := fun j v hj =>
  (Only.ofBelow (S := fun _ => False) hb).cell (h j v hj) id
theorem fault_index0 (w : World) : (Instr.index 124 (.agg faultCells.toArray) (.int .i64 0)).run Tryz.prog w = .ok (.string (S (faultAt 0))) w := by kernel_rfl
theorem fault_index1 (w : World) : (Instr.index 124 (.agg faultCells.toArray) (.int .i64 1)).run Tryz.prog w = .ok (.string (S (faultAt 1))) w := by kernel_rfl
theorem fault_index2 (w : World) : (Instr.index 124 (.agg faultCells.toArray) (.int .i64 2)).run Tryz.prog w = .ok (.string (S (faultAt 2))) w := by kernel_rfl
theorem fault_index3 (w : World) : (Instr.index 124 (.agg faultCells.toArray) (.int .i64 3)).run Tryz.prog w = .ok (.string (S (faultAt 3))) w := by kernel_rfl
theorem fault_index4 (w : World) : (Instr.index 124 (.agg faultCells.toArray) (.int .i64 4)).run Tryz.prog w = .ok (.string (S (faultAt 4))) w := by kernel_rfl
theorem fault_index5 (w : World) : (Instr.index 124 (.agg faultCells.toArray) (.int .i64 5)).run Tryz.prog w = .ok (.string (S (faultAt 5))) w := by kernel_rfl
theorem fault_index (k : Nat) (hk : k < 6) (w : World) : (Instr.index 124 (.agg faultCells.toArray) (.int .i64 (k : Nat))).run Tryz.prog w = .ok (.string (S (faultAt k))) w :=
  match k, hk with
  | 0, _ => fault_index0 w
  | 1, _ => fault_index1 w
  | 2, _ => fault_index2 w
  | 3, _ => fault_index3 w
  | 4, _ => fault_index4 w
  | 5, _ => fault_index5 w
theorem info_faults : (Tryz.prog.info? 124).map (·.size) = some faultCells.length := by kernel_rfl
theorem info_cls : (Tryz.prog.info? 26).map (fun i => (i.zero, i.size, i.bytes)) = some (some (.agg #[.string ⟨#[]⟩, .string ⟨#[]⟩, .slice none 0 0, .bool false, .bool false, .bool false, .slice none 0 0, .slice none 0 0]), 8, 112) := by kernel_rfl
def objV : Value := .agg #[.string (S objL), .string ⟨#[]⟩, .slice none 0 0, .bool false, .bool false, .bool false, .slice none 0 0, .slice none 0 0]
def faultV (b : Nat) : Value := .agg #[.string (S faultL), .string (S objL), .slice none 0 0, .bool false, .bool false, .bool false, .slice (some ⟨b, 0, none⟩) 1 1, .slice none 0 0]
def oneV (n : List UInt8) : Value := .agg #[.string (S n), .string (S faultL), .slice none 0 0, .bool false, .bool false, .bool true, .slice none 0 0, .slice none 0 0]
theorem src_none {α : Type} {n : Nat} {R : ElemRel α} {A : Nat → Prop} {w : World} : Src n R A w (.slice none 0 0) [] := .inl ⟨_, _, rfl, rfl⟩
theorem objR (A : Nat → Prop) (w : World) : ClsR A w objC objV := ⟨_, _, _, rfl, src_none, src_none, src_none⟩
theorem oneR (A : Nat → Prop) (w : World) (n : List UInt8) : ClsR A w (oneF n) (oneV n) := ⟨_, _, _, rfl, src_none, src_none, src_none⟩
/-- The two first ones, as the literal makes them. -/
theorem two_row (w : World) : TRow 8 26 ClsR w.heap.size ((w.alloc (.cells #[.string (S whatL), .string (S textK), .bool false] 62)).alloc (.cells #[.string (S objL), .string ⟨#[]⟩, .slice none 0 0, .bool false, .bool false, .bool false, .slice none 0 0, .slice none 0 0,
      .string (S faultL), .string (S objL), .slice none 0 0, .bool false, .bool false, .bool false, .slice (some ⟨w.heap.size, 0, none⟩) 1 1, .slice none 0 0] 26)) (.slice (some ⟨w.heap.size + 1, 0, none⟩) 2 2) [objC, faultC] [objV, faultV w.heap.size] := by
  have hsz : (w.alloc (.cells #[.string (S whatL), .string (S textK), .bool false] 62)).heap.size = w.heap.size + 1 := by simp
  have h := World.ownsRow_lit (base := 0) (e := 26) (size := 8) (w.alloc (.cells #[.string (S whatL), .string (S textK), .bool false] 62)) #[.string (S objL), .string ⟨#[]⟩, .slice none 0 0, .bool false, .bool false, .bool false, .slice none 0 0, .slice none 0 0,
      .string (S faultL), .string (S objL), .slice none 0 0, .bool false, .bool false, .bool false, .slice (some ⟨w.heap.size, 0, none⟩) 1 1, .slice none 0 0] 2 (Nat.zero_le _) (by decide) rfl
  rw [hsz] at h
  have hb1 : Below (w.heap.size + 1) (w.alloc (.cells #[.string (S whatL), .string (S textK), .bool false] 62)) ((w.alloc (.cells #[.string (S whatL), .string (S textK), .bool false] 62)).alloc (.cells #[.string (S objL), .string ⟨#[]⟩, .slice none 0 0, .bool false, .bool false, .bool false, .slice none 0 0, .slice none 0 0,
      .string (S faultL), .string (S objL), .slice none 0 0, .bool false, .bool false, .bool false, .slice (some ⟨w.heap.size, 0, none⟩) 1 1, .slice none 0 0] 26)) := (Below.refl _ _).alloc (Nat.le_of_eq hsz.symm) _
  have hx := Box.new w #[.string (S whatL), .string (S textK), .bool false] 62
  rw [← hsz] at hb1
  have hx2 := hx.below hb1
  refine ⟨h, fun g hg => ?_, rfl, fun u hu => ?_, fun k x hk => ?_⟩
  · simp [Value.ownBlock] at hg
    omega
  · simp at hu
    rcases hu with rfl | rfl <;> rfl
  · match k, hk with
    | 0, hk =>
      simp at hk
      subst hk
      exact ⟨_, rfl, objR _ _⟩
    | 1, hk =>
      simp at hk
      subst hk
      refine ⟨_, rfl, _, _, _, rfl, src_none, .inr ⟨w.heap.size, 0, 1, rfl, ⟨⟨Nat.le_refl _, fun e => ?_⟩, hx2.lt, by decide, by decide⟩, fun j y hj => ?_⟩, src_none⟩
      · simp [Value.ownBlock] at e
      · match j, hj with
        | 0, hj =>
          obtain rfl : _ = y := Option.some.inj hj
          refine ⟨_, rfl, rfl, fun i u hi => ?_⟩
          rw [Nat.zero_mul, Nat.zero_add]
          exact hx2.cell i hi
        | j + 1, hj => exact absurd hj (by simp [faultC])
    | k + 2, hk => simp at hk
def GivenG (w : World) (e : Ending) (w' : World) : Prop := ∃ v us, e = .returned v ∧ TRow 8 26 ClsR w.heap.size w' v givenL us ∧ Below w.heap.size w w'
theorem given_take (k : Nat) (hk : k < 6) : objC :: faultC :: ((faultsL.take k).map oneF ++ [oneF (faultAt k)]) = objC :: faultC :: (faultsL.take (k + 1)).map oneF := by
  have h : faultsL.take (k + 1) = faultsL.take k ++ [faultAt k] := by
    rw [List.take_add_one]
    unfold faultAt
    rw [List.getD_eq_getElem?_getD, List.getElem?_eq_getElem (show k < faultsL.length from hk)]
    rfl
  rw [h, List.map_append]
  rfl
set_option maxHeartbeats 4000000 in
set_option maxRecDepth 100000 in
theorem given_any (w : World) (hT : FaultTab w) : Calls Tryz.prog 42 #[] w (GivenG w) := by
  obtain ⟨j0, hji, hz0, hz1, hz2⟩ := info_parts info_cls
  have HI := Lib.hid info_faults
  have HT := Lib.hid hT
  have HTW := Lib.hid (two_row w)
  clear hT
  go_enter Tryz.func42, Tryz.ntmps42
  go_upto_region 2 with fail
  refine wp_region_lit ?_
  refine wpList_load_mid (by rfl) 124 _ (by rfl) 0 0 (by rfl) faultCells _ (HT.out.keep (((Below.refl _ w).alloc (Nat.le_refl _) _).alloc (by simp) _)) Tryz.underlying124 (by rfl) HI.out ?_
  go_wp2_with fail
  go_loopw [1, 10] (fun v1 v10 wr => ∃ (k : Nat) (us : List Value), k ≤ 6 ∧ v10 = .int .i64 k ∧ TRow 8 26 ClsR w.heap.size wr v1 (objC :: faultC :: (faultsL.take k).map oneF) us ∧ Below w.heap.size w wr) (fun _ v10 _ => 6 - (intOf v10).toNat)
  case atStart => exact ⟨0, _, Nat.zero_le _, rfl, HTW.out, ((Below.refl _ w).alloc (Nat.le_refl _) _).alloc (by simp) _⟩
  case round =>
    obtain ⟨k, us, hk, rfl, hir, hbel⟩ := hrel
    have HIR := Lib.hid hir
    have HB := Lib.hid hbel
    have hlen : (objC :: faultC :: (faultsL.take k).map oneF).length = k + 2 := by simp [List.length_take, show faultsL.length = 6 from rfl, Nat.min_eq_left hk]
    obtain ⟨ao, cp, rfl⟩ := hir.shape
    rw [hlen]
    have HLN := Lib.hid hlen
    clear hir hbel hlen
    by_cases hlt : k < 6
    · have hlt' : (k : Int) < 6 := by omega
      have hk0 : (0 : Int) ≤ (k : Int) := by omega
      have hix := fault_index k hlt
      have HKT := Lib.hid (given_take k hlt)
      generalize faultAt k = nm at hix HKT
      have hbA : Below wr.heap.size wr (wr.alloc (.cells #[.string (S nm), .string (S faultL), .slice none 0 0, .bool false, .bool false, .bool true, .slice none 0 0, .slice none 0 0] 26)) := (Below.refl _ wr).alloc (Nat.le_refl _) _
      have HRW := Lib.hid (HIR.out.below ClsR.st hbA)
      have HNW := Lib.hid (Box.new wr #[.string (S nm), .string (S faultL), .slice none 0 0, .bool false, .bool false, .bool true, .slice none 0 0, .slice none 0 0] 26)
      have HRO := Lib.hid HRW.out.row
      rw [HLN.out] at HRO
      have HBA := Lib.hid (HB.out.trans (hbA.mono HB.out.size))
      clear hbA
      go_wp2_with (at_builtin; refine wpList_append_fine _ rfl _ _ 37 rfl 26 j0 (.agg #[.string ⟨#[]⟩, .string ⟨#[]⟩, .slice none 0 0, .bool false, .bool false, .bool false, .slice none 0 0, .slice none 0 0]) 8 112 Tryz.underlying37 hji hz0 hz1 hz2 rfl (by decide) _ _ _ rfl HRO.out ⟨wr.heap.size, 0, none⟩ 1 1 [.string (S nm), .string (S faultL), .slice none 0 0, .bool false, .bool false, .bool true, .slice none 0 0, .slice none 0 0] rfl rfl (by intro j q hj; rw [Addr.add_mid, Nat.zero_add]; exact HNW.out.cell j (by rw [← hj]; simp)) (by intro q hq; simp at hq; rcases hq with rfl | rfl | rfl | rfl | rfl | rfl | rfl | rfl <;> rfl) ?c3 ?c4 ?_)
      case c3 => unfold maxLen; omega
      case c4 => omega
      intro v' w3 hown' hgrow
      have hg' : Grew (wr.alloc (.cells #[.string (S nm), .string (S faultL), .slice none 0 0, .bool false, .bool false, .bool true, .slice none 0 0, .slice none 0 0] 26)) (.slice ao (objC :: faultC :: (faultsL.take k).map oneF).length cp) w3 v' := by rw [HLN.out]; exact hgrow
      have ir4 := HRW.out.snoc ClsR.st hg' HBA.out.size (u := oneV nm) rfl (oneR _ _ nm) (by rw [HLN.out]; exact hown')
      rw [show (objC :: faultC :: (faultsL.take k).map oneF) ++ [oneF nm] = objC :: faultC :: ((faultsL.take k).map oneF ++ [oneF nm]) from rfl, HKT.out] at ir4
      have IR4 := Lib.hid ir4
      have HB4 := Lib.hid (HBA.out.trans (hg'.only.below HBA.out.size (fun g hg => HRW.out.own g hg)))
      clear ir4 hgrow hown' hg' hix
      go_wp2
      go_roundw
      case rel => exact ⟨k + 1, _, by omega, by go_num, IR4.out, HB4.out⟩
      case measure => simp [intOf]; omega
    · obtain rfl : k = 6 := by omega
      go_wp2
      go_ret
      exact ⟨_, us, rfl, by have h := HIR.out; rw [HLN.out] at h; exact h, HB.out⟩
end Go.Proofs.YtpincofjopmaaaaGreatDoor
namespace Go.Proofs.YtpincofjopmaaaaGreatDoor
open Go.RowKit
theorem box_at {W : World} {b : Nat} {cs : Array Value} {t : TypeId} (h : W.heap.size = b) : Box (W.alloc (.cells cs t)) b cs t := by
  subst h
  exact Box.new W cs t
theorem fault_cell (k : Nat) (hk : k < 6) : faultCells.toArray[k]? = some (.string (S (faultAt k))) :=
  match k, hk with
  | 0, _ => rfl
  | 1, _ => rfl
  | 2, _ => rfl
  | 3, _ => rfl
  | 4, _ => rfl
  | 5, _ => rfl
set_option maxHeartbeats 4000000 in
set_option maxRecDepth 100000 in
theorem rgiven_any (w : World) : Calls Tryz.prog 43 #[] w (GivenG w) := by
  obtain ⟨j0, hji, hz0, hz1, hz2⟩ := info_parts info_cls
  have HTW := Lib.hid (two_row w)
  go_enter Tryz.func43, Tryz.ntmps43
  go_wp2_with fail
  go_loopw [1, 3] (fun v1 v10 wr => ∃ (k : Nat) (us : List Value), k ≤ 6 ∧ v10 = .int .i64 k ∧ TRow 8 26 ClsR w.heap.size wr v1 (objC :: faultC :: (faultsL.take k).map oneF) us ∧ Below w.heap.size w wr ∧ Box wr (w.heap.size + 2) faultCells.toArray 9 ∧ v1.ownBlock ≠ some (w.heap.size + 2)) (fun _ v10 _ => 6 - (intOf v10).toNat)
  case atStart => exact ⟨0, _, Nat.zero_le _, rfl, HTW.out.below ClsR.st ((Below.refl _ _).alloc (Nat.le_refl _) _), (((Below.refl _ w).alloc (Nat.le_refl _) _).alloc (by simp) _).alloc (by simp; omega) _, (box_at (cs := faultCells.toArray) (by simp)), (by simp [Value.ownBlock])⟩
  case round =>
    obtain ⟨k, us, hk, rfl, hir, hbel, hbx, hne⟩ := hrel
    have HX := Lib.hid hbx
    have HZ := Lib.hid hne
    have HIR := Lib.hid hir
    have HB := Lib.hid hbel
    have hlen : (objC :: faultC :: (faultsL.take k).map oneF).length = k + 2 := by simp [List.length_take, show faultsL.length = 6 from rfl, Nat.min_eq_left hk]
    obtain ⟨ao, cp, rfl⟩ := hir.shape
    rw [hlen]
    have HLN := Lib.hid hlen
    clear hir hbel hlen hbx hne
    by_cases hlt : k < 6
    · have hlt' : (k : Int) < 6 := by omega
      have hk0 : (0 : Int) ≤ (k : Int) := by omega
      have hix := HX.out.cell k (fault_cell k hlt)
      have HKT := Lib.hid (given_take k hlt)
      generalize faultAt k = nm at hix HKT
      have hbA : Below wr.heap.size wr (wr.alloc (.cells #[.string (S nm), .string (S faultL), .slice none 0 0, .bool false, .bool false, .bool true, .slice none 0 0, .slice none 0 0] 26)) := (Below.refl _ wr).alloc (Nat.le_refl _) _
      have HRW := Lib.hid (HIR.out.below ClsR.st hbA)
      have HNW := Lib.hid (Box.new wr #[.string (S nm), .string (S faultL), .slice none 0 0, .bool false, .bool false, .bool true, .slice none 0 0, .slice none 0 0] 26)
      have HRO := Lib.hid HRW.out.row
      rw [HLN.out] at HRO
      have HBA := Lib.hid (HB.out.trans (hbA.mono HB.out.size))
      have HX2 := Lib.hid (HX.out.below hbA)
      clear hbA
      go_wp2_with (at_builtin; refine wpList_append_fine _ rfl _ _ 37 rfl 26 j0 (.agg #[.string ⟨#[]⟩, .string ⟨#[]⟩, .slice none 0 0, .bool false, .bool false, .bool false, .slice none 0 0, .slice none 0 0]) 8 112 Tryz.underlying37 hji hz0 hz1 hz2 rfl (by decide) _ _ _ rfl HRO.out ⟨wr.heap.size, 0, none⟩ 1 1 [.string (S nm), .string (S faultL), .slice none 0 0, .bool false, .bool false, .bool true, .slice none 0 0, .slice none 0 0] rfl rfl (by intro j q hj; rw [Addr.add_mid, Nat.zero_add]; exact HNW.out.cell j (by rw [← hj]; simp)) (by intro q hq; simp at hq; rcases hq with rfl | rfl | rfl | rfl | rfl | rfl | rfl | rfl <;> rfl) ?c3 ?c4 ?_)
      case c3 => unfold maxLen; omega
      case c4 => omega
      intro v' w3 hown' hgrow
      have hg' : Grew (wr.alloc (.cells #[.string (S nm), .string (S faultL), .slice none 0 0, .bool false, .bool false, .bool true, .slice none 0 0, .slice none 0 0] 26)) (.slice ao (objC :: faultC :: (faultsL.take k).map oneF).length cp) w3 v' := by rw [HLN.out]; exact hgrow
      have ir4 := HRW.out.snoc ClsR.st hg' HBA.out.size (u := oneV nm) rfl (oneR _ _ nm) (by rw [HLN.out]; exact hown')
      rw [show (objC :: faultC :: (faultsL.take k).map oneF) ++ [oneF nm] = objC :: faultC :: ((faultsL.take k).map oneF ++ [oneF nm]) from rfl, HKT.out] at ir4
      have IR4 := Lib.hid ir4
      have HB4 := Lib.hid (HBA.out.trans (hg'.only.below HBA.out.size (fun g hg => HRW.out.own g hg)))
      have HX4 := Lib.hid (HX2.out.keep hg'.only (fun e => HZ.out e))
      have HZ4 : Hid (v'.ownBlock ≠ some (w.heap.size + 2)) := Lib.hid (fun e => by
        rcases hg'.came with e1 | e1
        · exact HZ.out (e1.symm.trans e)
        · have h1 := e1 _ e
          have h2 := HX2.out.lt
          omega)
      clear ir4 hgrow hown' hg' hix
      go_wp2
      go_roundw
      case rel => exact ⟨k + 1, _, by omega, by go_num, IR4.out, HB4.out, HX4.out, HZ4.out⟩
      case measure => simp [intOf]; omega
    · obtain rfl : k = 6 := by omega
      go_wp2
      go_ret
      exact ⟨_, us, rfl, by have h := HIR.out; rw [HLN.out] at h; exact h, HB.out⟩
end Go.Proofs.YtpincofjopmaaaaGreatDoor

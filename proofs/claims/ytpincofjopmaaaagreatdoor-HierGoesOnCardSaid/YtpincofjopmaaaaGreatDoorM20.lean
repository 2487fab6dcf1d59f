/-
  The contracts of the functions that copy a field, an instruction and a catch.
  The contracts of package hier's copyMethod and copyClass: what comes back is alike, in memory of its own.
  Conditions: as each text of it says.
-/
import Derived.Test.YtpincofjopmaaaaGreatDoorM19
namespace Go.Proofs.YtpincofjopmaaaaGreatDoor
open Go.RowKit
structure FB (w : World) (c1 c2 : Nat) (a1 a2 : Array Value) (t : TypeId) (W : World) : Prop where
  b1 : Box W c1 a1 t
  b2 : Box W c2 a2 t
  ne : c1 ≠ c2
  bel : Below w.heap.size w W
  ge1 : w.heap.size ≤ c1
  ge2 : w.heap.size ≤ c2
theorem fb_drew {w : World} {c1 c2 : Nat} {a1 a2 : Array Value} {t : TypeId} {W : World} (h : FB w c1 c2 a1 a2 t W) : FB w c1 c2 a1 a2 t W.drew := ⟨h.b1, h.b2, h.ne, below_drew h.bel, h.ge1, h.ge2⟩
theorem fb_below {w : World} {c1 c2 : Nat} {a1 a2 : Array Value} {t : TypeId} {W W' : World} (hb : Below W.heap.size W W') (h : FB w c1 c2 a1 a2 t W) : FB w c1 c2 a1 a2 t W' := ⟨h.b1.below hb, h.b2.below hb, h.ne, h.bel.trans (hb.mono h.bel.size), h.ge1, h.ge2⟩
theorem fb_set {w : World} {c1 c2 : Nat} {a1 a2 : Array Value} {t : TypeId} {W : World} (j : Nat) (u : Value) (h : FB w c1 c2 a1 a2 t W) : FB w c1 c2 (a1.setIfInBounds j u) a2 t (W.setCell ⟨c1, j, none⟩ u) :=
  ⟨h.b1.set j u, h.b2.set_ne (Ne.symm h.ne) j u, h.ne, h.bel.setCell h.ge1 u, h.ge1, h.ge2⟩
theorem fb_put {w : World} {c1 c2 : Nat} {a1 a2 : Array Value} {t : TypeId} {W : World} {j : Nat} {u : Value} (hj : a1.setIfInBounds j u = a1) (h : FB w c1 c2 a1 a2 t W) : FB w c1 c2 a1 a2 t (W.setCell ⟨c1, j, none⟩ u) := by
  have q := fb_set j u h
  rwa [hj] at q
theorem fb_new (w : World) (a1 a2 : Array Value) (t : TypeId) : FB w w.heap.size (w.heap.size + 1) a1 a2 t ((w.alloc (.cells a1 t)).alloc (.cells a2 t)) := by
  have h := Box.new (w.alloc (.cells a1 t)) a2 t
  have e : (w.alloc (.cells a1 t)).heap.size = w.heap.size + 1 := by simp
  rw [e] at h
  exact ⟨(Box.new w a1 t).below (below_alloc (Below.refl _ _) _), h, by omega, below_alloc (below_alloc (Below.refl _ _) _) _, Nat.le_refl _, by omega⟩
theorem wp_forget {P : Program} {c : Code} {Q : Exit → Act → World → Prop} {a : Act} {W : World} (I : World → Prop) (h : I W) (k : ∀ W', I W' → Code.wp P c Q a W') : Code.wp P c Q a W := k W h
theorem load_box {P : Program} {w : World} {B : Nat} {cs : Array Value} {t ty : TypeId} {d : TypeDesc} (h : Box w B cs t) (hu : P.underlying ty = some d) (hd : d.isRow = true) (hi : (P.info? ty).map (·.size) = some cs.size) : (loadVar ty ⟨B, 0, none⟩).run P w = .ok (.agg cs) w := by
  have q := run_loadVar_mid (P := P) w B 0 ty cs.toList d h.range hu hd (by rw [Array.length_toList]; exact hi)
  exact q
theorem sizec_fld : (Tryz.prog.info? 62).map (·.size) = some 3 := by kernel_rfl
set_option maxHeartbeats 4000000 in
set_option maxRecDepth 100000 in
theorem cp_fld (x : Fld) (w : World) (h0 : x.name.length ≤ 281474976710656) (h1 : x.kind.length ≤ 281474976710656) : Calls Tryz.prog 126 #[fldV x] w (fun e w' => e = .returned (fldV x) ∧ Below w.heap.size w w') := by
  have HF := Lib.hid (fb_new w #[.string (S x.name), .string (S x.kind), .bool x.tr] #[.string ⟨#[]⟩, .string ⟨#[]⟩, .bool false] 62)
  have HC0 := Lib.hid (fun w => sclone_any (S x.name) w (by rw [S_size]; exact h0))
  have HC1 := Lib.hid (fun w => sclone_any (S x.kind) w (by rw [S_size]; exact h1))
  clear h0 h1
  obtain ⟨W1, hW1⟩ : ∃ W1, W1 = (w.alloc (.cells #[.string (S x.name), .string (S x.kind), .bool x.tr] 62)).alloc (.cells #[.string ⟨#[]⟩, .string ⟨#[]⟩, .bool false] 62) := ⟨_, rfl⟩
  go_enter Tryz.func126, Tryz.ntmps126
  go_upto_region 1 with fail
  rw [← hW1] at HF ⊢
  clear hW1
  obtain ⟨c1, hc1⟩ : ∃ c, c = w.heap.size := ⟨_, rfl⟩
  rw [← hc1] at HF ⊢
  obtain ⟨c2, hc2⟩ : ∃ c, c = c1 + 1 := ⟨_, rfl⟩
  rw [← hc2] at HF ⊢
  clear hc2 hc1
  have f0 := HF.out
  have HS : Hid (∀ W, FB w c1 c2 #[.string (S x.name), .string (S x.kind), .bool x.tr] #[.string ⟨#[]⟩, .string ⟨#[]⟩, .bool false] 62 W → W.cell? ⟨c1, 0, none⟩ = some (.string (S x.name)) ∧ W.frozen? ⟨c1, 0, none⟩ = false ∧ W.cell? ⟨c1, 1, none⟩ = some (.string (S x.kind)) ∧ W.frozen? ⟨c1, 1, none⟩ = false) := Lib.hid (fun W h => ⟨h.b1.cell 0 rfl, h.b1.free 0, h.b1.cell 1 rfl, h.b1.free 1⟩)
  obtain ⟨g1, g2, g3, g4⟩ := HS.out W1 f0
  first
  | (go_region_held3 (fun W => W.cell? ⟨c1, 0, none⟩ = some (.string (S x.name)) ∧ W.frozen? ⟨c1, 0, none⟩ = false ∧ W.cell? ⟨c1, 1, none⟩ = some (.string (S x.kind)) ∧ W.frozen? ⟨c1, 1, none⟩ = false) ((refine HS.out _ ?_; (repeat (first | (with_reducible assumption) | (with_reducible refine fb_drew ?_) | (with_reducible (apply fb_below; assumption)) | (with_reducible refine fb_put rfl ?_)))))
      (first
       | ((go_at_call 83; (with_reducible refine (HC0.out _).mono ?_); rintro en wx1 ⟨rfl, bx1⟩))
       | ((go_at_call 83; (with_reducible refine (HC1.out _).mono ?_); rintro en wx2 ⟨rfl, bx2⟩))))
  | fail
  all_goals
    go_upto_region 2 with fail
    refine wp_forget (FB w c1 c2 #[.string (S x.name), .string (S x.kind), .bool x.tr] #[.string ⟨#[]⟩, .string ⟨#[]⟩, .bool false] 62) (by (repeat (first | (with_reducible assumption) | (with_reducible refine fb_drew ?_) | (with_reducible (apply fb_below; assumption)) | (with_reducible refine fb_put rfl ?_)))) ?_
    intro W3 f3
    clear g1 g2 g3 g4
    have p0 := f3.b1.cell 0 rfl
    have q0 := f3.b2.cell 0 rfl
    have r0 := f3.b2.free 0
    have p1 := f3.b1.cell 1 rfl
    have q1 := f3.b2.cell 1 rfl
    have r1 := f3.b2.free 1
    have p2 := f3.b1.cell 2 rfl
    have q2 := f3.b2.cell 2 rfl
    have r2 := f3.b2.free 2
    have F3 := Lib.hid f3
    clear f3
    go_wp2
    have l := load_box (P := Tryz.prog) (w := (((W3.setCell ⟨c2, 0, none⟩ (.string (S x.name))).setCell ⟨c2, 1, none⟩ (.string (S x.kind))).setCell ⟨c2, 2, none⟩ (.bool x.tr))) (cs := #[.string (S x.name), .string (S x.kind), .bool x.tr]) (((F3.out.b2.set 0 (.string (S x.name))).set 1 (.string (S x.kind))).set 2 (.bool x.tr)) Tryz.underlying62 rfl sizec_fld
    have hb : Below w.heap.size w (((W3.setCell ⟨c2, 0, none⟩ (.string (S x.name))).setCell ⟨c2, 1, none⟩ (.string (S x.kind))).setCell ⟨c2, 2, none⟩ (.bool x.tr)) := (((F3.out.bel.setCell F3.out.ge2 (.string (S x.name))).setCell F3.out.ge2 (.string (S x.kind))).setCell F3.out.ge2 (.bool x.tr))
    refine bodyPost_ret (v := .agg #[.string (S x.name), .string (S x.kind), .bool x.tr]) ?_ rfl ⟨rfl, hb⟩
    simp only [results, Tryz.results126]
    simp [asAddr, l]
theorem sizec_ins : (Tryz.prog.info? 70).map (·.size) = some 3 := by kernel_rfl
set_option maxHeartbeats 4000000 in
set_option maxRecDepth 100000 in
theorem cp_ins (x : Ins) (w : World) (h0 : x.op.length ≤ 281474976710656) (h2 : x.s.length ≤ 281474976710656) : Calls Tryz.prog 137 #[insVal x] w (fun e w' => e = .returned (insVal x) ∧ Below w.heap.size w w') := by
  have HF := Lib.hid (fb_new w #[.string (S x.op), .int .i64 x.n, .string (S x.s)] #[.string ⟨#[]⟩, .int .i64 0, .string ⟨#[]⟩] 70)
  have HC0 := Lib.hid (fun w => sclone_any (S x.op) w (by rw [S_size]; exact h0))
  have HC2 := Lib.hid (fun w => sclone_any (S x.s) w (by rw [S_size]; exact h2))
  clear h0 h2
  obtain ⟨W1, hW1⟩ : ∃ W1, W1 = (w.alloc (.cells #[.string (S x.op), .int .i64 x.n, .string (S x.s)] 70)).alloc (.cells #[.string ⟨#[]⟩, .int .i64 0, .string ⟨#[]⟩] 70) := ⟨_, rfl⟩
  go_enter Tryz.func137, Tryz.ntmps137
  go_upto_region 1 with fail
  rw [← hW1] at HF ⊢
  clear hW1
  obtain ⟨c1, hc1⟩ : ∃ c, c = w.heap.size := ⟨_, rfl⟩
  rw [← hc1] at HF ⊢
  obtain ⟨c2, hc2⟩ : ∃ c, c = c1 + 1 := ⟨_, rfl⟩
  rw [← hc2] at HF ⊢
  clear hc2 hc1
  have f0 := HF.out
  have HS : Hid (∀ W, FB w c1 c2 #[.string (S x.op), .int .i64 x.n, .string (S x.s)] #[.string ⟨#[]⟩, .int .i64 0, .string ⟨#[]⟩] 70 W → W.cell? ⟨c1, 0, none⟩ = some (.string (S x.op)) ∧ W.frozen? ⟨c1, 0, none⟩ = false ∧ W.cell? ⟨c1, 2, none⟩ = some (.string (S x.s)) ∧ W.frozen? ⟨c1, 2, none⟩ = false) := Lib.hid (fun W h => ⟨h.b1.cell 0 rfl, h.b1.free 0, h.b1.cell 2 rfl, h.b1.free 2⟩)
  obtain ⟨g1, g2, g3, g4⟩ := HS.out W1 f0
  first
  | (go_region_held3 (fun W => W.cell? ⟨c1, 0, none⟩ = some (.string (S x.op)) ∧ W.frozen? ⟨c1, 0, none⟩ = false ∧ W.cell? ⟨c1, 2, none⟩ = some (.string (S x.s)) ∧ W.frozen? ⟨c1, 2, none⟩ = false) ((refine HS.out _ ?_; (repeat (first | (with_reducible assumption) | (with_reducible refine fb_drew ?_) | (with_reducible (apply fb_below; assumption)) | (with_reducible refine fb_put rfl ?_)))))
      (first
       | ((go_at_call 83; (with_reducible refine (HC0.out _).mono ?_); rintro en wx1 ⟨rfl, bx1⟩))
       | ((go_at_call 83; (with_reducible refine (HC2.out _).mono ?_); rintro en wx2 ⟨rfl, bx2⟩))))
  | fail
  all_goals
    go_upto_region 2 with fail
    refine wp_forget (FB w c1 c2 #[.string (S x.op), .int .i64 x.n, .string (S x.s)] #[.string ⟨#[]⟩, .int .i64 0, .string ⟨#[]⟩] 70) (by (repeat (first | (with_reducible assumption) | (with_reducible refine fb_drew ?_) | (with_reducible (apply fb_below; assumption)) | (with_reducible refine fb_put rfl ?_)))) ?_
    intro W3 f3
    clear g1 g2 g3 g4
    have p0 := f3.b1.cell 0 rfl
    have q0 := f3.b2.cell 0 rfl
    have r0 := f3.b2.free 0
    have p1 := f3.b1.cell 1 rfl
    have q1 := f3.b2.cell 1 rfl
    have r1 := f3.b2.free 1
    have p2 := f3.b1.cell 2 rfl
    have q2 := f3.b2.cell 2 rfl
    have r2 := f3.b2.free 2
    have F3 := Lib.hid f3
    clear f3
    go_wp2
    have l := load_box (P := Tryz.prog) (w := (((W3.setCell ⟨c2, 0, none⟩ (.string (S x.op))).setCell ⟨c2, 1, none⟩ (.int .i64 x.n)).setCell ⟨c2, 2, none⟩ (.string (S x.s)))) (cs := #[.string (S x.op), .int .i64 x.n, .string (S x.s)]) (((F3.out.b2.set 0 (.string (S x.op))).set 1 (.int .i64 x.n)).set 2 (.string (S x.s))) Tryz.underlying70 rfl sizec_ins
    have hb : Below w.heap.size w (((W3.setCell ⟨c2, 0, none⟩ (.string (S x.op))).setCell ⟨c2, 1, none⟩ (.int .i64 x.n)).setCell ⟨c2, 2, none⟩ (.string (S x.s))) := (((F3.out.bel.setCell F3.out.ge2 (.string (S x.op))).setCell F3.out.ge2 (.int .i64 x.n)).setCell F3.out.ge2 (.string (S x.s)))
    refine bodyPost_ret (v := .agg #[.string (S x.op), .int .i64 x.n, .string (S x.s)]) ?_ rfl ⟨rfl, hb⟩
    simp only [results, Tryz.results137]
    simp [asAddr, l]
theorem sizec_cat : (Tryz.prog.info? 141).map (·.size) = some 4 := by kernel_rfl
set_option maxHeartbeats 4000000 in
set_option maxRecDepth 100000 in
theorem cp_cat (x : Cat) (w : World) (h3 : x.cls.length ≤ 281474976710656) : Calls Tryz.prog 139 #[catV x] w (fun e w' => e = .returned (catV x) ∧ Below w.heap.size w w') := by
  have HF := Lib.hid (fb_new w #[.int .i64 x.fr, .int .i64 x.till, .int .i64 x.at_, .string (S x.cls)] #[.int .i64 0, .int .i64 0, .int .i64 0, .string ⟨#[]⟩] 141)
  have HC3 := Lib.hid (fun w => sclone_any (S x.cls) w (by rw [S_size]; exact h3))
  clear h3
  obtain ⟨W1, hW1⟩ : ∃ W1, W1 = (w.alloc (.cells #[.int .i64 x.fr, .int .i64 x.till, .int .i64 x.at_, .string (S x.cls)] 141)).alloc (.cells #[.int .i64 0, .int .i64 0, .int .i64 0, .string ⟨#[]⟩] 141) := ⟨_, rfl⟩
  go_enter Tryz.func139, Tryz.ntmps139
  go_upto_region 1 with fail
  rw [← hW1] at HF ⊢
  clear hW1
  obtain ⟨c1, hc1⟩ : ∃ c, c = w.heap.size := ⟨_, rfl⟩
  rw [← hc1] at HF ⊢
  obtain ⟨c2, hc2⟩ : ∃ c, c = c1 + 1 := ⟨_, rfl⟩
  rw [← hc2] at HF ⊢
  clear hc2 hc1
  have f0 := HF.out
  have g1 := f0.b1.cell 3 rfl
  go_wp2_with fail
  refine (HC3.out _).mono ?_
  rintro e w2 ⟨rfl, bx1⟩
  have F2 := Lib.hid (fb_below bx1 f0)
  clear bx1 f0 g1
  have f2 := F2.out
  have g1 := f2.b1.cell 3 rfl
  have g2 := f2.b1.free 3
  go_upto_region 2 with fail
  refine wp_forget (FB w c1 c2 #[.int .i64 x.fr, .int .i64 x.till, .int .i64 x.at_, .string (S x.cls)] #[.int .i64 0, .int .i64 0, .int .i64 0, .string ⟨#[]⟩] 141) (by (repeat (first | (with_reducible assumption) | (with_reducible refine fb_drew ?_) | (with_reducible (apply fb_below; assumption)) | (with_reducible refine fb_put rfl ?_)))) ?_
  intro W3 f3
  clear g1 g2 f2
  have p0 := f3.b1.cell 0 rfl
  have q0 := f3.b2.cell 0 rfl
  have r0 := f3.b2.free 0
  have p1 := f3.b1.cell 1 rfl
  have q1 := f3.b2.cell 1 rfl
  have r1 := f3.b2.free 1
  have p2 := f3.b1.cell 2 rfl
  have q2 := f3.b2.cell 2 rfl
  have r2 := f3.b2.free 2
  have p3 := f3.b1.cell 3 rfl
  have q3 := f3.b2.cell 3 rfl
  have r3 := f3.b2.free 3
  have F3 := Lib.hid f3
  clear f3
  go_wp2
  have l := load_box (P := Tryz.prog) (w := ((((W3.setCell ⟨c2, 0, none⟩ (.int .i64 x.fr)).setCell ⟨c2, 1, none⟩ (.int .i64 x.till)).setCell ⟨c2, 2, none⟩ (.int .i64 x.at_)).setCell ⟨c2, 3, none⟩ (.string (S x.cls)))) (cs := #[.int .i64 x.fr, .int .i64 x.till, .int .i64 x.at_, .string (S x.cls)]) ((((F3.out.b2.set 0 (.int .i64 x.fr)).set 1 (.int .i64 x.till)).set 2 (.int .i64 x.at_)).set 3 (.string (S x.cls))) Tryz.underlying141 rfl sizec_cat
  have hb : Below w.heap.size w ((((W3.setCell ⟨c2, 0, none⟩ (.int .i64 x.fr)).setCell ⟨c2, 1, none⟩ (.int .i64 x.till)).setCell ⟨c2, 2, none⟩ (.int .i64 x.at_)).setCell ⟨c2, 3, none⟩ (.string (S x.cls))) := ((((F3.out.bel.setCell F3.out.ge2 (.int .i64 x.fr)).setCell F3.out.ge2 (.int .i64 x.till)).setCell F3.out.ge2 (.int .i64 x.at_)).setCell F3.out.ge2 (.string (S x.cls)))
  refine bodyPost_ret (v := .agg #[.int .i64 x.fr, .int .i64 x.till, .int .i64 x.at_, .string (S x.cls)]) ?_ rfl ⟨rfl, hb⟩
  simp only [results, Tryz.results139]
  simp [asAddr, l]
end Go.Proofs.YtpincofjopmaaaaGreatDoor
namespace Go.Proofs.YtpincofjopmaaaaGreatDoor
open Go.RowKit
structure Mth.Small (m : Mth) : Prop where
  name : m.name.length ≤ 281474976710656
  res : m.res.length ≤ 281474976710656
  n1 : m.params.length ≤ 1048576
  n2 : m.code.length ≤ 1048576
  n3 : m.cats.length ≤ 1048576
  params : ∀ x ∈ m.params, x.length ≤ 281474976710656
  code : ∀ x ∈ m.code, x.op.length ≤ 281474976710656 ∧ x.s.length ≤ 281474976710656
  cats : ∀ x ∈ m.cats, x.cls.length ≤ 281474976710656
structure Cls.Small (c : Cls) : Prop where
  name : c.name.length ≤ 281474976710656
  sup : c.sup.length ≤ 281474976710656
  n1 : c.like.length ≤ 1048576
  n2 : c.flds.length ≤ 1048576
  n3 : c.mths.length ≤ 1048576
  like : ∀ x ∈ c.like, x.length ≤ 281474976710656
  flds : ∀ x ∈ c.flds, x.name.length ≤ 281474976710656 ∧ x.kind.length ≤ 281474976710656
  mths : ∀ x ∈ c.mths, x.Small
theorem copyF_str (l : List (List UInt8)) (w : World) (h : ∀ x ∈ l, x.length ≤ 281474976710656) : CopyF StrR 83 #[] l w := fun x v W hx _ hv => by
  obtain rfl := hv
  exact (sclone_any (S x) W (by rw [S_size]; exact h x hx)).mono fun e W' ⟨h1, h2⟩ => ⟨_, h1, rfl, h2⟩
theorem copyF_fld (l : List Fld) (w : World) (h : ∀ x ∈ l, x.name.length ≤ 281474976710656 ∧ x.kind.length ≤ 281474976710656) : CopyF FldR 126 #[] l w := fun x v W hx _ hv => by
  obtain rfl := hv
  exact (cp_fld x W (h x hx).1 (h x hx).2).mono fun e W' ⟨h1, h2⟩ => ⟨_, h1, rfl, h2⟩
theorem copyF_ins (l : List Ins) (w : World) (h : ∀ x ∈ l, x.op.length ≤ 281474976710656 ∧ x.s.length ≤ 281474976710656) : CopyF InsR 137 #[] l w := fun x v W hx _ hv => by
  obtain rfl := hv
  exact (cp_ins x W (h x hx).1 (h x hx).2).mono fun e W' ⟨h1, h2⟩ => ⟨_, h1, rfl, h2⟩
theorem copyF_cat (l : List Cat) (w : World) (h : ∀ x ∈ l, x.cls.length ≤ 281474976710656) : CopyF CatR 139 #[] l w := fun x v W hx _ hv => by
  obtain rfl := hv
  exact (cp_cat x W (h x hx)).mono fun e W' ⟨h1, h2⟩ => ⟨_, h1, rfl, h2⟩
theorem sizec_mth : (Tryz.prog.info? 33).map (·.size) = some 7 := by kernel_rfl
set_option maxHeartbeats 8000000 in
set_option maxRecDepth 100000 in
theorem cp_mth {A : Nat → Prop} (m : Mth) (v : Value) (w : World) (hv : MthR A w m v) (hsm : m.Small) : Calls Tryz.prog 91 #[v] w (fun e w' => ∃ v', e = .returned v' ∧ MthR (fun i => w.heap.size ≤ i) w' m v' ∧ Below w.heap.size w w') := by
  obtain ⟨pv, cv, kv, rfl, hs1, hs5, hs6⟩ := hv
  obtain ⟨po, pc, rfl⟩ := hs1.shape
  obtain ⟨co, cc, rfl⟩ := hs5.shape
  obtain ⟨ko, kc, rfl⟩ := hs6.shape
  have HF := Lib.hid (fb_new w #[.string (S m.name), .slice po m.params.length pc, .string (S m.res), .bool m.abs, .int .i64 m.loc, .slice co m.code.length cc, .slice ko m.cats.length kc] #[.string ⟨#[]⟩, .slice none 0 0, .string ⟨#[]⟩, .bool false, .int .i64 0, .slice none 0 0, .slice none 0 0] 33)
  have HC0 := Lib.hid (fun w => sclone_any (S m.name) w (by rw [S_size]; exact hsm.name))
  have HC2 := Lib.hid (fun w => sclone_any (S m.res) w (by rw [S_size]; exact hsm.res))
  have HL1 : Hid (∀ W, Below w.heap.size w W → Calls Tryz.prog 124 #[.slice po m.params.length pc, .func (.func 83) #[] #[]] W (CopiedG 1 StrR m.params W)) := Lib.hid (fun W hW => copyl_str _ _ (enters_fn Tryz.func83 (by kernel_rfl) rfl) m.params _ W (StrR.st.below hs1 hW) hsm.n1 (copyF_str m.params W hsm.params))
  have HL5 : Hid (∀ W, Below w.heap.size w W → Calls Tryz.prog 136 #[.slice co m.code.length cc, .func (.func 137) #[] #[]] W (CopiedG 3 InsR m.code W)) := Lib.hid (fun W hW => copyl_ins _ _ (enters_fn Tryz.func137 (by kernel_rfl) rfl) m.code _ W (InsR.st.below hs5 hW) hsm.n2 (copyF_ins m.code W hsm.code))
  have HL6 : Hid (∀ W, Below w.heap.size w W → Calls Tryz.prog 138 #[.slice ko m.cats.length kc, .func (.func 139) #[] #[]] W (CopiedG 4 CatR m.cats W)) := Lib.hid (fun W hW => copyl_cat _ _ (enters_fn Tryz.func139 (by kernel_rfl) rfl) m.cats _ W (CatR.st.below hs6 hW) hsm.n3 (copyF_cat m.cats W hsm.cats))
  clear hsm hs1 hs5 hs6
  obtain ⟨W1, hW1⟩ : ∃ W1, W1 = (w.alloc (.cells #[.string (S m.name), .slice po m.params.length pc, .string (S m.res), .bool m.abs, .int .i64 m.loc, .slice co m.code.length cc, .slice ko m.cats.length kc] 33)).alloc (.cells #[.string ⟨#[]⟩, .slice none 0 0, .string ⟨#[]⟩, .bool false, .int .i64 0, .slice none 0 0, .slice none 0 0] 33) := ⟨_, rfl⟩
  unfold CopiedG at HL1 HL5 HL6
  go_enter Tryz.func91, Tryz.ntmps91
  go_upto_region 1 with fail
  rw [← hW1] at HF ⊢
  clear hW1
  obtain ⟨c1, hc1⟩ : ∃ c, c = w.heap.size := ⟨_, rfl⟩
  rw [← hc1] at HF ⊢
  obtain ⟨c2, hc2⟩ : ∃ c, c = c1 + 1 := ⟨_, rfl⟩
  rw [← hc2] at HF ⊢
  have HC12 : Hid (c1 < c2) := Lib.hid (by omega)
  have HCW : Hid (c1 = w.heap.size) := Lib.hid hc1
  clear hc2 hc1
  have f0 := HF.out
  have HS : Hid (∀ W, FB w c1 c2 #[.string (S m.name), .slice po m.params.length pc, .string (S m.res), .bool m.abs, .int .i64 m.loc, .slice co m.code.length cc, .slice ko m.cats.length kc] #[.string ⟨#[]⟩, .slice none 0 0, .string ⟨#[]⟩, .bool false, .int .i64 0, .slice none 0 0, .slice none 0 0] 33 W → W.cell? ⟨c1, 0, none⟩ = some (.string (S m.name)) ∧ W.frozen? ⟨c1, 0, none⟩ = false ∧ W.cell? ⟨c1, 2, none⟩ = some (.string (S m.res)) ∧ W.frozen? ⟨c1, 2, none⟩ = false) := Lib.hid (fun W h => ⟨h.b1.cell 0 rfl, h.b1.free 0, h.b1.cell 2 rfl, h.b1.free 2⟩)
  obtain ⟨g1, g2, g3, g4⟩ := HS.out W1 f0
  first
  | (go_region_held3 (fun W => W.cell? ⟨c1, 0, none⟩ = some (.string (S m.name)) ∧ W.frozen? ⟨c1, 0, none⟩ = false ∧ W.cell? ⟨c1, 2, none⟩ = some (.string (S m.res)) ∧ W.frozen? ⟨c1, 2, none⟩ = false) ((refine HS.out _ ?_; (repeat (first | (with_reducible assumption) | (with_reducible refine fb_drew ?_) | (with_reducible (apply fb_below; assumption)) | (with_reducible refine fb_put rfl ?_)))))
      (first
       | ((go_at_call 83; (with_reducible refine (HC0.out _).mono ?_); rintro en wx1 ⟨rfl, bx1⟩))
       | ((go_at_call 83; (with_reducible refine (HC2.out _).mono ?_); rintro en wx2 ⟨rfl, bx2⟩))))
  | fail
  all_goals
    go_upto_region 2 with fail
    refine wp_forget (FB w c1 c2 #[.string (S m.name), .slice po m.params.length pc, .string (S m.res), .bool m.abs, .int .i64 m.loc, .slice co m.code.length cc, .slice ko m.cats.length kc] #[.string ⟨#[]⟩, .slice none 0 0, .string ⟨#[]⟩, .bool false, .int .i64 0, .slice none 0 0, .slice none 0 0] 33) (by (repeat (first | (with_reducible assumption) | (with_reducible refine fb_drew ?_) | (with_reducible (apply fb_below; assumption)) | (with_reducible refine fb_put rfl ?_)))) ?_
    intro W2 f2
    clear g1 g2 g3 g4 f0
    have F2 := Lib.hid f2
    clear f2
    have x1 := F2.out.b1.cell 1 rfl
    go_wp2_with fail
    refine (HL1.out W2 F2.out.bel).mono ?_
    rintro e v2 ⟨u1, rfl, hu1, hb1⟩
    obtain ⟨so1, sc1, rfl⟩ := hu1.shape
    have G2 := Lib.hid (fb_below hb1 F2.out)
    have T1_2 : Hid (Src 1 StrR (fun i => c2 < i) v2 (.slice so1 m.params.length sc1) m.params) := Lib.hid (StrR.st.srcMono hu1 (fun i _ hi => Nat.lt_of_lt_of_le F2.out.b2.lt hi))
    have y1 := G2.out.b1.cell 1 rfl
    have z1 := G2.out.b1.free 1
    clear x1 hu1 hb1
    go_upto_region 3 with fail
    refine wp_forget (fun W => FB w c1 c2 #[.string (S m.name), .slice so1 m.params.length sc1, .string (S m.res), .bool m.abs, .int .i64 m.loc, .slice co m.code.length cc, .slice ko m.cats.length kc] #[.string ⟨#[]⟩, .slice none 0 0, .string ⟨#[]⟩, .bool false, .int .i64 0, .slice none 0 0, .slice none 0 0] 33 W ∧ Src 1 StrR (fun i => c2 < i) W (.slice so1 m.params.length sc1) m.params) ⟨fb_set 1 _ G2.out, StrR.st.src T1_2.out ((Only.refl (fun i => i = c1) _).setCell rfl _) (fun i (hi : c2 < i) (h : i = c1) => by have := HC12.out; omega)⟩ ?_
    rintro W3 ⟨f3, s1⟩
    have F3 := Lib.hid f3
    have S1_3 := Lib.hid s1
    clear f3 y1 z1 s1
    have x5 := F3.out.b1.cell 5 rfl
    go_wp2_with fail
    refine (HL5.out W3 F3.out.bel).mono ?_
    rintro e v3 ⟨u5, rfl, hu5, hb5⟩
    obtain ⟨so5, sc5, rfl⟩ := hu5.shape
    have G3 := Lib.hid (fb_below hb5 F3.out)
    have T1_3 := Lib.hid (StrR.st.below S1_3.out hb5)
    have T5_3 : Hid (Src 3 InsR (fun i => c2 < i) v3 (.slice so5 m.code.length sc5) m.code) := Lib.hid (InsR.st.srcMono hu5 (fun i _ hi => Nat.lt_of_lt_of_le F3.out.b2.lt hi))
    have y5 := G3.out.b1.cell 5 rfl
    have z5 := G3.out.b1.free 5
    clear x5 hu5 hb5
    go_upto_region 4 with fail
    refine wp_forget (fun W => FB w c1 c2 #[.string (S m.name), .slice so1 m.params.length sc1, .string (S m.res), .bool m.abs, .int .i64 m.loc, .slice so5 m.code.length sc5, .slice ko m.cats.length kc] #[.string ⟨#[]⟩, .slice none 0 0, .string ⟨#[]⟩, .bool false, .int .i64 0, .slice none 0 0, .slice none 0 0] 33 W ∧ Src 1 StrR (fun i => c2 < i) W (.slice so1 m.params.length sc1) m.params ∧ Src 3 InsR (fun i => c2 < i) W (.slice so5 m.code.length sc5) m.code) ⟨fb_set 5 _ G3.out, StrR.st.src T1_3.out ((Only.refl (fun i => i = c1) _).setCell rfl _) (fun i (hi : c2 < i) (h : i = c1) => by have := HC12.out; omega), InsR.st.src T5_3.out ((Only.refl (fun i => i = c1) _).setCell rfl _) (fun i (hi : c2 < i) (h : i = c1) => by have := HC12.out; omega)⟩ ?_
    rintro W4 ⟨f4, s1, s5⟩
    have F4 := Lib.hid f4
    have S1_4 := Lib.hid s1
    have S5_4 := Lib.hid s5
    clear f4 y5 z5 s1 s5
    have x6 := F4.out.b1.cell 6 rfl
    go_wp2_with fail
    refine (HL6.out W4 F4.out.bel).mono ?_
    rintro e v4 ⟨u6, rfl, hu6, hb6⟩
    obtain ⟨so6, sc6, rfl⟩ := hu6.shape
    have G4 := Lib.hid (fb_below hb6 F4.out)
    have T1_4 := Lib.hid (StrR.st.below S1_4.out hb6)
    have T5_4 := Lib.hid (InsR.st.below S5_4.out hb6)
    have T6_4 : Hid (Src 4 CatR (fun i => c2 < i) v4 (.slice so6 m.cats.length sc6) m.cats) := Lib.hid (CatR.st.srcMono hu6 (fun i _ hi => Nat.lt_of_lt_of_le F4.out.b2.lt hi))
    have y6 := G4.out.b1.cell 6 rfl
    have z6 := G4.out.b1.free 6
    clear x6 hu6 hb6
    go_upto_region 5 with fail
    refine wp_forget (fun W => FB w c1 c2 #[.string (S m.name), .slice so1 m.params.length sc1, .string (S m.res), .bool m.abs, .int .i64 m.loc, .slice so5 m.code.length sc5, .slice so6 m.cats.length sc6] #[.string ⟨#[]⟩, .slice none 0 0, .string ⟨#[]⟩, .bool false, .int .i64 0, .slice none 0 0, .slice none 0 0] 33 W ∧ Src 1 StrR (fun i => c2 < i) W (.slice so1 m.params.length sc1) m.params ∧ Src 3 InsR (fun i => c2 < i) W (.slice so5 m.code.length sc5) m.code ∧ Src 4 CatR (fun i => c2 < i) W (.slice so6 m.cats.length sc6) m.cats) ⟨fb_set 6 _ G4.out, StrR.st.src T1_4.out ((Only.refl (fun i => i = c1) _).setCell rfl _) (fun i (hi : c2 < i) (h : i = c1) => by have := HC12.out; omega), InsR.st.src T5_4.out ((Only.refl (fun i => i = c1) _).setCell rfl _) (fun i (hi : c2 < i) (h : i = c1) => by have := HC12.out; omega), CatR.st.src T6_4.out ((Only.refl (fun i => i = c1) _).setCell rfl _) (fun i (hi : c2 < i) (h : i = c1) => by have := HC12.out; omega)⟩ ?_
    rintro W5 ⟨f5, s1, s5, s6⟩
    have F5 := Lib.hid f5
    have S1_5 := Lib.hid s1
    have S5_5 := Lib.hid s5
    have S6_5 := Lib.hid s6
    clear f5 y6 z6 s1 s5 s6
    have p0 := F5.out.b1.cell 0 rfl
    have q0 := F5.out.b2.cell 0 rfl
    have r0 := F5.out.b2.free 0
    have p1 := F5.out.b1.cell 1 rfl
    have q1 := F5.out.b2.cell 1 rfl
    have r1 := F5.out.b2.free 1
    have p2 := F5.out.b1.cell 2 rfl
    have q2 := F5.out.b2.cell 2 rfl
    have r2 := F5.out.b2.free 2
    have p3 := F5.out.b1.cell 3 rfl
    have q3 := F5.out.b2.cell 3 rfl
    have r3 := F5.out.b2.free 3
    have p4 := F5.out.b1.cell 4 rfl
    have q4 := F5.out.b2.cell 4 rfl
    have r4 := F5.out.b2.free 4
    have p5 := F5.out.b1.cell 5 rfl
    have q5 := F5.out.b2.cell 5 rfl
    have r5 := F5.out.b2.free 5
    have p6 := F5.out.b1.cell 6 rfl
    have q6 := F5.out.b2.cell 6 rfl
    have r6 := F5.out.b2.free 6
    go_wp2
    have l := load_box (P := Tryz.prog) (w := (((((((W5.setCell ⟨c2, 0, none⟩ (.string (S m.name))).setCell ⟨c2, 1, none⟩ (.slice so1 m.params.length sc1)).setCell ⟨c2, 2, none⟩ (.string (S m.res))).setCell ⟨c2, 3, none⟩ (.bool m.abs)).setCell ⟨c2, 4, none⟩ (.int .i64 m.loc)).setCell ⟨c2, 5, none⟩ (.slice so5 m.code.length sc5)).setCell ⟨c2, 6, none⟩ (.slice so6 m.cats.length sc6))) (cs := #[.string (S m.name), .slice so1 m.params.length sc1, .string (S m.res), .bool m.abs, .int .i64 m.loc, .slice so5 m.code.length sc5, .slice so6 m.cats.length sc6]) (((((((F5.out.b2.set 0 (.string (S m.name))).set 1 (.slice so1 m.params.length sc1)).set 2 (.string (S m.res))).set 3 (.bool m.abs)).set 4 (.int .i64 m.loc)).set 5 (.slice so5 m.code.length sc5)).set 6 (.slice so6 m.cats.length sc6)) Tryz.underlying33 rfl sizec_mth
    have hb : Below w.heap.size w (((((((W5.setCell ⟨c2, 0, none⟩ (.string (S m.name))).setCell ⟨c2, 1, none⟩ (.slice so1 m.params.length sc1)).setCell ⟨c2, 2, none⟩ (.string (S m.res))).setCell ⟨c2, 3, none⟩ (.bool m.abs)).setCell ⟨c2, 4, none⟩ (.int .i64 m.loc)).setCell ⟨c2, 5, none⟩ (.slice so5 m.code.length sc5)).setCell ⟨c2, 6, none⟩ (.slice so6 m.cats.length sc6)) := (((((((F5.out.bel.setCell F5.out.ge2 (.string (S m.name))).setCell F5.out.ge2 (.slice so1 m.params.length sc1)).setCell F5.out.ge2 (.string (S m.res))).setCell F5.out.ge2 (.bool m.abs)).setCell F5.out.ge2 (.int .i64 m.loc)).setCell F5.out.ge2 (.slice so5 m.code.length sc5)).setCell F5.out.ge2 (.slice so6 m.cats.length sc6))
    have ho : Only (fun i => i = c2) W5 (((((((W5.setCell ⟨c2, 0, none⟩ (.string (S m.name))).setCell ⟨c2, 1, none⟩ (.slice so1 m.params.length sc1)).setCell ⟨c2, 2, none⟩ (.string (S m.res))).setCell ⟨c2, 3, none⟩ (.bool m.abs)).setCell ⟨c2, 4, none⟩ (.int .i64 m.loc)).setCell ⟨c2, 5, none⟩ (.slice so5 m.code.length sc5)).setCell ⟨c2, 6, none⟩ (.slice so6 m.cats.length sc6)) := ((((((((Only.refl (fun i => i = c2) W5).setCell rfl (.string (S m.name))).setCell rfl (.slice so1 m.params.length sc1)).setCell rfl (.string (S m.res))).setCell rfl (.bool m.abs)).setCell rfl (.int .i64 m.loc)).setCell rfl (.slice so5 m.code.length sc5)).setCell rfl (.slice so6 m.cats.length sc6))
    refine bodyPost_ret (v := .agg #[.string (S m.name), .slice so1 m.params.length sc1, .string (S m.res), .bool m.abs, .int .i64 m.loc, .slice so5 m.code.length sc5, .slice so6 m.cats.length sc6]) ?_ rfl ⟨_, rfl, ⟨_, _, _, rfl, StrR.st.srcMono (StrR.st.src S1_5.out ho (fun i (hi : c2 < i) (h : i = c2) => by omega)) (fun i _ (hi : c2 < i) => by have h1 := HC12.out; have h2 := HCW.out; show w.heap.size ≤ i; omega), InsR.st.srcMono (InsR.st.src S5_5.out ho (fun i (hi : c2 < i) (h : i = c2) => by omega)) (fun i _ (hi : c2 < i) => by have h1 := HC12.out; have h2 := HCW.out; show w.heap.size ≤ i; omega), CatR.st.srcMono (CatR.st.src S6_5.out ho (fun i (hi : c2 < i) (h : i = c2) => by omega)) (fun i _ (hi : c2 < i) => by have h1 := HC12.out; have h2 := HCW.out; show w.heap.size ≤ i; omega)⟩, hb⟩
    simp only [results, Tryz.results91]
    simp [asAddr, l]
theorem copyF_mth (l : List Mth) (w : World) (h : ∀ x ∈ l, x.Small) : CopyF MthR 91 #[] l w := fun x v W hx _ hv => cp_mth x v W hv (h x hx)
theorem sizec_cls : (Tryz.prog.info? 26).map (·.size) = some 8 := by kernel_rfl
set_option maxHeartbeats 8000000 in
set_option maxRecDepth 100000 in
theorem cp_cls {A : Nat → Prop} (c : Cls) (v : Value) (w : World) (hv : ClsR A w c v) (hsm : c.Small) : Calls Tryz.prog 72 #[v] w (fun e w' => ∃ v', e = .returned v' ∧ ClsR (fun i => w.heap.size ≤ i) w' c v' ∧ Below w.heap.size w w') := by
  obtain ⟨lv, fv, mv, rfl, hs2, hs6, hs7⟩ := hv
  obtain ⟨lo, lc, rfl⟩ := hs2.shape
  obtain ⟨fo, fc, rfl⟩ := hs6.shape
  obtain ⟨mo, mc, rfl⟩ := hs7.shape
  have HF := Lib.hid (fb_new w #[.string (S c.name), .string (S c.sup), .slice lo c.like.length lc, .bool c.itf, .bool c.abs, .bool c.fin, .slice fo c.flds.length fc, .slice mo c.mths.length mc] #[.string ⟨#[]⟩, .string ⟨#[]⟩, .slice none 0 0, .bool false, .bool false, .bool false, .slice none 0 0, .slice none 0 0] 26)
  have HC0 := Lib.hid (fun w => sclone_any (S c.name) w (by rw [S_size]; exact hsm.name))
  have HC1 := Lib.hid (fun w => sclone_any (S c.sup) w (by rw [S_size]; exact hsm.sup))
  have HL2 : Hid (∀ W, Below w.heap.size w W → Calls Tryz.prog 124 #[.slice lo c.like.length lc, .func (.func 83) #[] #[]] W (CopiedG 1 StrR c.like W)) := Lib.hid (fun W hW => copyl_str _ _ (enters_fn Tryz.func83 (by kernel_rfl) rfl) c.like _ W (StrR.st.below hs2 hW) hsm.n1 (copyF_str c.like W hsm.like))
  have HL6 : Hid (∀ W, Below w.heap.size w W → Calls Tryz.prog 125 #[.slice fo c.flds.length fc, .func (.func 126) #[] #[]] W (CopiedG 3 FldR c.flds W)) := Lib.hid (fun W hW => copyl_fld _ _ (enters_fn Tryz.func126 (by kernel_rfl) rfl) c.flds _ W (FldR.st.below hs6 hW) hsm.n2 (copyF_fld c.flds W hsm.flds))
  have HL7 : Hid (∀ W, Below w.heap.size w W → Calls Tryz.prog 127 #[.slice mo c.mths.length mc, .func (.func 91) #[] #[]] W (CopiedG 7 MthR c.mths W)) := Lib.hid (fun W hW => copyl_mth _ _ (enters_fn Tryz.func91 (by kernel_rfl) rfl) c.mths _ W (MthR.st.below hs7 hW) hsm.n3 (copyF_mth c.mths W hsm.mths))
  clear hsm hs2 hs6 hs7
  obtain ⟨W1, hW1⟩ : ∃ W1, W1 = (w.alloc (.cells #[.string (S c.name), .string (S c.sup), .slice lo c.like.length lc, .bool c.itf, .bool c.abs, .bool c.fin, .slice fo c.flds.length fc, .slice mo c.mths.length mc] 26)).alloc (.cells #[.string ⟨#[]⟩, .string ⟨#[]⟩, .slice none 0 0, .bool false, .bool false, .bool false, .slice none 0 0, .slice none 0 0] 26) := ⟨_, rfl⟩
  unfold CopiedG at HL2 HL6 HL7
  go_enter Tryz.func72, Tryz.ntmps72
  go_upto_region 1 with fail
  rw [← hW1] at HF ⊢
  clear hW1
  obtain ⟨c1, hc1⟩ : ∃ c, c = w.heap.size := ⟨_, rfl⟩
  rw [← hc1] at HF ⊢
  obtain ⟨c2, hc2⟩ : ∃ c, c = c1 + 1 := ⟨_, rfl⟩
  rw [← hc2] at HF ⊢
  have HC12 : Hid (c1 < c2) := Lib.hid (by omega)
  have HCW : Hid (c1 = w.heap.size) := Lib.hid hc1
  clear hc2 hc1
  have f0 := HF.out
  have HS : Hid (∀ W, FB w c1 c2 #[.string (S c.name), .string (S c.sup), .slice lo c.like.length lc, .bool c.itf, .bool c.abs, .bool c.fin, .slice fo c.flds.length fc, .slice mo c.mths.length mc] #[.string ⟨#[]⟩, .string ⟨#[]⟩, .slice none 0 0, .bool false, .bool false, .bool false, .slice none 0 0, .slice none 0 0] 26 W → W.cell? ⟨c1, 0, none⟩ = some (.string (S c.name)) ∧ W.frozen? ⟨c1, 0, none⟩ = false ∧ W.cell? ⟨c1, 1, none⟩ = some (.string (S c.sup)) ∧ W.frozen? ⟨c1, 1, none⟩ = false) := Lib.hid (fun W h => ⟨h.b1.cell 0 rfl, h.b1.free 0, h.b1.cell 1 rfl, h.b1.free 1⟩)
  obtain ⟨g1, g2, g3, g4⟩ := HS.out W1 f0
  first
  | (go_region_held3 (fun W => W.cell? ⟨c1, 0, none⟩ = some (.string (S c.name)) ∧ W.frozen? ⟨c1, 0, none⟩ = false ∧ W.cell? ⟨c1, 1, none⟩ = some (.string (S c.sup)) ∧ W.frozen? ⟨c1, 1, none⟩ = false) ((refine HS.out _ ?_; (repeat (first | (with_reducible assumption) | (with_reducible refine fb_drew ?_) | (with_reducible (apply fb_below; assumption)) | (with_reducible refine fb_put rfl ?_)))))
      (first
       | ((go_at_call 83; (with_reducible refine (HC0.out _).mono ?_); rintro en wx1 ⟨rfl, bx1⟩))
       | ((go_at_call 83; (with_reducible refine (HC1.out _).mono ?_); rintro en wx2 ⟨rfl, bx2⟩))))
  | fail
  all_goals
    go_upto_region 2 with fail
    refine wp_forget (FB w c1 c2 #[.string (S c.name), .string (S c.sup), .slice lo c.like.length lc, .bool c.itf, .bool c.abs, .bool c.fin, .slice fo c.flds.length fc, .slice mo c.mths.length mc] #[.string ⟨#[]⟩, .string ⟨#[]⟩, .slice none 0 0, .bool false, .bool false, .bool false, .slice none 0 0, .slice none 0 0] 26) (by (repeat (first | (with_reducible assumption) | (with_reducible refine fb_drew ?_) | (with_reducible (apply fb_below; assumption)) | (with_reducible refine fb_put rfl ?_)))) ?_
    intro W2 f2
    clear g1 g2 g3 g4 f0
    have F2 := Lib.hid f2
    clear f2
    have x2 := F2.out.b1.cell 2 rfl
    go_wp2_with fail
    refine (HL2.out W2 F2.out.bel).mono ?_
    rintro e v2 ⟨u2, rfl, hu2, hb2⟩
    obtain ⟨so2, sc2, rfl⟩ := hu2.shape
    have G2 := Lib.hid (fb_below hb2 F2.out)
    have T2_2 : Hid (Src 1 StrR (fun i => c2 < i) v2 (.slice so2 c.like.length sc2) c.like) := Lib.hid (StrR.st.srcMono hu2 (fun i _ hi => Nat.lt_of_lt_of_le F2.out.b2.lt hi))
    have y2 := G2.out.b1.cell 2 rfl
    have z2 := G2.out.b1.free 2
    clear x2 hu2 hb2
    go_upto_region 3 with fail
    refine wp_forget (fun W => FB w c1 c2 #[.string (S c.name), .string (S c.sup), .slice so2 c.like.length sc2, .bool c.itf, .bool c.abs, .bool c.fin, .slice fo c.flds.length fc, .slice mo c.mths.length mc] #[.string ⟨#[]⟩, .string ⟨#[]⟩, .slice none 0 0, .bool false, .bool false, .bool false, .slice none 0 0, .slice none 0 0] 26 W ∧ Src 1 StrR (fun i => c2 < i) W (.slice so2 c.like.length sc2) c.like) ⟨fb_set 2 _ G2.out, StrR.st.src T2_2.out ((Only.refl (fun i => i = c1) _).setCell rfl _) (fun i (hi : c2 < i) (h : i = c1) => by have := HC12.out; omega)⟩ ?_
    rintro W3 ⟨f3, s2⟩
    have F3 := Lib.hid f3
    have S2_3 := Lib.hid s2
    clear f3 y2 z2 s2
    have x6 := F3.out.b1.cell 6 rfl
    go_wp2_with fail
    refine (HL6.out W3 F3.out.bel).mono ?_
    rintro e v3 ⟨u6, rfl, hu6, hb6⟩
    obtain ⟨so6, sc6, rfl⟩ := hu6.shape
    have G3 := Lib.hid (fb_below hb6 F3.out)
    have T2_3 := Lib.hid (StrR.st.below S2_3.out hb6)
    have T6_3 : Hid (Src 3 FldR (fun i => c2 < i) v3 (.slice so6 c.flds.length sc6) c.flds) := Lib.hid (FldR.st.srcMono hu6 (fun i _ hi => Nat.lt_of_lt_of_le F3.out.b2.lt hi))
    have y6 := G3.out.b1.cell 6 rfl
    have z6 := G3.out.b1.free 6
    clear x6 hu6 hb6
    go_upto_region 4 with fail
    refine wp_forget (fun W => FB w c1 c2 #[.string (S c.name), .string (S c.sup), .slice so2 c.like.length sc2, .bool c.itf, .bool c.abs, .bool c.fin, .slice so6 c.flds.length sc6, .slice mo c.mths.length mc] #[.string ⟨#[]⟩, .string ⟨#[]⟩, .slice none 0 0, .bool false, .bool false, .bool false, .slice none 0 0, .slice none 0 0] 26 W ∧ Src 1 StrR (fun i => c2 < i) W (.slice so2 c.like.length sc2) c.like ∧ Src 3 FldR (fun i => c2 < i) W (.slice so6 c.flds.length sc6) c.flds) ⟨fb_set 6 _ G3.out, StrR.st.src T2_3.out ((Only.refl (fun i => i = c1) _).setCell rfl _) (fun i (hi : c2 < i) (h : i = c1) => by have := HC12.out; omega), FldR.st.src T6_3.out ((Only.refl (fun i => i = c1) _).setCell rfl _) (fun i (hi : c2 < i) (h : i = c1) => by have := HC12.out; omega)⟩ ?_
    rintro W4 ⟨f4, s2, s6⟩
    have F4 := Lib.hid f4
    have S2_4 := Lib.hid s2
    have S6_4 := Lib.hid s6
    clear f4 y6 z6 s2 s6
    have x7 := F4.out.b1.cell 7 rfl
    go_wp2_with fail
    refine (HL7.out W4 F4.out.bel).mono ?_
    rintro e v4 ⟨u7, rfl, hu7, hb7⟩
    obtain ⟨so7, sc7, rfl⟩ := hu7.shape
    have G4 := Lib.hid (fb_below hb7 F4.out)
    have T2_4 := Lib.hid (StrR.st.below S2_4.out hb7)
    have T6_4 := Lib.hid (FldR.st.below S6_4.out hb7)
    have T7_4 : Hid (Src 7 MthR (fun i => c2 < i) v4 (.slice so7 c.mths.length sc7) c.mths) := Lib.hid (MthR.st.srcMono hu7 (fun i _ hi => Nat.lt_of_lt_of_le F4.out.b2.lt hi))
    have y7 := G4.out.b1.cell 7 rfl
    have z7 := G4.out.b1.free 7
    clear x7 hu7 hb7
    go_upto_region 5 with fail
    refine wp_forget (fun W => FB w c1 c2 #[.string (S c.name), .string (S c.sup), .slice so2 c.like.length sc2, .bool c.itf, .bool c.abs, .bool c.fin, .slice so6 c.flds.length sc6, .slice so7 c.mths.length sc7] #[.string ⟨#[]⟩, .string ⟨#[]⟩, .slice none 0 0, .bool false, .bool false, .bool false, .slice none 0 0, .slice none 0 0] 26 W ∧ Src 1 StrR (fun i => c2 < i) W (.slice so2 c.like.length sc2) c.like ∧ Src 3 FldR (fun i => c2 < i) W (.slice so6 c.flds.length sc6) c.flds ∧ Src 7 MthR (fun i => c2 < i) W (.slice so7 c.mths.length sc7) c.mths) ⟨fb_set 7 _ G4.out, StrR.st.src T2_4.out ((Only.refl (fun i => i = c1) _).setCell rfl _) (fun i (hi : c2 < i) (h : i = c1) => by have := HC12.out; omega), FldR.st.src T6_4.out ((Only.refl (fun i => i = c1) _).setCell rfl _) (fun i (hi : c2 < i) (h : i = c1) => by have := HC12.out; omega), MthR.st.src T7_4.out ((Only.refl (fun i => i = c1) _).setCell rfl _) (fun i (hi : c2 < i) (h : i = c1) => by have := HC12.out; omega)⟩ ?_
    rintro W5 ⟨f5, s2, s6, s7⟩
    have F5 := Lib.hid f5
    have S2_5 := Lib.hid s2
    have S6_5 := Lib.hid s6
    have S7_5 := Lib.hid s7
    clear f5 y7 z7 s2 s6 s7
    have p0 := F5.out.b1.cell 0 rfl
    have q0 := F5.out.b2.cell 0 rfl
    have r0 := F5.out.b2.free 0
    have p1 := F5.out.b1.cell 1 rfl
    have q1 := F5.out.b2.cell 1 rfl
    have r1 := F5.out.b2.free 1
    have p2 := F5.out.b1.cell 2 rfl
    have q2 := F5.out.b2.cell 2 rfl
    have r2 := F5.out.b2.free 2
    have p3 := F5.out.b1.cell 3 rfl
    have q3 := F5.out.b2.cell 3 rfl
    have r3 := F5.out.b2.free 3
    have p4 := F5.out.b1.cell 4 rfl
    have q4 := F5.out.b2.cell 4 rfl
    have r4 := F5.out.b2.free 4
    have p5 := F5.out.b1.cell 5 rfl
    have q5 := F5.out.b2.cell 5 rfl
    have r5 := F5.out.b2.free 5
    have p6 := F5.out.b1.cell 6 rfl
    have q6 := F5.out.b2.cell 6 rfl
    have r6 := F5.out.b2.free 6
    have p7 := F5.out.b1.cell 7 rfl
    have q7 := F5.out.b2.cell 7 rfl
    have r7 := F5.out.b2.free 7
    go_wp2
    have l := load_box (P := Tryz.prog) (w := ((((((((W5.setCell ⟨c2, 0, none⟩ (.string (S c.name))).setCell ⟨c2, 1, none⟩ (.string (S c.sup))).setCell ⟨c2, 2, none⟩ (.slice so2 c.like.length sc2)).setCell ⟨c2, 3, none⟩ (.bool c.itf)).setCell ⟨c2, 4, none⟩ (.bool c.abs)).setCell ⟨c2, 5, none⟩ (.bool c.fin)).setCell ⟨c2, 6, none⟩ (.slice so6 c.flds.length sc6)).setCell ⟨c2, 7, none⟩ (.slice so7 c.mths.length sc7))) (cs := #[.string (S c.name), .string (S c.sup), .slice so2 c.like.length sc2, .bool c.itf, .bool c.abs, .bool c.fin, .slice so6 c.flds.length sc6, .slice so7 c.mths.length sc7]) ((((((((F5.out.b2.set 0 (.string (S c.name))).set 1 (.string (S c.sup))).set 2 (.slice so2 c.like.length sc2)).set 3 (.bool c.itf)).set 4 (.bool c.abs)).set 5 (.bool c.fin)).set 6 (.slice so6 c.flds.length sc6)).set 7 (.slice so7 c.mths.length sc7)) Tryz.underlying26 rfl sizec_cls
    have hb : Below w.heap.size w ((((((((W5.setCell ⟨c2, 0, none⟩ (.string (S c.name))).setCell ⟨c2, 1, none⟩ (.string (S c.sup))).setCell ⟨c2, 2, none⟩ (.slice so2 c.like.length sc2)).setCell ⟨c2, 3, none⟩ (.bool c.itf)).setCell ⟨c2, 4, none⟩ (.bool c.abs)).setCell ⟨c2, 5, none⟩ (.bool c.fin)).setCell ⟨c2, 6, none⟩ (.slice so6 c.flds.length sc6)).setCell ⟨c2, 7, none⟩ (.slice so7 c.mths.length sc7)) := ((((((((F5.out.bel.setCell F5.out.ge2 (.string (S c.name))).setCell F5.out.ge2 (.string (S c.sup))).setCell F5.out.ge2 (.slice so2 c.like.length sc2)).setCell F5.out.ge2 (.bool c.itf)).setCell F5.out.ge2 (.bool c.abs)).setCell F5.out.ge2 (.bool c.fin)).setCell F5.out.ge2 (.slice so6 c.flds.length sc6)).setCell F5.out.ge2 (.slice so7 c.mths.length sc7))
    have ho : Only (fun i => i = c2) W5 ((((((((W5.setCell ⟨c2, 0, none⟩ (.string (S c.name))).setCell ⟨c2, 1, none⟩ (.string (S c.sup))).setCell ⟨c2, 2, none⟩ (.slice so2 c.like.length sc2)).setCell ⟨c2, 3, none⟩ (.bool c.itf)).setCell ⟨c2, 4, none⟩ (.bool c.abs)).setCell ⟨c2, 5, none⟩ (.bool c.fin)).setCell ⟨c2, 6, none⟩ (.slice so6 c.flds.length sc6)).setCell ⟨c2, 7, none⟩ (.slice so7 c.mths.length sc7)) := (((((((((Only.refl (fun i => i = c2) W5).setCell rfl (.string (S c.name))).setCell rfl (.string (S c.sup))).setCell rfl (.slice so2 c.like.length sc2)).setCell rfl (.bool c.itf)).setCell rfl (.bool c.abs)).setCell rfl (.bool c.fin)).setCell rfl (.slice so6 c.flds.length sc6)).setCell rfl (.slice so7 c.mths.length sc7))
    refine bodyPost_ret (v := .agg #[.string (S c.name), .string (S c.sup), .slice so2 c.like.length sc2, .bool c.itf, .bool c.abs, .bool c.fin, .slice so6 c.flds.length sc6, .slice so7 c.mths.length sc7]) ?_ rfl ⟨_, rfl, ⟨_, _, _, rfl, StrR.st.srcMono (StrR.st.src S2_5.out ho (fun i (hi : c2 < i) (h : i = c2) => by omega)) (fun i _ (hi : c2 < i) => by have h1 := HC12.out; have h2 := HCW.out; show w.heap.size ≤ i; omega), FldR.st.srcMono (FldR.st.src S6_5.out ho (fun i (hi : c2 < i) (h : i = c2) => by omega)) (fun i _ (hi : c2 < i) => by have h1 := HC12.out; have h2 := HCW.out; show w.heap.size ≤ i; omega), MthR.st.srcMono (MthR.st.src S7_5.out ho (fun i (hi : c2 < i) (h : i = c2) => by omega)) (fun i _ (hi : c2 < i) => by have h1 := HC12.out; have h2 := HCW.out; show w.heap.size ≤ i; omega)⟩, hb⟩
    simp only [results, Tryz.results72]
    simp [asAddr, l]
end Go.Proofs.YtpincofjopmaaaaGreatDoor

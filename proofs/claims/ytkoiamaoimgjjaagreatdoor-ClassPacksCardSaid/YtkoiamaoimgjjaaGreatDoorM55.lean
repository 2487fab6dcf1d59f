/-
  The contract of the document's Pack of layer 5: classes that may be, as bytes.
  Conditions: at most 64 classes, which may be; their parts lie in memory that was there before.
  The contract of package class's Unpack: the classes whose bytes these are, or the error that there are none.
  Conditions: the tables hold what they hold at the start; the bytes lie in memory that was there before, at most 2^40 of them.
-/
import Derived.Test.YtkoiamaoimgjjaaGreatDoorM50
import Derived.Test.YtkoiamaoimgjjaaGreatDoorM29
import Derived.Test.YtkoiamaoimgjjaaGreatDoorM44
namespace Go.Proofs.YtkoiamaoimgjjaaGreatDoor
open Go.RowKit
set_option maxHeartbeats 4000000 in
set_option maxRecDepth 100000 in
theorem refpack5_any {A : Nat → Prop} (l : List Cls) (sv : Value) (w : World) (hs : Src 8 ClsR A w sv l) (hl : l.length ≤ 64) (hg : ∀ c ∈ l, c.Good) :
    Calls Tryz.prog 21 #[sv] w (SaidU (S (listB Cls.bytes l)) w) := by
  obtain ⟨n, hn⟩ : ∃ n, n = l.length := ⟨_, rfl⟩
  obtain ⟨so, sc, rfl⟩ : ∃ so sc, sv = .slice so n sc := by rw [hn]; exact hs.shape
  have HN := Lib.hid hn
  have HC := Lib.hid (Src.elem hs)
  have HG := Lib.hid hg
  have hn1 : n ≤ 64 := by omega
  have HNM := Lib.hid (refnum5_any n (by omega) w)
  have hlen : ∀ k, (Lib.uvarint l.length ++ (l.take k).flatMap Cls.bytes).length ≤ 429548800010 := fun k => by
    have h1 := flat_le Cls.bytes 6711700000 (l.take k) (fun x h => (hg x (List.mem_of_mem_take h)).le)
    have h2 : (Lib.uvarint l.length).length ≤ 10 := Lib.uvarint_length64 (by omega)
    rw [List.length_take] at h1
    rw [List.length_append]
    have h3 : 6711700000 * min k l.length ≤ 6711700000 * 64 := Nat.mul_le_mul_left _ (by omega)
    omega
  have HLE := Lib.hid hlen
  clear hn hs hg hl hlen
  go_enter Tryz.func21, Tryz.ntmps21
  go_wp2_with fail
  refine HNM.out.mono ?_
  rintro e w1 ⟨rfl, hb1⟩
  clear HNM
  go_wp2
  go_loopw [3, 4] (fun v3 v4 wr => ∃ k : Nat, k ≤ n ∧ v4 = .int .i64 k ∧ v3 = .string (S (Lib.uvarint l.length ++ (l.take k).flatMap Cls.bytes)) ∧ Below w.heap.size w wr) (fun _ v4 _ => n - (intOf v4).toNat)
  case atStart => exact ⟨0, Nat.zero_le _, rfl, by rw [HN.out]; simp, hb1⟩
  case round =>
    obtain ⟨k, hk, rfl, rfl, hbl⟩ := hrel
    have HB := Lib.hid hbl
    clear hbl hb1
    by_cases hlt : k < n
    · have hkl : k < l.length := by have := HN.out; omega
      obtain ⟨x, hx⟩ : ∃ x, l[k]? = some x := ⟨_, List.getElem?_eq_getElem hkl⟩
      obtain ⟨b, o, v, rfl, hv, _, hcl⟩ := HC.out k x hx
      have ho := Only.ofBelow (S := fun _ => False) HB.out
      have HV := Lib.hid (ClsR.st.keep hv ho (fun _ _ => id))
      obtain ⟨_, _, _, rfl, ⟨lo, lc, rfl⟩, ⟨fo, fc, rfl⟩, ⟨mo, mc, rfl⟩⟩ := cls_shape hv
      obtain ⟨d0, d1, d2, d3, d4, d5, d6, d7⟩ : (fun W : World => W.cell? ⟨b, o + k * 8, none⟩ = some (.string (S x.name)) ∧ W.cell? ⟨b, o + k * 8 + 1, none⟩ = some (.string (S x.sup)) ∧ W.cell? ⟨b, o + k * 8 + 2, none⟩ = some (.slice lo x.like.length lc) ∧ W.cell? ⟨b, o + k * 8 + 3, none⟩ = some (.bool x.itf) ∧ W.cell? ⟨b, o + k * 8 + 4, none⟩ = some (.bool x.abs) ∧ W.cell? ⟨b, o + k * 8 + 5, none⟩ = some (.bool x.fin) ∧ W.cell? ⟨b, o + k * 8 + 6, none⟩ = some (.slice fo x.flds.length fc) ∧ W.cell? ⟨b, o + k * 8 + 7, none⟩ = some (.slice mo x.mths.length mc)) wr := ⟨ho.cell (a := ⟨b, o + k * 8, none⟩) (hcl 0 _ rfl) id, ho.cell (a := ⟨b, o + k * 8 + 1, none⟩) (hcl 1 _ rfl) id, ho.cell (a := ⟨b, o + k * 8 + 2, none⟩) (hcl 2 _ rfl) id, ho.cell (a := ⟨b, o + k * 8 + 3, none⟩) (hcl 3 _ rfl) id, ho.cell (a := ⟨b, o + k * 8 + 4, none⟩) (hcl 4 _ rfl) id, ho.cell (a := ⟨b, o + k * 8 + 5, none⟩) (hcl 5 _ rfl) id, ho.cell (a := ⟨b, o + k * 8 + 6, none⟩) (hcl 6 _ rfl) id, ho.cell (a := ⟨b, o + k * 8 + 7, none⟩) (hcl 7 _ rfl) id⟩
      have hA : (S (Lib.uvarint l.length ++ (l.take k).flatMap Cls.bytes)).size ≤ 429548800010 := by rw [S_size]; exact HLE.out k
      have hgx := HG.out x (List.mem_of_getElem? hx)
      have hU : (S x.bytes).size ≤ 6711700000 := by rw [S_size]; exact hgx.le
      have HSM : Hid (S (Lib.uvarint l.length ++ (l.take (k + 1)).flatMap Cls.bytes) = S (Lib.uvarint l.length ++ (l.take k).flatMap Cls.bytes) ++ S x.bytes) := Lib.hid (by rw [flat_next _ _ _ _ hx, S_append])
      have HTX := Lib.hid (refput5_any (A := A) x _ wr HV.out hgx)
      clear hx hkl ho hcl hv hgx
      generalize S (Lib.uvarint l.length ++ (l.take k).flatMap Cls.bytes) = uA at HSM hA ⊢
      generalize S x.bytes = uX at HSM hU HTX
      have hk0 : (0 : Int) ≤ k := by omega
      have hkn : (k : Int) < (n : Int) := by omega
      go_wp2_with fail
      refine HTX.out.mono ?_
      rintro e w2 ⟨rfl, hb2⟩
      have HB2 := Lib.hid (HB.out.trans (hb2.mono HB.out.size))
      clear hb2 d0 d1 d2 d3 d4 d5 d6 d7 HTX
      go_wp2
      go_roundw
      case rel => exact ⟨k + 1, by omega, by go_num, by rw [HSM.out], HB2.out⟩
      case measure => simp [intOf]; omega
    · obtain rfl : n = k := by omega
      have hfa : S (listB Cls.bytes l) = S (Lib.uvarint l.length ++ (l.take n).flatMap Cls.bytes) := by rw [List.take_of_length_le (by rw [HN.out]; exact Nat.le_refl _)]; rfl
      have HFA := Lib.hid hfa
      clear hfa
      generalize S (Lib.uvarint l.length ++ (l.take n).flatMap Cls.bytes) = uA at HFA ⊢
      go_wp2
      go_ret
      exact ⟨by rw [HFA.out]; rfl, HB.out⟩
end Go.Proofs.YtkoiamaoimgjjaaGreatDoor
namespace Go.Proofs.YtkoiamaoimgjjaaGreatDoor
open Go.RowKit
attribute [local go_sem ↓] Go.wp_at_zero Go.wp_at_succ
theorem cls_pos (y : Cls) : 1 ≤ y.bytes.length := by unfold Cls.bytes; simp only [List.length_append]; have := text_pos y.name; omega
theorem takec3_any {w0 w : World} {b c : Nat} {v : Value} {l : List UInt8} {i err : Nat} (r0 : RS w0 w b v l i err) (hT : CT w0) (hc : w.cell? ⟨c, 0, none⟩ = some (.pointer (some ⟨b, 0, none⟩))) :
    Calls Tryz.prog 47 #[.pointer (some ⟨c, 0, none⟩)] w (GiveG ClsR 8 Cls.bytes Cls.Good (fun c => c.Fit ∧ c.held) w0 b v l i err w) := by
  have t := TK.start r0
  have hbR : w.heap.size ≠ b := by have := t.blt; omega
  have HBR := Lib.hid hbR
  have T0 := Lib.hid (t.alloc (.cells #[.string ⟨#[]⟩, .string ⟨#[]⟩, .slice none 0 0, .bool false, .bool false, .bool false, .slice none 0 0, .slice none 0 0] 26))
  have X0 := Lib.hid (Box.new w #[.string ⟨#[]⟩, .string ⟨#[]⟩, .slice none 0 0, .bool false, .bool false, .bool false, .slice none 0 0, .slice none 0 0] 26)
  have HTF := Lib.hid (takeclass_any T0.out.rs hT)
  have hcA : (w.alloc (.cells #[.string ⟨#[]⟩, .string ⟨#[]⟩, .slice none 0 0, .bool false, .bool false, .bool false, .slice none 0 0, .slice none 0 0] 26)).cell? ⟨c, 0, none⟩ = some (.pointer (some ⟨b, 0, none⟩)) := ((Only.refl (fun _ => False) w).alloc _).cell hc id
  clear r0 hT t hbR hc
  go_enter Tryz.func47, Tryz.ntmps47
  go_wp2_with fail
  have HSZ : Hid (w.heap.size < (w.alloc (.cells #[.string ⟨#[]⟩, .string ⟨#[]⟩, .slice none 0 0, .bool false, .bool false, .bool false, .slice none 0 0, .slice none 0 0] 26)).heap.size) := Lib.hid (by simp)
  generalize w.alloc (.cells #[.string ⟨#[]⟩, .string ⟨#[]⟩, .slice none 0 0, .bool false, .bool false, .bool false, .slice none 0 0, .slice none 0 0] 26) = W0 at T0 X0 HTF hcA HSZ ⊢
  obtain ⟨B, hB⟩ : ∃ B, B = w.heap.size := ⟨_, rfl⟩
  rw [← hB] at HBR X0 ⊢
  have HBL : Hid (B < W0.heap.size) := Lib.hid (by rw [hB]; exact HSZ.out)
  have HLB : Hid (w.heap.size ≤ B) := Lib.hid (by omega)
  clear hB
  refine HTF.out.mono ?_
  rintro e w1 ⟨x, u, i1, err1, rfl, t1, hx, hsz, hfit, g⟩
  have T1 := Lib.hid (T0.out.got t1.on t1.rs.rd)
  have X1 := Lib.hid (X0.out.got t1.on HBR.out)
  have G1 := Lib.hid g
  have F1 := Lib.hid hfit
  have XR := Lib.hid hx
  obtain ⟨_, _, _, rfl, ⟨lo, lc, rfl⟩, ⟨fo, fc, rfl⟩, ⟨mo, mc, rfl⟩⟩ := cls_shape hx
  clear t1 hfit g hsz hcA HTF T0 X0 hx
  have c0 := X1.out.cell 0 rfl
  have f0 := X1.out.free 0
  have c1 := X1.out.cell 1 rfl
  have f1 := X1.out.free 1
  have c2 := X1.out.cell 2 rfl
  have f2 := X1.out.free 2
  have c3 := X1.out.cell 3 rfl
  have f3 := X1.out.free 3
  have c4 := X1.out.cell 4 rfl
  have f4 := X1.out.free 4
  have c5 := X1.out.cell 5 rfl
  have f5 := X1.out.free 5
  have c6 := X1.out.cell 6 rfl
  have f6 := X1.out.free 6
  have c7 := X1.out.cell 7 rfl
  have f7 := X1.out.free 7
  have hlt := X1.out.lt
  go_wp2
  have tE := ((((((((T1.out).set (I := B) HLB.out 0 (.string (S x.name))).set (I := B) HLB.out 1 (.string (S x.sup))).set (I := B) HLB.out 2 (.slice lo x.like.length lc)).set (I := B) HLB.out 3 (.bool x.itf)).set (I := B) HLB.out 4 (.bool x.abs)).set (I := B) HLB.out 5 (.bool x.fin)).set (I := B) HLB.out 6 (.slice fo x.flds.length fc)).set (I := B) HLB.out 7 (.slice mo x.mths.length mc)
  have xb0 := (show Box _ B #[.string (S x.name), .string ⟨#[]⟩, .slice none 0 0, .bool false, .bool false, .bool false, .slice none 0 0, .slice none 0 0] 26 from X1.out.set 0 (.string (S x.name)))
  have xb1 := (show Box _ B #[.string (S x.name), .string (S x.sup), .slice none 0 0, .bool false, .bool false, .bool false, .slice none 0 0, .slice none 0 0] 26 from xb0.set 1 (.string (S x.sup)))
  have xb2 := (show Box _ B #[.string (S x.name), .string (S x.sup), .slice lo x.like.length lc, .bool false, .bool false, .bool false, .slice none 0 0, .slice none 0 0] 26 from xb1.set 2 (.slice lo x.like.length lc))
  have xb3 := (show Box _ B #[.string (S x.name), .string (S x.sup), .slice lo x.like.length lc, .bool x.itf, .bool false, .bool false, .slice none 0 0, .slice none 0 0] 26 from xb2.set 3 (.bool x.itf))
  have xb4 := (show Box _ B #[.string (S x.name), .string (S x.sup), .slice lo x.like.length lc, .bool x.itf, .bool x.abs, .bool false, .slice none 0 0, .slice none 0 0] 26 from xb3.set 4 (.bool x.abs))
  have xb5 := (show Box _ B #[.string (S x.name), .string (S x.sup), .slice lo x.like.length lc, .bool x.itf, .bool x.abs, .bool x.fin, .slice none 0 0, .slice none 0 0] 26 from xb4.set 5 (.bool x.fin))
  have xb6 := (show Box _ B #[.string (S x.name), .string (S x.sup), .slice lo x.like.length lc, .bool x.itf, .bool x.abs, .bool x.fin, .slice fo x.flds.length fc, .slice none 0 0] 26 from xb5.set 6 (.slice fo x.flds.length fc))
  have xb7 := (show Box _ B #[.string (S x.name), .string (S x.sup), .slice lo x.like.length lc, .bool x.itf, .bool x.abs, .bool x.fin, .slice fo x.flds.length fc, .slice mo x.mths.length mc] 26 from xb6.set 7 (.slice mo x.mths.length mc))
  have lE := load_cls xb7
  have xE := (cls_set (j := 7) (x := .slice mo x.mths.length mc) (cls_set (j := 6) (x := .slice fo x.flds.length fc) (cls_set (j := 5) (x := .bool x.fin) (cls_set (j := 4) (x := .bool x.abs) (cls_set (j := 3) (x := .bool x.itf) (cls_set (j := 2) (x := .slice lo x.like.length lc) (cls_set (j := 1) (x := .string (S x.sup)) (cls_set (j := 0) (x := .string (S x.name)) (XR.out) HBL.out) HBL.out) HBL.out) HBL.out) HBL.out) HBL.out) HBL.out) HBL.out)
  refine bodyPost_ret (v := .agg #[.string (S x.name), .string (S x.sup), .slice lo x.like.length lc, .bool x.itf, .bool x.abs, .bool x.fin, .slice fo x.flds.length fc, .slice mo x.mths.length mc]) ?_ rfl ?_
  · simp [results, Tryz.results47, asAddr, lE]
  · exact ⟨x, _, i1, err1, rfl, tE, ClsR.st.mono xE (fun k _ hk => Nat.le_trans (Nat.le_of_lt HSZ.out) hk), rfl, F1.out, G1.out⟩
/-- What is said of Unpack. -/
def CUnG (l : List UInt8) (w : World) (e : Ending) (w' : World) : Prop :=
  Below w.heap.size w w' ∧ ((∃ (vs : Value) (m : List Cls), e = .returned (.tuple #[vs, .int .i64 0]) ∧ Src 8 ClsR (fun k => w.heap.size ≤ k) w' vs m ∧ m.length ≤ 64 ∧ (∀ x ∈ m, x.Good ∧ x.Fit) ∧ listB Cls.bytes m = l ∧ (∀ ys : List Cls, (∀ y ∈ ys, y.Good) → ys.length ≤ 64 → listB Cls.bytes ys = l → m = ys)) ∨
    (e = .returned (.tuple #[.slice none 0 0, .int .i64 50]) ∧ ∀ ys : List Cls, (∀ y ∈ ys, y.Good) → ys.length ≤ 64 → listB Cls.bytes ys ≠ l))
set_option maxHeartbeats 4000000 in
set_option maxRecDepth 100000 in
theorem cunpack_any (sv : Value) (l : List UInt8) (w : World) (hs : SrcIs w sv l) (hT : CT w) (hlim : l.length ≤ 1099511627776) :
    Calls Tryz.prog 20 #[sv] w (CUnG l w) := by
  have hmf : ∀ (fn : Fn) (first cap : Array Value) (w : World), (Instr.makeFunc fn first cap).run Tryz.prog w = .ok (.func fn first cap) w := fun _ _ _ _ => rfl
  have HT := Lib.hid hT
  have HS := Lib.hid hs
  have HRD := Lib.hid (rs_read (Below.refl w.heap.size w) sv l hs (by omega))
  clear hs hT hlim
  go_enter Tryz.func20, Tryz.ntmps20
  go_wp2_with fail
  refine HRD.out.mono ?_
  rintro e w1 ⟨b, v, rfl, r1, hb1⟩
  have T0 := Lib.hid (TK.start r1)
  have T1 := Lib.hid (T0.out.alloc (.cells #[.pointer (some ⟨b, 0, none⟩)] 61))
  have XP := Lib.hid (Box.new w1 #[.pointer (some ⟨b, 0, none⟩)] 61)
  have HPB : Hid (w1.heap.size ≠ b) := Lib.hid (by have := T0.out.blt; omega)
  clear r1 hb1 HRD
  have p0 := XP.out.cell 0 rfl
  go_upto_region 2 with fail
  generalize w1.alloc (.cells #[.pointer (some ⟨b, 0, none⟩)] 61) = W1 at T1 XP p0 ⊢
  generalize w1.heap.size = P at XP HPB p0 ⊢
  clear T0
  go_wp2_with fail
  refine (takel_cls 47 #[] #[.pointer (some ⟨P, 0, none⟩)] Cls.bytes Cls.Good (fun c => c.Fit ∧ c.held) 64 T1.out.rs (enters_fn Tryz.func47 (by kernel_rfl) rfl) (fun wr i' err' t => takec3_any t.rs HT.out ((XP.out.got t.on HPB.out).cell 0 rfl)) cls_pos (by decide)).mono ?_
  rintro e w2 ⟨vs, m, us, i2, err2, rfl, row2, hm64, hfit, t2, g2⟩
  have HB2 := Lib.hid t2.rs.bel
  have hsrc := row2.src ClsR.st
  obtain ⟨ao, cp, rfl⟩ := row2.shape
  have HSR := Lib.hid (ClsR.st.srcMono (A' := fun k => w.heap.size ≤ k) hsrc (fun k _ hk => Nat.le_trans T1.out.rs.bel.size hk))
  have HM64 := Lib.hid hm64
  have HFT := Lib.hid hfit
  have HG : Hid (∀ ys : List Cls, (∀ y ∈ ys, y.Good) → ys.length ≤ 64 → listB Cls.bytes ys = l → m = ys) := Lib.hid (fun ys h1 h2 h3 => (g2 ys [] rfl h1 h2 (by rw [h3]; simp)).1)
  have HPK := Lib.hid (cpack_any m _ w2 HSR.out (HT.out.keep HB2.out) (fun c hc => (hfit c hc).1) (fun c hc => (hfit c hc).2) (by omega))
  clear row2 t2 hsrc hm64 hfit g2 p0 XP HPB T1 hmf
  generalize m.length = n at HPK HSR ⊢
  go_wp2_with fail
  refine HPK.out.mono ?_
  rintro e w3 ⟨hy, hn⟩
  clear HPK
  by_cases hz : packE m = 0
  · obtain ⟨v3, rfl, s3⟩ := hy hz
    obtain ⟨ao3, m3, c3, rfl⟩ := row_shape s3.row
    have c1 := conv_owned s3.row
    have HB3 := Lib.hid (HB2.out.trans (s3.bel.mono HB2.out.size))
    have c2 := conv_src (HS.out.below HB3.out)
    have HSR3 := Lib.hid (ClsR.st.below HSR.out s3.bel)
    have e1 := S_toList (listB Cls.bytes m)
    have e2 := S_toList l
    have HGD : Hid (∀ x ∈ m, x.Good ∧ x.Fit) := Lib.hid (fun x hx => by
      have h0 : allC m = 0 := by
        unfold packE at hz
        split at hz
        · cases hz
        · exact hz
      exact ⟨⟨allC_zero m h0 x hx, (HFT.out x hx).2⟩, (HFT.out x hx).1⟩)
    clear hy hn s3 hz HSR
    generalize hxb : listB Cls.bytes m = xb at c1 e1 ⊢
    have HXB := Lib.hid hxb
    clear hxb
    by_cases heq : xb = l
    · have hb : (xb == l) = true := beq_iff_eq.2 heq
      have HEQ := Lib.hid heq
      clear heq
      go_wp2
      go_ret2
      exact ⟨HB3.out, .inl ⟨_, m, rfl, HSR3.out, HM64.out, HGD.out, HXB.out.trans HEQ.out, HG.out⟩⟩
    · have hb : (xb == l) = false := beq_eq_false_iff_ne.2 heq
      have HEQ := Lib.hid heq
      clear heq
      go_wp2
      go_ret2
      exact ⟨HB3.out, .inr ⟨rfl, fun ys h1 h2 h3 => HEQ.out (by rw [← HXB.out, HG.out ys h1 h2 h3]; exact h3)⟩⟩
  · obtain ⟨rfl, hb3⟩ := hn hz
    have HB3 := Lib.hid (HB2.out.trans (hb3.mono HB2.out.size))
    have hzb : (((packE m : Nat) : Int) != 0) = true := by rw [bne_iff_ne]; omega
    have HZ : Hid (∀ ys : List Cls, (∀ y ∈ ys, y.Good) → ys.length ≤ 64 → listB Cls.bytes ys ≠ l) := Lib.hid (fun ys h1 h2 h3 => hz (by
      rw [HG.out ys h1 h2 h3]
      unfold packE
      rw [if_neg (by omega)]
      have : ∀ (z : List Cls), (∀ y ∈ z, y.Good) → allC z = 0 := fun z => by
        induction z with
        | nil => intro _; rfl
        | cons c r ih => intro h; unfold allC; rw [if_pos (h c List.mem_cons_self).e]; exact ih (fun y hy => h y (List.mem_cons_of_mem _ hy))
      exact this ys h1))
    clear hy hn hb3 hz
    generalize packE m = E at hzb ⊢
    go_wp2
    go_ret2
    exact ⟨HB3.out, .inr ⟨rfl, HZ.out⟩⟩
end Go.Proofs.YtkoiamaoimgjjaaGreatDoor

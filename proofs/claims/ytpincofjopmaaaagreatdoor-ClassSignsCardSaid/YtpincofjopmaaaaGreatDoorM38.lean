/-
  Plain mathematics of classes: what the document's tests come to is what the program's come to.
  Conditions: none; no program is named here.
  The contract of the document's method of layer 5: may a method be?
  Conditions: the method's parts lie in memory that was there before; texts and lists that a machine may hold.
-/
import Derived.Test.YtpincofjopmaaaaGreatDoorM11
import Derived.Test.YtpincofjopmaaaaGreatDoorM30
import Derived.Test.YtpincofjopmaaaaGreatDoorM32
import Derived.Deep.DeepCutAuto
namespace Go.Proofs.YtpincofjopmaaaaGreatDoor
open Go.RowKit
theorem memB_member (l : List UInt8) : memB l = memberB l := by
  unfold memB memberB classB
  cases hn : nameB l with
  | false => simp
  | true =>
    have h1 := (nameB_pos hn).1
    have h2 := nameB_ok hn 0 (by omega)
    unfold okAt letterB digitB at h2
    rw [Bool.true_and, Bool.true_and, Bool.true_and, Bool.eq_iff_iff, Bool.not_eq_true', decide_eq_false_iff_not, decide_eq_true_eq]
    simp only [Bool.or_eq_true, Bool.and_eq_true, decide_eq_true_eq, ne_eq, not_true_eq_false, false_and, or_false] at h2
    omega
/-! What the document's tests come to. -/
def likeR (c : Cls) (k : Nat) : Bool := (c.like.take k).all (fun x => classB x && !(x == c.name)) && distTo c.like k
def fldR (c : Cls) (k : Nat) : Bool := (c.flds.take k).all (fun f => memberB f.name && (rightB f.kind && !c.itf)) && distTo (c.flds.map Fld.name) k
def mthB (c : Cls) (m : Mth) : Bool := m.ok && ((!m.abs || c.abs) && (!c.itf || m.abs))
def mthR (c : Cls) (k : Nat) : Bool := (c.mths.take k).all (mthB c) && distTo (c.mths.map Mth.name) k
def baseR (c : Cls) : Bool := classB c.name && (classB c.sup && !(c.name == c.sup))
def rightR (c : Cls) : Bool := (((baseR c && likeR c c.like.length) && fldR c c.flds.length) && mthR c c.mths.length) && ((!c.itf || (c.abs && decide (c.sup = objL))) && !(c.abs && c.fin))
theorem any_beq (l : List (List UInt8)) (s : List UInt8) : l.any (fun y => y == s) = true ↔ s ∈ l := by
  rw [List.any_eq_true]
  constructor
  · rintro ⟨y, hy, h⟩
    rw [beq_iff_eq] at h
    exact h ▸ hy
  · intro h
    exact ⟨s, h, by simp⟩
theorem rightR_eq (c : Cls) : rightR c = c.fine := by
  have hl : distTo c.like c.like.length = distB c.like := rfl
  have hf : distTo (c.flds.map Fld.name) c.flds.length = distB (c.flds.map Fld.name) := by unfold distB; rw [List.length_map]
  have hm : distTo (c.mths.map Mth.name) c.mths.length = distB (c.mths.map Mth.name) := by unfold distB; rw [List.length_map]
  unfold rightR likeR fldR mthR baseR Cls.fine Cls.names Cls.sort
  rw [hl, hf, hm, List.take_of_length_le (Nat.le_refl _), List.take_of_length_le (Nat.le_refl _), List.take_of_length_le (Nat.le_refl _)]
  generalize distB c.like = d1
  generalize distB (c.flds.map Fld.name) = d2
  generalize distB (c.mths.map Mth.name) = d3
  clear hl hf hm
  have hfl : ∀ f : Fld, f.ok = (memberB f.name && rightB f.kind) := fun f => by unfold Fld.ok; rw [memB_member]
  rw [Bool.eq_iff_iff]
  cases d1 <;> cases d2 <;> cases d3 <;> simp only [Bool.and_false, Bool.false_and, Bool.and_true, Bool.false_eq_true, iff_self] <;> try (simp; done)
  have hfa : (c.flds.all fun f => memberB f.name && (rightB f.kind && !c.itf)) = true ↔ (c.flds.all Fld.ok = true ∧ (c.itf = true → c.flds.length = 0)) := by
    rw [List.all_eq_true, List.all_eq_true]
    constructor
    · intro h
      refine ⟨fun x hx => ?_, fun hi => ?_⟩
      · have := h x hx
        rw [hfl]
        simp only [Bool.and_eq_true] at this ⊢
        exact ⟨this.1, this.2.1⟩
      · cases hc : c.flds with
        | nil => rfl
        | cons x r =>
          have := h x (by rw [hc]; simp)
          rw [hi] at this
          simp at this
    · rintro ⟨h, hi⟩ x hx
      have := h x hx
      rw [hfl] at this
      simp only [Bool.and_eq_true, Bool.not_eq_true'] at this ⊢
      refine ⟨this.1, this.2, ?_⟩
      cases hcI : c.itf
      · rfl
      · have := hi hcI
        rw [List.length_eq_zero_iff.1 this] at hx
        simp at hx
  have hma : (c.mths.all (mthB c)) = true ↔ (c.mths.all Mth.ok = true ∧ (c.abs = false → c.mths.any Mth.abs = false) ∧ (c.itf = true → c.mths.all Mth.abs = true)) := by
    rw [List.all_eq_true, List.all_eq_true, List.all_eq_true]
    unfold mthB
    constructor
    · intro h
      refine ⟨fun x hx => ?_, fun ha => ?_, fun hi x hx => ?_⟩
      · have := h x hx
        simp only [Bool.and_eq_true] at this
        exact this.1
      · rw [List.any_eq_false]
        intro x hx
        have := h x hx
        rw [ha] at this
        simp at this
        simp [this.2.1]
      · have := h x hx
        rw [hi] at this
        simp at this
        exact this.2.2
    · rintro ⟨h1, h2, h3⟩ x hx
      have := h1 x hx
      simp only [Bool.and_eq_true, Bool.or_eq_true, Bool.not_eq_true']
      refine ⟨this, ?_, ?_⟩
      · cases hA : c.abs
        · left
          have := List.any_eq_false.1 (h2 hA) x hx
          simpa using this
        · right; rfl
      · cases hI : c.itf
        · left; rfl
        · right
          exact h3 hI x hx
  have hla : (c.like.all fun x => classB x && !(x == c.name)) = true ↔ (c.like.all classB = true ∧ ¬ c.name ∈ c.like) := by
    rw [List.all_eq_true, List.all_eq_true]
    constructor
    · intro h
      refine ⟨fun x hx => ?_, fun hx => ?_⟩
      · have := h x hx
        simp only [Bool.and_eq_true] at this
        exact this.1
      · have := h _ hx
        simp at this
    · rintro ⟨h1, h2⟩ x hx
      simp only [Bool.and_eq_true, Bool.not_eq_true', beq_eq_false_iff_ne]
      exact ⟨h1 x hx, fun e => h2 (e ▸ hx)⟩
  have hab : (!(c.sup :: c.like).any fun y => y == c.name) = true ↔ (c.name ≠ c.sup ∧ ¬ c.name ∈ c.like) := by
    rw [Bool.not_eq_true', Bool.eq_false_iff, ne_eq, any_beq, List.mem_cons, not_or]
  simp only [Bool.and_eq_true, hfa, hma, hla, hab, List.all_cons, Bool.or_eq_true, Bool.not_eq_true', Bool.and_eq_false_iff, beq_eq_false_iff_ne, decide_eq_true_eq]
  cases hI : c.itf <;> cases hA : c.abs <;> cases hF : c.fin <;> cases hX : c.mths.any Mth.abs <;> simp <;> grind
/-- The document's 'method'. -/
def mokR (m : Mth) (n : Nat) : Bool := (memberB m.name && (decide (m.res = []) || rightB m.res)) && (m.params.take n).all rightB
end Go.Proofs.YtpincofjopmaaaaGreatDoor
namespace Go.Proofs.YtpincofjopmaaaaGreatDoor
open Go.RowKit
theorem allE_all : ∀ l : List Ins, l.all Ins.fine = decide (allE l = 0)
  | [] => rfl
  | x :: l => by
    have ih := allE_all l
    unfold allE
    rw [List.all_cons, ih]
    by_cases h : x.e = 0
    · rw [if_pos h]; simp [Ins.fine, h]
    · rw [if_neg h]; simp [Ins.fine, h]
def mok0 (m : Mth) : Bool := memberB m.name && (decide (m.res = []) || rightB m.res)
theorem mok_eq (m : Mth) : m.ok = ((mok0 m && m.params.all rightB) && m.body) := by
  unfold Mth.ok mok0
  rw [memB_member]
  generalize memberB m.name = a
  generalize m.params.all rightB = p
  generalize decide (m.res = []) = d
  generalize rightB m.res = e
  generalize m.body = b
  cases a <;> cases p <;> cases d <;> cases e <;> cases b <;> rfl
set_option maxHeartbeats 4000000 in
set_option maxRecDepth 100000 in
theorem refmethod_any {A : Nat → Prop} (m : Mth) (v : Value) (w : World) (hv : MthR A w m v) (hfit : m.Fit) :
    Calls Tryz.prog 113 #[v] w (Said m.ok w) := by
  obtain ⟨pv, cv, kv, rfl, hp, hcd, hkt⟩ := hv
  obtain ⟨po, pc, rfl⟩ := hp.shape
  obtain ⟨co, cc, rfl⟩ := hcd.shape
  obtain ⟨ko, kc, rfl⟩ := hkt.shape
  have hb0 : Below w.heap.size w (w.alloc (.cells #[.string (S m.name), .slice po m.params.length pc, .string (S m.res), .bool m.abs, .int .i64 m.loc, .slice co m.code.length cc, .slice ko m.cats.length kc] 33)) := (Below.refl _ w).alloc (Nat.le_refl _) _
  have HB0 := Lib.hid hb0
  have HBX := Lib.hid (Box.new w #[.string (S m.name), .slice po m.params.length pc, .string (S m.res), .bool m.abs, .int .i64 m.loc, .slice co m.code.length cc, .slice ko m.cats.length kc] 33)
  have HCP := Lib.hid (Src.elem (StrR.st.below hp hb0))
  have HCK := Lib.hid (Src.elem (CatR.st.below hkt hb0))
  have HNM : Hid (∀ W, Calls Tryz.prog 112 #[.string (S m.name)] W fun e w' => e = .returned (.bool (memberB m.name)) ∧ W = w') := Lib.hid (fun W => refmember_any m.name W hfit.name)
  have HRR : Hid (∀ s W, strOk s → Calls Tryz.prog 81 #[.string (S s)] W fun e w' => e = .returned (.bool (rightB s)) ∧ W = w') := Lib.hid (fun s W h => refright_any s W h)
  have HRC : Hid (∀ s W, strOk s → Calls Tryz.prog 111 #[.string (S s)] W fun e w' => e = .returned (.bool (classB s)) ∧ W = w') := Lib.hid (fun s W h => refclass_any s W h)
  have HAL : Hid (∀ W, Below (w.alloc (.cells #[.string (S m.name), .slice po m.params.length pc, .string (S m.res), .bool m.abs, .int .i64 m.loc, .slice co m.code.length cc, .slice ko m.cats.length kc] 33)).heap.size (w.alloc (.cells #[.string (S m.name), .slice po m.params.length pc, .string (S m.res), .bool m.abs, .int .i64 m.loc, .slice co m.code.length cc, .slice ko m.cats.length kc] 33)) W → Calls Tryz.prog 180 #[.slice co m.code.length cc] W fun e w' => e = .returned (.int .i64 (allE m.code : Nat)) ∧ Below W.heap.size W w') := Lib.hid (fun W hW =>
    refall_any m.code _ W (insSrc_of (InsR.st.below (InsR.st.below hcd hb0) hW)) hfit.code hfit.n2)
  have HFP : Hid (∀ x ∈ m.params, strOk x) := Lib.hid hfit.params
  have HFC : Hid (∀ x ∈ m.cats, strOk x.cls) := Lib.hid hfit.cats
  have HRES : Hid (strOk m.res) := Lib.hid hfit.res
  have hrl := toList_beq m.res []
  have hn1 := hfit.n1
  have hn2 := hfit.n2
  have hn3 := hfit.n3
  have hMA := mok_eq m
  have hBO : m.body = if m.abs then decide (m.loc = 0) && (decide (m.code.length = 0) && decide (m.cats.length = 0)) else decide ((m.params.length : Int) < m.loc) && (decide (0 < m.code.length) && (decide (allE m.code = 0) && m.cats.all (Cat.ok m.code.length))) := by
    rw [← allE_all]; rfl
  rw [hBO] at hMA
  clear hp hcd hkt hfit hb0 hBO
  obtain ⟨R, hR⟩ : ∃ R, R = m.ok := ⟨_, rfl⟩
  rw [← hR] at hMA ⊢
  have HMA := Lib.hid hMA
  obtain ⟨n1, h1⟩ : ∃ n, n = m.params.length := ⟨_, rfl⟩
  obtain ⟨n, h2⟩ : ∃ n, n = m.code.length := ⟨_, rfl⟩
  obtain ⟨n3, h3⟩ : ∃ n, n = m.cats.length := ⟨_, rfl⟩
  simp only [← h1, ← h2, ← h3] at HB0 HBX HCP HCK HAL HMA hn1 hn2 hn3 ⊢
  have HN1 := Lib.hid h1
  have HN3 := Lib.hid h3
  obtain ⟨name, params, res, ab, loc, code, cats⟩ := m
  dsimp only at *
  obtain ⟨K0, hK0⟩ : ∃ K, K = mok0 { name := name, params := params, res := res, abs := ab, loc := loc, code := code, cats := cats } := ⟨_, rfl⟩
  rw [← hK0] at HMA
  unfold mok0 at hK0
  dsimp only at hK0
  have HK0 := Lib.hid hK0
  generalize memberB name = a0 at HNM HK0
  generalize decide (res = []) = d0 at hrl HK0
  generalize allE code = AE at HAL HMA
  have HRL := Lib.hid hrl
  clear hMA hR h1 h2 h3 hK0 hrl
  go_enter Tryz.func113, Tryz.ntmps113
  go_upto_region 1 with fail
  generalize w.alloc (.cells #[.string (S name), .slice po n1 pc, .string (S res), .bool ab, .int .i64 loc, .slice co n cc, .slice ko n3 kc] 33) = W0 at HB0 HBX HCP HCK HAL ⊢
  obtain ⟨B, hB⟩ : ∃ B, B = w.heap.size := ⟨_, rfl⟩
  rw [← hB] at HBX ⊢
  clear hB
  have HBL : Hid (B < W0.heap.size) := Lib.hid HBX.out.lt
  go_cut [3] (fun v3 wx => v3 = .bool K0 ∧ wx = W0)
  case first =>
    have c0 := HBX.out.cell 0 rfl
    have c2 := HBX.out.cell 2 rfl
    go_wp2_with fail
    refine (HNM.out _).mono ?_
    rintro e w1 ⟨rfl, rfl⟩
    have hrl := HRL.out
    cases a0
    · go_wp2
      go_meet
      exact ⟨by rw [HK0.out]; rfl, rfl⟩
    cases d0
    · go_wp2_with fail
      refine (HRR.out _ _ HRES.out).mono ?_
      rintro e w1 ⟨rfl, rfl⟩
      clear hrl
      generalize rightB res = q at HK0 ⊢
      go_wp2
      go_meet
      exact ⟨by rw [HK0.out]; simp, rfl⟩
    · go_wp2
      go_meet
      exact ⟨by rw [HK0.out]; simp, rfl⟩
  case rest =>
    obtain ⟨rfl, rfl⟩ := hcut
    have c1 := HBX.out.cell 1 rfl
    go_wp2
    go_loop [3, 4] (fun v3 v4 => ∃ (k : Nat) (ok : Bool), k ≤ n1 ∧ v4 = .int .i64 k ∧ v3 = .bool ok ∧ ok = (K0 && (params.take k).all rightB)) (fun _ v4 => n1 - (intOf v4).toNat)
    case atStart => exact ⟨0, K0, Nat.zero_le _, rfl, rfl, by simp⟩
    case round =>
      obtain ⟨k, ok, hk, rfl, rfl, hok⟩ := hrel
      have HOK := Lib.hid hok
      clear hok
      by_cases hlt : k < n1
      · have hkl : k < params.length := by have := HN1.out; omega
        obtain ⟨x, hx⟩ : ∃ x, params[k]? = some x := ⟨_, List.getElem?_eq_getElem hkl⟩
        have hoW := Only.refl (fun _ => False) wc
        obtain ⟨b, o, v, rfl, hv, hsz, hcl⟩ := HCP.out k x hx
        have HV := Lib.hid (StrR.st.keep hv hoW (fun _ _ => id))
        obtain rfl := hv
        have d0 : wc.cell? ⟨b, o + k, none⟩ = some (.string (S x)) := hoW.cell (a := ⟨b, o + k, none⟩) (by have q := hcl 0 _ rfl; rw [Nat.mul_one] at q; exact q) id
        clear hcl hsz
        have hts : (K0 && (params.take (k + 1)).all rightB) = (ok && rightB x) := by rw [take_all_succ rightB params k x hx, HOK.out, Bool.and_assoc]
        have HTS := Lib.hid hts
        have HXS := Lib.hid (HFP.out x (List.mem_of_getElem? hx))
        clear hx hkl hoW hts
        have hk0 : (0 : Int) ≤ k := by omega
        have hkn : (k : Int) < (n1 : Int) := by omega
        cases ok
        · rw [Bool.false_and] at HTS
          go_wp2
          go_round
          case rel => exact ⟨k + 1, false, by omega, by go_num, rfl, HTS.out.symm⟩
          case measure => simp [intOf]; omega
        · rw [Bool.true_and] at HTS
          go_wp2_with fail
          refine (HRR.out _ _ HXS.out).mono ?_
          rintro e w1 ⟨rfl, rfl⟩
          generalize rightB x = q at HTS ⊢
          go_wp2
          go_round
          case rel => exact ⟨k + 1, q, by omega, by go_num, rfl, HTS.out.symm⟩
          case measure => simp [intOf]; omega
      · obtain rfl : n1 = k := by omega
        rw [HN1.out, List.take_of_length_le (Nat.le_refl _)] at HOK
        rw [← HOK.out] at HMA
        clear hlt
        have c3 := HBX.out.cell 3 rfl
        have c4 := HBX.out.cell 4 rfl
        have c5 := HBX.out.cell 5 rfl
        have c6 := HBX.out.cell 6 rfl
        cases ab
        case true =>
          simp only [if_true] at HMA
          cases ok
          · obtain rfl : R = false := by rw [HMA.out]; rfl
            go_wp2
            go_ret
            exact ⟨rfl, HB0.out⟩
          by_cases g1 : loc = 0
          case neg =>
            have dg1 : (loc == 0) = false := by rw [beq_eq_false_iff_ne]; exact g1
            obtain rfl : R = false := by rw [HMA.out]; simp [g1]
            clear g1
            go_wp2
            go_ret
            exact ⟨rfl, HB0.out⟩
          subst g1
          by_cases g2 : n = 0
          case neg =>
            have dg2 : ((n : Int) == 0) = false := by rw [beq_eq_false_iff_ne]; omega
            obtain rfl : R = false := by rw [HMA.out]; simp [g2]
            clear g2
            go_wp2
            go_ret
            exact ⟨rfl, HB0.out⟩
          subst g2
          by_cases g3 : n3 = 0
          case neg =>
            have dg3 : ((n3 : Int) == 0) = false := by rw [beq_eq_false_iff_ne]; omega
            obtain rfl : R = false := by rw [HMA.out]; simp [g3]
            clear g3
            go_wp2
            go_ret
            exact ⟨rfl, HB0.out⟩
          subst g3
          obtain rfl : R = true := by rw [HMA.out]; rfl
          go_wp2
          go_ret
          exact ⟨rfl, HB0.out⟩
        case false =>
          simp only [Bool.false_eq_true, if_false] at HMA
          obtain ⟨K1, hK1⟩ : ∃ K, K = ok := ⟨_, rfl⟩
          rw [← hK1] at HMA
          have HK1 := Lib.hid hK1
          clear hK1 c4
          go_wp2
          go_loopw [3, 6] (fun v3 v6 wr => ∃ (k : Nat) (o1 : Bool), k ≤ n3 ∧ v6 = .int .i64 k ∧ v3 = .bool o1 ∧ o1 = (K1 && (cats.take k).all (Cat.ok n)) ∧ Below wc.heap.size wc wr) (fun _ v6 _ => n3 - (intOf v6).toNat)
          case atStart => exact ⟨0, ok, Nat.zero_le _, rfl, rfl, by rw [HK1.out]; simp, Below.refl _ _⟩
          case round =>
            clear c1 c3 c5 c6
            obtain ⟨k, o1, hk, rfl, rfl, hok1, hbw⟩ := hrel
            have HO1 := Lib.hid hok1
            have HBW := Lib.hid hbw
            have c6 := (HBX.out.below hbw).cell 6 rfl
            clear hok1 hbw
            by_cases hlt : k < n3
            · have hkl : k < cats.length := by have := HN3.out; omega
              obtain ⟨x, hx⟩ : ∃ x, cats[k]? = some x := ⟨_, List.getElem?_eq_getElem hkl⟩
              have hoW := Only.ofBelow (S := fun _ => False) HBW.out
              obtain ⟨b, o, v, rfl, hv, hsz, hcl⟩ := HCK.out k x hx
              have HV := Lib.hid (CatR.st.keep hv hoW (fun _ _ => id))
              obtain rfl := hv
              have d0 : wr.cell? ⟨b, o + k * 4, none⟩ = some (.int .i64 x.fr) := hoW.cell (a := ⟨b, o + k * 4, none⟩) (hcl 0 _ rfl) id
              have d1 : wr.cell? ⟨b, o + k * 4 + 1, none⟩ = some (.int .i64 x.till) := hoW.cell (a := ⟨b, o + k * 4 + 1, none⟩) (hcl 1 _ rfl) id
              have d2 : wr.cell? ⟨b, o + k * 4 + 2, none⟩ = some (.int .i64 x.at_) := hoW.cell (a := ⟨b, o + k * 4 + 2, none⟩) (hcl 2 _ rfl) id
              have d3 : wr.cell? ⟨b, o + k * 4 + 3, none⟩ = some (.string (S x.cls)) := hoW.cell (a := ⟨b, o + k * 4 + 3, none⟩) (hcl 3 _ rfl) id
              clear hcl hsz
              have hts : (K1 && (cats.take (k + 1)).all (Cat.ok n)) = (o1 && Cat.ok n x) := by rw [take_all_succ (Cat.ok n) cats k x hx, HO1.out, Bool.and_assoc]
              have HTS := Lib.hid hts
              have HXS := Lib.hid (HFC.out x (List.mem_of_getElem? hx))
              clear hx hkl hoW hts
              have hk0 : (0 : Int) ≤ k := by omega
              have hkn : (k : Int) < (n3 : Int) := by omega
              cases o1
              · rw [Bool.false_and] at HTS
                go_wp2
                go_roundw
                case rel => exact ⟨k + 1, false, by omega, by go_num, rfl, HTS.out.symm, below_alloc HBW.out _⟩
                case measure => simp [intOf]; omega
              rw [Bool.true_and] at HTS
              by_cases h1 : 0 ≤ x.fr
              case neg =>
                have dh1 := decide_eq_false h1
                have hcx : Cat.ok n x = false := by unfold Cat.ok; simp [h1]
                rw [hcx] at HTS
                clear hcx h1
                go_wp2
                go_roundw
                case rel => exact ⟨k + 1, false, by omega, by go_num, rfl, HTS.out.symm, below_alloc HBW.out _⟩
                case measure => simp [intOf]; omega
              have dh1 := decide_eq_true h1
              by_cases h2 : x.fr < x.till
              case neg =>
                have dh2 := decide_eq_false h2
                have hcx : Cat.ok n x = false := by unfold Cat.ok; simp [h1, h2]
                rw [hcx] at HTS
                clear hcx h1 h2
                go_wp2
                go_roundw
                case rel => exact ⟨k + 1, false, by omega, by go_num, rfl, HTS.out.symm, below_alloc HBW.out _⟩
                case measure => simp [intOf]; omega
              have dh2 := decide_eq_true h2
              by_cases h3 : x.till ≤ (n : Int)
              case neg =>
                have dh3 := decide_eq_false h3
                have hcx : Cat.ok n x = false := by unfold Cat.ok; simp [h1, h2, h3]
                rw [hcx] at HTS
                clear hcx h1 h2 h3
                go_wp2
                go_roundw
                case rel => exact ⟨k + 1, false, by omega, by go_num, rfl, HTS.out.symm, below_alloc HBW.out _⟩
                case measure => simp [intOf]; omega
              have dh3 := decide_eq_true h3
              by_cases h4 : 0 ≤ x.at_
              case neg =>
                have dh4 := decide_eq_false h4
                have hcx : Cat.ok n x = false := by unfold Cat.ok; simp [h1, h2, h3, h4]
                rw [hcx] at HTS
                clear hcx h1 h2 h3 h4
                go_wp2
                go_roundw
                case rel => exact ⟨k + 1, false, by omega, by go_num, rfl, HTS.out.symm, below_alloc HBW.out _⟩
                case measure => simp [intOf]; omega
              have dh4 := decide_eq_true h4
              by_cases h5 : x.at_ < (n : Int)
              case neg =>
                have dh5 := decide_eq_false h5
                have hcx : Cat.ok n x = false := by unfold Cat.ok; simp [h1, h2, h3, h4, h5]
                rw [hcx] at HTS
                clear hcx h1 h2 h3 h4 h5
                go_wp2
                go_roundw
                case rel => exact ⟨k + 1, false, by omega, by go_num, rfl, HTS.out.symm, below_alloc HBW.out _⟩
                case measure => simp [intOf]; omega
              have dh5 := decide_eq_true h5
              go_wp2_with fail
              refine (HRC.out _ _ HXS.out).mono ?_
              rintro e w1 ⟨rfl, rfl⟩
              have hcx : Cat.ok n x = classB x.cls := by unfold Cat.ok; simp [h1, h2, h3, h4, h5]
              rw [hcx] at HTS
              clear hcx h1 h2 h3 h4 h5 dh1 dh2 dh3 dh4 dh5
              generalize classB x.cls = q at HTS ⊢
              go_wp2
              go_roundw
              case rel => exact ⟨k + 1, q, by omega, by go_num, rfl, HTS.out.symm, below_alloc HBW.out _⟩
              case measure => simp [intOf]; omega
            · obtain rfl : n3 = k := by omega
              rw [HN3.out, List.take_of_length_le (Nat.le_refl _)] at HO1
              have hMA2 : R = (o1 && (decide (0 < n) && (decide ((n1 : Int) < loc) && decide (AE = 0)))) := by
                rw [HMA.out, HO1.out]
                generalize cats.all (Cat.ok n) = a
                generalize decide (0 < n) = b
                generalize decide ((n1 : Int) < loc) = c
                generalize decide (AE = 0) = d
                cases K1 <;> cases a <;> cases b <;> cases c <;> cases d <;> rfl
              have HM2 := Lib.hid hMA2
              have HBE := Lib.hid (HB0.out.trans (HBW.out.mono HB0.out.size))
              have c1 := (HBX.out.below HBW.out).cell 1 rfl
              have c4 := (HBX.out.below HBW.out).cell 4 rfl
              have c5 := (HBX.out.below HBW.out).cell 5 rfl
              clear hMA2 hlt HMA
              cases o1
              · obtain rfl : R = false := by rw [HM2.out]; rfl
                go_wp2
                go_ret
                exact ⟨rfl, HBE.out⟩
              by_cases g1 : 0 < n
              case neg =>
                have i1 : ¬ (0 < (n : Int)) := by omega
                obtain rfl : R = false := by rw [HM2.out]; simp [g1]
                clear g1
                go_wp2
                go_ret
                exact ⟨rfl, HBE.out⟩
              have i1 : 0 < (n : Int) := by omega
              by_cases g2 : (n1 : Int) < loc
              case neg =>
                have d2 := decide_eq_false g2
                obtain rfl : R = false := by rw [HM2.out]; simp [g2]
                clear g2
                go_wp2
                go_ret
                exact ⟨rfl, HBE.out⟩
              have d2 := decide_eq_true g2
              have hM3 : R = decide (AE = 0) := by rw [HM2.out]; simp [g1, g2]
              have HM3 := Lib.hid hM3
              clear hM3 g1 HM2
              go_wp2_with fail
              refine (HAL.out _ HBW.out).mono ?_
              rintro e w2 ⟨rfl, hb2⟩
              have HE2 := Lib.hid (HBE.out.trans (hb2.mono HBE.out.size))
              clear hb2 c1 c4 c5 c6
              by_cases g3 : AE = 0
              · subst g3
                obtain rfl : R = true := by rw [HM3.out]; rfl
                go_wp2
                go_ret
                exact ⟨rfl, HE2.out⟩
              · have dg3 : ((AE : Int) == 0) = false := by rw [beq_eq_false_iff_ne]; omega
                obtain rfl : R = false := by rw [HM3.out]; simp [g3]
                clear g3
                go_wp2
                go_ret
                exact ⟨rfl, HE2.out⟩
end Go.Proofs.YtpincofjopmaaaaGreatDoor

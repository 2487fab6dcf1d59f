/-
  The contracts of the document's right and Check of layer 5: may a class be?
  Conditions: the class's parts lie in memory that was there before; texts and lists that a machine may hold.
-/
import Derived.Test.YtpincofjopmaaaaGreatDoorM38
import Derived.Test.YtpincofjopmaaaaGreatDoorM21
import Derived.BigQuiet
import Derived.Deep.QuietTactic
namespace Go.Proofs.YtpincofjopmaaaaGreatDoor
open Go.RowKit
/-- Each of the first k is so, and none of them has another's name. -/
def stB {α : Type} (A : α → Bool) (nm : α → List UInt8) (l : List α) (k : Nat) : Bool := (l.take k).all A && distTo (l.map nm) k
theorem stB_zero {α : Type} (A : α → Bool) (nm : α → List UInt8) (l : List α) : stB A nm l 0 = true := by simp [stB, distTo_zero]
theorem stB_succ {α : Type} (A : α → Bool) (nm : α → List UInt8) (l : List α) (k : Nat) (x : α) (h : l[k]? = some x) : stB A nm l (k + 1) = ((stB A nm l k && A x) && !((l.take k).any fun y => nm y == nm x)) := by
  unfold stB
  rw [take_all_succ A l k x h, distTo_succ, names_at nm l k x h]
  generalize (l.take k).all A = a
  generalize distTo (l.map nm) k = b
  generalize A x = d
  generalize ((l.take k).any fun y => nm y == nm x) = e
  cases a <;> cases b <;> cases d <;> cases e <;> rfl
def selfN (s : List UInt8) : List UInt8 := s
def likeA (nm : List UInt8) (x : List UInt8) : Bool := classB x && !(x == nm)
def fldA (itf : Bool) (f : Fld) : Bool := memberB f.name && (rightB f.kind && !itf)
def mthA (itf ab : Bool) (m : Mth) : Bool := m.ok && ((!m.abs || ab) && (!itf || m.abs))
def lastB (c : Cls) : Bool := (!c.itf || (c.abs && decide (c.sup = objL))) && !(c.abs && c.fin)
theorem right_parts (c : Cls) : c.fine = ((((baseR c && stB (likeA c.name) selfN c.like c.like.length) && stB (fldA c.itf) Fld.name c.flds c.flds.length) && stB (mthA c.itf c.abs) Mth.name c.mths c.mths.length) && lastB c) := by
  rw [← rightR_eq]
  have h : c.like.map selfN = c.like := List.map_id' _
  unfold rightR likeR fldR mthR stB lastB likeA fldA mthA mthB
  rw [h]
theorem below_quiet {w V : World} (h : Below w.heap.size w V) (n : Nat) : Below w.heap.size w (V.drewN n) := h.trans ((below_drewN V n).mono h.size)
set_option maxHeartbeats 4000000 in
set_option maxRecDepth 100000 in
theorem refright5_any {A : Nat → Prop} (c : Cls) (v : Value) (w : World) (hv : ClsR A w c v) (hfit : c.Fit) :
    Calls Tryz.prog 57 #[v] w (Said c.fine w) := by
  obtain ⟨lv, fv, mv, rfl, hl, hf, hm⟩ := hv
  obtain ⟨lo, lc, rfl⟩ := hl.shape
  obtain ⟨fo, fc, rfl⟩ := hf.shape
  obtain ⟨mo, mc, rfl⟩ := hm.shape
  have hb0 : Below w.heap.size w (w.alloc (.cells #[.string (S c.name), .string (S c.sup), .slice lo c.like.length lc, .bool c.itf, .bool c.abs, .bool c.fin, .slice fo c.flds.length fc, .slice mo c.mths.length mc] 26)) := (Below.refl _ w).alloc (Nat.le_refl _) _
  have HB0 := Lib.hid hb0
  have HBX := Lib.hid (Box.new w #[.string (S c.name), .string (S c.sup), .slice lo c.like.length lc, .bool c.itf, .bool c.abs, .bool c.fin, .slice fo c.flds.length fc, .slice mo c.mths.length mc] 26)
  have HCL := Lib.hid (Src.elem (StrR.st.below hl hb0))
  have HCF := Lib.hid (Src.elem (FldR.st.below hf hb0))
  have HCM := Lib.hid (Src.elem (MthR.st.below hm hb0))
  have HMB : Hid (∀ s W, strOk s → Calls Tryz.prog 112 #[.string (S s)] W fun e w' => e = .returned (.bool (memberB s)) ∧ W = w') := Lib.hid (fun s W h => refmember_any s W h)
  have HRR : Hid (∀ s W, strOk s → Calls Tryz.prog 81 #[.string (S s)] W fun e w' => e = .returned (.bool (rightB s)) ∧ W = w') := Lib.hid (fun s W h => refright_any s W h)
  have HRC : Hid (∀ s W, strOk s → Calls Tryz.prog 111 #[.string (S s)] W fun e w' => e = .returned (.bool (classB s)) ∧ W = w') := Lib.hid (fun s W h => refclass_any s W h)
  have HMT : Hid (∀ x ∈ c.mths, x.Fit) := Lib.hid hfit.mths
  have HFL : Hid (∀ x ∈ c.like, strOk x) := Lib.hid hfit.like
  have HFF : Hid (∀ x ∈ c.flds, strOk x.name ∧ strOk x.kind) := Lib.hid hfit.flds
  have HNA : Hid (strOk c.name) := Lib.hid hfit.name
  have HSU : Hid (strOk c.sup) := Lib.hid hfit.sup
  have hn1 := hfit.n1
  have hn2 := hfit.n2
  have hn3 := hfit.n3
  have HMA := Lib.hid (right_parts c)
  clear hl hf hm hfit hb0
  obtain ⟨R, hR⟩ : ∃ R, R = c.fine := ⟨_, rfl⟩
  rw [← hR] at HMA ⊢
  obtain ⟨n1, h1⟩ : ∃ n, n = c.like.length := ⟨_, rfl⟩
  obtain ⟨n2, h2⟩ : ∃ n, n = c.flds.length := ⟨_, rfl⟩
  obtain ⟨n3, h3⟩ : ∃ n, n = c.mths.length := ⟨_, rfl⟩
  simp only [← h1, ← h2, ← h3] at HB0 HBX HCL HCF HCM HMA hn1 hn2 hn3 ⊢
  have HN1 := Lib.hid h1
  have HN2 := Lib.hid h2
  have HN3 := Lib.hid h3
  obtain ⟨name, sup, like, itf, ab, fin, flds, mths⟩ := c
  dsimp only at *
  obtain ⟨P0, hP0⟩ : ∃ K, K = baseR { name := name, sup := sup, like := like, itf := itf, abs := ab, fin := fin, flds := flds, mths := mths } := ⟨_, rfl⟩
  obtain ⟨PL, hPL⟩ : ∃ K, K = lastB { name := name, sup := sup, like := like, itf := itf, abs := ab, fin := fin, flds := flds, mths := mths } := ⟨_, rfl⟩
  rw [← hP0, ← hPL] at HMA
  unfold baseR at hP0
  unfold lastB at hPL
  dsimp only at hP0 hPL
  have HP0 := Lib.hid hP0
  have HPL := Lib.hid hPL
  have esn := S_toList name
  have ess := S_toList sup
  clear hR h1 h2 h3 hP0 hPL
  go_enter Tryz.func57, Tryz.ntmps57
  go_upto_region 1 with fail
  generalize w.alloc (.cells #[.string (S name), .string (S sup), .slice lo n1 lc, .bool itf, .bool ab, .bool fin, .slice fo n2 fc, .slice mo n3 mc] 26) = W0 at HB0 HBX HCL HCF HCM ⊢
  obtain ⟨B, hB⟩ : ∃ B, B = w.heap.size := ⟨_, rfl⟩
  rw [← hB] at HBX ⊢
  clear hB
  go_cut [3] (fun v3 wx => v3 = .bool P0 ∧ wx = W0)
  case first =>
    have c0 := HBX.out.cell 0 rfl
    have c1 := HBX.out.cell 1 rfl
    go_wp2_with fail
    refine (HRC.out _ _ HNA.out).mono ?_
    rintro e w1 ⟨rfl, rfl⟩
    generalize classB name = a1 at HP0 ⊢
    cases a1
    · go_wp2
      go_meet
      exact ⟨by rw [HP0.out]; rfl, rfl⟩
    go_wp2_with fail
    refine (HRC.out _ _ HSU.out).mono ?_
    rintro e w1 ⟨rfl, rfl⟩
    generalize classB sup = a2 at HP0 ⊢
    cases a2
    · go_wp2
      go_meet
      exact ⟨by rw [HP0.out]; rfl, rfl⟩
    generalize hq : (name == sup) = q at HP0 ⊢
    cases q
    all_goals
      go_wp2
      go_meet
      exact ⟨by rw [HP0.out]; rfl, rfl⟩
  case rest =>
    obtain ⟨rfl, rfl⟩ := hcut
    go_wp2
    go_loopw [3, 4] (fun v3 vi wr => ∃ (k : Nat) (ok : Bool), k ≤ n1 ∧ vi = .int .i64 k ∧ v3 = .bool ok ∧ ok = (P0 && stB (likeA name) selfN like k) ∧ Below wc.heap.size wc wr) (fun _ vi _ => n1 - (intOf vi).toNat)
    case atStart => exact ⟨0, P0, Nat.zero_le _, rfl, rfl, by rw [stB_zero]; simp, Below.refl _ _⟩
    case round =>
      obtain ⟨k, ok, hk, rfl, rfl, hok, hbw⟩ := hrel
      have HOK := Lib.hid hok
      have HBW := Lib.hid hbw
      have c2 := (HBX.out.below hbw).cell 2 rfl
      clear hok hbw
      by_cases hlt : k < n1
      · have hkl : k < like.length := by have := HN1.out; omega
        obtain ⟨x, hx⟩ : ∃ x, like[k]? = some x := ⟨_, List.getElem?_eq_getElem hkl⟩
        have hoW := Only.ofBelow (S := fun _ => False) HBW.out
        obtain ⟨b, o, v, rfl, hv, hsz, hcl⟩ := HCL.out k x hx
        have HV := Lib.hid (StrR.st.keep hv hoW (fun _ _ => id))
        obtain rfl := hv
        have d0 : wr.cell? ⟨b, o + k, none⟩ = some (.string (S x)) := hoW.cell (a := ⟨b, o + k, none⟩) (by have q := hcl 0 _ rfl; rw [Nat.mul_one] at q; exact q) id
        clear hcl hsz
        have hts : (P0 && stB (likeA name) selfN like (k + 1)) = ((ok && (likeA name) x) && !((like.take k).any fun y => selfN y == selfN x)) := by
          rw [stB_succ _ _ _ _ _ hx, HOK.out, Bool.and_assoc, Bool.and_assoc, Bool.and_assoc]
        have HTS := Lib.hid hts
        have hmem := List.mem_of_getElem? hx
        clear hts
        have hk0 : (0 : Int) ≤ k := by omega
        have hkn : (k : Int) < (n1 : Int) := by omega
        have c0 := (HBX.out.below HBW.out).cell 0 rfl
        have HXS := Lib.hid (HFL.out x hmem)
        have HCX : Hid (∀ W, Calls Tryz.prog 111 #[.string (S x)] W fun e w' => e = .returned (.bool (classB x)) ∧ w' = W) := Lib.hid (fun W => (HRC.out x W HXS.out).mono (fun _ _ h => ⟨h.1, h.2.symm⟩))
        have esx := S_toList x
        rw [show likeA name x = (classB x && !(x == name)) from rfl] at HTS
        have HBX0 := HBW
        have HDX : Hid (∀ W, Below wr.heap.size wr W → W.cell? ⟨b, o + k, none⟩ = some (.string (S x))) := Lib.hid (fun W hW => (Only.ofBelow (S := fun _ => False) hW).cell d0 id)
        clear hx hkl hoW hmem
        go_upto_region 5 with fail
        cases ok
        · as_aux_lemma =>
            go_quiet (fail)
            go_wp2
            have HTQ : Hid ((P0 && stB (likeA name) selfN like (k + 1)) = (false && !((like.take k).any fun y => selfN y == selfN x))) := Lib.hid (by rw [HTS.out]; simp)
            clear HTS
            go_loopw [3, 5] (fun v3 vj wj => ∃ (j : Nat) (o1 : Bool), j ≤ k ∧ vj = .int .i64 j ∧ v3 = .bool o1 ∧ o1 = (false && !((like.take j).any fun y => selfN y == selfN x)) ∧ Below wr.heap.size wr wj) (fun _ vj _ => k - (intOf vj).toNat)
            case atStart => exact ⟨0, false, Nat.zero_le _, rfl, rfl, by simp, below_quiet (Below.refl _ _) _⟩
            case round =>
              obtain ⟨j, o1, hj, rfl, rfl, ho1, hbj⟩ := hrel
              have HO1 := Lib.hid ho1
              have HBJ := Lib.hid hbj
              have HBJ0 := Lib.hid (below_step HBX0.out hbj)
              have c2 := (HBX.out.below HBJ0.out).cell 2 rfl
              have dx := HDX.out _ hbj
              clear ho1 hbj
              by_cases hlj : j < k
              · have hjl : j < like.length := by have := HN1.out; omega
                obtain ⟨y, hy⟩ : ∃ y, like[j]? = some y := ⟨_, List.getElem?_eq_getElem hjl⟩
                have hoJ := Only.ofBelow (S := fun _ => False) HBJ0.out
                obtain ⟨b2, o2, v2, he2, hv2, _, hcl2⟩ := HCL.out j y hy
                obtain ⟨e1, e2⟩ : b = b2 ∧ o = o2 := by simpa using he2
                subst e1 e2
                obtain rfl := hv2
                have dy := hoJ.cell (a := ⟨b, o + j, none⟩) (by have q := hcl2 0 _ rfl; rw [Nat.mul_one] at q; exact q) id
                have esy := S_toList y
                have htj : (false && !((like.take (j + 1)).any fun y => selfN y == selfN x)) = (o1 && !(y == x)) := by
                  rw [take_any_succ _ _ _ _ hy, HO1.out, Bool.not_or, Bool.and_assoc]
                  try rfl
                have HTJ := Lib.hid htj
                clear hy hjl hoJ he2  hcl2 htj
                have hj0 : (0 : Int) ≤ j := by omega
                have hjk : (j : Int) < (k : Int) := by omega
                have hjn : (j : Int) < (n1 : Int) := by omega
                cases o1
                · rw [Bool.false_and] at HTJ
                  go_wp2_with (go_quiet (fail))
                  go_roundw
                  case rel => exact ⟨j + 1, false, by omega, by go_num, rfl, HTJ.out.symm, below_quiet HBJ.out _⟩
                  case measure => simp [intOf]; omega
                · rw [Bool.true_and] at HTJ
                  generalize hp : (y == x) = p at HTJ
                  cases p
                  all_goals
                    go_wp2_with (go_quiet (fail))
                    go_roundw
                    case rel => exact ⟨j + 1, _, by omega, by go_num, rfl, HTJ.out.symm, below_quiet HBJ.out _⟩
                    case measure => simp [intOf]; omega
              · obtain rfl : k = j := by omega
                rw [← HO1.out] at HTQ
                clear dx
                go_wp2
                go_roundw
                case rel => exact ⟨k + 1, o1, by omega, by go_num, rfl, HTQ.out.symm, below_step HBW.out HBJ.out⟩
                case measure => simp [intOf]; omega
        generalize classB x = q1 at HCX HTS
        cases q1
        · as_aux_lemma =>
            go_quiet ((go_at_call 111; exact Calls.quiet_of_same (HCX.out _)))
            go_wp2
            have HTQ : Hid ((P0 && stB (likeA name) selfN like (k + 1)) = (false && !((like.take k).any fun y => selfN y == selfN x))) := Lib.hid (by rw [HTS.out]; simp)
            clear HTS
            go_loopw [3, 5] (fun v3 vj wj => ∃ (j : Nat) (o1 : Bool), j ≤ k ∧ vj = .int .i64 j ∧ v3 = .bool o1 ∧ o1 = (false && !((like.take j).any fun y => selfN y == selfN x)) ∧ Below wr.heap.size wr wj) (fun _ vj _ => k - (intOf vj).toNat)
            case atStart => exact ⟨0, false, Nat.zero_le _, rfl, rfl, by simp, below_quiet (Below.refl _ _) _⟩
            case round =>
              obtain ⟨j, o1, hj, rfl, rfl, ho1, hbj⟩ := hrel
              have HO1 := Lib.hid ho1
              have HBJ := Lib.hid hbj
              have HBJ0 := Lib.hid (below_step HBX0.out hbj)
              have c2 := (HBX.out.below HBJ0.out).cell 2 rfl
              have dx := HDX.out _ hbj
              clear ho1 hbj
              by_cases hlj : j < k
              · have hjl : j < like.length := by have := HN1.out; omega
                obtain ⟨y, hy⟩ : ∃ y, like[j]? = some y := ⟨_, List.getElem?_eq_getElem hjl⟩
                have hoJ := Only.ofBelow (S := fun _ => False) HBJ0.out
                obtain ⟨b2, o2, v2, he2, hv2, _, hcl2⟩ := HCL.out j y hy
                obtain ⟨e1, e2⟩ : b = b2 ∧ o = o2 := by simpa using he2
                subst e1 e2
                obtain rfl := hv2
                have dy := hoJ.cell (a := ⟨b, o + j, none⟩) (by have q := hcl2 0 _ rfl; rw [Nat.mul_one] at q; exact q) id
                have esy := S_toList y
                have htj : (false && !((like.take (j + 1)).any fun y => selfN y == selfN x)) = (o1 && !(y == x)) := by
                  rw [take_any_succ _ _ _ _ hy, HO1.out, Bool.not_or, Bool.and_assoc]
                  try rfl
                have HTJ := Lib.hid htj
                clear hy hjl hoJ he2  hcl2 htj
                have hj0 : (0 : Int) ≤ j := by omega
                have hjk : (j : Int) < (k : Int) := by omega
                have hjn : (j : Int) < (n1 : Int) := by omega
                cases o1
                · rw [Bool.false_and] at HTJ
                  go_wp2_with (go_quiet (fail))
                  go_roundw
                  case rel => exact ⟨j + 1, false, by omega, by go_num, rfl, HTJ.out.symm, below_quiet HBJ.out _⟩
                  case measure => simp [intOf]; omega
                · rw [Bool.true_and] at HTJ
                  generalize hp : (y == x) = p at HTJ
                  cases p
                  all_goals
                    go_wp2_with (go_quiet (fail))
                    go_roundw
                    case rel => exact ⟨j + 1, _, by omega, by go_num, rfl, HTJ.out.symm, below_quiet HBJ.out _⟩
                    case measure => simp [intOf]; omega
              · obtain rfl : k = j := by omega
                rw [← HO1.out] at HTQ
                clear dx
                go_wp2
                go_roundw
                case rel => exact ⟨k + 1, o1, by omega, by go_num, rfl, HTQ.out.symm, below_step HBW.out HBJ.out⟩
                case measure => simp [intOf]; omega
        generalize hp : (x == name) = p at HTS
        cases p
        · as_aux_lemma =>
            go_quiet ((go_at_call 111; exact Calls.quiet_of_same (HCX.out _)))
            go_wp2
            clear hp
            have HTQ : Hid ((P0 && stB (likeA name) selfN like (k + 1)) = (true && !((like.take k).any fun y => selfN y == selfN x))) := Lib.hid (by rw [HTS.out]; simp)
            clear HTS
            go_loopw [3, 5] (fun v3 vj wj => ∃ (j : Nat) (o1 : Bool), j ≤ k ∧ vj = .int .i64 j ∧ v3 = .bool o1 ∧ o1 = (true && !((like.take j).any fun y => selfN y == selfN x)) ∧ Below wr.heap.size wr wj) (fun _ vj _ => k - (intOf vj).toNat)
            case atStart => exact ⟨0, true, Nat.zero_le _, rfl, rfl, by simp, below_quiet (Below.refl _ _) _⟩
            case round =>
              obtain ⟨j, o1, hj, rfl, rfl, ho1, hbj⟩ := hrel
              have HO1 := Lib.hid ho1
              have HBJ := Lib.hid hbj
              have HBJ0 := Lib.hid (below_step HBX0.out hbj)
              have c2 := (HBX.out.below HBJ0.out).cell 2 rfl
              have dx := HDX.out _ hbj
              clear ho1 hbj
              by_cases hlj : j < k
              · have hjl : j < like.length := by have := HN1.out; omega
                obtain ⟨y, hy⟩ : ∃ y, like[j]? = some y := ⟨_, List.getElem?_eq_getElem hjl⟩
                have hoJ := Only.ofBelow (S := fun _ => False) HBJ0.out
                obtain ⟨b2, o2, v2, he2, hv2, _, hcl2⟩ := HCL.out j y hy
                obtain ⟨e1, e2⟩ : b = b2 ∧ o = o2 := by simpa using he2
                subst e1 e2
                obtain rfl := hv2
                have dy := hoJ.cell (a := ⟨b, o + j, none⟩) (by have q := hcl2 0 _ rfl; rw [Nat.mul_one] at q; exact q) id
                have esy := S_toList y
                have htj : (true && !((like.take (j + 1)).any fun y => selfN y == selfN x)) = (o1 && !(y == x)) := by
                  rw [take_any_succ _ _ _ _ hy, HO1.out, Bool.not_or, Bool.and_assoc]
                  try rfl
                have HTJ := Lib.hid htj
                clear hy hjl hoJ he2  hcl2 htj
                have hj0 : (0 : Int) ≤ j := by omega
                have hjk : (j : Int) < (k : Int) := by omega
                have hjn : (j : Int) < (n1 : Int) := by omega
                cases o1
                · rw [Bool.false_and] at HTJ
                  go_wp2_with (go_quiet (fail))
                  go_roundw
                  case rel => exact ⟨j + 1, false, by omega, by go_num, rfl, HTJ.out.symm, below_quiet HBJ.out _⟩
                  case measure => simp [intOf]; omega
                · rw [Bool.true_and] at HTJ
                  generalize hp : (y == x) = p at HTJ
                  cases p
                  all_goals
                    go_wp2_with (go_quiet (fail))
                    go_roundw
                    case rel => exact ⟨j + 1, _, by omega, by go_num, rfl, HTJ.out.symm, below_quiet HBJ.out _⟩
                    case measure => simp [intOf]; omega
              · obtain rfl : k = j := by omega
                rw [← HO1.out] at HTQ
                clear dx
                go_wp2
                go_roundw
                case rel => exact ⟨k + 1, o1, by omega, by go_num, rfl, HTQ.out.symm, below_step HBW.out HBJ.out⟩
                case measure => simp [intOf]; omega
        · as_aux_lemma =>
            go_quiet ((go_at_call 111; exact Calls.quiet_of_same (HCX.out _)))
            go_wp2
            clear hp
            have HTQ : Hid ((P0 && stB (likeA name) selfN like (k + 1)) = (false && !((like.take k).any fun y => selfN y == selfN x))) := Lib.hid (by rw [HTS.out]; simp)
            clear HTS
            go_loopw [3, 5] (fun v3 vj wj => ∃ (j : Nat) (o1 : Bool), j ≤ k ∧ vj = .int .i64 j ∧ v3 = .bool o1 ∧ o1 = (false && !((like.take j).any fun y => selfN y == selfN x)) ∧ Below wr.heap.size wr wj) (fun _ vj _ => k - (intOf vj).toNat)
            case atStart => exact ⟨0, false, Nat.zero_le _, rfl, rfl, by simp, below_quiet (Below.refl _ _) _⟩
            case round =>
              obtain ⟨j, o1, hj, rfl, rfl, ho1, hbj⟩ := hrel
              have HO1 := Lib.hid ho1
              have HBJ := Lib.hid hbj
              have HBJ0 := Lib.hid (below_step HBX0.out hbj)
              have c2 := (HBX.out.below HBJ0.out).cell 2 rfl
              have dx := HDX.out _ hbj
              clear ho1 hbj
              by_cases hlj : j < k
              · have hjl : j < like.length := by have := HN1.out; omega
                obtain ⟨y, hy⟩ : ∃ y, like[j]? = some y := ⟨_, List.getElem?_eq_getElem hjl⟩
                have hoJ := Only.ofBelow (S := fun _ => False) HBJ0.out
                obtain ⟨b2, o2, v2, he2, hv2, _, hcl2⟩ := HCL.out j y hy
                obtain ⟨e1, e2⟩ : b = b2 ∧ o = o2 := by simpa using he2
                subst e1 e2
                obtain rfl := hv2
                have dy := hoJ.cell (a := ⟨b, o + j, none⟩) (by have q := hcl2 0 _ rfl; rw [Nat.mul_one] at q; exact q) id
                have esy := S_toList y
                have htj : (false && !((like.take (j + 1)).any fun y => selfN y == selfN x)) = (o1 && !(y == x)) := by
                  rw [take_any_succ _ _ _ _ hy, HO1.out, Bool.not_or, Bool.and_assoc]
                  try rfl
                have HTJ := Lib.hid htj
                clear hy hjl hoJ he2  hcl2 htj
                have hj0 : (0 : Int) ≤ j := by omega
                have hjk : (j : Int) < (k : Int) := by omega
                have hjn : (j : Int) < (n1 : Int) := by omega
                cases o1
                · rw [Bool.false_and] at HTJ
                  go_wp2_with (go_quiet (fail))
                  go_roundw
                  case rel => exact ⟨j + 1, false, by omega, by go_num, rfl, HTJ.out.symm, below_quiet HBJ.out _⟩
                  case measure => simp [intOf]; omega
                · rw [Bool.true_and] at HTJ
                  generalize hp : (y == x) = p at HTJ
                  cases p
                  all_goals
                    go_wp2_with (go_quiet (fail))
                    go_roundw
                    case rel => exact ⟨j + 1, _, by omega, by go_num, rfl, HTJ.out.symm, below_quiet HBJ.out _⟩
                    case measure => simp [intOf]; omega
              · obtain rfl : k = j := by omega
                rw [← HO1.out] at HTQ
                clear dx
                go_wp2
                go_roundw
                case rel => exact ⟨k + 1, o1, by omega, by go_num, rfl, HTQ.out.symm, below_step HBW.out HBJ.out⟩
                case measure => simp [intOf]; omega
      · obtain rfl : n1 = k := by omega
        as_aux_lemma =>
            rw [← HOK.out] at HMA
            obtain ⟨P1, hP⟩ : ∃ K, K = ok := ⟨_, rfl⟩
            rw [← hP] at HMA
            have HP1 := Lib.hid hP
            have HBP := HBW
            clear hP hlt
            go_wp2
            clear c2
            go_loopw [3, 6] (fun v3 vi wr => ∃ (k : Nat) (ok : Bool), k ≤ n2 ∧ vi = .int .i64 k ∧ v3 = .bool ok ∧ ok = (P1 && stB (fldA itf) Fld.name flds k) ∧ Below wc.heap.size wc wr) (fun _ vi _ => n2 - (intOf vi).toNat)
            case atStart => exact ⟨0, ok, Nat.zero_le _, rfl, rfl, by rw [stB_zero]; rw [HP1.out]; simp, HBP.out⟩
            case round =>
              obtain ⟨k, ok, hk, rfl, rfl, hok, hbw⟩ := hrel
              have HOK := Lib.hid hok
              have HBW := Lib.hid hbw
              have c6 := (HBX.out.below hbw).cell 6 rfl
              clear hok hbw
              by_cases hlt : k < n2
              · have hkl : k < flds.length := by have := HN2.out; omega
                obtain ⟨x, hx⟩ : ∃ x, flds[k]? = some x := ⟨_, List.getElem?_eq_getElem hkl⟩
                have hoW := Only.ofBelow (S := fun _ => False) HBW.out
                obtain ⟨b, o, v, rfl, hv, hsz, hcl⟩ := HCF.out k x hx
                have HV := Lib.hid (FldR.st.keep hv hoW (fun _ _ => id))
                obtain rfl := hv
                have d0 : wr.cell? ⟨b, o + k * 3, none⟩ = some (.string (S x.name)) := hoW.cell (a := ⟨b, o + k * 3, none⟩) (hcl 0 _ rfl) id
                have d1 : wr.cell? ⟨b, o + k * 3 + 1, none⟩ = some (.string (S x.kind)) := hoW.cell (a := ⟨b, o + k * 3 + 1, none⟩) (hcl 1 _ rfl) id
                have d2 : wr.cell? ⟨b, o + k * 3 + 2, none⟩ = some (.bool x.tr) := hoW.cell (a := ⟨b, o + k * 3 + 2, none⟩) (hcl 2 _ rfl) id
                clear hcl hsz
                have hts : (P1 && stB (fldA itf) Fld.name flds (k + 1)) = ((ok && (fldA itf) x) && !((flds.take k).any fun y => Fld.name y == Fld.name x)) := by
                  rw [stB_succ _ _ _ _ _ hx, HOK.out, Bool.and_assoc, Bool.and_assoc, Bool.and_assoc]
                have HTS := Lib.hid hts
                have hmem := List.mem_of_getElem? hx
                clear hts
                have hk0 : (0 : Int) ≤ k := by omega
                have hkn : (k : Int) < (n2 : Int) := by omega
                have c3 := (HBX.out.below HBW.out).cell 3 rfl
                have HXS := Lib.hid (HFF.out x hmem)
                have HCX : Hid (Calls Tryz.prog 112 #[.string (S x.name)] wr fun e w' => e = .returned (.bool (memberB x.name)) ∧ wr = w') := Lib.hid (HMB.out x.name wr HXS.out.1)
                have HCY : Hid (Calls Tryz.prog 81 #[.string (S x.kind)] wr fun e w' => e = .returned (.bool (rightB x.kind)) ∧ wr = w') := Lib.hid (HRR.out x.kind wr HXS.out.2)
                have esx := S_toList x.name
                rw [show fldA itf x = (memberB x.name && (rightB x.kind && !itf)) from rfl] at HTS
                have HBX0 := HBW
                have HDX : Hid (∀ W, Below wr.heap.size wr W → W.cell? ⟨b, o + k * 3, none⟩ = some (.string (S x.name))) := Lib.hid (fun W hW => (Only.ofBelow (S := fun _ => False) hW).cell d0 id)
                clear hx hkl hoW hmem
                cases ok
                · as_aux_lemma =>
                    go_wp2
                    have HTQ : Hid ((P1 && stB (fldA itf) Fld.name flds (k + 1)) = (false && !((flds.take k).any fun y => Fld.name y == Fld.name x))) := Lib.hid (by rw [HTS.out]; simp)
                    clear HTS
                    go_loopw [3, 7] (fun v3 vj wj => ∃ (j : Nat) (o1 : Bool), j ≤ k ∧ vj = .int .i64 j ∧ v3 = .bool o1 ∧ o1 = (false && !((flds.take j).any fun y => Fld.name y == Fld.name x)) ∧ Below wr.heap.size wr wj) (fun _ vj _ => k - (intOf vj).toNat)
                    case atStart => exact ⟨0, false, Nat.zero_le _, rfl, rfl, by simp, Below.refl _ _⟩
                    case round =>
                      obtain ⟨j, o1, hj, rfl, rfl, ho1, hbj⟩ := hrel
                      have HO1 := Lib.hid ho1
                      have HBJ := Lib.hid hbj
                      have HBJ0 := Lib.hid (below_step HBX0.out hbj)
                      have c6 := (HBX.out.below HBJ0.out).cell 6 rfl
                      have dx := HDX.out _ hbj
                      clear ho1 hbj
                      by_cases hlj : j < k
                      · have hjl : j < flds.length := by have := HN2.out; omega
                        obtain ⟨y, hy⟩ : ∃ y, flds[j]? = some y := ⟨_, List.getElem?_eq_getElem hjl⟩
                        have hoJ := Only.ofBelow (S := fun _ => False) HBJ0.out
                        obtain ⟨b2, o2, v2, he2, hv2, _, hcl2⟩ := HCF.out j y hy
                        obtain ⟨e1, e2⟩ : b = b2 ∧ o = o2 := by simpa using he2
                        subst e1 e2
                        obtain rfl := hv2
                        have dy := hoJ.cell (a := ⟨b, o + j * 3, none⟩) (hcl2 0 _ rfl) id
                        have esy := S_toList y.name
                        have htj : (false && !((flds.take (j + 1)).any fun y => Fld.name y == Fld.name x)) = (o1 && !(y.name == x.name)) := by
                          rw [take_any_succ _ _ _ _ hy, HO1.out, Bool.not_or, Bool.and_assoc]
                          try rfl
                        have HTJ := Lib.hid htj
                        clear hy hjl hoJ he2  hcl2 htj
                        have hj0 : (0 : Int) ≤ j := by omega
                        have hjk : (j : Int) < (k : Int) := by omega
                        have hjn : (j : Int) < (n2 : Int) := by omega
                        cases o1
                        · rw [Bool.false_and] at HTJ
                          go_wp2_with (go_quiet (fail))
                          go_roundw
                          case rel => exact ⟨j + 1, false, by omega, by go_num, rfl, HTJ.out.symm, below_quiet HBJ.out _⟩
                          case measure => simp [intOf]; omega
                        · rw [Bool.true_and] at HTJ
                          generalize hp : (y.name == x.name) = p at HTJ
                          cases p
                          all_goals
                            go_wp2_with (go_quiet (fail))
                            go_roundw
                            case rel => exact ⟨j + 1, _, by omega, by go_num, rfl, HTJ.out.symm, below_quiet HBJ.out _⟩
                            case measure => simp [intOf]; omega
                      · obtain rfl : k = j := by omega
                        rw [← HO1.out] at HTQ
                        clear dx
                        go_wp2
                        go_roundw
                        case rel => exact ⟨k + 1, o1, by omega, by go_num, rfl, HTQ.out.symm, below_step HBW.out HBJ.out⟩
                        case measure => simp [intOf]; omega
                generalize memberB x.name = q1 at HCX HTS
                go_wp2_with fail
                refine HCX.out.mono ?_
                rintro e w1 ⟨rfl, rfl⟩
                cases q1
                · as_aux_lemma =>
                    go_wp2
                    have HTQ : Hid ((P1 && stB (fldA itf) Fld.name flds (k + 1)) = (false && !((flds.take k).any fun y => Fld.name y == Fld.name x))) := Lib.hid (by rw [HTS.out]; simp)
                    clear HTS
                    go_loopw [3, 7] (fun v3 vj wj => ∃ (j : Nat) (o1 : Bool), j ≤ k ∧ vj = .int .i64 j ∧ v3 = .bool o1 ∧ o1 = (false && !((flds.take j).any fun y => Fld.name y == Fld.name x)) ∧ Below wr.heap.size wr wj) (fun _ vj _ => k - (intOf vj).toNat)
                    case atStart => exact ⟨0, false, Nat.zero_le _, rfl, rfl, by simp, Below.refl _ _⟩
                    case round =>
                      obtain ⟨j, o1, hj, rfl, rfl, ho1, hbj⟩ := hrel
                      have HO1 := Lib.hid ho1
                      have HBJ := Lib.hid hbj
                      have HBJ0 := Lib.hid (below_step HBX0.out hbj)
                      have c6 := (HBX.out.below HBJ0.out).cell 6 rfl
                      have dx := HDX.out _ hbj
                      clear ho1 hbj
                      by_cases hlj : j < k
                      · have hjl : j < flds.length := by have := HN2.out; omega
                        obtain ⟨y, hy⟩ : ∃ y, flds[j]? = some y := ⟨_, List.getElem?_eq_getElem hjl⟩
                        have hoJ := Only.ofBelow (S := fun _ => False) HBJ0.out
                        obtain ⟨b2, o2, v2, he2, hv2, _, hcl2⟩ := HCF.out j y hy
                        obtain ⟨e1, e2⟩ : b = b2 ∧ o = o2 := by simpa using he2
                        subst e1 e2
                        obtain rfl := hv2
                        have dy := hoJ.cell (a := ⟨b, o + j * 3, none⟩) (hcl2 0 _ rfl) id
                        have esy := S_toList y.name
                        have htj : (false && !((flds.take (j + 1)).any fun y => Fld.name y == Fld.name x)) = (o1 && !(y.name == x.name)) := by
                          rw [take_any_succ _ _ _ _ hy, HO1.out, Bool.not_or, Bool.and_assoc]
                          try rfl
                        have HTJ := Lib.hid htj
                        clear hy hjl hoJ he2  hcl2 htj
                        have hj0 : (0 : Int) ≤ j := by omega
                        have hjk : (j : Int) < (k : Int) := by omega
                        have hjn : (j : Int) < (n2 : Int) := by omega
                        cases o1
                        · rw [Bool.false_and] at HTJ
                          go_wp2_with (go_quiet (fail))
                          go_roundw
                          case rel => exact ⟨j + 1, false, by omega, by go_num, rfl, HTJ.out.symm, below_quiet HBJ.out _⟩
                          case measure => simp [intOf]; omega
                        · rw [Bool.true_and] at HTJ
                          generalize hp : (y.name == x.name) = p at HTJ
                          cases p
                          all_goals
                            go_wp2_with (go_quiet (fail))
                            go_roundw
                            case rel => exact ⟨j + 1, _, by omega, by go_num, rfl, HTJ.out.symm, below_quiet HBJ.out _⟩
                            case measure => simp [intOf]; omega
                      · obtain rfl : k = j := by omega
                        rw [← HO1.out] at HTQ
                        clear dx
                        go_wp2
                        go_roundw
                        case rel => exact ⟨k + 1, o1, by omega, by go_num, rfl, HTQ.out.symm, below_step HBW.out HBJ.out⟩
                        case measure => simp [intOf]; omega
                generalize rightB x.kind = q2 at HCY HTS
                go_wp2_with fail
                refine HCY.out.mono ?_
                rintro e w1 ⟨rfl, rfl⟩
                cases q2
                · as_aux_lemma =>
                    go_wp2
                    have HTQ : Hid ((P1 && stB (fldA itf) Fld.name flds (k + 1)) = (false && !((flds.take k).any fun y => Fld.name y == Fld.name x))) := Lib.hid (by rw [HTS.out]; simp)
                    clear HTS
                    go_loopw [3, 7] (fun v3 vj wj => ∃ (j : Nat) (o1 : Bool), j ≤ k ∧ vj = .int .i64 j ∧ v3 = .bool o1 ∧ o1 = (false && !((flds.take j).any fun y => Fld.name y == Fld.name x)) ∧ Below wr.heap.size wr wj) (fun _ vj _ => k - (intOf vj).toNat)
                    case atStart => exact ⟨0, false, Nat.zero_le _, rfl, rfl, by simp, Below.refl _ _⟩
                    case round =>
                      obtain ⟨j, o1, hj, rfl, rfl, ho1, hbj⟩ := hrel
                      have HO1 := Lib.hid ho1
                      have HBJ := Lib.hid hbj
                      have HBJ0 := Lib.hid (below_step HBX0.out hbj)
                      have c6 := (HBX.out.below HBJ0.out).cell 6 rfl
                      have dx := HDX.out _ hbj
                      clear ho1 hbj
                      by_cases hlj : j < k
                      · have hjl : j < flds.length := by have := HN2.out; omega
                        obtain ⟨y, hy⟩ : ∃ y, flds[j]? = some y := ⟨_, List.getElem?_eq_getElem hjl⟩
                        have hoJ := Only.ofBelow (S := fun _ => False) HBJ0.out
                        obtain ⟨b2, o2, v2, he2, hv2, _, hcl2⟩ := HCF.out j y hy
                        obtain ⟨e1, e2⟩ : b = b2 ∧ o = o2 := by simpa using he2
                        subst e1 e2
                        obtain rfl := hv2
                        have dy := hoJ.cell (a := ⟨b, o + j * 3, none⟩) (hcl2 0 _ rfl) id
                        have esy := S_toList y.name
                        have htj : (false && !((flds.take (j + 1)).any fun y => Fld.name y == Fld.name x)) = (o1 && !(y.name == x.name)) := by
                          rw [take_any_succ _ _ _ _ hy, HO1.out, Bool.not_or, Bool.and_assoc]
                          try rfl
                        have HTJ := Lib.hid htj
                        clear hy hjl hoJ he2  hcl2 htj
                        have hj0 : (0 : Int) ≤ j := by omega
                        have hjk : (j : Int) < (k : Int) := by omega
                        have hjn : (j : Int) < (n2 : Int) := by omega
                        cases o1
                        · rw [Bool.false_and] at HTJ
                          go_wp2_with (go_quiet (fail))
                          go_roundw
                          case rel => exact ⟨j + 1, false, by omega, by go_num, rfl, HTJ.out.symm, below_quiet HBJ.out _⟩
                          case measure => simp [intOf]; omega
                        · rw [Bool.true_and] at HTJ
                          generalize hp : (y.name == x.name) = p at HTJ
                          cases p
                          all_goals
                            go_wp2_with (go_quiet (fail))
                            go_roundw
                            case rel => exact ⟨j + 1, _, by omega, by go_num, rfl, HTJ.out.symm, below_quiet HBJ.out _⟩
                            case measure => simp [intOf]; omega
                      · obtain rfl : k = j := by omega
                        rw [← HO1.out] at HTQ
                        clear dx
                        go_wp2
                        go_roundw
                        case rel => exact ⟨k + 1, o1, by omega, by go_num, rfl, HTQ.out.symm, below_step HBW.out HBJ.out⟩
                        case measure => simp [intOf]; omega
                as_aux_lemma =>
                    go_wp2
                    have HTQ : Hid ((P1 && stB (fldA itf) Fld.name flds (k + 1)) = ((!itf) && !((flds.take k).any fun y => Fld.name y == Fld.name x))) := Lib.hid (by rw [HTS.out]; simp)
                    clear HTS
                    go_loopw [3, 7] (fun v3 vj wj => ∃ (j : Nat) (o1 : Bool), j ≤ k ∧ vj = .int .i64 j ∧ v3 = .bool o1 ∧ o1 = ((!itf) && !((flds.take j).any fun y => Fld.name y == Fld.name x)) ∧ Below wr.heap.size wr wj) (fun _ vj _ => k - (intOf vj).toNat)
                    case atStart => exact ⟨0, (!itf), Nat.zero_le _, rfl, rfl, by simp, Below.refl _ _⟩
                    case round =>
                      obtain ⟨j, o1, hj, rfl, rfl, ho1, hbj⟩ := hrel
                      have HO1 := Lib.hid ho1
                      have HBJ := Lib.hid hbj
                      have HBJ0 := Lib.hid (below_step HBX0.out hbj)
                      have c6 := (HBX.out.below HBJ0.out).cell 6 rfl
                      have dx := HDX.out _ hbj
                      clear ho1 hbj
                      by_cases hlj : j < k
                      · have hjl : j < flds.length := by have := HN2.out; omega
                        obtain ⟨y, hy⟩ : ∃ y, flds[j]? = some y := ⟨_, List.getElem?_eq_getElem hjl⟩
                        have hoJ := Only.ofBelow (S := fun _ => False) HBJ0.out
                        obtain ⟨b2, o2, v2, he2, hv2, _, hcl2⟩ := HCF.out j y hy
                        obtain ⟨e1, e2⟩ : b = b2 ∧ o = o2 := by simpa using he2
                        subst e1 e2
                        obtain rfl := hv2
                        have dy := hoJ.cell (a := ⟨b, o + j * 3, none⟩) (hcl2 0 _ rfl) id
                        have esy := S_toList y.name
                        have htj : ((!itf) && !((flds.take (j + 1)).any fun y => Fld.name y == Fld.name x)) = (o1 && !(y.name == x.name)) := by
                          rw [take_any_succ _ _ _ _ hy, HO1.out, Bool.not_or, Bool.and_assoc]
                          try rfl
                        have HTJ := Lib.hid htj
                        clear hy hjl hoJ he2  hcl2 htj
                        have hj0 : (0 : Int) ≤ j := by omega
                        have hjk : (j : Int) < (k : Int) := by omega
                        have hjn : (j : Int) < (n2 : Int) := by omega
                        cases o1
                        · rw [Bool.false_and] at HTJ
                          go_wp2_with (go_quiet (fail))
                          go_roundw
                          case rel => exact ⟨j + 1, false, by omega, by go_num, rfl, HTJ.out.symm, below_quiet HBJ.out _⟩
                          case measure => simp [intOf]; omega
                        · rw [Bool.true_and] at HTJ
                          generalize hp : (y.name == x.name) = p at HTJ
                          cases p
                          all_goals
                            go_wp2_with (go_quiet (fail))
                            go_roundw
                            case rel => exact ⟨j + 1, _, by omega, by go_num, rfl, HTJ.out.symm, below_quiet HBJ.out _⟩
                            case measure => simp [intOf]; omega
                      · obtain rfl : k = j := by omega
                        rw [← HO1.out] at HTQ
                        clear dx
                        go_wp2
                        go_roundw
                        case rel => exact ⟨k + 1, o1, by omega, by go_num, rfl, HTQ.out.symm, below_step HBW.out HBJ.out⟩
                        case measure => simp [intOf]; omega
              · obtain rfl : n2 = k := by omega
                as_aux_lemma =>
                    rw [← HOK.out] at HMA
                    obtain ⟨P2, hP⟩ : ∃ K, K = ok := ⟨_, rfl⟩
                    rw [← hP] at HMA
                    have HP2 := Lib.hid hP
                    have HBP := HBW
                    clear hP hlt
                    go_wp2
                    clear c6
                    go_loopw [3, 8] (fun v3 vi wr => ∃ (k : Nat) (ok : Bool), k ≤ n3 ∧ vi = .int .i64 k ∧ v3 = .bool ok ∧ ok = (P2 && stB (mthA itf ab) Mth.name mths k) ∧ Below wc.heap.size wc wr) (fun _ vi _ => n3 - (intOf vi).toNat)
                    case atStart => exact ⟨0, ok, Nat.zero_le _, rfl, rfl, by rw [stB_zero]; rw [HP2.out]; simp, HBP.out⟩
                    case round =>
                      obtain ⟨k, ok, hk, rfl, rfl, hok, hbw⟩ := hrel
                      have HOK := Lib.hid hok
                      have HBW := Lib.hid hbw
                      have c7 := (HBX.out.below hbw).cell 7 rfl
                      clear hok hbw
                      by_cases hlt : k < n3
                      · have hkl : k < mths.length := by have := HN3.out; omega
                        obtain ⟨x, hx⟩ : ∃ x, mths[k]? = some x := ⟨_, List.getElem?_eq_getElem hkl⟩
                        have hoW := Only.ofBelow (S := fun _ => False) HBW.out
                        obtain ⟨b, o, v, rfl, hv, hsz, hcl⟩ := HCM.out k x hx
                        have HV := Lib.hid (MthR.st.keep hv hoW (fun _ _ => id))
                        obtain ⟨_, _, _, rfl, ⟨po, pc, rfl⟩, ⟨co, cc, rfl⟩, ⟨ko, kc, rfl⟩⟩ := mth_shape hv
                        have d0 : wr.cell? ⟨b, o + k * 7, none⟩ = some (.string (S x.name)) := hoW.cell (a := ⟨b, o + k * 7, none⟩) (hcl 0 _ rfl) id
                        have d1 : wr.cell? ⟨b, o + k * 7 + 1, none⟩ = some (.slice po x.params.length pc) := hoW.cell (a := ⟨b, o + k * 7 + 1, none⟩) (hcl 1 _ rfl) id
                        have d2 : wr.cell? ⟨b, o + k * 7 + 2, none⟩ = some (.string (S x.res)) := hoW.cell (a := ⟨b, o + k * 7 + 2, none⟩) (hcl 2 _ rfl) id
                        have d3 : wr.cell? ⟨b, o + k * 7 + 3, none⟩ = some (.bool x.abs) := hoW.cell (a := ⟨b, o + k * 7 + 3, none⟩) (hcl 3 _ rfl) id
                        have d4 : wr.cell? ⟨b, o + k * 7 + 4, none⟩ = some (.int .i64 x.loc) := hoW.cell (a := ⟨b, o + k * 7 + 4, none⟩) (hcl 4 _ rfl) id
                        have d5 : wr.cell? ⟨b, o + k * 7 + 5, none⟩ = some (.slice co x.code.length cc) := hoW.cell (a := ⟨b, o + k * 7 + 5, none⟩) (hcl 5 _ rfl) id
                        have d6 : wr.cell? ⟨b, o + k * 7 + 6, none⟩ = some (.slice ko x.cats.length kc) := hoW.cell (a := ⟨b, o + k * 7 + 6, none⟩) (hcl 6 _ rfl) id
                        clear hcl hsz
                        have hts : (P2 && stB (mthA itf ab) Mth.name mths (k + 1)) = ((ok && (mthA itf ab) x) && !((mths.take k).any fun y => Mth.name y == Mth.name x)) := by
                          rw [stB_succ _ _ _ _ _ hx, HOK.out, Bool.and_assoc, Bool.and_assoc, Bool.and_assoc]
                        have HTS := Lib.hid hts
                        have hmem := List.mem_of_getElem? hx
                        clear hts
                        have hk0 : (0 : Int) ≤ k := by omega
                        have hkn : (k : Int) < (n3 : Int) := by omega
                        have HXF := Lib.hid (HMT.out x hmem)
                        have HBA := Lib.hid (show Below wr.heap.size wr (wr.alloc (.cells #[.string (S x.name), .slice po x.params.length pc, .string (S x.res), .bool x.abs, .int .i64 x.loc, .slice co x.code.length cc, .slice ko x.cats.length kc] 33)) from (Below.refl _ wr).alloc (Nat.le_refl _) _)
                        have HBM := Lib.hid (Box.new wr #[.string (S x.name), .slice po x.params.length pc, .string (S x.res), .bool x.abs, .int .i64 x.loc, .slice co x.code.length cc, .slice ko x.cats.length kc] 33)
                        have HMC := Lib.hid (refmethod_any (A := A) x _ (wr.alloc (.cells #[.string (S x.name), .slice po x.params.length pc, .string (S x.res), .bool x.abs, .int .i64 x.loc, .slice co x.code.length cc, .slice ko x.cats.length kc] 33)) (MthR.st.keep HV.out ((Only.refl (fun _ => False) wr).alloc _) (fun _ _ => id)) HXF.out)
                        have esx := S_toList x.name
                        rw [show mthA itf ab x = (x.ok && ((!x.abs || ab) && (!itf || x.abs))) from rfl] at HTS
                        clear hx hkl hoW hmem
                        go_upto_region 22 with fail
                        generalize wr.alloc (.cells #[.string (S x.name), .slice po x.params.length pc, .string (S x.res), .bool x.abs, .int .i64 x.loc, .slice co x.code.length cc, .slice ko x.cats.length kc] 33) = W2 at HBA HBM HMC ⊢
                        generalize wr.heap.size = M at HBM ⊢
                        clear d0 d1 d2 d3 d4 d5 d6 c7
                        have HB2 := Lib.hid (below_step HBW.out HBA.out)
                        cases ok
                        · as_aux_lemma =>
                            have HBX0 := HB2
                            have HM3 := HBM
                            go_wp2
                            have HDX : Hid (∀ W, Below W2.heap.size W2 W → W.cell? ⟨M, 0, none⟩ = some (.string (S x.name))) := Lib.hid (fun W hW => (HM3.out.below hW).cell 0 rfl)
                            have HTQ : Hid ((P2 && stB (mthA itf ab) Mth.name mths (k + 1)) = (false && !((mths.take k).any fun y => Mth.name y == Mth.name x))) := Lib.hid (by rw [HTS.out]; simp)
                            clear HTS
                            go_loopw [3, 10] (fun v3 vj wj => ∃ (j : Nat) (o1 : Bool), j ≤ k ∧ vj = .int .i64 j ∧ v3 = .bool o1 ∧ o1 = (false && !((mths.take j).any fun y => Mth.name y == Mth.name x)) ∧ Below W2.heap.size W2 wj) (fun _ vj _ => k - (intOf vj).toNat)
                            case atStart => exact ⟨0, false, Nat.zero_le _, rfl, rfl, by simp, Below.refl _ _⟩
                            case round =>
                              obtain ⟨j, o1, hj, rfl, rfl, ho1, hbj⟩ := hrel
                              have HO1 := Lib.hid ho1
                              have HBJ := Lib.hid hbj
                              have HBJ0 := Lib.hid (below_step HBX0.out hbj)
                              have c7 := (HBX.out.below HBJ0.out).cell 7 rfl
                              have dx := HDX.out _ hbj
                              clear ho1 hbj
                              by_cases hlj : j < k
                              · have hjl : j < mths.length := by have := HN3.out; omega
                                obtain ⟨y, hy⟩ : ∃ y, mths[j]? = some y := ⟨_, List.getElem?_eq_getElem hjl⟩
                                have hoJ := Only.ofBelow (S := fun _ => False) HBJ0.out
                                obtain ⟨b2, o2, v2, he2, hv2, _, hcl2⟩ := HCM.out j y hy
                                obtain ⟨e1, e2⟩ : b = b2 ∧ o = o2 := by simpa using he2
                                subst e1 e2
                                obtain ⟨_, _, _, rfl, _⟩ := mth_shape hv2
                                have dy := hoJ.cell (a := ⟨b, o + j * 7, none⟩) (hcl2 0 _ rfl) id
                                have esy := S_toList y.name
                                have htj : (false && !((mths.take (j + 1)).any fun y => Mth.name y == Mth.name x)) = (o1 && !(y.name == x.name)) := by
                                  rw [take_any_succ _ _ _ _ hy, HO1.out, Bool.not_or, Bool.and_assoc]
                                  try rfl
                                have HTJ := Lib.hid htj
                                clear hy hjl hoJ he2 hv2 hcl2 htj
                                have hj0 : (0 : Int) ≤ j := by omega
                                have hjk : (j : Int) < (k : Int) := by omega
                                have hjn : (j : Int) < (n3 : Int) := by omega
                                cases o1
                                · rw [Bool.false_and] at HTJ
                                  go_wp2_with (go_quiet (fail))
                                  go_roundw
                                  case rel => exact ⟨j + 1, false, by omega, by go_num, rfl, HTJ.out.symm, below_quiet HBJ.out _⟩
                                  case measure => simp [intOf]; omega
                                · rw [Bool.true_and] at HTJ
                                  generalize hp : (y.name == x.name) = p at HTJ
                                  cases p
                                  all_goals
                                    go_wp2_with (go_quiet (fail))
                                    go_roundw
                                    case rel => exact ⟨j + 1, _, by omega, by go_num, rfl, HTJ.out.symm, below_quiet HBJ.out _⟩
                                    case measure => simp [intOf]; omega
                              · obtain rfl : k = j := by omega
                                rw [← HO1.out] at HTQ
                                clear dx
                                go_wp2
                                go_roundw
                                case rel => exact ⟨k + 1, o1, by omega, by go_num, rfl, HTQ.out.symm, below_step HBX0.out HBJ.out⟩
                                case measure => simp [intOf]; omega
                        have m0 := HBM.out.cell 0 rfl
                        have m1 := HBM.out.cell 1 rfl
                        have m2 := HBM.out.cell 2 rfl
                        have m3 := HBM.out.cell 3 rfl
                        have m4 := HBM.out.cell 4 rfl
                        have m5 := HBM.out.cell 5 rfl
                        have m6 := HBM.out.cell 6 rfl
                        generalize x.ok = q1 at HMC HTS
                        go_wp2_with fail
                        refine HMC.out.mono ?_
                        rintro e w3 ⟨rfl, hb3⟩
                        clear m0 m1 m2 m3 m4 m5 m6
                        have HBX0 := Lib.hid (below_step HB2.out hb3)
                        have HM3 := Lib.hid (HBM.out.below hb3)
                        clear hb3
                        have HDX : Hid (∀ W, Below w3.heap.size w3 W → W.cell? ⟨M, 0, none⟩ = some (.string (S x.name))) := Lib.hid (fun W hW => (HM3.out.below hW).cell 0 rfl)
                        cases q1
                        · as_aux_lemma =>
                            go_wp2
                            have HTQ : Hid ((P2 && stB (mthA itf ab) Mth.name mths (k + 1)) = (false && !((mths.take k).any fun y => Mth.name y == Mth.name x))) := Lib.hid (by rw [HTS.out]; simp)
                            clear HTS
                            go_loopw [3, 10] (fun v3 vj wj => ∃ (j : Nat) (o1 : Bool), j ≤ k ∧ vj = .int .i64 j ∧ v3 = .bool o1 ∧ o1 = (false && !((mths.take j).any fun y => Mth.name y == Mth.name x)) ∧ Below w3.heap.size w3 wj) (fun _ vj _ => k - (intOf vj).toNat)
                            case atStart => exact ⟨0, false, Nat.zero_le _, rfl, rfl, by simp, Below.refl _ _⟩
                            case round =>
                              obtain ⟨j, o1, hj, rfl, rfl, ho1, hbj⟩ := hrel
                              have HO1 := Lib.hid ho1
                              have HBJ := Lib.hid hbj
                              have HBJ0 := Lib.hid (below_step HBX0.out hbj)
                              have c7 := (HBX.out.below HBJ0.out).cell 7 rfl
                              have dx := HDX.out _ hbj
                              clear ho1 hbj
                              by_cases hlj : j < k
                              · have hjl : j < mths.length := by have := HN3.out; omega
                                obtain ⟨y, hy⟩ : ∃ y, mths[j]? = some y := ⟨_, List.getElem?_eq_getElem hjl⟩
                                have hoJ := Only.ofBelow (S := fun _ => False) HBJ0.out
                                obtain ⟨b2, o2, v2, he2, hv2, _, hcl2⟩ := HCM.out j y hy
                                obtain ⟨e1, e2⟩ : b = b2 ∧ o = o2 := by simpa using he2
                                subst e1 e2
                                obtain ⟨_, _, _, rfl, _⟩ := mth_shape hv2
                                have dy := hoJ.cell (a := ⟨b, o + j * 7, none⟩) (hcl2 0 _ rfl) id
                                have esy := S_toList y.name
                                have htj : (false && !((mths.take (j + 1)).any fun y => Mth.name y == Mth.name x)) = (o1 && !(y.name == x.name)) := by
                                  rw [take_any_succ _ _ _ _ hy, HO1.out, Bool.not_or, Bool.and_assoc]
                                  try rfl
                                have HTJ := Lib.hid htj
                                clear hy hjl hoJ he2 hv2 hcl2 htj
                                have hj0 : (0 : Int) ≤ j := by omega
                                have hjk : (j : Int) < (k : Int) := by omega
                                have hjn : (j : Int) < (n3 : Int) := by omega
                                cases o1
                                · rw [Bool.false_and] at HTJ
                                  go_wp2_with (go_quiet (fail))
                                  go_roundw
                                  case rel => exact ⟨j + 1, false, by omega, by go_num, rfl, HTJ.out.symm, below_quiet HBJ.out _⟩
                                  case measure => simp [intOf]; omega
                                · rw [Bool.true_and] at HTJ
                                  generalize hp : (y.name == x.name) = p at HTJ
                                  cases p
                                  all_goals
                                    go_wp2_with (go_quiet (fail))
                                    go_roundw
                                    case rel => exact ⟨j + 1, _, by omega, by go_num, rfl, HTJ.out.symm, below_quiet HBJ.out _⟩
                                    case measure => simp [intOf]; omega
                              · obtain rfl : k = j := by omega
                                rw [← HO1.out] at HTQ
                                clear dx
                                go_wp2
                                go_roundw
                                case rel => exact ⟨k + 1, o1, by omega, by go_num, rfl, HTQ.out.symm, below_step HBX0.out HBJ.out⟩
                                case measure => simp [intOf]; omega
                        have m3 := HM3.out.cell 3 rfl
                        have c3 := (HBX.out.below HBX0.out).cell 3 rfl
                        have c4 := (HBX.out.below HBX0.out).cell 4 rfl
                        generalize x.abs = xa at m3 HTS
                        cases xa
                        · cases itf
                          · as_aux_lemma =>
                              go_wp2
                              clear m3 c3 c4
                              have HTQ : Hid ((P2 && stB (mthA false ab) Mth.name mths (k + 1)) = (true && !((mths.take k).any fun y => Mth.name y == Mth.name x))) := Lib.hid (by rw [HTS.out]; simp)
                              clear HTS
                              go_loopw [3, 10] (fun v3 vj wj => ∃ (j : Nat) (o1 : Bool), j ≤ k ∧ vj = .int .i64 j ∧ v3 = .bool o1 ∧ o1 = (true && !((mths.take j).any fun y => Mth.name y == Mth.name x)) ∧ Below w3.heap.size w3 wj) (fun _ vj _ => k - (intOf vj).toNat)
                              case atStart => exact ⟨0, true, Nat.zero_le _, rfl, rfl, by simp, Below.refl _ _⟩
                              case round =>
                                obtain ⟨j, o1, hj, rfl, rfl, ho1, hbj⟩ := hrel
                                have HO1 := Lib.hid ho1
                                have HBJ := Lib.hid hbj
                                have HBJ0 := Lib.hid (below_step HBX0.out hbj)
                                have c7 := (HBX.out.below HBJ0.out).cell 7 rfl
                                have dx := HDX.out _ hbj
                                clear ho1 hbj
                                by_cases hlj : j < k
                                · have hjl : j < mths.length := by have := HN3.out; omega
                                  obtain ⟨y, hy⟩ : ∃ y, mths[j]? = some y := ⟨_, List.getElem?_eq_getElem hjl⟩
                                  have hoJ := Only.ofBelow (S := fun _ => False) HBJ0.out
                                  obtain ⟨b2, o2, v2, he2, hv2, _, hcl2⟩ := HCM.out j y hy
                                  obtain ⟨e1, e2⟩ : b = b2 ∧ o = o2 := by simpa using he2
                                  subst e1 e2
                                  obtain ⟨_, _, _, rfl, _⟩ := mth_shape hv2
                                  have dy := hoJ.cell (a := ⟨b, o + j * 7, none⟩) (hcl2 0 _ rfl) id
                                  have esy := S_toList y.name
                                  have htj : (true && !((mths.take (j + 1)).any fun y => Mth.name y == Mth.name x)) = (o1 && !(y.name == x.name)) := by
                                    rw [take_any_succ _ _ _ _ hy, HO1.out, Bool.not_or, Bool.and_assoc]
                                    try rfl
                                  have HTJ := Lib.hid htj
                                  clear hy hjl hoJ he2 hv2 hcl2 htj
                                  have hj0 : (0 : Int) ≤ j := by omega
                                  have hjk : (j : Int) < (k : Int) := by omega
                                  have hjn : (j : Int) < (n3 : Int) := by omega
                                  cases o1
                                  · rw [Bool.false_and] at HTJ
                                    go_wp2_with (go_quiet (fail))
                                    go_roundw
                                    case rel => exact ⟨j + 1, false, by omega, by go_num, rfl, HTJ.out.symm, below_quiet HBJ.out _⟩
                                    case measure => simp [intOf]; omega
                                  · rw [Bool.true_and] at HTJ
                                    generalize hp : (y.name == x.name) = p at HTJ
                                    cases p
                                    all_goals
                                      go_wp2_with (go_quiet (fail))
                                      go_roundw
                                      case rel => exact ⟨j + 1, _, by omega, by go_num, rfl, HTJ.out.symm, below_quiet HBJ.out _⟩
                                      case measure => simp [intOf]; omega
                                · obtain rfl : k = j := by omega
                                  rw [← HO1.out] at HTQ
                                  clear dx
                                  go_wp2
                                  go_roundw
                                  case rel => exact ⟨k + 1, o1, by omega, by go_num, rfl, HTQ.out.symm, below_step HBX0.out HBJ.out⟩
                                  case measure => simp [intOf]; omega
                          · as_aux_lemma =>
                              go_wp2
                              clear m3 c3 c4
                              have HTQ : Hid ((P2 && stB (mthA true ab) Mth.name mths (k + 1)) = (false && !((mths.take k).any fun y => Mth.name y == Mth.name x))) := Lib.hid (by rw [HTS.out]; simp)
                              clear HTS
                              go_loopw [3, 10] (fun v3 vj wj => ∃ (j : Nat) (o1 : Bool), j ≤ k ∧ vj = .int .i64 j ∧ v3 = .bool o1 ∧ o1 = (false && !((mths.take j).any fun y => Mth.name y == Mth.name x)) ∧ Below w3.heap.size w3 wj) (fun _ vj _ => k - (intOf vj).toNat)
                              case atStart => exact ⟨0, false, Nat.zero_le _, rfl, rfl, by simp, Below.refl _ _⟩
                              case round =>
                                obtain ⟨j, o1, hj, rfl, rfl, ho1, hbj⟩ := hrel
                                have HO1 := Lib.hid ho1
                                have HBJ := Lib.hid hbj
                                have HBJ0 := Lib.hid (below_step HBX0.out hbj)
                                have c7 := (HBX.out.below HBJ0.out).cell 7 rfl
                                have dx := HDX.out _ hbj
                                clear ho1 hbj
                                by_cases hlj : j < k
                                · have hjl : j < mths.length := by have := HN3.out; omega
                                  obtain ⟨y, hy⟩ : ∃ y, mths[j]? = some y := ⟨_, List.getElem?_eq_getElem hjl⟩
                                  have hoJ := Only.ofBelow (S := fun _ => False) HBJ0.out
                                  obtain ⟨b2, o2, v2, he2, hv2, _, hcl2⟩ := HCM.out j y hy
                                  obtain ⟨e1, e2⟩ : b = b2 ∧ o = o2 := by simpa using he2
                                  subst e1 e2
                                  obtain ⟨_, _, _, rfl, _⟩ := mth_shape hv2
                                  have dy := hoJ.cell (a := ⟨b, o + j * 7, none⟩) (hcl2 0 _ rfl) id
                                  have esy := S_toList y.name
                                  have htj : (false && !((mths.take (j + 1)).any fun y => Mth.name y == Mth.name x)) = (o1 && !(y.name == x.name)) := by
                                    rw [take_any_succ _ _ _ _ hy, HO1.out, Bool.not_or, Bool.and_assoc]
                                    try rfl
                                  have HTJ := Lib.hid htj
                                  clear hy hjl hoJ he2 hv2 hcl2 htj
                                  have hj0 : (0 : Int) ≤ j := by omega
                                  have hjk : (j : Int) < (k : Int) := by omega
                                  have hjn : (j : Int) < (n3 : Int) := by omega
                                  cases o1
                                  · rw [Bool.false_and] at HTJ
                                    go_wp2_with (go_quiet (fail))
                                    go_roundw
                                    case rel => exact ⟨j + 1, false, by omega, by go_num, rfl, HTJ.out.symm, below_quiet HBJ.out _⟩
                                    case measure => simp [intOf]; omega
                                  · rw [Bool.true_and] at HTJ
                                    generalize hp : (y.name == x.name) = p at HTJ
                                    cases p
                                    all_goals
                                      go_wp2_with (go_quiet (fail))
                                      go_roundw
                                      case rel => exact ⟨j + 1, _, by omega, by go_num, rfl, HTJ.out.symm, below_quiet HBJ.out _⟩
                                      case measure => simp [intOf]; omega
                                · obtain rfl : k = j := by omega
                                  rw [← HO1.out] at HTQ
                                  clear dx
                                  go_wp2
                                  go_roundw
                                  case rel => exact ⟨k + 1, o1, by omega, by go_num, rfl, HTQ.out.symm, below_step HBX0.out HBJ.out⟩
                                  case measure => simp [intOf]; omega
                        cases ab
                        · as_aux_lemma =>
                            go_wp2
                            clear m3 c3 c4
                            have HTQ : Hid ((P2 && stB (mthA itf false) Mth.name mths (k + 1)) = (false && !((mths.take k).any fun y => Mth.name y == Mth.name x))) := Lib.hid (by rw [HTS.out]; simp)
                            clear HTS
                            go_loopw [3, 10] (fun v3 vj wj => ∃ (j : Nat) (o1 : Bool), j ≤ k ∧ vj = .int .i64 j ∧ v3 = .bool o1 ∧ o1 = (false && !((mths.take j).any fun y => Mth.name y == Mth.name x)) ∧ Below w3.heap.size w3 wj) (fun _ vj _ => k - (intOf vj).toNat)
                            case atStart => exact ⟨0, false, Nat.zero_le _, rfl, rfl, by simp, Below.refl _ _⟩
                            case round =>
                              obtain ⟨j, o1, hj, rfl, rfl, ho1, hbj⟩ := hrel
                              have HO1 := Lib.hid ho1
                              have HBJ := Lib.hid hbj
                              have HBJ0 := Lib.hid (below_step HBX0.out hbj)
                              have c7 := (HBX.out.below HBJ0.out).cell 7 rfl
                              have dx := HDX.out _ hbj
                              clear ho1 hbj
                              by_cases hlj : j < k
                              · have hjl : j < mths.length := by have := HN3.out; omega
                                obtain ⟨y, hy⟩ : ∃ y, mths[j]? = some y := ⟨_, List.getElem?_eq_getElem hjl⟩
                                have hoJ := Only.ofBelow (S := fun _ => False) HBJ0.out
                                obtain ⟨b2, o2, v2, he2, hv2, _, hcl2⟩ := HCM.out j y hy
                                obtain ⟨e1, e2⟩ : b = b2 ∧ o = o2 := by simpa using he2
                                subst e1 e2
                                obtain ⟨_, _, _, rfl, _⟩ := mth_shape hv2
                                have dy := hoJ.cell (a := ⟨b, o + j * 7, none⟩) (hcl2 0 _ rfl) id
                                have esy := S_toList y.name
                                have htj : (false && !((mths.take (j + 1)).any fun y => Mth.name y == Mth.name x)) = (o1 && !(y.name == x.name)) := by
                                  rw [take_any_succ _ _ _ _ hy, HO1.out, Bool.not_or, Bool.and_assoc]
                                  try rfl
                                have HTJ := Lib.hid htj
                                clear hy hjl hoJ he2 hv2 hcl2 htj
                                have hj0 : (0 : Int) ≤ j := by omega
                                have hjk : (j : Int) < (k : Int) := by omega
                                have hjn : (j : Int) < (n3 : Int) := by omega
                                cases o1
                                · rw [Bool.false_and] at HTJ
                                  go_wp2_with (go_quiet (fail))
                                  go_roundw
                                  case rel => exact ⟨j + 1, false, by omega, by go_num, rfl, HTJ.out.symm, below_quiet HBJ.out _⟩
                                  case measure => simp [intOf]; omega
                                · rw [Bool.true_and] at HTJ
                                  generalize hp : (y.name == x.name) = p at HTJ
                                  cases p
                                  all_goals
                                    go_wp2_with (go_quiet (fail))
                                    go_roundw
                                    case rel => exact ⟨j + 1, _, by omega, by go_num, rfl, HTJ.out.symm, below_quiet HBJ.out _⟩
                                    case measure => simp [intOf]; omega
                              · obtain rfl : k = j := by omega
                                rw [← HO1.out] at HTQ
                                clear dx
                                go_wp2
                                go_roundw
                                case rel => exact ⟨k + 1, o1, by omega, by go_num, rfl, HTQ.out.symm, below_step HBX0.out HBJ.out⟩
                                case measure => simp [intOf]; omega
                        cases itf
                        · as_aux_lemma =>
                            go_wp2
                            clear m3 c3 c4
                            have HTQ : Hid ((P2 && stB (mthA false true) Mth.name mths (k + 1)) = (true && !((mths.take k).any fun y => Mth.name y == Mth.name x))) := Lib.hid (by rw [HTS.out]; simp)
                            clear HTS
                            go_loopw [3, 10] (fun v3 vj wj => ∃ (j : Nat) (o1 : Bool), j ≤ k ∧ vj = .int .i64 j ∧ v3 = .bool o1 ∧ o1 = (true && !((mths.take j).any fun y => Mth.name y == Mth.name x)) ∧ Below w3.heap.size w3 wj) (fun _ vj _ => k - (intOf vj).toNat)
                            case atStart => exact ⟨0, true, Nat.zero_le _, rfl, rfl, by simp, Below.refl _ _⟩
                            case round =>
                              obtain ⟨j, o1, hj, rfl, rfl, ho1, hbj⟩ := hrel
                              have HO1 := Lib.hid ho1
                              have HBJ := Lib.hid hbj
                              have HBJ0 := Lib.hid (below_step HBX0.out hbj)
                              have c7 := (HBX.out.below HBJ0.out).cell 7 rfl
                              have dx := HDX.out _ hbj
                              clear ho1 hbj
                              by_cases hlj : j < k
                              · have hjl : j < mths.length := by have := HN3.out; omega
                                obtain ⟨y, hy⟩ : ∃ y, mths[j]? = some y := ⟨_, List.getElem?_eq_getElem hjl⟩
                                have hoJ := Only.ofBelow (S := fun _ => False) HBJ0.out
                                obtain ⟨b2, o2, v2, he2, hv2, _, hcl2⟩ := HCM.out j y hy
                                obtain ⟨e1, e2⟩ : b = b2 ∧ o = o2 := by simpa using he2
                                subst e1 e2
                                obtain ⟨_, _, _, rfl, _⟩ := mth_shape hv2
                                have dy := hoJ.cell (a := ⟨b, o + j * 7, none⟩) (hcl2 0 _ rfl) id
                                have esy := S_toList y.name
                                have htj : (true && !((mths.take (j + 1)).any fun y => Mth.name y == Mth.name x)) = (o1 && !(y.name == x.name)) := by
                                  rw [take_any_succ _ _ _ _ hy, HO1.out, Bool.not_or, Bool.and_assoc]
                                  try rfl
                                have HTJ := Lib.hid htj
                                clear hy hjl hoJ he2 hv2 hcl2 htj
                                have hj0 : (0 : Int) ≤ j := by omega
                                have hjk : (j : Int) < (k : Int) := by omega
                                have hjn : (j : Int) < (n3 : Int) := by omega
                                cases o1
                                · rw [Bool.false_and] at HTJ
                                  go_wp2_with (go_quiet (fail))
                                  go_roundw
                                  case rel => exact ⟨j + 1, false, by omega, by go_num, rfl, HTJ.out.symm, below_quiet HBJ.out _⟩
                                  case measure => simp [intOf]; omega
                                · rw [Bool.true_and] at HTJ
                                  generalize hp : (y.name == x.name) = p at HTJ
                                  cases p
                                  all_goals
                                    go_wp2_with (go_quiet (fail))
                                    go_roundw
                                    case rel => exact ⟨j + 1, _, by omega, by go_num, rfl, HTJ.out.symm, below_quiet HBJ.out _⟩
                                    case measure => simp [intOf]; omega
                              · obtain rfl : k = j := by omega
                                rw [← HO1.out] at HTQ
                                clear dx
                                go_wp2
                                go_roundw
                                case rel => exact ⟨k + 1, o1, by omega, by go_num, rfl, HTQ.out.symm, below_step HBX0.out HBJ.out⟩
                                case measure => simp [intOf]; omega
                        · as_aux_lemma =>
                            go_wp2
                            clear m3 c3 c4
                            have HTQ : Hid ((P2 && stB (mthA true true) Mth.name mths (k + 1)) = (true && !((mths.take k).any fun y => Mth.name y == Mth.name x))) := Lib.hid (by rw [HTS.out]; simp)
                            clear HTS
                            go_loopw [3, 10] (fun v3 vj wj => ∃ (j : Nat) (o1 : Bool), j ≤ k ∧ vj = .int .i64 j ∧ v3 = .bool o1 ∧ o1 = (true && !((mths.take j).any fun y => Mth.name y == Mth.name x)) ∧ Below w3.heap.size w3 wj) (fun _ vj _ => k - (intOf vj).toNat)
                            case atStart => exact ⟨0, true, Nat.zero_le _, rfl, rfl, by simp, Below.refl _ _⟩
                            case round =>
                              obtain ⟨j, o1, hj, rfl, rfl, ho1, hbj⟩ := hrel
                              have HO1 := Lib.hid ho1
                              have HBJ := Lib.hid hbj
                              have HBJ0 := Lib.hid (below_step HBX0.out hbj)
                              have c7 := (HBX.out.below HBJ0.out).cell 7 rfl
                              have dx := HDX.out _ hbj
                              clear ho1 hbj
                              by_cases hlj : j < k
                              · have hjl : j < mths.length := by have := HN3.out; omega
                                obtain ⟨y, hy⟩ : ∃ y, mths[j]? = some y := ⟨_, List.getElem?_eq_getElem hjl⟩
                                have hoJ := Only.ofBelow (S := fun _ => False) HBJ0.out
                                obtain ⟨b2, o2, v2, he2, hv2, _, hcl2⟩ := HCM.out j y hy
                                obtain ⟨e1, e2⟩ : b = b2 ∧ o = o2 := by simpa using he2
                                subst e1 e2
                                obtain ⟨_, _, _, rfl, _⟩ := mth_shape hv2
                                have dy := hoJ.cell (a := ⟨b, o + j * 7, none⟩) (hcl2 0 _ rfl) id
                                have esy := S_toList y.name
                                have htj : (true && !((mths.take (j + 1)).any fun y => Mth.name y == Mth.name x)) = (o1 && !(y.name == x.name)) := by
                                  rw [take_any_succ _ _ _ _ hy, HO1.out, Bool.not_or, Bool.and_assoc]
                                  try rfl
                                have HTJ := Lib.hid htj
                                clear hy hjl hoJ he2 hv2 hcl2 htj
                                have hj0 : (0 : Int) ≤ j := by omega
                                have hjk : (j : Int) < (k : Int) := by omega
                                have hjn : (j : Int) < (n3 : Int) := by omega
                                cases o1
                                · rw [Bool.false_and] at HTJ
                                  go_wp2_with (go_quiet (fail))
                                  go_roundw
                                  case rel => exact ⟨j + 1, false, by omega, by go_num, rfl, HTJ.out.symm, below_quiet HBJ.out _⟩
                                  case measure => simp [intOf]; omega
                                · rw [Bool.true_and] at HTJ
                                  generalize hp : (y.name == x.name) = p at HTJ
                                  cases p
                                  all_goals
                                    go_wp2_with (go_quiet (fail))
                                    go_roundw
                                    case rel => exact ⟨j + 1, _, by omega, by go_num, rfl, HTJ.out.symm, below_quiet HBJ.out _⟩
                                    case measure => simp [intOf]; omega
                              · obtain rfl : k = j := by omega
                                rw [← HO1.out] at HTQ
                                clear dx
                                go_wp2
                                go_roundw
                                case rel => exact ⟨k + 1, o1, by omega, by go_num, rfl, HTQ.out.symm, below_step HBX0.out HBJ.out⟩
                                case measure => simp [intOf]; omega
                      · obtain rfl : n3 = k := by omega
                        rw [← HOK.out] at HMA
                        have HBE := Lib.hid (HB0.out.trans (HBW.out.mono HB0.out.size))
                        have c1 := (HBX.out.below HBW.out).cell 1 rfl
                        have c3 := (HBX.out.below HBW.out).cell 3 rfl
                        have c4 := (HBX.out.below HBW.out).cell 4 rfl
                        have c5 := (HBX.out.below HBW.out).cell 5 rfl
                        have hsl := toList_beq sup [79, 98, 106, 101, 99, 116]
                        rw [show (decide (sup = [79, 98, 106, 101, 99, 116])) = decide (sup = objL) from rfl] at hsl
                        generalize decide (sup = objL) = dO at hsl HPL
                        clear hlt ess
                        cases ok
                        · obtain rfl : R = false := by rw [HMA.out]; rfl
                          go_wp2
                          go_ret
                          exact ⟨rfl, HBE.out⟩
                        rw [Bool.true_and] at HMA
                        have HQ : Hid (R = ((!itf || (ab && dO)) && !(ab && fin))) := Lib.hid (by rw [HMA.out, HPL.out])
                        clear HMA HPL
                        cases itf
                        · clear hsl
                          cases ab
                          · obtain rfl : R = true := by rw [HQ.out]; cases fin <;> rfl
                            go_wp2
                            go_ret
                            exact ⟨rfl, HBE.out⟩
                          · obtain rfl : R = !fin := by rw [HQ.out]; cases fin <;> rfl
                            go_wp2
                            go_ret
                            exact ⟨rfl, HBE.out⟩
                        cases ab
                        · clear hsl
                          obtain rfl : R = false := by rw [HQ.out]; cases dO <;> cases fin <;> rfl
                          go_wp2
                          go_ret
                          exact ⟨rfl, HBE.out⟩
                        cases dO
                        · obtain rfl : R = false := by rw [HQ.out]; cases fin <;> rfl
                          go_wp2
                          go_ret
                          exact ⟨rfl, HBE.out⟩
                        · obtain rfl : R = !fin := by rw [HQ.out]; cases fin <;> rfl
                          go_wp2
                          go_ret
                          exact ⟨rfl, HBE.out⟩
end Go.Proofs.YtpincofjopmaaaaGreatDoor

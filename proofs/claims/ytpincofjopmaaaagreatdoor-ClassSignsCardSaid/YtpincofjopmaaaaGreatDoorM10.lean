/-
  The shelf's contract of unicode/utf8.ValidString, laid at this translation: which numbers its functions, types and variables have here.
  Conditions: none; each field is a closed fact of the translation.
  The contract of package pack's reader, Text: a text of whole characters is read, else the error that the document names.
  Conditions: the reader holds its bytes (at most 2^47), stands within them; unicode/utf8's two tables hold what they hold at the start.
-/
import Derived.Ground.NamesProg
import Derived.Shelf.Unicode.ValidAny
import Derived.Test.YtpincofjopmaaaaGreatDoorProg
import Derived.Test.YtpincofjopmaaaaGreatDoorM09
namespace Go.Proofs.YtpincofjopmaaaaGreatDoor
open Go.Shelf
def laysRen : Go.Shelf.Ren := ⟨fun | 196 => 253 | 259 => 275 | n => n, fun | 9 => 9 | 4 => 4 | 3 => 3 | 5 => 5 | 12 => 12 | 119 => 268 | 0 => 0 | 46 => 272 | 139 => 271 | 138 => 270 | 53 => 213 | n => n, fun | 3 => 2 | 4 => 3 | n => n⟩
theorem laysValid : Lays.n196 Tryz.prog laysRen := {
  mixed := by kernel_rfl
  f196 := Tryz.func253.trans (congrArg some (by kernel_rfl))
  f259 := Tryz.func275.trans (congrArg some (by kernel_rfl))
  t0 := Tryz.underlying0
  a0 := Tryz.isAgg0
  z0 := Tryz.sizeOf0
  v0 := Tryz.zeroValue0
  t3 := Tryz.underlying3
  a3 := Tryz.isAgg3
  z3 := Tryz.sizeOf3
  v3 := Tryz.zeroValue3
  t4 := Tryz.underlying4
  a4 := Tryz.isAgg4
  z4 := Tryz.sizeOf4
  v4 := Tryz.zeroValue4
  t5 := Tryz.underlying5
  a5 := Tryz.isAgg5
  z5 := Tryz.sizeOf5
  v5 := Tryz.zeroValue5
  t9 := Tryz.underlying9
  a9 := Tryz.isAgg9
  z9 := Tryz.sizeOf9
  v9 := Tryz.zeroValue9
  t12 := Tryz.underlying12
  a12 := Tryz.isAgg12
  z12 := Tryz.sizeOf12
  v12 := Tryz.zeroValue12
  t46 := Tryz.underlying272
  a46 := Tryz.isAgg272
  z46 := Tryz.sizeOf272
  v46 := Tryz.zeroValue272
  t53 := Tryz.underlying213
  a53 := Tryz.isAgg213
  z53 := Tryz.sizeOf213
  v53 := Tryz.zeroValue213
  t119 := Tryz.underlying268
  a119 := Tryz.isAgg268
  z119 := Tryz.sizeOf268
  t138 := Tryz.underlying270
  a138 := Tryz.isAgg270
  z138 := Tryz.sizeOf270
  v138 := Tryz.zeroValue270
  t139 := Tryz.underlying271
  a139 := Tryz.isAgg271
  z139 := Tryz.sizeOf271
  v139 := Tryz.zeroValue271
  g3 := by kernel_rfl
  g4 := by kernel_rfl }
end Go.Proofs.YtpincofjopmaaaaGreatDoor
namespace Go.Proofs.YtpincofjopmaaaaGreatDoor
open Go.RowKit Go.Shelf

def Tabs (w : World) : Prop := Lib.Utf8Tabs (laysRen.g 3) (laysRen.g 4) w
theorem Tabs.keep {S : Nat → Prop} {w w' : World} (h : Tabs w) (ho : Only S w w') (h0 : ¬ S 2) (h1 : ¬ S 3) : Tabs w' :=
  ⟨fun c hc => ho.cell (h.1 c hc) h0, fun i hi => ⟨ho.cell (h.2 i hi).1 h1, ho.cell (h.2 i hi).2 h1⟩⟩
theorem valid_any (s : List UInt8) (w : World) (hs : s.length ≤ 9223372036854775807) (hT : Tabs w) :
    Calls Tryz.prog 253 #[.string (S s)] w fun e w' => e = .returned (.bool (Lib.validD s)) ∧ Below w.heap.size w w' := by
  have h : Calls Tryz.prog 253 #[.string (S s)] w _ := Any.utf8_ValidString laysValid (S s) w (by rw [S_size]; exact hs) hT
  rw [S_list] at h
  exact h
theorem row_all {w : World} {v : Value} {l : List UInt8} (h : RowIs w v l) (hl : 0 < l.length) : ∃ g c, v = .slice (some ⟨g, 0, none⟩) l.length c ∧ l.length ≤ c ∧ c ≤ 9223372036854775807 ∧ ∀ j, j < l.length → w.cell? ⟨g, j, none⟩ = (Lib.byteCells l)[j]? := by
  rcases h.2 with ⟨rfl, h0⟩ | ⟨g, cap, cur, rfl, _, _, hn, hm, _⟩
  · omega
  · refine ⟨g, cap, rfl, hn, by simpa [maxLen] using hm, fun j hj => h.cellAt j (by omega)⟩
theorem conv_mid (w : World) (g o n cap : Nat) (l : List UInt8) (hl : o + n ≤ l.length) (hc : ∀ j, j < l.length → w.cell? ⟨g, j, none⟩ = (Lib.byteCells l)[j]?) :
    Sem.run Tryz.prog (convert 71 9 (.slice (some ⟨g, o, none⟩) n cap)) w = .ok (.string (S ((l.drop o).take n))) w := by
  have hlen : ((l.drop o).take n).length = n := by rw [List.length_take, List.length_drop]; omega
  have h := run_convert_bytes_arg (P := Tryz.prog) w 71 5 Tryz.underlying71 Tryz.underlying5 g o n cap (((l.drop o).take n).map fun c => (c.toNat : Int)) (by simpa using hlen) (fun i hi => by
    have h1 : o + i < l.length := by omega
    rw [hc (o + i) h1, byteCells_at]
    simp [List.getD, List.getElem?_eq_getElem h1, hi]) 9 Tryz.underlying9
  rw [h]
  clear h
  refine congrArg (fun s => Result.ok (Value.string s) w) ?_
  simp only [strOfNums, S, List.map_map]
  refine congrArg (fun m : List UInt8 => ByteArray.mk m.toArray) ?_
  conv => rhs; rw [← List.map_id ((l.drop o).take n)]
  apply List.map_congr_left
  intro c _
  simp
/-- 'string(b[p:r])', b a slice that holds l. -/
theorem slice_conv (w : World) (g c p r : Nat) (l : List UInt8) (hpr : p ≤ r) (hr : r ≤ l.length) (hlc : l.length ≤ c) (hc : ∀ j, j < l.length → w.cell? ⟨g, j, none⟩ = (Lib.byteCells l)[j]?) (q : Nat) :
    Sem.run Tryz.prog (convert 71 9 (.slice (if c = p then some ⟨g, 0, none⟩ else some ⟨g, p, none⟩) (r - p) (c - p))) (w.drewN q) = .ok (.string (S ((l.drop p).take (r - p)))) (w.drewN q) := by
  by_cases hcp : c = p
  · rw [if_pos hcp, show r - p = 0 from by omega]
    have h := conv_mid (w.drewN q) g 0 0 (c - p) l (by omega) hc
    simpa using h
  · rw [if_neg hcp]
    exact conv_mid (w.drewN q) g p (r - p) (c - p) l (by omega) hc
set_option maxHeartbeats 2000000 in
set_option maxRecDepth 100000 in
theorem rtext_ok (b : Nat) (v : Value) (l : List UInt8) (i V K : Nat) (w : World) (h : RdAt w b v l i 0) (hT : Tabs w) (hb0 : b ≠ 2) (hb1 : b ≠ 3)
    (hR : numFrom 0 0 (l.drop i) = (0, V, K)) (hV : V ≤ 4096) (hL : i + K + V ≤ l.length) (hU : Lib.validD ((l.drop (i + K)).take V) = true) :
    Calls Tryz.prog 149 #[.pointer (some ⟨b, 0, none⟩)] w (Got b v l (i + K + V) 0 (.string (S ((l.drop (i + K)).take V))) w) := by
  have c2 : w.cell? ⟨b, 2, none⟩ = some (.int .i64 0) := h.c2
  have c1 := h.c1
  have hsm := h.small
  have hn := number_any b v l i 0 w h
  rw [hR] at hn
  have HN := Lib.hid hn
  have HU := Lib.hid hU
  have HT := Lib.hid hT
  have hl0 : 0 < l.length := by
    rcases Nat.eq_zero_or_pos l.length with h0 | h0
    · have : l = [] := List.eq_nil_of_length_eq_zero h0
      subst this
      simp [numFrom] at hR
    · exact h0
  obtain ⟨p, hp⟩ : ∃ p, p = i + K := ⟨_, rfl⟩
  rw [← hp] at hL HU ⊢
  have HP := Lib.hid hp
  obtain ⟨r, hr⟩ : ∃ r, r = p + V := ⟨_, rfl⟩
  rw [← hr] at hL ⊢
  have hpr : p ≤ r := by omega
  have hprV : p + V ≤ l.length := by omega
  have HRR := Lib.hid hr
  clear h hn hR hU hT hp hr
  go_enter Tryz.func149, Tryz.ntmps149
  go_wp2_with (first | (go_at_call 251; refine HN.out.mono ?_; rintro e w1 ⟨rfl, hon, j, hrd, hj⟩; obtain rfl : p = j := HP.out.trans (hj rfl).symm; have d1 := hrd.c1; have d0 := hrd.c0; clear hj) | (go_at_call 252; refine (left_any b v l p 0 _ hrd).mono ?_; rintro e w2 ⟨rfl, q, rfl⟩) | go_in)
  have hrd2 := hrd.drewN q
  have hon2 := hon.drewN q
  generalize hw2 : w1.drewN q = w2 at hrd2 hon2 ⊢
  clear hw2 d1 d0 hrd hon
  have d0 := hrd2.c0
  have d1 := hrd2.c1
  obtain ⟨g, c, rfl, hlc, hcm, hcells⟩ := row_all hrd2.row hl0
  have hcv := slice_conv w2 g c p r l hpr hL hlc hcells
  rw [show (l.drop p).take (r - p) = (l.drop p).take V from by rw [show r - p = V from by have := HRR.out; omega]] at hcv
  rw [show ((p : Int) + (V : Int)) = (r : Int) from by have := HRR.out; omega]
  clear hcells
  have HTq : Hid (∀ q, Tabs (w2.drewN q)) := fun q => HT.out.keep (hon2.drewN q) (fun e => hb0 e.symm) (fun e => hb1 e.symm)
  have hslen : ((l.drop p).take V).length ≤ 9223372036854775807 := by rw [List.length_take]; omega
  have HSL := Lib.hid hslen
  clear hslen
  go_quiet (fail)
  go_wp2_with (first | (go_at_call 253; refine (valid_any _ _ HSL.out (HTq.out _)).mono ?_; rintro e w3 ⟨rfl, hbel⟩; rw [HU.out]; have hon3 : Only (fun k => k = b) w w3 := (hon2.drewN _).trans (Only.ofBelow hbel); have hk3 := (hrd2.drewN _).keep (S := fun _ => False) (w' := w3) (Only.ofBelow hbel) id (fun _ _ => id); have d13 := hk3.c1; have f13 := hk3.free 1) | go_in)
  all_goals
    go_ret
    try (have hcp : c = p := by assumption
         subst hcp)
    exact ⟨rfl, hon3.setCell (p := ⟨b, 1, none⟩) rfl _, hk3.setAt r hL⟩
set_option maxHeartbeats 2000000 in
set_option maxRecDepth 100000 in
theorem rtext_form (b : Nat) (v : Value) (l : List UInt8) (i V K : Nat) (w : World) (h : RdAt w b v l i 0) (hT : Tabs w) (hb0 : b ≠ 2) (hb1 : b ≠ 3)
    (hR : numFrom 0 0 (l.drop i) = (0, V, K)) (hV : V ≤ 4096) (hL : i + K + V ≤ l.length) (hU : Lib.validD ((l.drop (i + K)).take V) = false) :
    Calls Tryz.prog 149 #[.pointer (some ⟨b, 0, none⟩)] w (Got b v l i 11 (.string (S [])) w) := by
  have c2 : w.cell? ⟨b, 2, none⟩ = some (.int .i64 0) := h.c2
  have c1 := h.c1
  have hsm := h.small
  have hile := h.le
  have hn := number_any b v l i 0 w h
  rw [hR] at hn
  have HN := Lib.hid hn
  have HU := Lib.hid hU
  have HT := Lib.hid hT
  have hl0 : 0 < l.length := by
    rcases Nat.eq_zero_or_pos l.length with h0 | h0
    · have : l = [] := List.eq_nil_of_length_eq_zero h0
      subst this
      simp [numFrom] at hR
    · exact h0
  obtain ⟨p, hp⟩ : ∃ p, p = i + K := ⟨_, rfl⟩
  rw [← hp] at hL HU
  have HP := Lib.hid hp
  obtain ⟨r, hr⟩ : ∃ r, r = p + V := ⟨_, rfl⟩
  rw [← hr] at hL
  have hpr : p ≤ r := by omega
  have hprV : p + V ≤ l.length := by omega
  have HRR := Lib.hid hr
  clear h hn hR hU hT hp hr
  go_enter Tryz.func149, Tryz.ntmps149
  go_wp2_with (first | (go_at_call 251; refine HN.out.mono ?_; rintro e w1 ⟨rfl, hon, j, hrd, hj⟩; obtain rfl : p = j := HP.out.trans (hj rfl).symm; have d1 := hrd.c1; have d0 := hrd.c0; clear hj) | (go_at_call 252; refine (left_any b v l p 0 _ hrd).mono ?_; rintro e w2 ⟨rfl, q, rfl⟩) | go_in)
  have hrd2 := hrd.drewN q
  have hon2 := hon.drewN q
  generalize hw2 : w1.drewN q = w2 at hrd2 hon2 ⊢
  clear hw2 d1 d0 hrd hon
  have d0 := hrd2.c0
  have d1 := hrd2.c1
  obtain ⟨g, c, rfl, hlc, hcm, hcells⟩ := row_all hrd2.row hl0
  have hcv := slice_conv w2 g c p r l hpr hL hlc hcells
  rw [show (l.drop p).take (r - p) = (l.drop p).take V from by rw [show r - p = V from by have := HRR.out; omega]] at hcv
  rw [show ((p : Int) + (V : Int)) = (r : Int) from by have := HRR.out; omega]
  clear hcells
  have HTq : Hid (∀ q, Tabs (w2.drewN q)) := fun q => HT.out.keep (hon2.drewN q) (fun e => hb0 e.symm) (fun e => hb1 e.symm)
  have hslen : ((l.drop p).take V).length ≤ 9223372036854775807 := by rw [List.length_take]; omega
  have HSL := Lib.hid hslen
  clear hslen
  go_quiet (fail)
  go_wp2_with (first | (go_at_call 253; refine (valid_any _ _ HSL.out (HTq.out _)).mono ?_; rintro e w3 ⟨rfl, hbel⟩; rw [HU.out]; have hon3 : Only (fun k => k = b) w w3 := (hon2.drewN _).trans (Only.ofBelow hbel); have hk3 := (hrd2.drewN _).keep (S := fun _ => False) (w' := w3) (Only.ofBelow hbel) id (fun _ _ => id); have d13 := hk3.c1; have f13 := hk3.free 1; have d23 := hk3.c2; have f23 := hk3.free 2) | go_in)
  all_goals
    go_ret
    try (have hcp : c = p := by assumption
         subst hcp)
    obtain ⟨h1, h2⟩ := hk3.failed hon3 i 11 hile
    exact ⟨rfl, h1, h2⟩

set_option maxHeartbeats 2000000 in
set_option maxRecDepth 100000 in
theorem rtext_stop (b : Nat) (v : Value) (l : List UInt8) (i err : Nat) (w : World) (h : RdAt w b v l i err) (he : err ≠ 0) :
    Calls Tryz.prog 149 #[.pointer (some ⟨b, 0, none⟩)] w (Got b v l i err (.string (S [])) w) := by
  have c2 := h.c2
  have hb : ((err : Int) != 0) = true := by rw [bne_iff_ne]; omega
  have HH := Lib.hid h
  clear h
  go_enter Tryz.func149, Tryz.ntmps149
  go_wp2_with go_in
  go_ret
  exact ⟨rfl, Only.refl _ _, HH.out⟩
set_option maxHeartbeats 2000000 in
set_option maxRecDepth 100000 in
theorem rtext_num (b : Nat) (v : Value) (l : List UInt8) (i E V K : Nat) (w : World) (h : RdAt w b v l i 0) (hR : numFrom 0 0 (l.drop i) = (E, V, K)) (hE : E ≠ 0) :
    Calls Tryz.prog 149 #[.pointer (some ⟨b, 0, none⟩)] w (Got b v l i E (.string (S [])) w) := by
  have c2 : w.cell? ⟨b, 2, none⟩ = some (.int .i64 0) := h.c2
  have c1 := h.c1
  have hle := h.le
  have hn := number_any b v l i 0 w h
  rw [hR] at hn
  have HN := Lib.hid hn
  have hb : ((E : Int) != 0) = true := by rw [bne_iff_ne]; omega
  clear h hn hR
  go_enter Tryz.func149, Tryz.ntmps149
  go_wp2_with (first | (go_at_call 251; refine HN.out.mono ?_; rintro e w1 ⟨rfl, hon, j, hrd, _⟩; have d1 := hrd.c1; have d2 := hrd.c2; have f1 := hrd.free 1; have f2 := hrd.free 2) | go_in)
  go_ret
  obtain ⟨h1, h2⟩ := hrd.failed hon i E hle
  exact ⟨rfl, h1, h2⟩
set_option maxHeartbeats 2000000 in
set_option maxRecDepth 100000 in
theorem rtext_big (b : Nat) (v : Value) (l : List UInt8) (i V K : Nat) (w : World) (h : RdAt w b v l i 0) (hR : numFrom 0 0 (l.drop i) = (0, V, K)) (hV : 4096 < V) :
    Calls Tryz.prog 149 #[.pointer (some ⟨b, 0, none⟩)] w (Got b v l i 12 (.string (S [])) w) := by
  have c2 : w.cell? ⟨b, 2, none⟩ = some (.int .i64 0) := h.c2
  have c1 := h.c1
  have hle := h.le
  have hn := number_any b v l i 0 w h
  rw [hR] at hn
  have HN := Lib.hid hn
  have hVz : (4096 : Int) < (V : Int) := by omega
  clear h hn hR
  go_enter Tryz.func149, Tryz.ntmps149
  go_wp2_with (first | (go_at_call 251; refine HN.out.mono ?_; rintro e w1 ⟨rfl, hon, j, hrd, _⟩; have d1 := hrd.c1; have d2 := hrd.c2; have f1 := hrd.free 1; have f2 := hrd.free 2) | go_in)
  go_ret
  obtain ⟨h1, h2⟩ := hrd.failed hon i 12 hle
  exact ⟨rfl, h1, h2⟩
set_option maxHeartbeats 2000000 in
set_option maxRecDepth 100000 in
theorem rtext_short (b : Nat) (v : Value) (l : List UInt8) (i V K : Nat) (w : World) (h : RdAt w b v l i 0) (hR : numFrom 0 0 (l.drop i) = (0, V, K)) (hV : V ≤ 4096) (hL : l.length < i + K + V) :
    Calls Tryz.prog 149 #[.pointer (some ⟨b, 0, none⟩)] w (Got b v l i 10 (.string (S [])) w) := by
  have c2 : w.cell? ⟨b, 2, none⟩ = some (.int .i64 0) := h.c2
  have c1 := h.c1
  have hle := h.le
  have hsm := h.small
  have hn := number_any b v l i 0 w h
  rw [hR] at hn
  have HN := Lib.hid hn
  obtain ⟨p, hp⟩ : ∃ p, p = i + K := ⟨_, rfl⟩
  rw [← hp] at hL
  have HP := Lib.hid hp
  have hLz : (l.length : Int) - (p : Int) < (V : Int) := by omega
  clear h hn hR hp
  go_enter Tryz.func149, Tryz.ntmps149
  go_wp2_with (first | (go_at_call 251; refine HN.out.mono ?_; rintro e w1 ⟨rfl, hon, j, hrd, hj⟩; obtain rfl : p = j := HP.out.trans (hj rfl).symm; have d1 := hrd.c1; have d2 := hrd.c2; have f1 := hrd.free 1; have f2 := hrd.free 2; have hpl := hrd.le; clear hj) | (go_at_call 252; refine (left_any b v l p 0 _ hrd).mono ?_; rintro e w2 ⟨rfl, q, rfl⟩) | go_in)
  go_ret
  obtain ⟨h1, h2⟩ := (hrd.drewN q).failed (hon.drewN q) i 10 hle
  exact ⟨rfl, h1, h2⟩
end Go.Proofs.YtpincofjopmaaaaGreatDoor

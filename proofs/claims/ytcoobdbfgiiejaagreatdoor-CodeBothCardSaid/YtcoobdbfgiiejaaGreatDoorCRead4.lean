/-
  The closure of strings.Lines, walked: the contract SeqBox.
-/
import Derived.Test.YtcoobdbfgiiejaaGreatDoorCRead3
namespace Go.Proofs.YtcoobdbfgiiejaaGreatDoor
open Go.RowKit Go.Shelf
attribute [local go_sem] Oper.semAt_some
set_option maxHeartbeats 2000000 in
set_option maxRecDepth 100000 in
theorem lines1_any (n : Nat) (hn : 1 ≤ n) (s : List UInt8) (hlim : s.length ≤ 1099511627776) (B : Nat) :
    SeqBox Fence.wide n Tryz.prog 73 #[.pointer (some ⟨B, 0, none⟩)] (fun x : List UInt8 => #[.string (S x)]) B 9 (.string (S s)) (fun xs => xs = linesL s) (fun ys => ys <+: linesL s) := by
  intro l J Jx W hbox hset hgrow hY h0
  refine callsIn_of_wp Tryz.func73 rfl trivial ?_ rfl
  simp only [Tryz.ntmps73, List.size_toArray, List.length_cons, List.length_nil, Nat.reduceAdd, Nat.reduceSub, Array.replicate_succ, Array.replicate_zero, List.push_toArray, List.append_toArray, List.nil_append, List.cons_append]
  gi_wp2
  gi_loopw [] (fun wr => ∃ pre rest, linesL s = pre ++ linesL rest ∧ rest.length ≤ s.length ∧ J pre (.string (S rest)) wr) (fun wr => leftN B wr)
  case atStart => exact ⟨[], s, rfl, Nat.le_refl _, h0⟩
  case round =>
    obtain ⟨pre, rest, hx, hle, hJ⟩ := hrel
    have hb := hbox _ _ _ hJ
    have hc := hb.cell
    have hf := hb.frozen
    have hsz : (S rest).size = rest.length := S_size rest
    by_cases hr : rest = []
    · subst hr
      gi_wp2
      go_end0
      exact ⟨⟨_, rfl⟩, .inl ⟨pre, _, by rw [hx, linesL_nil, List.append_nil], hJ⟩⟩
    · have hpos : (0 : Int) < (rest.length : Int) := by have := List.length_pos_iff.2 hr; omega
      have hlc := linesL_cons hr
      have hrl := restLf_lt hr
      rw [hlc] at hx
      have hG : pre ++ [lineL rest] <+: linesL s := ⟨linesL (restLf rest), by rw [hx]; simp⟩
      have hx' : linesL s = (pre ++ [lineL rest]) ++ linesL (restLf rest) := by rw [hx]; simp
      have hix := sindexbyte_any (S rest) 10 wr
      rw [S_list, show ((10 : Int).toNat.toUInt8) = 10 from rfl, index_lf] at hix
      by_cases h : lfAt rest < rest.length
      · rw [if_pos h] at hix
        have HIX := Lib.hid hix
        clear hix
        have hcut1 : (S rest).extract 0 (lfAt rest + 1) = S (lineL rest) := by rw [S_take]; rfl
        have hcut2 : (S rest).extract (lfAt rest + 1) (S rest).size = S (restLf rest) := by rw [S_drop]; rfl
        have w3 : (0 : Int) ≤ (lfAt rest : Int) + 1 := by omega
        have w4 : (lfAt rest : Int) + 1 ≤ (rest.length : Int) := by omega
        have w5 : (0 : Int) ≤ (lfAt rest : Int) := by omega
        have w2 : ((lfAt rest : Int) + 1).toNat = lfAt rest + 1 := by omega
        have w1 : IntKind.i64.wrap ((lfAt rest : Int) + 1) = (lfAt rest : Int) + 1 := IntWalk.i64_in _ (by omega)
        gi_wp2
        refine ⟨trivial, (callsIn_wide.2 HIX.out).mono ?_⟩
        rintro e w' ⟨rfl, rfl⟩
        gi_wp2
        gi_region
        rw [show (S rest).extract (lfAt rest + 1) rest.length = S (restLf rest) by rw [← hsz]; exact hcut2]
        have hJ2 : J pre (.string (S (restLf rest))) (wr.setCell ⟨B, 0, none⟩ (.string (S (restLf rest)))).drew := hgrow _ _ _ _ (hset _ _ _ _ hJ) ⟨rfl, rfl, rfl, Nat.le_refl _, fun _ _ _ => rfl⟩
        generalize (wr.setCell ⟨B, 0, none⟩ (.string (S (restLf rest)))).drew = W2 at hJ2 ⊢
        obtain ⟨fn, tmps, assign, body, hy, hR⟩ := hY pre (lineL rest) _ W2 hJ2 hG
        gi_wp2
        refine hR.mono ?_
        rintro e W3 (⟨rfl, hJ3⟩ | ⟨rfl, hJx3⟩)
        · have hl3 := leftN_eq (hbox _ _ _ hJ3)
          have hl0 := leftN_eq hb
          gi_wp2
          go_roundw
          case rel => exact ⟨pre ++ [lineL rest], restLf rest, hx', by omega, hJ3⟩
          case measure => rw [hl3, hl0]; exact hrl
        · gi_wp2
          refine bodyPost_ret (results_none rfl _ _ _) rfl ?_
          exact ⟨⟨_, rfl⟩, .inr ⟨pre ++ [lineL rest], hG, hJx3⟩⟩
      · rw [if_neg h] at hix
        have HIX := Lib.hid hix
        clear hix
        have hline : lineL rest = rest := List.take_of_length_le (by omega)
        have hrest : restLf rest = [] := List.drop_of_length_le (by omega)
        have hJ2 : J pre (.string (S (restLf rest))) (wr.setCell ⟨B, 0, none⟩ (.string ⟨#[]⟩)) := by rw [hrest]; exact hset _ _ _ _ hJ
        obtain ⟨fn, tmps, assign, body, hy, hR⟩ := hY pre (lineL rest) _ _ hJ2 hG
        rw [hline] at hy
        gi_wp2
        refine ⟨trivial, (callsIn_wide.2 HIX.out).mono ?_⟩
        rintro e w' ⟨rfl, rfl⟩
        gi_wp2
        refine hR.mono ?_
        rintro e W3 (⟨rfl, hJ3⟩ | ⟨rfl, hJx3⟩)
        · have hl3 := leftN_eq (hbox _ _ _ hJ3)
          have hl0 := leftN_eq hb
          gi_wp2
          go_roundw
          case rel => exact ⟨pre ++ [lineL rest], restLf rest, hx', by omega, hJ3⟩
          case measure => rw [hl3, hl0]; exact hrl
        · gi_wp2
          refine bodyPost_ret (results_none rfl _ _ _) rfl ?_
          exact ⟨⟨_, rfl⟩, .inr ⟨pre ++ [lineL rest], hG, hJx3⟩⟩
end Go.Proofs.YtcoobdbfgiiejaaGreatDoor

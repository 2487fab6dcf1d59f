/- laws -/
import Derived.Test.YtggcdinoflchjaaGreatDoorK37
set_option maxRecDepth 100000
set_option maxHeartbeats 16000000
namespace Go.Proofs.YtggcdinoflchjaaGreatDoor
open Go.RowKit
def mthZ:Value:=.agg #[.string ⟨#[]⟩,.slice none 0 0,.string ⟨#[]⟩,.bool false,.int .i64 0,.slice none 0 0,.slice none 0 0]
structure CV where
 val:Value
 sz:val.cells.size=8
 one:∀ u ∈ val.cells.toList,u.oneCell'=true
abbrev cvV (x:CV):Value:=x.val
abbrev CVR:Zaq CV:=Flat cvV
theorem ZpZ:Stays CVR:=Flat.stays _
theorem ZiO {A:Nat->Prop} {w:World} {c:Cls} {v:Value} (h:ClsR A w c v):v.cells.size=8/\∀ u ∈ v.cells.toList,u.oneCell'=true:=by
 obtain ⟨_,_,_,rfl,⟨lo,lc,rfl⟩,⟨fo,fc,rfl⟩,⟨mo,mc,rfl⟩⟩:=Zb1 h;refine ⟨rfl,fun u hu=>?_⟩;simp [Value.cells] at hu
 rcases hu with rfl|rfl|rfl|rfl|rfl|rfl|rfl|rfl <;> rfl
structure Vals (A:Nat->Prop) (w:World) (cs:List Cls) (vs:List CV):Prop where
 len:vs.length=cs.length
 each:∀ (k:Nat) (c:Cls),cs[k]? = some c->∃ u:CV,vs[k]? = some u/\ClsR A w c (cvV u)
theorem ZpK {A A':Nat->Prop} {w:World} {sv:Value} {cs:List Cls} {vs:List CV} (hv:Vals A w cs vs) (h:Src 8 CVR A' w sv vs):Src 8 ClsR Anyw w sv cs:=by
 rcases h with ⟨ao,cap,rfl,hn⟩|⟨b,o,cap,rfl,hk,hc⟩
 ·have:cs=[]:=YaZ.1 (by rw [←hv.len,hn];rfl);exact .inl ⟨_,_,rfl,this⟩
 ·rw [hv.len] at hk ⊢;refine .inr ⟨b,o,cap,rfl,⟨trivial,hk.2⟩,fun k x hx=>?_⟩;obtain ⟨u,q1,q2⟩:=hv.each k x hx;obtain ⟨v,rfl,h2,h3⟩:=hc k u q1;exact ⟨_,ClsR.st.mono q2 (fun _ _ _=>trivial),h2,h3⟩
abbrev ZoA (lo:Nat) (W:World) (v:Value) (l:List CV):Prop:=TRow 8 87 CVR lo W v l (l.map cvV)

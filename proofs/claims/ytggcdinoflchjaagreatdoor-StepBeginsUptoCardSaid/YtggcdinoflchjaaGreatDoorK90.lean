/- laws -/
import Derived.Test.YtggcdinoflchjaaGreatDoorK89
import Derived.Test.YtggcdinoflchjaaGreatDoorK78
import Derived.Test.YtggcdinoflchjaaGreatDoorRows
set_option maxRecDepth 100000
set_option maxHeartbeats 16000000
namespace Go.Proofs.YtggcdinoflchjaaGreatDoor
open Go.RowKit
theorem ZhZ {w w':World} {s:Shp} {v:Value} (hb:Below w.heap.size w w') (h:ShpR Anyw w s v):ShpR Anyw w' s v:=h.below hb
theorem ZfE (cl mn mr:List UInt8) (ml:Int) (ma:Bool) (ps:List (List UInt8)) (po co ko:Option Addr) (pc cn cc kn kc:Nat) (w:World) (hp:Src 1 StrR Anyw w (.slice po ps.length pc) ps) (hm0:-9223372036854775808<=ml) (hT:HT6 w) (hcl:cl.length<=9223372036854775807) (hpl:ps.length<=9223372036854775807) (hfit:∀ x ∈ ps,x.length<=281474976710656) :
  Calls Tryz.prog 6 #[.string (S cl),.agg #[.string (S mn),.slice po ps.length pc,.string (S mr),.bool ma,.int .i64 ml,.slice co cn cc,.slice ko kn kc]] w (Said true w):=by
 have HA:Hid (∀ W,Below w.heap.size w W->Calls Tryz.prog 11 #[] W (Said true W)):=Hd (fun W hW=>ZjP W (hT.ft.keep hW) (hT.ct.keep hW));have HB1:Hid (ps.length<=100->ml<=1000->cl.length<=100->∀ W,Below w.heap.size w W->Calls Tryz.prog 20 #[.string (S cl),.agg #[.string (S mn),.slice po ps.length pc,.string (S mr),.bool ma,.int .i64 ml,.slice co cn cc,.slice ko kn kc]] W (ZgS cl ps ml W)):=Hd (fun h1 h2 h3 W hW=>ZjR cl mn mr ml ma ps po co ko pc cn cc kn kc W (StrR.st.below hp hW) h1 h2 hm0 h3 hfit);have HB2:Hid (ps.length<=100->ml<=1000->cl.length<=100->∀ W,Below w.heap.size w W->Calls Tryz.prog 21 #[.string (S cl),.agg #[.string (S mn),.slice po ps.length pc,.string (S mr),.bool ma,.int .i64 ml,.slice co cn cc,.slice ko kn kc]] W (ZgS cl ps ml W)):=Hd (fun h1 h2 _ W hW=>ZiR cl mn mr ml ma ps po co ko pc cn cc kn kc W (StrR.st.below hp hW) h1 h2 hm0);have HSM:Hid (ml<=1000->∀ W u v,ShpR Anyw W ⟨true,[],Zbs cl ps ml.toNat⟩ u->ShpR Anyw W ⟨true,[],Zbs cl ps ml.toNat⟩ v->Calls Tryz.prog 15 #[u,v] W (Said true W)):=Hd (fun h W u v h1 h2=>by
  have hf:Shp.Fit ⟨true,[],Zbs cl ps ml.toNat⟩:=⟨Yai _,by show (Zbs cl ps ml.toNat).length<=_;rw [Zcc];omega⟩;have h3:=Zex _ _ u v W h1 h2 hf hf;rw [Shp.eq_refl] at h3;exact h3)
 unfold ZgS at HB1 HB2;generalize (⟨true,[],Zbs cl ps ml.toNat⟩:Shp)=R at HSM HB1 HB2;unfold Said at HA HSM;unfold Said;clear hp hfit hT;generalize ps.length=n at *;have bx0:=Box.new w #[.string (S mn),.slice po n pc,.string (S mr),.bool ma,.int .i64 ml,.slice co cn cc,.slice ko kn kc] 44;have hb0:=Zaa (Yab w.heap.size w) (.cells #[.string (S mn),.slice po n pc,.string (S mr),.bool ma,.int .i64 ml,.slice co cn cc,.slice ko kn kc] 44);obtain ⟨w3,hw3⟩:∃ V,V=w.alloc (.cells #[.string (S mn),.slice po n pc,.string (S mr),.bool ma,.int .i64 ml,.slice co cn cc,.slice ko kn kc] 44):=⟨_,rfl⟩
 rw [←hw3] at bx0 hb0;have XM:=Hd bx0;have B3:=Hd hb0;clear bx0 hb0;go_enter Tryz.func6,Tryz.ntmps6
 go_upto_region 1 with fail
 rw [←hw3];clear hw3;have y1:=XM.o.cell 1 rfl;have y4:=XM.o.cell 4 rfl;by_cases h1:n<=100
 case neg=>
  have i1:(100:Int)<(n:Int):=by omega
  clear h1 HB1 HB2 HSM
  go_wp2_with fail
  with_reducible refine (HA.o _ B3.o).mono ?_
  rintro e wz ⟨rfl,hz⟩;have HZ:=Hd (B3.o.trans (hz.mono B3.o.size));clear hz;go_wp2;go_ret;exact ⟨rfl,HZ.o⟩
 have i1:¬ (100:Int)<(n:Int):=by omega
 by_cases h2:ml<=1000
 case neg=>
  have i2:(1000:Int)<ml:=by omega
  clear h1 h2 HB1 HB2 HSM
  go_wp2_with fail
  with_reducible refine (HA.o _ B3.o).mono ?_
  rintro e wz ⟨rfl,hz⟩;have HZ:=Hd (B3.o.trans (hz.mono B3.o.size));clear hz;go_wp2;go_ret;exact ⟨rfl,HZ.o⟩
 have i2:¬ (1000:Int)<ml:=by omega
 by_cases h3:cl.length<=100
 case neg=>
  have i3:(100:Int)<((S cl).size:Int):=by rw [Zay];omega
  clear h1 h2 h3 HB1 HB2 HSM
  go_wp2_with fail
  with_reducible refine (HA.o _ B3.o).mono ?_
  rintro e wz ⟨rfl,hz⟩;have HZ:=Hd (B3.o.trans (hz.mono B3.o.size));clear hz;go_wp2;go_ret;exact ⟨rfl,HZ.o⟩
 have i3:¬ (100:Int)<((S cl).size:Int):=by rw [Zay];omega
 have KA:Hid (∀ W,Below w3.heap.size w3 W->Calls Tryz.prog 11 #[] W (fun e w'=>e=.returned (.bool true)/\Below W.heap.size W w')):=Hd (fun W hW=>HA.o W (B3.o.trans (hW.mono B3.o.size)));have K1:=Hd (fun W (hW:Below w3.heap.size w3 W)=>HB1.o h1 h2 h3 W (B3.o.trans (hW.mono B3.o.size)));have K2:=Hd (fun W (hW:Below w3.heap.size w3 W)=>HB2.o h1 h2 h3 W (B3.o.trans (hW.mono B3.o.size)));have K3:=Hd (HSM.o h2);have HC:Hid (∀ W,Below w3.heap.size w3 W->(W.cell? ⟨w.heap.size,0,none⟩=some (.string (S mn))/\W.cell? ⟨w.heap.size,1,none⟩=some (.slice po n pc)/\W.cell? ⟨w.heap.size,2,none⟩=some (.string (S mr))/\W.cell? ⟨w.heap.size,3,none⟩=some (.bool ma)/\W.cell? ⟨w.heap.size,4,none⟩=some (.int .i64 ml)/\W.cell? ⟨w.heap.size,5,none⟩=some (.slice co cn cc)/\W.cell? ⟨w.heap.size,6,none⟩=some (.slice ko kn kc))):=Hd (fun W h=>
  ⟨(XM.o.below h).cell 0 rfl,(XM.o.below h).cell 1 rfl,(XM.o.below h).cell 2 rfl,(XM.o.below h).cell 3 rfl,(XM.o.below h).cell 4 rfl,(XM.o.below h).cell 5 rfl,(XM.o.below h).cell 6 rfl⟩)
 have hz0:=Yab w3.heap.size w3;clear h1 h2 h3 HA HB1 HB2 HSM
 go_upto_region 3 with fail
 clear i1 i2 i3 y1 y4;obtain ⟨g0,g1,g2,g3,g4,g5,g6⟩:=HC.o w3 hz0;first
 | (go_region_held (fun W=>W.cell? ⟨w.heap.size,0,none⟩=some (.string (S mn))/\W.cell? ⟨w.heap.size,1,none⟩=some (.slice po n pc)/\W.cell? ⟨w.heap.size,2,none⟩=some (.string (S mr))/\W.cell? ⟨w.heap.size,3,none⟩=some (.bool ma)/\W.cell? ⟨w.heap.size,4,none⟩=some (.int .i64 ml)/\W.cell? ⟨w.heap.size,5,none⟩=some (.slice co cn cc)/\W.cell? ⟨w.heap.size,6,none⟩=some (.slice ko kn kc)) ((refine HC.o _ ?_;(repeat (first|(with_reducible assumption)|(with_reducible exact Yab _ _)|(with_reducible refine Zd1 ?_)|(with_reducible (apply Zdy;assumption))))))
   (first
    | (go_at_call 11;(with_reducible refine (KA.o _ ?_).mono ?_);(focus ((repeat (first|(with_reducible assumption)|(with_reducible exact Yab _ _)|(with_reducible refine Zd1 ?_)|(with_reducible (apply Zdy;assumption))));done));rintro en v0 ⟨rfl,hv0⟩)
    | (go_at_call 20;(with_reducible refine (K1.o _ ?_).mono ?_);(focus ((repeat (first|(with_reducible assumption)|(with_reducible exact Yab _ _)|(with_reducible refine Zd1 ?_)|(with_reducible (apply Zdy;assumption))));done));rintro en v1 ⟨u1,rfl,r1,hv1⟩)
    | (go_at_call 21;(with_reducible refine (K2.o _ ?_).mono ?_);(focus ((repeat (first|(with_reducible assumption)|(with_reducible exact Yab _ _)|(with_reducible refine Zd1 ?_)|(with_reducible (apply Zdy;assumption))));done));rintro en v2 ⟨u2,rfl,r2,hv2⟩)
    | (go_at_call 15;(with_reducible refine (K3.o _ _ _ ?_ ?_).mono ?_);(focus ((repeat (first|(with_reducible assumption)|(with_reducible refine shp_drew ?_)|(with_reducible (apply ZhZ;assumption))));done));(focus ((repeat (first|(with_reducible assumption)|(with_reducible refine shp_drew ?_)|(with_reducible (apply ZhZ;assumption))));done));rintro en v3 ⟨rfl,hv3⟩)))
 | fail
 all_goals
  have HBE:Hid (Below w.heap.size w v3):=Hd (B3.o.trans (YbN (by (repeat (first|(with_reducible assumption)|(with_reducible exact Yab _ _)|(with_reducible refine Zd1 ?_)|(with_reducible (apply Zdy;assumption)))):Below w3.heap.size w3 v3) B3.o.size));clear hv0 hv1 hv2 hv3 g0 g1 g2 g3 g4 g5 g6 hz0 KA K1 K2 K3 HC r1 r2;go_wp2;go_ret;exact ⟨rfl,HBE.o⟩
theorem ZnX (cl:List UInt8) (u:Value) (m:Mth) (w:World) (hT:HT6 w) (hcl:cl.length<=9223372036854775807) (hm:MthR Anyw w m u) (rm:m.held/\m.Fit/\∀ y ∈ m.code,ZaA y.op) (hfit:∀ x ∈ m.params,x.length<=281474976710656) :
  Calls Tryz.prog 6 #[.string (S cl),u] w (Said true w):=by
 obtain ⟨pv,cv,kv,rfl,h1,h2,h3⟩:=hm;obtain ⟨po,pc,rfl⟩:=h1.shape;obtain ⟨co,cc,rfl⟩:=h2.shape;obtain ⟨ko,kc,rfl⟩:=h3.shape;exact ZfE cl m.name m.res m.loc m.abs m.params po co ko pc _ cc _ kc w h1 rm.1.1.1 hT hcl rm.2.1.n1 hfit
namespace bulk
end bulk

/-
  Records answers true at every script whose values and letters are together at most 1048576, and leaves the script as it was: every Lines, Words, New, Write, Erase, Files, Text, Kept of the program, and every Do whose command is none or is record, new, log, show or revert, answers as the document does, in every order, on any number of worlds. Condition: the bulk of what comes in is at most 1048576.
-/
import Derived.Test.YtgdfipmdmgkidaaGreatDoorRows
import Derived.Test.YtgdfipmdmgkidaaGreatDoorTrec2
import Derived.WalkKit
import Derived.ProofKit
import Derived.OpenShut
import Derived.JoinedCond
import Derived.Deep.DeepHandedRow
import Derived.Deep.DeepWitnessRowRef
import Derived.LaidMore
import Derived.Stop.Joined
import Derived.Deep.Slices
import Derived.Carry
import Derived.Test.YtgdfipmdmgkidaaGreatDoorAl
set_option linter.all false
set_option maxRecDepth 100000
namespace Go.Proofs.YtgdfipmdmgkidaaGreatDoor
open Go.ChangeShapes Go.WideShapes Go.ChangeAt Go.RowKit Go.Deep
theorem aPk:ownKnob Tryz.prog.godebug=none:=by kernel_rfl
theorem aEi:laidOutB Tryz.prog=true:=by kernel_rfl
theorem aGz:Tryz.prog.cellsOf 3=1:=by kernel_rfl
theorem aG0:Tryz.prog.cellsOf 9=1:=by kernel_rfl
theorem pD:Tryz.prog.cellsOf 76=5:=by kernel_rfl
def opD{H:Type}(p:Stp):DataW H:=.agg [.lit (.int .i64 p.kind),.lit (.int .i64 p.on),.lit (.int .i64 p.r),.lit (.string p.s.data.toList),.lit (.string p.u.data.toList)]
theorem aZu{H:Type}{enc:TypeId×Value->H}{w:World}{I:Nat}{z:Nat->Bool}{held:Bool}{n:Nat}{cs:List Value}{x:DataW H×List MemPlace}(h:DataW.trod enc Tryz.prog w I z held n 76 cs=some x):
  ∃p:Stp,cs=[.int .i64 p.kind,.int .i64 p.on,.int .i64 p.r,.string p.s,.string p.u]/\x.1=opD p/\(Lit.int .i64 p.kind).wf=true/\(Lit.int .i64 p.on).wf=true:=by
 obtain⟨xs,n,_,rfl,hl,J,E⟩:=DataW.trod_struct Tryz.underlying76 h;rw[pD] at hl
 match cs,hl with
 | [a,b,c,d,e],_=>
  match xs,J with
  | [y0,y1,y2,y3,y4],_=>
   have t0:=E 0 _ rfl;have t1:=E 1 _ rfl;have t2:=E 2 _ rfl;have t3:=E 3 _ rfl;have t4:=E 4 _ rfl;obtain⟨k,V,f0,w0⟩:=DataW.trod_int Tryz.underlying3 t0;obtain⟨o,W,f1,w1⟩:=DataW.trod_int Tryz.underlying3 t1;obtain⟨r,Y,f2,w2⟩:=DataW.trod_int Tryz.underlying3 t2;obtain⟨s,Z,f3,w3⟩:=DataW.trod_string Tryz.underlying9 t3;obtain⟨u,e4,f4,w4⟩:=DataW.trod_string Tryz.underlying9 t4;have K:List.take (Tryz.prog.cellsOf 3) (List.drop 0 [a,b,c,d,e])=[.int .i64 k]:=V;have g1:List.take (Tryz.prog.cellsOf 3) (List.drop 1 [a,b,c,d,e])=[.int .i64 o]:=W;have g2:List.take (Tryz.prog.cellsOf 3) (List.drop 2 [a,b,c,d,e])=[.int .i64 r]:=Y;have g3:List.take (Tryz.prog.cellsOf 9) (List.drop 3 [a,b,c,d,e])=[.string s]:=Z;have U:List.take (Tryz.prog.cellsOf 9) (List.drop 4 [a,b,c,d,e])=[.string u]:=e4;rw[aGz] at K g1 g2;rw[aG0] at g3 U;clear V W Y Z e4;simp only[List.drop,List.take,fY,and_true] at K g1 g2 g3 U;obtain rfl:=K;obtain rfl:=g1;obtain rfl:=g2;obtain rfl:=g3;obtain rfl:=U;clear E t0 t1 t2 t3 t4;subst f0 f1 f2 f3 f4;exact⟨⟨k,o,r,s,u⟩,rfl,by simp[opD],w0,w1⟩
theorem aWj{H:Type}(L:List Stp):L.length<=Rows.uptoBulkAll (L.map (opD (H:=H)))/\∀p∈L,p.s.size<=Rows.uptoBulkAll (L.map (opD (H:=H))):=by
 induction L with
 | nil=>exact⟨aA _,λp z=>by cases z⟩
 | cons q L ih=>
  have e:q.s.data.toList.length=q.s.size:=by rw[fP];rfl
  have E:Rows.uptoBulkAll ((q::L).map (opD (H:=H)))=(1+(1+(1+(q.s.data.toList.length+1+(q.u.data.toList.length+1))))+1)+Rows.uptoBulkAll (L.map (opD (H:=H))):=by
   simp only[cU,opD,Rows.uptoBulkAll,Rows.uptoBulk,oK]
  rw[E,e];refine⟨by simp only[aY];omega,λp z=>?_⟩;rcases cC.1 z with rfl|z
  ·omega
  ·have:=ih.2 p z;omega
theorem xY{x:Int}(h:(Lit.int .i64 x).wf=true):-9223372036854775808<=x/\x<=9223372036854775807:=by
 simp[Lit.wf,IntKind.min,IntKind.max,IntKind.signed,IntKind.bits] at h;omega
theorem aTn(b o j k:Nat):((⟨b,o,none⟩:Addr).add j).add k=⟨b,o+j+k,none⟩:=by
 have h:∀o n,(⟨b,o,none⟩:Addr).add n=⟨b,o+n,none⟩:=by
  intro o n;unfold Addr.add;split
  ·rename_i h;subst h;rfl
  ·rfl
 rw[h,h]
theorem aPb{H:Type}{enc:TypeId×Value->H}{W:World}{U:Nat->Bool}{held:Bool}{a0:Option Addr}{len cap:Nat}{d:DataW H}{ps:List MemPlace}
  (h:DataW.Trod enc Tryz.prog W 0 U held 22 (.slice a0 len cap) d ps) (a4:∀x∈ps,x.block<W.heap.size) (hk:Rows.uptoSmall H [d]=true) :
  ∃L:List Stp,len=L.length/\L.length<=1048576/\aQe W a0 L/\∀p∈L,aY3 p.kind p.on p.r p.s p.u:=by
 obtain⟨fuel,hf⟩:=h;have hb:Rows.uptoBulkAll [d]<=1048576:=of_decide_eq_true hk;rcases open_slice Tryz.underlying22 hf with ⟨z,_⟩|⟨a,a9,a8,m,n,D,Pl,z,_,hl,hm,a5,hx,a1⟩
 ·simp[Value.cells] at z;obtain⟨rfl,rfl,rfl⟩:=z;exact⟨[],rfl,by simp,Or.inl rfl,λp J=>by cases J⟩
 ·simp[Value.cells] at z;obtain⟨rfl,rfl,rfl⟩:=z;simp only[Prod.mk.injEq] at hx;obtain⟨rfl,rfl⟩:=hx;have b3:len<=m:=by rw[a5];split<;>omega
  rw[pD] at a1;have:Inhabited Stp:=⟨⟨0,0,0,.empty,.empty⟩⟩
  obtain⟨f,I⟩:=choose_lt (α:=Stp) (n:=len) (p:=λi p=>W.cells? 0 (a.add (i * 5)) 5=some [.int .i64 p.kind,.int .i64 p.on,.int .i64 p.r,.string p.s,.string p.u]/\D i=opD p/\(Lit.int .i64 p.kind).wf=true/\(Lit.int .i64 p.on).wf=true) (λi hi=>by
   obtain⟨b0,h1,h2⟩:=a1 i (by omega);obtain⟨p,rfl,h3,h4,h5⟩:=aZu h2
   exact⟨p,h1,h3,h4,h5⟩)
  have hD:(List.range len).map D=((List.range len).map f).map opD:=by
   rw[fG];refine fQ λi hi=>?_;exact(I i (fL.1 hi)).2.1
  rw[hD] at hb;obtain⟨b1,b2⟩:=aWj (H:=H) ((List.range len).map f);simp only[Rows.uptoBulkAll,Rows.uptoBulk,oK] at hb;have a2:len=((List.range len).map f).length:=by simp
  refine⟨(List.range len).map f,a2,by omega,?_,λp J=>?_⟩
  ·by_cases h0:len=0
   ·left;subst h0;rfl
   right;have K:∀{A:Addr} {v:Value},W.cell? A=some v->A.spot=none:=by
    intro A v h;unfold World.cell? at h;split at h
    ·split at h
     ·cases h
     ·rename_i hs;simpa using hs
    ·cases h
   obtain⟨_,_,a3⟩:=World.cells?_some (I 0 (by omega)).1;have Z:=a3 0 (by omega);have a7:a.spot=none:=by
    have:=K Z;simpa[Addr.add] using this
   obtain⟨bl,E,sp⟩:=a;obtain rfl:sp=none:=a7;refine⟨bl,E,rfl,a4 (.cell bl E) (iU _ (MemPlace.mem_row.2 ⟨0,by rw[pD];omega,by simp⟩)),λi p J=>?_⟩;have hi:i<len:=by
    have:=(aB.1 J).1;simpa using this
   have a6:p=f i:=by
    rw[aP,wZ hi] at J;simpa using J.symm
   subst a6;obtain⟨_,_,Y⟩:=World.cells?_some (I i hi).1;have V:∀k,((⟨bl,E,none⟩:Addr).add (i * 5)).add k=⟨bl,E+i * 5+k,none⟩:=λk=>aTn bl E (i * 5) k;have k0:=Y 0 (by omega);have k1:=Y 1 (by omega);have k2:=Y 2 (by omega);have k3:=Y 3 (by omega);have k4:=Y 4 (by omega);rw[V] at k0 k1 k2 k3 k4;exact⟨k0,k1,k2,k3,k4⟩
  ·have hs:=b2 p J;obtain⟨i,hi,rfl⟩:=aI.1 J;obtain⟨_,_,w1,w2⟩:=I i (fL.1 hi);exact⟨(xY w2).1,(xY w2).2,by omega,(xY w1).1,(xY w1).2⟩
theorem aCg(H:Type)(enc:TypeId×Value->H)(W:World)(U:Nat)(args:Array Value)(Z gs:List (DataW H))(z:List MemPlace)
  (E:∀(j:Nat) t v,Tryz.f4.params[j]?=some t->args[j]?=some v->Value.okWide Tryz.prog W .any U t v)
  (hW:DataW.Whole enc Tryz.prog Tryz.f4.params.toList Rows.recordsSpec.vars false W args.toList Z gs z) (hk:Rows.uptoSmall H (Z++gs)=true) :
  Calls Tryz.prog 4 args W λe K=>∃v,e=.returned v/\Rows.recordsSpec.post enc Tryz.prog Tryz.f4 false true false false W args v K:=by
 have I:=hW;obtain⟨p,q,V,hV,rfl,_,_⟩:=hW;have hA:DataW.TrodAll enc Tryz.prog W 0 (λ_=>true) true Tryz.f4.params.toList args.toList Z p:=V;rw[Tryz.params4] at hA E;obtain⟨v0,d0,rfl,rfl,h0⟩:=trodAll_one hA;obtain⟨rfl,rfl⟩:=trodVars_none hV;obtain⟨a0,len,cap,rfl⟩:=okWide_slice Tryz.underlying22 (E 0 22 v0 rfl rfl);clear V;simp only[cR] at I hk;have Y:∀x∈p,x.block<W.heap.size:=λx hx=>by simpa using I.lt x hx
 have J:∀(K:World),Below W.heap.size W K->DataW.Trod enc Tryz.prog K 0 (λb=>decide (b<W.heap.size)) true 22 (.slice a0 len cap) d0 p:=
  λK hn=>Below.trod aEi (by kernel_rfl) (of_decide_eq_true (by kernel_rfl)) h0 hn Y
 obtain⟨L,rfl,hL,hS,a1⟩:=aPb h0 Y hk;refine(aL8 W a0 cap L hL hS a1).mono λe K ⟨he,hb⟩=>?_;subst he;refine⟨_,rfl,_,_,_,[],p,[],I,?_,?_,rfl,hb.frame _,λh=>by cases h⟩
 ·exact trodAll_mk1 (shut_bool Tryz.underlying4 _)
 ·exact trodAll_mk1 (J _ hb)
theorem aWu(os:Os)(args:Array Value):laidMetH Tryz.prog Rows.recordsUptoRow.laid ((World.doorLaid Tryz.prog 400 os).forCall (λ_ _=>0) ⟨#[],args,[]⟩).memory:=
 laidMetH_of_parts3 (fuel:=8) (laidMet_of_run' 8 (by kernel_rfl) (by kernel_rfl)) (by kernel_rfl) (by kernel_rfl)
theorem aQ0(os:Os){H:Type}(enc:TypeId×Value->H):∃z,DataW.whole enc Tryz.prog ((World.doorLaid Tryz.prog 400 os).forCall (λ_ _=>0) ⟨#[],#[.slice none 0 0],[]⟩).memory Tryz.f4.params.toList Rows.recordsSpec.vars false #[Value.slice none 0 0].toList 8=some ([.nil],[],z):=
 ⟨[],by kernel_rfl⟩
theorem aG2(os:Os)(z:os.Started)(H:Type)(enc:TypeId×Value->H)(F:Stop.Interp):
  ReturnsInHanded {} Tryz.checked os 4 .any ((Rows.OpenSpec.upto Rows.recordsSpec).preRow enc Tryz.prog Tryz.f4 Rows.recordsUptoRow.domain false Rows.recordsUptoRow.laid) (((Rows.OpenSpec.upto Rows.recordsSpec).at F).post enc Tryz.prog Tryz.f4 false true false false):=by
 obtain⟨U,hx⟩:=aQ0 os enc;refine returnsInHanded_of_row (C:=Tryz.checked) (s:=Rows.OpenSpec.upto Rows.recordsSpec) aPk z (by kernel_rfl) Tryz.func4
  (witness_row_atRef (enc:=enc) (C:=Tryz.checked) false (World.doorLaid Tryz.prog 400 os) #[.slice none 0 0] rfl (by kernel_rfl) (by kernel_rfl) (by kernel_rfl)
   (OpenSpec.preRow_of_cond 8 hx (by kernel_rfl) (λk hk=>by cases hk;kernel_rfl) (by kernel_rfl) (aWu os _))) ?_
 intro W J args V Y E K Z _ I _ _ _ _;exact aCg H enc W J args V Y E K Z (I _ rfl)
end Go.Proofs.YtgdfipmdmgkidaaGreatDoor

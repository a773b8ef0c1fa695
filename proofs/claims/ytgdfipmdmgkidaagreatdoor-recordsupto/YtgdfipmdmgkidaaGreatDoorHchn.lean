import Derived.Test.YtgdfipmdmgkidaaGreatDoorTrep
import Derived.Test.YtgdfipmdmgkidaaGreatDoorHhk
import Derived.Test.YtgdfipmdmgkidaaGreatDoorHcme
import Derived.Test.YtgdfipmdmgkidaaGreatDoorHmake
import Derived.Deep.DeepCutAuto
import Derived.Test.YtgdfipmdmgkidaaGreatDoorHset
import Derived.Test.YtgdfipmdmgkidaaGreatDoorPnames
import Derived.Test.YtgdfipmdmgkidaaGreatDoorAl
set_option linter.all false
set_option maxHeartbeats 12800000
set_option maxRecDepth 100000
namespace Go.Proofs.YtgdfipmdmgkidaaGreatDoor
open Go.RowKit
def RD.growAll(D:RD)(Cs:List (ByteArray×fM))(p:Nat):RD:={ D with cells:=D.cells++(eK Cs).map λu=>(u.2.line,p),files:=D.files++(gP Cs).map λx=>(x,p) }
theorem RD.growAll_nil(D:RD)(p:Nat):D.growAll [] p=D:=by simp[RD.growAll,eK,gP]
theorem RD.growAll_app(D:RD)(A B:List (ByteArray×fM))(p:Nat):D.growAll (A++B) p=(D.growAll A p).growAll B p:=by simp[RD.growAll,xC,vN]
theorem RD.ext_grow(D:RD)(Cs:List (ByteArray×fM))(p:Nat):D.Ext (D.growAll Cs p):=⟨⟨[],by simp[RD.growAll]⟩,⟨_,rfl⟩,⟨_,rfl⟩⟩
theorem RD.grow_add{D:RD}{x:ByteArray}{i l:cL}{v:Value}{S:List aU}{p:Nat}:D.growAll [(x,.add i l v S)] p=(D.addFile x p).more (S.map (·.line)) p:=by
 simp[RD.growAll,RD.addFile,RD.more,eK,gP,jS,Function.comp_def]
theorem RD.grow_alt{D:RD}{x:ByteArray}{i:cL}{v:Value}{z:List Hk}{p:Nat}:D.growAll [(x,.alter i v z)] p=D.more ((z.flatMap (·.Br)).map (·.line)) p:=by
 simp[RD.growAll,RD.more,eK,gP,jS,Function.comp_def]
theorem RD.grow_rem{D:RD}{x:ByteArray}{i:cL}{v:Value}{S:List aU}{p:Nat}:D.growAll [(x,.remove i v S)] p=D:=by
 simp[RD.growAll,eK,gP,jS]
theorem eJ.nil(w:World)(t:TypeId)(sz:Nat):eJ w t sz 0 (.slice none 0 0) []:=⟨by simp,none,0,rfl,aA _,.inl ⟨rfl,rfl,rfl⟩⟩
section
variable {e:iA} {own:List ByteArray} {Pa:List PM} {D D':RD} {L:ByteArray->cL->Prop} {s:ByteArray->PL}
theorem aGa{x:ByteArray}(h:(s x).alive=true):(dR s x).isSome=true:=by unfold dR;rw[if_pos h];rfl
theorem aF9{x:ByteArray}(h:(s x).alive=false):dR s x=none:=by unfold dR;rw[h];rfl
theorem aH2(x:ByteArray)(i:cL)(n n':Int)(c:ByteArray×fM)(Y:c.1=x)(r p B:Nat)(R:iD)(rb sb:Nat)(z:RS)(w:World)(hK:kC w rb D' e own Pa D)(hW:WR w B rb D')(hs:sE w sb z)(V:iE e own Pa D L s z.abs)(hl:(s x).S.length<=40000)(hR:D'.repos[r]?=some R)
  (hM:jE (s x) i n (aX R.F x).isSome ((aX R.F x).getD ⟨#[]⟩) c.2 n') (a0:(s x).alive=false->(aX R.F x).isSome=true) (a3:((s x).S.map jO).Nodup) (hn:0<=n) (W:D'.cells.length=e.cb i+n.toNat) (a1:x∈gP [c]->e.fi x i=D'.files.length)
  (hO:(aL (s x).S).length<=10000) (hN:(bM ((aX R.F x).getD ⟨#[]⟩)).length<=10000) (hc:D'.cells.length<=900000) (a2:D'.files.length<=900000) (J:((aX R.F x).getD ⟨#[]⟩).size<=100000) :
  Calls Tryz.prog 204 #[.pointer (some ⟨rb,0,none⟩),.int .i64 r,.pointer (some ⟨sb,0,none⟩),.string x,.int .i64 p] w λq w'=>∃rc:vH,q=.returned (.agg (eC rc).toArray)/\tN e c rc/\OkC w' rc/\WR w' B rb (D'.growAll [c] p)/\hJ w w' rb:=by
 obtain⟨E,c⟩:=c;simp only at Y hM;subst Y
 cases c with
 | add i' l v S=>
  obtain⟨h1,rfl,U,K,-⟩:=hM;have a4:=a0 h1;obtain⟨text,I⟩:=lH.1 a4;rw[I,jZ] at K hN J;have Z:=a1 (sF.2 ⟨_,bE.2 rfl,rfl,_,_,_,_,rfl⟩);refine(aH0 E text r p B R rb sb z w hK hW hs V hl hR (by rw[aF9 h1];rfl) I hN hc a2 J).mono ?_;rintro q w' ⟨v',rfl,g1,g2,g3⟩;refine⟨⟨E,0,fil e E (s E).by_,D'.files.length,v',_,.slice none 0 0,[],.slice none 0 0,[]⟩,rfl,⟨rfl,rfl,by rw[U],Z.symm,?_,rfl,rfl⟩,⟨g1,eJ.nil _ _ _,eJ.nil _ _ _,λh hh=>by cases hh⟩,?_,g3⟩
  ·simp only;rw[K,aIv e i' n hn,W]
  ·rw[RD.grow_add,K,aC4];exact g2
 | remove i' v S=>
  obtain⟨h1,h2,U,K,-⟩:=hM;have al:(s E).by_≠lF:=λhz=>by rw[V.zr E hz] at h1;cases h1
  have hf:aX R.F E=none:=by
   cases h:aX R.F E with
   | none=>rfl
   | some t=>rw[h] at h2;cases h2
  refine(aH3 E r p R rb sb z w hK hs V hl hR (aGa h1) hf al).mono ?_;rintro q w' ⟨v',rfl,g1,g2⟩;refine⟨⟨E,1,e.fi E (s E).by_,0,.slice none 0 0,[],v',_,.slice none 0 0,[]⟩,rfl,⟨rfl,rfl,by simp only;rw[U],by simp only;rw[K],rfl⟩,⟨eJ.nil _ _ _,eJ.own g1,eJ.nil _ _ _,λh hh=>by cases hh⟩,?_,hJ.ofBelow g2 hW.lt⟩;rw[RD.grow_rem];exact hW.below g2
 | alter i' v Hs=>
  obtain⟨h1,h2,U,Q,K,h5,-⟩:=hM;have al:(s E).by_≠lF:=λhz=>by rw[V.zr E hz] at h1;cases h1
  obtain⟨text,I⟩:=lH.1 h2;rw[I,jZ] at K h5 hN J;refine(aH1 E text i n Q Hs r p B R rb sb z w hK hW hs V hl hR (aGa h1) I al a3 K h5 hn W hO hN hc J).mono ?_;rintro q w' ⟨v',Rs,rfl,g1,g2,g3,g4,g5,g6⟩;refine⟨⟨E,2,e.fi E (s E).by_,0,.slice none 0 0,[],.slice none 0 0,[],v',Rs⟩,rfl,⟨rfl,rfl,by simp only;rw[U],rfl,g3,g4⟩,⟨eJ.nil _ _ _,eJ.nil _ _ _,g1,g2⟩,?_,g6⟩;rw[RD.grow_alt];exact g5
theorem WR.far{w w':World}{B rb g:Nat}{D:RD}(h:WR w B rb D)(I:w.grownBy w' (some g))(J:¬ xB w rb g):WR w' B rb D:=by
 obtain⟨pv,cv,U,sv,z,h1,h2,V,W⟩:=h.wb
 have k:∀{i:Nat} {v:Value} {sz n:Nat} {t:TypeId} {E:List Value},w.cell? ⟨rb,i,none⟩=some v->w.ownsRow B t sz v n E->w'.ownsRow B t sz v n E:=λ{i v sz n t E} hi Z=>Z.kept I (by
  cases Y:v.ownBlock with
  | none=>exact .inl rfl
  | some b=>exact .inr λK=>J (.inr ⟨i,v,hi,by rw[Y];exact K⟩))
 exact⟨h.lo,⟨pv,cv,U,sv,by rw[I.block rb (lt_of_block z) (λe=>J (.inl (fZ e).symm))];exact z,k (i:=0) (by simp[World.cell?,z]) h1,k (i:=1) (by simp[World.cell?,z]) h2,k (i:=2) (by simp[World.cell?,z]) V,k (i:=3) (by simp[World.cell?,z]) W⟩⟩
theorem hJ.far{K w w':World}{B rb g:Nat}{D:RD}(h:hJ K w rb)(hr:WR w B rb D)(z:w.grownBy w' (some g))(I:¬ xB w rb g)(Z:K.heap.size<=g):hJ K w' rb/\∀k,xB w' rb k->xB w rb k:=by
 obtain⟨pv,cv,fv,sv,V,-⟩:=hr.wb;have J:w'.heap[rb]?=w.heap[rb]?:=z.block rb (lt_of_block V) (λe=>I (.inl (fZ e).symm));have U:∀k,xB w' rb k->xB w rb k:=λk E=>by
  rcases E with rfl|⟨i,v,W,Y⟩
  ·exact .inl rfl
  ·exact .inr ⟨i,v,by rw[<- W];exact(bN J i).symm,Y⟩
 exact⟨⟨z.os.trans h.os,z.tape.trans h.tape,z.output.trans h.output,aR h.size z.size,λk E I=>(z.block k (bJ E h.size) (λe=>by have:=fZ e;omega)).trans (h.keep k E I),λk E=>h.mt k (U k E)⟩,U⟩
theorem OkC.held2{T:TypeId->Prop}{w w':World}{c:vH}(h:OkC w c)(z:bU T w w')(t1:T 3)(t2:T 273)(I:T 269):OkC w' c:=⟨h.1.held z t1,h.2.1.held z t2,h.2.2.1.held z I,λx E=>⟨(h.2.2.2 x E).1.held z t2,(h.2.2.2 x E).2.held z t1⟩⟩
theorem Tryz.info265:(Tryz.prog.info? 265).map (λi=>(i.zero,i.size,i.bytes))=some (some (.agg #[.string ⟨#[]⟩,.int .i64 0,.int .i64 0,.int .i64 0,.slice none 0 0,.slice none 0 0,.slice none 0 0]),7,112):=by kernel_rfl
theorem bBz:EI 193 265 7 112:=by
 obtain⟨i,h1,h2,z,E⟩:=info_parts Tryz.info265;exact⟨i,_,by kernel_rfl,h1,h2,z,E,rfl,by decide⟩
end
section
variable {e:iA} {own:List ByteArray} {Pa:List PM} {D:RD} {s:ByteArray->PL}
theorem tS(f:ByteArray->Option ByteArray)(s:ByteArray->PL)(x:ByteArray):aPp (f x) (dR s x)=!cZ f s x:=by
 unfold aPp cZ oN jJ dR
 cases E:f x with
 | none=>cases z:(s x).alive<;>simp
 | some t=>cases z:(s x).alive<;>simp
theorem aI0(f:ByteArray->Option ByteArray)(s:ByteArray->PL)(A B:List ByteArray):cO f s (A++B)=cO f s A++cO f s B:=by simp[cO]
theorem aFm{f:ByteArray->Option ByteArray}{s:ByteArray->PL}{L:List ByteArray}{k:Nat}{x:ByteArray}(h:L[k]?=some x):cO f s (L.take (k+1))=cO f s (L.take k)++(if cZ f s x=true then [oN f x] else []):=by
 have E:=(aB.1 h).1;rw[aF E,aI0,(aB.1 h).2]
 cases z:cZ f s x<;>simp[cO,z]
theorem aWm{f:ByteArray->Option ByteArray}{s:ByteArray->PL}{L:List ByteArray}{k:Nat}{x:ByteArray}(h:L[k]?=some x)(E:cZ f s x=true):(cO f s L)[(cO f s (L.take k)).length]?=some (oN f x):=by
 have I:=(aB.1 h).1;have z:cO f s L=cO f s (L.take (k+1))++cO f s (L.drop (k+1)):=by rw[<- aI0,bV]
 rw[z,aFm h,if_pos E,bG,bH (aA _),jQ];rfl
structure PtI (e:iA) (w wr:World) (B rb pb:Nat) (D:RD) (idt:ByteArray) (Cs:List (ByteArray×fM)) (p:Nat) (cv:Value) (Rs:List vH):Prop where
 fr:hJ w wr rb
 wr_:WR wr B rb (D.growAll Cs p)
 pb_:wr.heap[pb]?=some (.cells #[.string idt,cv] 195 (0,0))
 nm:¬ xB wr rb pb
 row:wr.ownsRow w.heap.size 265 7 cv Rs.length (Rs.flatMap eC)
 ok:∀r∈Rs,OkC wr r
 len:Rs.length=Cs.length
 rel:∀(j:Nat) (c:ByteArray×fM) (r:vH),Cs[j]?=some c->Rs[j]?=some r->tN e c r
theorem PtI.below{w wr w':World}{B rb pb:Nat}{E:ByteArray}{Cs:List (ByteArray×fM)}{p:Nat}{cv:Value}{I:List vH}(h:PtI e w wr B rb pb D E Cs p cv I)(z:Below wr.heap.size wr w'):PtI e w w' B rb pb D E Cs p cv I:=by
 have J:=hJ.ofBelow z h.wr_.lt;exact⟨h.fr.trans J,h.wr_.below z,(z.block _ (lt_of_block h.pb_)).trans h.pb_,λK=>(J.mt _ K).elim h.nm λV=>by have:=lt_of_block h.pb_;omega,bQ h.row z (aA _),λr U=>(h.ok r U).below z,h.len,h.rel⟩
theorem PtI.more{w wr w5 U I:World}{B rb pb g cap:Nat}{K:ByteArray}{Cs:List (ByteArray×fM)}{c:ByteArray×fM}{p:Nat}{cv:Value}{J:List vH}{rc:vH}{o:Obj}(h:PtI e w wr B rb pb D K Cs p cv J)(b2:w.heap.size<=pb)
  (hr:tN e c rc) (z:OkC w5 rc) (hw:WR w5 B rb ((D.growAll Cs p).growAll [c] p)) (hf:hJ wr w5 rb) (Y:Below w5.heap.size w5 U)
  (Z:(U.alloc o).grownBy I cv.ownBlock) (ho:I.ownsRow w.heap.size 265 7 (.slice (some ⟨g,0,none⟩) (J.length+1) cap) (J.length+1) (J.flatMap eC++eC rc)) :
  PtI e w (I.setCell ⟨pb,1,none⟩ (.slice (some ⟨g,0,none⟩) (J.length+1) cap)) B rb pb D K (Cs++[c]) p (.slice (some ⟨g,0,none⟩) (J.length+1) cap) (J++[rc])/\I.heap[pb]?=some (.cells #[.string K,cv] 195 (0,0)):=by
 have Z:=iH Z;have a9:=lt_of_block h.pb_;have V:=hf.trans (hJ.ofBelow Y hw.lt);have a0:=hw.below Y;have hh:=V.held h.wr_;have p6:U.heap[pb]?=some (.cells #[.string K,cv] 195 (0,0)):=(V.keep pb a9 h.nm).trans h.pb_;have a3:¬ xB U rb pb:=λhm=>(V.mt _ hm).elim h.nm λW=>by omega
 have a4:U.ownsRow w.heap.size 265 7 cv J.length (J.flatMap eC):=lR h.row λk z=>hh.keep k 265 (dI h.row z) (by simp[cE]);have E:∀k,cv.ownBlock=some k->w.heap.size<=k/\TB U k 265:=λk z=>⟨(h.row.lt k z).1,dI a4 z⟩;have p9:I.heap[pb]?=some (.cells #[.string K,cv] 195 (0,0)):=(Z.block pb (lt_of_block p6) (λe9=>(E pb e9.symm).2.ne ⟨_,_,p6⟩ (by decide) rfl)).trans p6;have a6:hJ w I rb:=(h.fr.trans V).grown a0 Z λk z=>⟨(E k z).1,265,(E k z).2,by simp[cE]⟩;have b3:hJ U I rb\/True:=.inr trivial;have a5:WR I B rb ((D.growAll Cs p).growAll [c] p):=a0.grown Z λk z=>⟨265,(E k z).2,by simp[cE]⟩;have a1:¬ xB I rb pb:=λhm=>by
  obtain⟨pv,b4,fv,sv,h0,-⟩:=a0.wb;have b1:I.heap[rb]?=U.heap[rb]?:=Z.block rb (lt_of_block h0) (λe9=>(E rb e9.symm).2.ne ⟨_,_,h0⟩ (by decide) rfl);rcases hm with W|⟨i,v,h4,h5⟩
  ·exact a3 (.inl W)
  ·exact a3 (.inr ⟨i,v,by rw[<- h4];exact(bN b1 i).symm,h5⟩)
 have gs:=gY I pb 1 (.slice (some ⟨g,0,none⟩) (J.length+1) cap);obtain⟨a7,mA⟩:=a6.far a5 gs a1 b2;have a2:bU (λt=>t=3\/t=273\/t=269) U (I.setCell ⟨pb,1,none⟩ (.slice (some ⟨g,0,none⟩) (J.length+1) cap)):=by
  refine bU.grown (bU.grown (bU.refl U) Z λk z=>.inr ⟨265,(E k z).2,by decide⟩) gs λk z=>?_
  cases z
  exact .inr ⟨195,⟨_,_,p9⟩,by decide⟩
 refine⟨⟨a7,?_,heap_setCell_same I pb 1 _ 195 _ p9,λhm=>a1 (mA _ hm),?_,λr hr=>?_,by simp[h.len],λj c' r' a8 b0=>?_⟩,p9⟩
 ·rw[RD.growAll_app];exact a5.far gs a1
 ·have:=gO ho p9 (o:=1) (u:=.slice (some ⟨g,0,none⟩) (J.length+1) cap) (by decide);simpa using this
 ·rcases aG.1 hr with W|W
  ·exact((h.ok r W).held (hh.mono λ_=>xV)).held2 a2 (by decide) (by decide) (by decide)
  ·rw[bE] at W;subst W;exact(z.below Y).held2 a2 (by decide) (by decide) (by decide)
 ·rcases qO a8 with ⟨h1,h2⟩|⟨h1,h2⟩<;>rcases qO b0 with ⟨h3,h4⟩|⟨h3,h4⟩
  ·exact h.rel j c' r' h1 h3
  ·have:=h.len;omega
  ·have:=h.len;omega
  ·rw[h2,h4];exact hr
theorem aAl:∀Cs:List (ByteArray×fM),(gP Cs).length<=Cs.length
 | []=>by simp[gP]
 | c::Cs=>by
  have z:gP (c::Cs)=gP [c]++gP Cs:=vN [c] Cs;have h1:=aAl Cs;have h2:(gP [c]).length<=1:=by
   unfold gP;simp only[bL,aD5,cR];split<;>simp
  rw[z,aJ,aY];omega
theorem PtI.seen{w wr:World}{B rb pb:Nat}{I:ByteArray}{Cs:List (ByteArray×fM)}{p:Nat}{cv:Value}{K:List vH}(h:PtI e w wr B rb pb D I Cs p cv K)(U:WO w B rb D)(z:kC w rb D e own Pa D)(E:∀u∈eK Cs,0<u.2.line.size/\u.2.line.size<=1000)(Y:D.files.length<=100000)(W:Cs.length<=1000):kC wr rb (D.growAll Cs p) e own Pa D/\WO wr B rb (D.growAll Cs p):=by
 have J:=h.wr_.wo U h.fr rfl rfl;refine⟨⟨J.view,z.rel,RD.ext_grow D Cs p,z.chs,?_,λk l q V=>?_,z.rps⟩,J⟩
 ·have:(gP Cs).length<=Cs.length:=aAl Cs;simp only[RD.growAll,aJ,aT];omega
 ·rcases sH (show (D.cells++(eK Cs).map λu=>(u.2.line,p))[k]?=some (l,q) from V) with ⟨h1,-⟩|⟨n,-,h1⟩
  ·exact z.ln k l q h1
  ·rw[aP] at h1
   cases h2:(eK Cs)[n]? with
   | none=>rw[h2] at h1;cases h1
   | some u=>
    rw[h2] at h1;simp only[jH,cJ,Prod.mk.injEq] at h1;rw[<- h1.1];exact E u (aD h2)
theorem aA7(i:cL)(E:ByteArray)(L:List ByteArray)(Cs:List (ByteArray×fM))(m:Nat->Int)(r B rb:Nat)(R:iD)(Ps:List PM)(v:Value)(w:World)
  (hO:WO w B rb D) (Z:kC w rb D e own Pa D) (hR:Rpo Pa D r R Ps s) (hE:aCx e D i Cs) (hM:dG s i (cO (aX R.F) s L) Cs m) (hv:eJ w 9 1 L.length v (bW L))
  (hL:L.length<=1000) (o5:D.pts.length<=1000) (hc:D.cells.length<=100000) (e0:D.files.length<=100000) (m0:(eK Cs).length<=100000) (j4:∀u∈eK Cs,0<u.2.line.size/\u.2.line.size<=1000)
  (hx:∀x∈L,(aL (s x).S).length<=1000/\(bM ((aX R.F x).getD ⟨#[]⟩)).length<=100/\((aX R.F x).getD ⟨#[]⟩).size<=10000) :
  Calls Tryz.prog 146 #[.pointer (some ⟨rb,0,none⟩),.int .i64 r,.string E,v] w λq w'=>q=.returned (.int .i64 D.pts.length)/\∃P:RPt,P.id=E/\P.chs.length=Cs.length/\(∀(j:Nat) (c:ByteArray×fM) (rc:vH),Cs[j]?=some c->P.chs[j]?=some rc->tN e c rc)/\WO w' B rb (D.plus P Cs)/\hJ w w' rb:=by
 have g0:=aO (oP r R Ps rb w Z hR (by omega));have o6:=(aB.1 hR.at_).1;have c0:=hR.hs.rows;have a8:=hR.hs.hist.good.1;have i9:=hR.at_;have d6:=aO Z;have HO:=aO hO;have HM:=aO hM;have HE:=aO hE;have HV:=aO hv;have HX:=aO hx;have f6:=aO j4;have k8:=aO a8;have g9:=aO c0;have f5:=aO i9;have o4:Cs.length<=L.length:=by
  rw[hM.len];unfold cO;rw[aT];exact dZ _ _
 obtain⟨-,va,vc,rfl,-,-⟩:=id hv;obtain⟨pts,b9⟩:∃n,D.pts.length=n:=⟨_,rfl⟩;have g6:=aO b9;rw[b9];have m9:=hO.wr.lt;have g4:Hid (∀u,Below w.heap.size w u->∃pa pc,u.cell? ⟨rb,0,none⟩=some (.slice pa pts pc)):=λu hu=>by
  obtain⟨ao,cap,h1,-⟩:=(d6.out.below hu).wv.pts_;rw[g6.out] at h1;exact⟨ao,cap,h1⟩
 clear hO Z hR hE hM hv hx j4 a8 c0 i9 b9;go_enter Tryz.func146,Tryz.ntmps146
 go_wp2_with (go_at_call 140;refine g0.out.mono ?_;rintro q J ⟨sb,z,rfl,k2,hS,a0⟩;obtain⟨pa,pc,p0⟩:=g4.out J a0)
 have a2:Below J.heap.size J (J.alloc (.cells #[.string E,.slice none 0 0] 195)):=(Below.refl _ _).alloc (aA _) _;have e4:=(aH J (.cells #[.string E,.slice none 0 0] 195)).1;have I:=aO (HO.out.below a0);have a6:=aO (d6.out.below a0);have h5:=aO k2.view;have h4:=aO hS;have l5:=aO (HV.out.below a0);have k5:=aO a0;have f9:Hid (PtI e J (J.alloc (.cells #[.string E,.slice none 0 0] 195)) B rb J.heap.size D E [] pts (.slice none 0 0) []):=
  ⟨hJ.ofBelow a2 I.out.wr.lt,by rw[RD.growAll_nil];exact I.out.wr.below a2,e4,λhm=>by
   rcases(hJ.ofBelow a2 I.out.wr.lt).mt _ hm with h9|h9
   ·have:=(I.out.wr.muts h9).2.1;omega
   ·have:=lt_of_block e4;have:=(I.out.wr.below a2).muts hm;rcases hm with h8|⟨i8,v8,h8,h7⟩
    ·have:=I.out.wr.lt;omega
    ·have h6:J.cell? ⟨rb,i8,none⟩=some v8:=by rw[<- h8];exact(bN (a2.block rb I.out.wr.lt) i8).symm
     have:=(I.out.wr.muts (.inr ⟨i8,v8,h6,h7⟩)).2.1
     omega,aK _ _ _ _,λr hr=>(by cases hr),rfl,λj c r hc hr=>(by cases hr)⟩
 clear k2 hS a0 g0 g4 p0 e4 a2 HO d6 HV
 go_loopw [12] (λxi wr=>∃(k:Nat) (cv:Value) (K:List vH),k<=L.length/\xi=.int .i64 k/\Hid (PtI e J wr B rb J.heap.size D E (Cs.take (cO (aX R.F) s (L.take k)).length) pts cv K)) (λxi _=>L.length - (intOf xi).toNat)
 case atStart=>exact⟨0,.slice none 0 0,[],aE _,rfl,f9⟩
 case round=>
  clear f9;obtain⟨k,cv,K,hk,rfl,HI⟩:=hrel;by_cases m6:k<L.length
  ·obtain⟨x,a3⟩:∃x,L[k]?=some x:=⟨_,aC m6⟩;obtain⟨j,hj⟩:∃j,(cO (aX R.F) s (L.take k)).length=j:=⟨_,rfl⟩;have a4:=aO (aFm (f:=aX R.F) (s:=s) a3);have o0:=aD a3;obtain⟨x1,x2,x3⟩:=HX.out x o0
   have HT:∀u∈eK (Cs.take j),0<u.2.line.size/\u.2.line.size<=1000:=λu hu=>f6.out u (by
    rw[<- bV j Cs,xC]
    exact aG.2 (.inl hu))
   rw[hj] at HI;have c9:(Cs.take j).length<=1000:=by rw[bR];omega
   have f4:=(l5.out.held (HI.out.fr.held I.out.wr) (by simp[cE]));obtain⟨lb,lo,e5,c2⟩:∃lb lo,va=some ⟨lb,lo,none⟩/\∀u,Below wr.heap.size wr u->u.cell? ⟨lb,lo+k,none⟩=some (.string x):=by
    obtain⟨_,_,e5,-,m2⟩:=f4.at_
    cases e5
    obtain⟨b7,o7,e6,h8,m1⟩:=m2 (by omega);refine⟨b7,o7,e6,λu hu=>?_⟩;rw[bN (hu.block b7 h8) _];exact m1 k _ (by unfold bW;rw[aP,a3];rfl)
   subst e5;have k6:=aO c2;have c1:=c2 wr (Below.refl _ _);have c4:Hid (Calls Tryz.prog 145 #[.pointer (some ⟨rb,0,none⟩),.int .i64 r,.pointer (some ⟨sb,0,none⟩),.string x] wr λq w'=>q=.returned (.bool (!cZ (aX R.F) s x))/\Below wr.heap.size wr w'):=by
    have:=aDr (x:=x) r R rb sb z wr (HI.out.seen I.out a6.out HT e0 c9).1 f5.out (h5.out.held (HI.out.fr.held I.out.wr)) h4.out (g9.out x);rw[tS] at this;exact this
   cases hd:cZ (aX R.F) s x with
   | false=>
    rw[hd] at c4 a4;have d5:Hid ((cO (aX R.F) s (L.take (k+1))).length=j):=by unfold Hid;rw[a4.out];simpa using hj
    clear hd f4 a3 a4
    go_wp2_with (go_at_call 145;refine c4.out.mono ?_;rintro q w3 ⟨rfl,a1⟩)
    go_roundw
    case rel=>exact⟨k+1,cv,K,by omega,by go_num,by rw[d5.out];exact HI.out.below a1⟩
    case measure=>simp[intOf];omega
   | true=>
    have c7:=aWm (f:=aX R.F) (s:=s) a3 hd;rw[hj] at c7;have e3:j<Cs.length:=by rw[HM.out.len];exact(aB.1 c7).1
    obtain⟨c,c6⟩:∃c,Cs[j]?=some c:=⟨_,aC e3⟩;obtain⟨j5,j8⟩:=HM.out.at_ j _ c c7 c6;obtain⟨j9,-⟩:=HM.out.to j (by omega);have d3:c.1=x:=j5;have d4:jE (s x) i (m j) (aX R.F x).isSome ((aX R.F x).getD ⟨#[]⟩) c.2 (m (j+1)):=j8;have d1:x∈gP [c]->e.fi x i=(D.growAll (Cs.take j) pts).files.length:=λn0=>by
     have e1:gP Cs=gP (Cs.take j)++(gP [c]++gP (Cs.drop (j+1))):=by
      rw[<- vN,<- vN];congr 1;rw[<- bV j Cs];congr 1
      ·simp
      ·rw[bV,bO e3,(aB.1 c6).2];rfl
     have e2:gP [c]=[x]:=by
      obtain⟨d,j6,m4,i',l,v',S,m5⟩:=sF.1 n0;rw[bE] at j6;subst j6;unfold gP;simp only[bL,aD5,cR];rw[m5];simp[m4]
     have:=HE.out.fi (gP (Cs.take j)).length x (by rw[e1,e2,bH (aA _),jQ];rfl);rw[this];simp[RD.growAll]
    have i7:(s x).alive=false->(aX R.F x).isSome=true:=λha=>by
     cases hf:aX R.F x with
     | some t=>rfl
     | none=>
      have:=tS (aX R.F) s x;rw[hd,hf,aF9 ha] at this;simp[aPp] at this
    have d5:Hid ((cO (aX R.F) s (L.take (k+1))).length=j+1):=by unfold Hid;rw[a4.out,hd];simp[hj]
    have l0:Hid (Cs.take (j+1)=Cs.take j++[c]):=by unfold Hid;rw[aF e3,(aB.1 c6).2]
    have l9:(eK (Cs.take j)).length<=100000:=by
     have:eK Cs=eK (Cs.take j)++eK (Cs.drop j):=by rw[<- xC,bV]
     rw[this,aJ] at m0;omega
    have l8:(gP (Cs.take j)).length<=1000:=aR (aAl _) c9;have k7:Hid (∀u,Below wr.heap.size wr u->Calls Tryz.prog 204 #[.pointer (some ⟨rb,0,none⟩),.int .i64 r,.pointer (some ⟨sb,0,none⟩),.string x,.int .i64 pts] u λq w'=>∃rc:vH,q=.returned (.agg (eC rc).toArray)/\tN e c rc/\OkC w' rc/\WR w' B rb ((D.growAll (Cs.take j) pts).growAll [c] pts)/\hJ u w' rb):=λu hu=>by
     have V:=HI.out.below hu
     exact aH2 x i (m j) (m (j+1)) c d3 r pts B R rb sb z u (V.seen I.out a6.out HT e0 c9).1 V.wr_ (h5.out.held (V.fr.held I.out.wr)) h4.out (g9.out x) f5.out d4 i7 (k8.out x).nd (by omega) (by
      rw[HE.out.cb,j9]
      simp[RD.growAll]) d1 (by omega) (by omega) (by simp only[RD.growAll,aJ,aT];omega) (by simp only[RD.growAll,aJ,aT];omega) (by omega)
    have g5:Hid (∀u u',Below wr.heap.size wr u->hJ u u' rb->(∀o,(u'.alloc o).cell? ⟨J.heap.size,1,none⟩=some cv)/\Hid (∀o,(u'.alloc o).ownsRow J.heap.size 265 7 cv K.length (K.flatMap eC))/\J.heap.size<=u'.heap.size):=λu u' hu hf=>by
     have V:=HI.out.below hu;have h1:u'.heap[J.heap.size]?=some (.cells #[.string E,cv] 195 (0,0)):=(hf.keep _ (lt_of_block V.pb_) V.nm).trans V.pb_;have h2:u'.cell? ⟨J.heap.size,1,none⟩=some cv:=by simp[World.cell?,h1]
     have hh:=hf.held V.wr_;have h3:u'.ownsRow J.heap.size 265 7 cv K.length (K.flatMap eC):=lR V.row λk hk=>hh.keep k 265 (dI V.row hk) (by simp[cE]);exact⟨λo=>bP o h2,λo=>h3.alloc o,iT (lt_of_block h1)⟩
    rw[hd] at c4;have l7:K.length<=1000:=by rw[HI.out.len];exact c9
    clear hd f4 a3 a4 c7 c6 j5 j8 d3 d4 d1 i7 j9 l9 l8
    go_wp2_with (first|(go_at_call 145;refine c4.out.mono ?_;rintro q w3 ⟨rfl,a1⟩;have c3:=k6.out w3 a1)|(go_at_call 204;refine(k7.out _ a1).mono ?_;rintro q w5 ⟨rc,rfl,k1,e8,k3,d9⟩;obtain⟨n1,n2,n3,n4,n5,n6,n7,n8,n9,k4⟩:=rc;have k0:=e8;obtain⟨⟨-,a5,p5,e5,-⟩,⟨-,a7,p7,e7,-⟩,⟨-,a9,p9,e9,-⟩,-⟩:=k0;dsimp only at e5 e7 e9;subst e5 e7 e9;dsimp only[eC];have d0:=aO e8;have g7:=aO k1;have i4:=aO k3;have f7:=aO d9;obtain⟨t5,g8,o2⟩:=g5.out w3 w5 a1 d9;clear e8 k1 k3 d9)|(at_builtin;refine jA bBz _ rfl _ _ rfl J.heap.size cv K.length (K.flatMap eC) rfl (g8.out _) #[.string n1,.int .i64 n2,.int .i64 n3,.int .i64 n4,.slice a5 n6.length p5,.slice a7 n8.length p7,.slice a9 k4.length p9] (by simp;rfl) rfl (by simp[Value.oneCell']) (by omega) (by decide) (by simp;omega) ?_))
    intro g cap w9 b6 j7 j0 d8;have j3:Below w5.heap.size w5 (w5.alloc (.cells #[.string n1,.int .i64 n2,.int .i64 n3,.int .i64 n4,.slice a5 n6.length p5,.slice a7 n8.length p7,.slice a9 k4.length p9] 265)):=(Below.refl _ _).alloc (aA _) _;obtain⟨i6,f3⟩:=PtI.more (HI.out.below a1) (aA _) g7.out d0.out i4.out f7.out j3 j7 b6;have k9:=aO i6;have v1:w9.cell? ⟨J.heap.size,1,none⟩=some cv:=by simp[World.cell?,f3]
    have v2:=eG f3 1;clear j3 i6 f3 b6 j7 j0 d8 t5 g8 d0 g7 i4 f7 g5 c1 c2;go_wp2
    go_roundw
    case rel=>exact⟨k+1,_,_,by omega,by go_num,by rw[d5.out,l0.out];exact k9⟩
    case measure=>simp[intOf];omega
  ·obtain rfl:k=L.length:=by omega
   have Y:Hid (PtI e J wr.drew B rb J.heap.size D E Cs pts cv K):=by
    have h1:=HI.out.below (Below.refl _ _).drew;rw[bD,<- HM.out.len,bD] at h1;exact h1
   clear HI;obtain⟨pv,o3,fv,sv,b0,b1,b2,b3,b4⟩:=Y.out.wr_.wb;obtain⟨ca,cc,m3⟩:=bC Y.out.row;subst m3;have m7:pv.ownBlock≠some J.heap.size:=λe9=>Y.out.nm (.inr ⟨0,pv,by simp[World.cell?,b0],e9⟩);have W:Hid (wr.drew.cell? ⟨rb,0,none⟩=some pv/\wr.drew.cell? ⟨J.heap.size,0,none⟩=some (.string E)/\wr.drew.cell? ⟨J.heap.size,1,none⟩=some (.slice ca K.length cc)):=⟨by simp[World.cell?,b0],by simp[World.cell?,Y.out.pb_],by simp[World.cell?,Y.out.pb_]⟩;have o1:=aO b1;have l7:K.length<=1000:=by rw[Y.out.len];omega
   have m8:D.pts.length<=1000000:=by omega
   go_wp2_with fail
   refine dF (λw'=>w'.cell? ⟨rb,0,none⟩=some pv/\w'.cell? ⟨J.heap.size,0,none⟩=some (.string E)/\w'.cell? ⟨J.heap.size,1,none⟩=some (.slice ca K.length cc)) 10 (by kernel_rfl) ?_;refine zt 0 (v:=?vA0) W.out (λw0 U=>?hy) ?_
   case hy=>obtain⟨s1,s2,s3⟩:=U;go_simp;with_reducible rfl
   simp only[Act.put,aW];refine zt 1 (v:=?vA1) W.out (λw0 U=>?hy) ?_
   case hy=>obtain⟨s1,s2,s3⟩:=U;go_simp;with_reducible rfl
   simp only[Act.put];refine zt 2 (v:=?vA2) W.out (λw0 U=>?hy) ?_
   case hy=>obtain⟨s1,s2,s3⟩:=U;go_simp;with_reducible rfl
   simp only[Act.put];refine zt 3 (v:=?vA3) W.out (λw0 U=>?hy) ?_
   case hy=>obtain⟨s1,s2,s3⟩:=U;go_simp;with_reducible rfl
   simp only[Act.put];refine zt 4 (v:=?vA4) W.out (λw0 U=>?hy) ?_
   case hy=>obtain⟨s1,s2,s3⟩:=U;go_simp;with_reducible rfl
   simp only[Act.put];refine zt 5 (v:=?vA5) W.out (λw0 U=>?hy) ?_
   case hy=>obtain⟨s1,s2,s3⟩:=U;go_simp;with_reducible rfl
   simp only[Act.put];refine bT 6 _ rfl (by kernel_rfl) (λKK Z=>?_);go_simp;refine Z.out _ _ (λ_=>⟨bP _ W.out.1,bP _ W.out.2.1,bP _ W.out.2.2⟩) ?_;clear Z;refine bT 7 _ rfl (by kernel_rfl) (λKK Z=>?_);refine xU bAl wr.drew _ (by rfl) _ _ (by rfl) B pv D.pts.length (D.pts.flatMap eP) (by rfl) ?own #[.string E,.slice ca K.length cc] (.inl rfl) (by rfl) (by rfl) (by simp[Value.oneCell']) m8 (by decide) ?bas ?_
   case own=>exact b1
   case bas=>exact aR Y.out.wr_.lo (iT Y.out.wr_.lt)
   intro g cap w6 b5 c8 d2 d7;rw[aQk] at c8;obtain⟨q1,q2,q3⟩:=WR.put_pt (P:=⟨E,.slice ca K.length cc,K⟩) Y.out.wr_.lo b0 b1 b2 b3 b4 c8 b5 d2;have b8:w6.heap[J.heap.size]?=some (.cells #[.string E,.slice ca K.length cc] 195 (0,0)):=((iH c8).block _ (lt_of_block Y.out.pb_) (λe9=>m7 e9.symm)).trans Y.out.pb_;have c5:w6.cell? ⟨rb,0,none⟩=some pv/\w6.cell? ⟨J.heap.size,0,none⟩=some (.string E)/\w6.cell? ⟨J.heap.size,1,none⟩=some (.slice ca K.length cc):=⟨by simp[World.cell?,q3],by simp[World.cell?,b8],by simp[World.cell?,b8]⟩;have f8:Hid (∃P:RPt,P.id=E/\P.chs.length=Cs.length/\(∀(j:Nat) (c:ByteArray×fM) (rc:vH),Cs[j]?=some c->P.chs[j]?=some rc->tN e c rc)/\WO (w6.setCell ⟨rb,0,none⟩ (.slice (some ⟨g,0,none⟩) (D.pts.length+1) cap)) B rb (D.plus P Cs)/\hJ w (w6.setCell ⟨rb,0,none⟩ (.slice (some ⟨g,0,none⟩) (D.pts.length+1) cap)) rb):=by
    have hh:=q2.held Y.out.wr_;have i5:=(Y.out.seen I.out a6.out f6.out e0 (by omega)).2;have ep:(D.growAll Cs pts).addPt ⟨E,.slice ca K.length cc,K⟩=D.plus ⟨E,.slice ca K.length cc,K⟩ Cs:=by
     simp only[RD.addPt,RD.growAll,RD.plus,g6.out]
    refine⟨⟨E,.slice ca K.length cc,K⟩,rfl,Y.out.len,Y.out.rel,⟨by rw[<- ep];exact q1,λP hP=>?_,λR' l6=>(i5.okr R' l6).still hh⟩,(hJ.ofBelow k5.out m9).trans (Y.out.fr.trans q2)⟩;rcases aG.1 (show P∈D.pts++[_] from hP) with h9|h9
    ·exact(i5.ok P h9).still hh
    ·rw[bE] at h9;subst h9;exact⟨eJ.held (eJ.own Y.out.row) hh (by simp[cE]),λc hc=>(Y.out.ok c hc).held (hh.mono λ_=>xV)⟩
   have v1:=c5.1;have v2:=eG q3 0;refine Z.out _ _ (λ_=>c5) ?_;clear Z b5 c8 d2 d7 q1 q2 q3 b8 b0 b1 b2 b3 b4;have h0:=aO c5;clear c5;refine bT 8 _ rfl (by kernel_rfl) (λKK Z=>?_);go_simp;refine Z.out _ _ (λ_=>h0.out) ?_;clear Z;refine bT 9 _ rfl (by kernel_rfl) (λKK Z=>?_);go_simp;refine Z.out _ _ (λ_=>h0.out) ?_;clear Z;refine bT 10 _ rfl (by kernel_rfl) (λKK Z=>?_);go_simp;refine Z.out _ _ (λh=>absurd rfl h) ?_;clear Z;refine fJ (by kernel_rfl) ?_ _;go_wp2;go_ret;exact⟨rfl,f8.out⟩
end
theorem aBd{t e:TypeId}{sz mI:Nat}(hE:EI t e sz mI)(w:World){a4:Array Oper}{o:Oper}{a:Act}{K:Act->World->Prop}{Q:Exit->Act->World->Prop}{E:Prop}(a2:o.guard=none)(s x:Operand)
  (ho:o.op=.call { callee:=.builtin .append,args:=#[s,x],argTypes:=#[t,t] })
  (I:Nat) (hs:a.eval s=.slice none 0 0) (v2:Value) (m:Nat) (Z:List Value) (hx:a.eval x=v2) (a3:eJ w e sz m v2 Z) (h1:∀u∈Z,u.oneCell'=true)
  (hm:m<=1000000) (a0:mI<=1000) (J:I<=w.heap.size)
  (h:∀V Y W w',w'.ownsRow I e sz (.slice V Y W) m Z->Below w.heap.size w w'->K (a.put o.dst (.slice V Y W)) w'):if Region.wanted o (yielded a4 a.tmps)=true then Oper.wp Tryz.prog o a w K Q else E:=by
 obtain⟨i,z,e1,e2,e3,e4,e5,e6,e7⟩:=hE;obtain⟨hl,ao,cap,rfl,hc,hv⟩:=a3;have hb:(0+m) * mI<=140737488355328:=by
  have:(0+m) * mI<=1000000 * 1000:=aKe (by omega) a0;omega
 refine vA a2 s x t ho I e i z sz mI e1 e2 e3 e4 e5 e6 e7 (.slice none 0 0) 0 [] hs (aK _ _ _ _) ao m cap Z hx hl ?_ h1 (by unfold maxLen;omega) hb J ?_
 ·rcases hv with ⟨-,h0,-⟩|⟨b,a5,rfl,-,a1⟩
  ·exact .inl h0
  ·exact .inr ⟨_,rfl,λj u hj=>by rw[aEo];exact a1 j u hj⟩
 ·intro V Y W w' h2 U;rw[dC,cY] at h2;exact h V Y W w' h2 ⟨U.os,U.tape,U.output,U.size,λk hk=>U.block k hk (by simp[Value.ownBlock])⟩
theorem Tryz.info205:(Tryz.prog.info? 205).map (λi=>(i.zero,i.size,i.bytes))=some (some (.agg #[.slice none 0 0,.slice none 0 0,.slice none 0 0]),3,72):=by kernel_rfl
theorem bBy:EI 187 205 3 72:=by
 obtain⟨i0,hi,z,E,I⟩:=info_parts Tryz.info205;exact⟨i0,_,by kernel_rfl,hi,z,E,I,rfl,by decide⟩
theorem eJ.one{w:World}{t:TypeId}{sz n:Nat}{v:Value}{z:List Value}(h:eJ w t sz n v z):v.oneCell'=true:=by
 obtain⟨-,a,c,rfl,-⟩:=h;rfl
theorem bA7{w:World}{L:List RPt}(h:∀p∈L,OkP w p):∀u∈L.flatMap eP,u.oneCell'=true:=λu z=>by
 obtain⟨p,E,z⟩:=dD.1 z;simp only[cC,fN,or_false] at z;rcases z with rfl|rfl
 ·rfl
 ·exact(h p E).1.one
theorem aXs(L:List (ByteArray×Nat)):∀u∈L.flatMap eL,u.oneCell'=true:=λu z=>by
 obtain⟨p,E,z⟩:=dD.1 z;simp only[cC,fN,or_false] at z;rcases z with rfl|rfl<;>rfl
theorem bA8{w:World}{L:List iD}(h:∀p∈L,OkR w p):∀u∈L.flatMap eR,u.oneCell'=true:=λu z=>by
 obtain⟨p,E,z⟩:=dD.1 z;simp only[cC,fN,or_false] at z;rcases z with rfl|rfl|rfl
 ·exact(h p E).1.one
 ·exact(h p E).2.1.one
 ·exact(h p E).2.2.one
theorem mY{w:World}{g:Nat}{a b c d:Value}{t:TypeId}{f:Nat×Nat}(h:w.heap[g]?=some (.cells #[a,b,c,d] t f)):w.cell? ⟨g,0,none⟩=some a/\w.cell? ⟨g,1,none⟩=some b/\w.cell? ⟨g,2,none⟩=some c/\w.cell? ⟨g,3,none⟩=some d:=by
 refine⟨?_,?_,?_,?_⟩<;>simp[World.cell?,h]
theorem aKs(B rb:Nat)(D:RD)(w:World)(h:WO w B rb D)(l1:D.pts.length<=1000000)(l2:D.cells.length<=1000000)(l3:D.files.length<=1000000)(l4:D.repos.length<=1000000):
  Calls Tryz.prog 160 #[.pointer (some ⟨rb,0,none⟩)] w λq w'=>∃nb,q=.returned (.pointer (some ⟨nb,0,none⟩))/\WO w' w.heap.size nb D/\w.heap.size<=nb/\Below w.heap.size w w':=by
 obtain⟨pv,cv,fv,sv,h0,h1,h2,h3,h4⟩:=h.wr.wb;have HO:=aO h;have d8:=h.wr.lt;have HP:=aO (eJ.own h1);have HC:=aO (eJ.own h2);have HF:=aO (eJ.own h3);have HR:=aO (eJ.own h4);have H0:=aO h0;have b6:Below w.heap.size w (w.alloc (.cells #[.slice none 0 0,.slice none 0 0,.slice none 0 0,.slice none 0 0] 192)):=(Below.refl _ _).alloc (aA _) _;have c6:=(aH w (.cells #[.slice none 0 0,.slice none 0 0,.slice none 0 0,.slice none 0 0] 192)).1;clear h h0 h1 h2 h3 h4;go_enter Tryz.func160,Tryz.ntmps160
 go_wp2_with fail
 generalize w.alloc (.cells #[.slice none 0 0,.slice none 0 0,.slice none 0 0,.slice none 0 0] 192)=wa at *;have e3:=aO b6;have e8:=aO c6;clear b6 c6;have d9:w.heap.size<wa.heap.size:=lt_of_block e8.out;have I:Hid (wa.drew.cell? ⟨w.heap.size,0,none⟩=some (.slice none 0 0)/\wa.drew.cell? ⟨rb,0,none⟩=some pv):=by
  obtain⟨a0,a1,a2,a3⟩:=mY (((Below.refl wa.heap.size wa).drew.block _ d9).trans e8.out);obtain⟨b0,b1,b2,b3⟩:=mY (((e3.out.drew).block rb d8).trans H0.out);exact⟨a0,b0⟩
 refine dF (λw'=>w'.cell? ⟨w.heap.size,0,none⟩=some (.slice none 0 0)/\w'.cell? ⟨rb,0,none⟩=some pv) 12 (by kernel_rfl) ?_;refine zt 0 (v:=?v0A0) I.out (λW z=>?hy) ?_
 case hy=>obtain⟨s1,V⟩:=z;go_simp;with_reducible rfl
 simp only[Act.put,aW];refine zt 1 (v:=?v0A1) I.out (λW z=>?hy) ?_
 case hy=>obtain⟨s1,V⟩:=z;go_simp;with_reducible rfl
 simp only[Act.put];refine zt 2 (v:=?v0A2) I.out (λW z=>?hy) ?_
 case hy=>obtain⟨s1,V⟩:=z;go_simp;with_reducible rfl
 simp only[Act.put];refine zt 3 (v:=?v0A3) I.out (λW z=>?hy) ?_
 case hy=>obtain⟨s1,V⟩:=z;go_simp;with_reducible rfl
 simp only[Act.put];refine zt 4 (v:=?v0A4) I.out (λW z=>?hy) ?_
 case hy=>obtain⟨s1,V⟩:=z;go_simp;with_reducible rfl
 simp only[Act.put];refine zt 5 (v:=?v0A5) I.out (λW z=>?hy) ?_
 case hy=>obtain⟨s1,V⟩:=z;go_simp;with_reducible rfl
 simp only[Act.put];refine zt 6 (v:=?v0A6) I.out (λW z=>?hy) ?_
 case hy=>obtain⟨s1,V⟩:=z;go_simp;with_reducible rfl
 simp only[Act.put];refine zt 7 (v:=?v0A7) I.out (λW z=>?hy) ?_
 case hy=>obtain⟨s1,V⟩:=z;go_simp;with_reducible rfl
 simp only[Act.put];refine zt 8 (v:=?v0A8) I.out (λW z=>?hy) ?_
 case hy=>obtain⟨s1,V⟩:=z;go_simp;with_reducible rfl
 simp only[Act.put];refine bT 9 _ rfl (by kernel_rfl) (λKK E=>?_);refine aBd bAl wa.drew (by rfl) _ _ (by rfl) (w.heap.size+1) (by go_simp) pv D.pts.length (D.pts.flatMap eP) (by go_simp) (HP.out.below e3.out.drew) (bA7 HO.out.ok) l1 (by decide) (by show _<=wa.heap.size;omega) ?_;intro Y a4 Z d0 g5 d6;have d7:=(d6.block w.heap.size (by show _<wa.heap.size;omega)).trans (((Below.refl wa.heap.size wa).drew.block _ d9).trans e8.out);have d2:Hid (d0.cell? ⟨w.heap.size,0,none⟩=some (.slice none 0 0)/\d0.cell? ⟨rb,0,none⟩=some pv):=
  ⟨(bN (d6.block w.heap.size (by show _<wa.heap.size;omega)) 0).trans I.out.1,(bN (d6.block rb (by show _<wa.heap.size;omega)) 0).trans I.out.2⟩
 refine E.out _ _ (λ_=>d2.out) ?_;clear E;have f0:=eG d7 0;have c0:=d2.out.1;have e9:Hid ((d0.setCell ⟨w.heap.size,0,none⟩ (.slice Y a4 Z)).heap[w.heap.size]?=some (.cells #[.slice Y a4 Z,.slice none 0 0,.slice none 0 0,.slice none 0 0] 192 (0,0))):=heap_setCell_same d0 w.heap.size 0 _ 192 _ d7;have e4:Hid (Below w.heap.size w (d0.setCell ⟨w.heap.size,0,none⟩ (.slice Y a4 Z))):=(e3.out.drew.trans (d6.mono (by show _<=wa.heap.size;omega))).setCell (p:=⟨w.heap.size,0,none⟩) (aA _) _;have h5:Hid ((d0.setCell ⟨w.heap.size,0,none⟩ (.slice Y a4 Z)).ownsRow (w.heap.size+1) 195 2 (.slice Y a4 Z) D.pts.length (D.pts.flatMap eP)):=gO g5 d7 (by decide);clear g5 d6 d7 I;refine bT 10 _ rfl (by kernel_rfl) (λKK E=>?_);go_simp;refine E.out _ _ (λ_=>d2.out) ?_;clear E;refine bT 11 _ rfl (by kernel_rfl) (λKK E=>?_);go_simp;refine E.out _ _ (λ_=>d2.out) ?_;clear E;refine bT 12 _ rfl (by kernel_rfl) (λKK E=>?_);go_simp;refine E.out _ _ (λh=>absurd rfl h) ?_;clear E;refine fJ (by kernel_rfl) ?_ _;clear d2 f0 c0;generalize d0.setCell ⟨w.heap.size,0,none⟩ (.slice Y a4 Z)=ws0 at *
 go_wp2_with fail
 have e0:w.heap.size<ws0.heap.size:=lt_of_block e9.out;have J:Hid (ws0.drew.cell? ⟨w.heap.size,1,none⟩=some (.slice none 0 0)/\ws0.drew.cell? ⟨rb,1,none⟩=some cv):=by
  obtain⟨a0,a1,a2,a3⟩:=mY (((Below.refl ws0.heap.size ws0).drew.block _ e0).trans e9.out);obtain⟨b0,b1,b2,b3⟩:=mY (((e4.out.drew).block rb d8).trans H0.out);exact⟨a1,b1⟩
 refine dF (λw'=>w'.cell? ⟨w.heap.size,1,none⟩=some (.slice none 0 0)/\w'.cell? ⟨rb,1,none⟩=some cv) 12 (by kernel_rfl) ?_;refine zt 0 (v:=?v1A0) J.out (λW z=>?hy) ?_
 case hy=>obtain⟨s1,V⟩:=z;go_simp;with_reducible rfl
 simp only[Act.put,aW];refine zt 1 (v:=?v1A1) J.out (λW z=>?hy) ?_
 case hy=>obtain⟨s1,V⟩:=z;go_simp;with_reducible rfl
 simp only[Act.put];refine zt 2 (v:=?v1A2) J.out (λW z=>?hy) ?_
 case hy=>obtain⟨s1,V⟩:=z;go_simp;with_reducible rfl
 simp only[Act.put];refine zt 3 (v:=?v1A3) J.out (λW z=>?hy) ?_
 case hy=>obtain⟨s1,V⟩:=z;go_simp;with_reducible rfl
 simp only[Act.put];refine zt 4 (v:=?v1A4) J.out (λW z=>?hy) ?_
 case hy=>obtain⟨s1,V⟩:=z;go_simp;with_reducible rfl
 simp only[Act.put];refine zt 5 (v:=?v1A5) J.out (λW z=>?hy) ?_
 case hy=>obtain⟨s1,V⟩:=z;go_simp;with_reducible rfl
 simp only[Act.put];refine zt 6 (v:=?v1A6) J.out (λW z=>?hy) ?_
 case hy=>obtain⟨s1,V⟩:=z;go_simp;with_reducible rfl
 simp only[Act.put];refine zt 7 (v:=?v1A7) J.out (λW z=>?hy) ?_
 case hy=>obtain⟨s1,V⟩:=z;go_simp;with_reducible rfl
 simp only[Act.put];refine zt 8 (v:=?v1A8) J.out (λW z=>?hy) ?_
 case hy=>obtain⟨s1,V⟩:=z;go_simp;with_reducible rfl
 simp only[Act.put];refine bT 9 _ rfl (by kernel_rfl) (λKK E=>?_);refine aBd bAm ws0.drew (by rfl) _ _ (by rfl) (w.heap.size+1) (by go_simp) cv D.cells.length (D.cells.flatMap eL) (by go_simp) (HC.out.below e4.out.drew) (aXs _) l2 (by decide) (by show _<=ws0.heap.size;omega) ?_;intro a5 a7 a6 c7 g6 b6;have c6:=(b6.block w.heap.size (by show _<ws0.heap.size;omega)).trans (((Below.refl ws0.heap.size ws0).drew.block _ e0).trans e9.out);have d3:Hid (c7.cell? ⟨w.heap.size,1,none⟩=some (.slice none 0 0)/\c7.cell? ⟨rb,1,none⟩=some cv):=
  ⟨(bN (b6.block w.heap.size (by show _<ws0.heap.size;omega)) 1).trans J.out.1,(bN (b6.block rb (by show _<ws0.heap.size;omega)) 1).trans J.out.2⟩
 refine E.out _ _ (λ_=>d3.out) ?_;clear E;have f1:=eG c6 1;have c1:=d3.out.1;have f4:Hid ((c7.setCell ⟨w.heap.size,1,none⟩ (.slice a5 a7 a6)).heap[w.heap.size]?=some (.cells #[.slice Y a4 Z,.slice a5 a7 a6,.slice none 0 0,.slice none 0 0] 192 (0,0))):=heap_setCell_same c7 w.heap.size 1 _ 192 _ c6;have e5:Hid (Below w.heap.size w (c7.setCell ⟨w.heap.size,1,none⟩ (.slice a5 a7 a6))):=(e4.out.drew.trans (b6.mono (by show _<=ws0.heap.size;omega))).setCell (p:=⟨w.heap.size,1,none⟩) (aA _) _;have h6:Hid ((c7.setCell ⟨w.heap.size,1,none⟩ (.slice a5 a7 a6)).ownsRow (w.heap.size+1) 255 2 (.slice a5 a7 a6) D.cells.length (D.cells.flatMap eL)):=gO g6 c6 (by decide);have f6:Hid ((c7.setCell ⟨w.heap.size,1,none⟩ (.slice a5 a7 a6)).ownsRow (w.heap.size+1) 195 2 (.slice Y a4 Z) D.pts.length (D.pts.flatMap eP)):=gO (bQ h5.out (((Below.refl ws0.heap.size ws0).drew).trans b6) (aA _)) c6 (by decide);clear g6 b6 c6 J;refine bT 10 _ rfl (by kernel_rfl) (λKK E=>?_);go_simp;refine E.out _ _ (λ_=>d3.out) ?_;clear E;refine bT 11 _ rfl (by kernel_rfl) (λKK E=>?_);go_simp;refine E.out _ _ (λ_=>d3.out) ?_;clear E;refine bT 12 _ rfl (by kernel_rfl) (λKK E=>?_);go_simp;refine E.out _ _ (λh=>absurd rfl h) ?_;clear E;refine fJ (by kernel_rfl) ?_ _;clear d3 f1 c1;generalize c7.setCell ⟨w.heap.size,1,none⟩ (.slice a5 a7 a6)=ws1 at *
 go_wp2_with fail
 have e1:w.heap.size<ws1.heap.size:=lt_of_block f4.out;have K:Hid (ws1.drew.cell? ⟨w.heap.size,2,none⟩=some (.slice none 0 0)/\ws1.drew.cell? ⟨rb,2,none⟩=some fv):=by
  obtain⟨a0,a1,a2,a3⟩:=mY (((Below.refl ws1.heap.size ws1).drew.block _ e1).trans f4.out);obtain⟨b0,b1,b2,b3⟩:=mY (((e5.out.drew).block rb d8).trans H0.out);exact⟨a2,b2⟩
 refine dF (λw'=>w'.cell? ⟨w.heap.size,2,none⟩=some (.slice none 0 0)/\w'.cell? ⟨rb,2,none⟩=some fv) 12 (by kernel_rfl) ?_;refine zt 0 (v:=?v2A0) K.out (λW z=>?hy) ?_
 case hy=>obtain⟨s1,V⟩:=z;go_simp;with_reducible rfl
 simp only[Act.put,aW];refine zt 1 (v:=?v2A1) K.out (λW z=>?hy) ?_
 case hy=>obtain⟨s1,V⟩:=z;go_simp;with_reducible rfl
 simp only[Act.put];refine zt 2 (v:=?v2A2) K.out (λW z=>?hy) ?_
 case hy=>obtain⟨s1,V⟩:=z;go_simp;with_reducible rfl
 simp only[Act.put];refine zt 3 (v:=?v2A3) K.out (λW z=>?hy) ?_
 case hy=>obtain⟨s1,V⟩:=z;go_simp;with_reducible rfl
 simp only[Act.put];refine zt 4 (v:=?v2A4) K.out (λW z=>?hy) ?_
 case hy=>obtain⟨s1,V⟩:=z;go_simp;with_reducible rfl
 simp only[Act.put];refine zt 5 (v:=?v2A5) K.out (λW z=>?hy) ?_
 case hy=>obtain⟨s1,V⟩:=z;go_simp;with_reducible rfl
 simp only[Act.put];refine zt 6 (v:=?v2A6) K.out (λW z=>?hy) ?_
 case hy=>obtain⟨s1,V⟩:=z;go_simp;with_reducible rfl
 simp only[Act.put];refine zt 7 (v:=?v2A7) K.out (λW z=>?hy) ?_
 case hy=>obtain⟨s1,V⟩:=z;go_simp;with_reducible rfl
 simp only[Act.put];refine zt 8 (v:=?v2A8) K.out (λW z=>?hy) ?_
 case hy=>obtain⟨s1,V⟩:=z;go_simp;with_reducible rfl
 simp only[Act.put];refine bT 9 _ rfl (by kernel_rfl) (λKK E=>?_);refine aBd bAn ws1.drew (by rfl) _ _ (by rfl) (w.heap.size+1) (by go_simp) fv D.files.length (D.files.flatMap eL) (by go_simp) (HF.out.below e5.out.drew) (aXs _) l3 (by decide) (by show _<=ws1.heap.size;omega) ?_;intro a8 b4 a9 c4 g7 c8;have d1:=(c8.block w.heap.size (by show _<ws1.heap.size;omega)).trans (((Below.refl ws1.heap.size ws1).drew.block _ e1).trans f4.out);have d4:Hid (c4.cell? ⟨w.heap.size,2,none⟩=some (.slice none 0 0)/\c4.cell? ⟨rb,2,none⟩=some fv):=
  ⟨(bN (c8.block w.heap.size (by show _<ws1.heap.size;omega)) 2).trans K.out.1,(bN (c8.block rb (by show _<ws1.heap.size;omega)) 2).trans K.out.2⟩
 refine E.out _ _ (λ_=>d4.out) ?_;clear E;have f2:=eG d1 2;have c2:=d4.out.1;have f5:Hid ((c4.setCell ⟨w.heap.size,2,none⟩ (.slice a8 b4 a9)).heap[w.heap.size]?=some (.cells #[.slice Y a4 Z,.slice a5 a7 a6,.slice a8 b4 a9,.slice none 0 0] 192 (0,0))):=heap_setCell_same c4 w.heap.size 2 _ 192 _ d1;have e6:Hid (Below w.heap.size w (c4.setCell ⟨w.heap.size,2,none⟩ (.slice a8 b4 a9))):=(e5.out.drew.trans (c8.mono (by show _<=ws1.heap.size;omega))).setCell (p:=⟨w.heap.size,2,none⟩) (aA _) _;have h7:Hid ((c4.setCell ⟨w.heap.size,2,none⟩ (.slice a8 b4 a9)).ownsRow (w.heap.size+1) 261 2 (.slice a8 b4 a9) D.files.length (D.files.flatMap eL)):=gO g7 d1 (by decide);have f7:Hid ((c4.setCell ⟨w.heap.size,2,none⟩ (.slice a8 b4 a9)).ownsRow (w.heap.size+1) 195 2 (.slice Y a4 Z) D.pts.length (D.pts.flatMap eP)):=gO (bQ f6.out (((Below.refl ws1.heap.size ws1).drew).trans c8) (aA _)) d1 (by decide);have f9:Hid ((c4.setCell ⟨w.heap.size,2,none⟩ (.slice a8 b4 a9)).ownsRow (w.heap.size+1) 255 2 (.slice a5 a7 a6) D.cells.length (D.cells.flatMap eL)):=gO (bQ h6.out (((Below.refl ws1.heap.size ws1).drew).trans c8) (aA _)) d1 (by decide);clear g7 c8 d1 K;refine bT 10 _ rfl (by kernel_rfl) (λKK E=>?_);go_simp;refine E.out _ _ (λ_=>d4.out) ?_;clear E;refine bT 11 _ rfl (by kernel_rfl) (λKK E=>?_);go_simp;refine E.out _ _ (λ_=>d4.out) ?_;clear E;refine bT 12 _ rfl (by kernel_rfl) (λKK E=>?_);go_simp;refine E.out _ _ (λh=>absurd rfl h) ?_;clear E;refine fJ (by kernel_rfl) ?_ _;clear d4 f2 c2;generalize c4.setCell ⟨w.heap.size,2,none⟩ (.slice a8 b4 a9)=ws2 at *
 go_wp2_with fail
 have e2:w.heap.size<ws2.heap.size:=lt_of_block f5.out;have U:Hid (ws2.drew.cell? ⟨w.heap.size,3,none⟩=some (.slice none 0 0)/\ws2.drew.cell? ⟨rb,3,none⟩=some sv):=by
  obtain⟨a0,a1,a2,a3⟩:=mY (((Below.refl ws2.heap.size ws2).drew.block _ e2).trans f5.out);obtain⟨b0,b1,b2,b3⟩:=mY (((e6.out.drew).block rb d8).trans H0.out);exact⟨a3,b3⟩
 refine dF (λw'=>w'.cell? ⟨w.heap.size,3,none⟩=some (.slice none 0 0)/\w'.cell? ⟨rb,3,none⟩=some sv) 12 (by kernel_rfl) ?_;refine zt 0 (v:=?v3A0) U.out (λW z=>?hy) ?_
 case hy=>obtain⟨s1,V⟩:=z;go_simp;with_reducible rfl
 simp only[Act.put,aW];refine zt 1 (v:=?v3A1) U.out (λW z=>?hy) ?_
 case hy=>obtain⟨s1,V⟩:=z;go_simp;with_reducible rfl
 simp only[Act.put];refine zt 2 (v:=?v3A2) U.out (λW z=>?hy) ?_
 case hy=>obtain⟨s1,V⟩:=z;go_simp;with_reducible rfl
 simp only[Act.put];refine zt 3 (v:=?v3A3) U.out (λW z=>?hy) ?_
 case hy=>obtain⟨s1,V⟩:=z;go_simp;with_reducible rfl
 simp only[Act.put];refine zt 4 (v:=?v3A4) U.out (λW z=>?hy) ?_
 case hy=>obtain⟨s1,V⟩:=z;go_simp;with_reducible rfl
 simp only[Act.put];refine zt 5 (v:=?v3A5) U.out (λW z=>?hy) ?_
 case hy=>obtain⟨s1,V⟩:=z;go_simp;with_reducible rfl
 simp only[Act.put];refine zt 6 (v:=?v3A6) U.out (λW z=>?hy) ?_
 case hy=>obtain⟨s1,V⟩:=z;go_simp;with_reducible rfl
 simp only[Act.put];refine zt 7 (v:=?v3A7) U.out (λW z=>?hy) ?_
 case hy=>obtain⟨s1,V⟩:=z;go_simp;with_reducible rfl
 simp only[Act.put];refine zt 8 (v:=?v3A8) U.out (λW z=>?hy) ?_
 case hy=>obtain⟨s1,V⟩:=z;go_simp;with_reducible rfl
 simp only[Act.put];refine bT 9 _ rfl (by kernel_rfl) (λKK E=>?_);refine aBd bBy ws2.drew (by rfl) _ _ (by rfl) (w.heap.size+1) (by go_simp) sv D.repos.length (D.repos.flatMap eR) (by go_simp) (HR.out.below e6.out.drew) (bA8 HO.out.okr) l4 (by decide) (by show _<=ws2.heap.size;omega) ?_;intro b7 b9 b8 b5 g8 c5;have c9:=(c5.block w.heap.size (by show _<ws2.heap.size;omega)).trans (((Below.refl ws2.heap.size ws2).drew.block _ e2).trans f5.out);have d5:Hid (b5.cell? ⟨w.heap.size,3,none⟩=some (.slice none 0 0)/\b5.cell? ⟨rb,3,none⟩=some sv):=
  ⟨(bN (c5.block w.heap.size (by show _<ws2.heap.size;omega)) 3).trans U.out.1,(bN (c5.block rb (by show _<ws2.heap.size;omega)) 3).trans U.out.2⟩
 refine E.out _ _ (λ_=>d5.out) ?_;clear E;have f3:=eG c9 3;have c3:=d5.out.1;have g9:Hid ((b5.setCell ⟨w.heap.size,3,none⟩ (.slice b7 b9 b8)).heap[w.heap.size]?=some (.cells #[.slice Y a4 Z,.slice a5 a7 a6,.slice a8 b4 a9,.slice b7 b9 b8] 192 (0,0))):=heap_setCell_same b5 w.heap.size 3 _ 192 _ c9;have e7:Hid (Below w.heap.size w (b5.setCell ⟨w.heap.size,3,none⟩ (.slice b7 b9 b8))):=(e6.out.drew.trans (c5.mono (by show _<=ws2.heap.size;omega))).setCell (p:=⟨w.heap.size,3,none⟩) (aA _) _;have h8:Hid ((b5.setCell ⟨w.heap.size,3,none⟩ (.slice b7 b9 b8)).ownsRow (w.heap.size+1) 205 3 (.slice b7 b9 b8) D.repos.length (D.repos.flatMap eR)):=gO g8 c9 (by decide);have f8:Hid ((b5.setCell ⟨w.heap.size,3,none⟩ (.slice b7 b9 b8)).ownsRow (w.heap.size+1) 195 2 (.slice Y a4 Z) D.pts.length (D.pts.flatMap eP)):=gO (bQ f7.out (((Below.refl ws2.heap.size ws2).drew).trans c5) (aA _)) c9 (by decide);have g0:Hid ((b5.setCell ⟨w.heap.size,3,none⟩ (.slice b7 b9 b8)).ownsRow (w.heap.size+1) 255 2 (.slice a5 a7 a6) D.cells.length (D.cells.flatMap eL)):=gO (bQ f9.out (((Below.refl ws2.heap.size ws2).drew).trans c5) (aA _)) c9 (by decide);have g4:Hid ((b5.setCell ⟨w.heap.size,3,none⟩ (.slice b7 b9 b8)).ownsRow (w.heap.size+1) 261 2 (.slice a8 b4 a9) D.files.length (D.files.flatMap eL)):=gO (bQ h7.out (((Below.refl ws2.heap.size ws2).drew).trans c5) (aA _)) c9 (by decide);clear g8 c5 c9 U;refine bT 10 _ rfl (by kernel_rfl) (λKK E=>?_);go_simp;refine E.out _ _ (λ_=>d5.out) ?_;clear E;refine bT 11 _ rfl (by kernel_rfl) (λKK E=>?_);go_simp;refine E.out _ _ (λ_=>d5.out) ?_;clear E;refine bT 12 _ rfl (by kernel_rfl) (λKK E=>?_);go_simp;refine E.out _ _ (λh=>absurd rfl h) ?_;clear E;refine fJ (by kernel_rfl) ?_ _;clear d5 f3 c3;generalize b5.setCell ⟨w.heap.size,3,none⟩ (.slice b7 b9 b8)=ws3 at *;go_wp2;go_ret;refine⟨w.heap.size,rfl,⟨⟨aA _,_,_,_,_,g9.out,bK f8.out (by omega),bK g0.out (by omega),bK g4.out (by omega),bK h8.out (by omega)⟩,λp hp=>(HO.out.ok p hp).below e7.out,λp hp=>(HO.out.okr p hp).below e7.out⟩,aA _,e7.out⟩
end Go.Proofs.YtgdfipmdmgkidaaGreatDoor

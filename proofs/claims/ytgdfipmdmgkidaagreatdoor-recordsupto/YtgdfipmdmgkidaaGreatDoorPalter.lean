import Derived.Test.YtgdfipmdmgkidaaGreatDoorPtell
import Derived.Test.YtgdfipmdmgkidaaGreatDoorProwc
import Derived.Test.YtgdfipmdmgkidaaGreatDoorAl
set_option linter.all false
set_option maxHeartbeats 6400000
set_option maxRecDepth 100000
namespace Go.Proofs.YtgdfipmdmgkidaaGreatDoor
open Go.RowKit
structure Hk where
 nv:Value
 bv:Value
 N:List aU
 Br:List aU
def HV(w:World)(v:Value)(Hs:List Hk):Prop:=∃ao cap,v=.slice ao Hs.length cap/\∀(k:Nat) (h:Hk),Hs[k]?=some h->∃b o,ao=some ⟨b,o,none⟩/\TB w b 327/\w.cell? ⟨b,o+k * 2,none⟩=some h.nv/\w.cell? ⟨b,o+k * 2+1,none⟩=some h.bv/\SV w h.nv h.N/\SV w h.bv h.Br
theorem HV.below{w w':World}{v:Value}{I:List Hk}(h:HV w v I){B:Nat}(z:Below B w w')(E:w.heap.size<=B):HV w' v I:=by
 obtain⟨J,cap,rfl,W⟩:=h;refine⟨J,cap,rfl,λk r Y=>?_⟩;obtain⟨b,o,e,h1,h2,K,U,V⟩:=W k r Y;have Z:=h1.lt;exact⟨b,o,e,h1.below z E,(z.cell (p:=⟨b,o+k * 2,none⟩) (by simp;omega)).trans h2,(z.cell (p:=⟨b,o+k * 2+1,none⟩) (by simp;omega)).trans K,U.below z E,V.below z E⟩
structure aWb (f:Nat->List aU) (Hs:List Hk):Prop where
 step:∀(k:Nat) (h:Hk),Hs[k]?=some h->∃t p,h.N[0]?=some t/\rY (f k) t=some p/\p+h.N.length<=(f k).length/\2<=h.N.length/\f (k+1)=mV (f k) h.N h.Br p
 small:∀(k:Nat) (h:Hk),Hs[k]?=some h->(f k).length+h.N.length+h.Br.length<=300000
 last:2<=(f Hs.length).length/\(f Hs.length).length<=300000
theorem SV.far{w w':World}{v:Value}{S:List aU}{g:Nat}{c:Array Value}{t:TypeId}{W:Nat×Nat}(h:SV w v S)(Z:w.heap[g]?=some (.cells c t W))(Y:t≠313)(V:w.heap.size<=w'.heap.size)(U:∀k,k<w.heap.size->k≠g->w'.heap[k]?=w.heap[k]?):SV w' v S:=by
 rcases h with h|⟨b,o,cap,rfl,E,J,K⟩
 ·exact .inl h
 ·have I:b≠g:=by
   rintro rfl;obtain⟨A,f2,z⟩:=J;rw[Z] at z;simp only[cJ,Obj.cells.injEq] at z;exact Y z.2.1
  exact .inr ⟨b,o,cap,rfl,E,J.same (U b J.lt I),λj u hj=>(bN (U b J.lt I) _).trans (K j u hj)⟩
structure iN (g:Nat) (w w':World):Prop where
 size:w'.heap.size=w.heap.size
 block:∀k,k≠g->w'.heap[k]?=w.heap[k]?
 os:w'.os=w.os
 tape:w'.tape=w.tape
 output:w'.output=w.output
theorem iN.trans{g:Nat}{a b c:World}(h:iN g a b)(k:iN g b c):iN g a c:=
 ⟨k.size.trans h.size,λi hi=>(k.block i hi).trans (h.block i hi),k.os.trans h.os,k.tape.trans h.tape,k.output.trans h.output⟩
theorem iN.set(w:World)(g o:Nat)(u:Value):iN g w (w.setCell ⟨g,o,none⟩ u):=
 ⟨by simp[World.setCell],λk z=>Below.heap_setCell _ _ _ _ z,rfl,rfl,rfl⟩
theorem iN.drew(w:World)(g:Nat):iN g w w.drew:=⟨rfl,λ_ _=>rfl,rfl,rfl,rfl⟩
theorem bCe(c:Array Value)(V:c.size=6)(z E I J K U:Value):(((((c.setIfInBounds 0 z).setIfInBounds 1 E).setIfInBounds 2 I).setIfInBounds 3 J).setIfInBounds 4 K).setIfInBounds 5 U=#[z,E,I,J,K,U]:=by
 obtain⟨l⟩:=c
 match l,V with
 | [y0,y1,y2,y3,y4,y5],_=>simp
theorem aTd(w E I J K U V W:World)(g:Nat)(c:Array Value)(hc:c.size=6)(Y Z x2 x3 x4 x5:Value)(hg:w.heap[g]?=some (.cells c 185 (0,0)))
  (e1:E=w.setCell ⟨g,0,none⟩ Y) (e2:I=E.setCell ⟨g,1,none⟩ Z) (e3:J=I.setCell ⟨g,2,none⟩ x2) (e4:K=J.setCell ⟨g,3,none⟩ x3) (e5:U=K.setCell ⟨g,4,none⟩ x4) (e6:V=U.setCell ⟨g,5,none⟩ x5) (e9:W=V.drew) :
  W.heap[g]?=some (.cells #[Y,Z,x2,x3,x4,x5] 185 (0,0))/\iN g w W:=by
 have g1:=heap_setCell_same w g 0 _ 185 Y hg;have o1:=iN.set w g 0 Y;rw[<- e1] at g1 o1;have g2:=heap_setCell_same E g 1 _ 185 Z g1;have o2:=o1.trans (iN.set E g 1 Z);rw[<- e2] at g2 o2;have g3:=heap_setCell_same I g 2 _ 185 x2 g2;have o3:=o2.trans (iN.set I g 2 x2);rw[<- e3] at g3 o3;have g4:=heap_setCell_same J g 3 _ 185 x3 g3;have o4:=o3.trans (iN.set J g 3 x3);rw[<- e4] at g4 o4;have g5:=heap_setCell_same K g 4 _ 185 x4 g4;have o5:=o4.trans (iN.set K g 4 x4);rw[<- e5] at g5 o5;have z:=heap_setCell_same U g 5 _ 185 x5 g5;have o6:=o5.trans (iN.set U g 5 x5);rw[<- e6] at z o6;have o9:=o6.trans (iN.drew V g);rw[<- e9] at o9;rw[bCe c hc] at z;have e:W.heap=V.heap:=by rw[e9];rfl
 rw[<- e] at z;exact⟨z,o9⟩
theorem nQ(w:World){E:World}(x y z:Obj)(h:E=((w.alloc x).alloc y).alloc z):Below w.heap.size w E/\E.heap.size=w.heap.size+3/\E.heap[w.heap.size]?=some x/\E.heap[w.heap.size+1+1]?=some z:=by
 subst h;have I:Below w.heap.size w (w.alloc x):=(Below.refl _ _).alloc (aA _) _;have s1:(w.alloc x).heap.size=w.heap.size+1:=by simp
 have J:((w.alloc x).alloc y).heap.size=w.heap.size+1+1:=by simp
 refine⟨(I.alloc (by omega) _).alloc (by omega) _,by simp,?_,?_⟩
 ·rw[Below.heap_alloc _ _ _ (by omega),Below.heap_alloc _ _ _ (by omega)];exact(aH w x).1
 ·have:=(aH ((w.alloc x).alloc y) z).1;rwa[J] at this
theorem aKk(i:cL)(I:List Hk)(f:Nat->List aU)(S:List aU)(b4:f 0=aM S)(a5:aWb f I)(hv rv:Value)(j:cL)(al:Bool)(w:World)(hh:HV w hv I)(hr:SV w rv S)(hS:S.length<=100000)(e0:I.length<=100000):
  Calls Tryz.prog 350 #[.agg #[.int .u8 i.a,.int .u8 i.b,.int .u8 i.c,.int .u8 i.d,hv],.agg #[.int .u8 j.a,.int .u8 j.b,.int .u8 j.c,.int .u8 j.d,.bool al,rv]] w λe w'=>∃v,e=.returned (.agg #[.int .u8 i.a,.int .u8 i.b,.int .u8 i.c,.int .u8 i.d,.bool true,v])/\SV w' v (cV (f I.length))/\Below w.heap.size w w':=by
 obtain⟨ra,rc,rfl⟩:=hr.shape;have HH:Hid (HV w hv I):=hh;obtain⟨ha,hc,rfl,d2⟩:=hh;clear d2;obtain⟨w3,a6⟩:∃w3,w3=((w.alloc (.cells #[.int .u8 i.a,.int .u8 i.b,.int .u8 i.c,.int .u8 i.d,.slice ha I.length hc] 288)).alloc (.cells #[.int .u8 j.a,.int .u8 j.b,.int .u8 j.c,.int .u8 j.d,.bool al,.slice ra S.length rc] 185)).alloc (.cells #[.int .u8 0,.int .u8 0,.int .u8 0,.int .u8 0,.bool false,.slice none 0 0] 185):=⟨_,rfl⟩;obtain⟨a9,e2,hA,hR⟩:=nQ w _ _ _ a6;have b8:=hr.below a9 (aA _);have HF:Hid (Calls Tryz.prog 248 #[.slice ra S.length rc] w3 λe w'=>∃v,e=.returned v/\w'.ownsRow w3.heap.size 313 7 v (aM S).length (gN (aM S))/\Below w3.heap.size w3 w'):=rX S _ w3 b8 (by omega);go_enter Tryz.func350,Tryz.ntmps350
 go_wp2_with fail
 rw[<- a6];clear a6 hr b8;refine HF.out.mono ?_;rintro e w4 ⟨fv,rfl,b5,Y⟩;clear HF;have Z:=SV.own b5;rw[<- b4] at Z;obtain⟨fa,fc,d3⟩:=Z.shape;clear b5;have a8:w4.heap[w.heap.size]?=_:=(Y.block _ (by omega)).trans hA;have d0:w4.heap[w.heap.size+1+1]?=_:=(Y.block _ (by omega)).trans hR;have d9:w4.cell? ⟨w.heap.size,4,none⟩=some (.slice ha I.length hc):=by simp[World.cell?,a8]
 have e3:=Y.size;subst d3;go_wp2
 go_loopw [5,14] (λv i' wr=>∃k:Nat,k<=I.length/\i'=.int .i64 k/\SV wr v (f k)/\Below w4.heap.size w4 wr) (λ_ i' _=>I.length - (intOf i').toNat)
 case atStart=>exact⟨0,aE _,rfl,by rw[b4] at Z ⊢;exact Z,Below.refl _ _⟩
 case round=>
  obtain⟨k,hk,rfl,J,U⟩:=hrel;have b9:=U.size;have E:Below w.heap.size w wr:=(a9.trans (Y.mono (by omega))).trans (U.mono (by omega));by_cases d6:k<I.length
  ·obtain⟨h,a4⟩:∃h,I[k]?=some h:=⟨_,aC d6⟩;obtain⟨_,_,e1,b3⟩:=HH.out.below E (aA _)
   cases e1
   obtain⟨b,o,rfl,hb,c0,c1,sn,sb⟩:=b3 k h a4;obtain⟨t,p,q1,q2,q3,q4,q5⟩:=a5.step k h a4;have q6:=a5.small k h a4;obtain⟨na,nc,b6⟩:=sn.shape;obtain⟨ba,bc,b1⟩:=sb.shape;rw[b6] at c0 sn;rw[b1] at c1 sb;have K:Below wr.heap.size wr (wr.alloc (.cells #[.slice na h.N.length nc,.slice ba h.Br.length bc] 327)):=(Below.refl _ _).alloc (aA _) _;have e4:(wr.alloc (.cells #[.slice na h.N.length nc,.slice ba h.Br.length bc] 327)).heap.size=wr.heap.size+1:=by simp
   obtain⟨va,vc,rfl⟩:=J.shape;have HC:Hid (Calls Tryz.prog 355 #[.agg #[.slice na h.N.length nc,.slice ba h.Br.length bc],.slice va (f k).length vc] (wr.alloc (.cells #[.slice na h.N.length nc,.slice ba h.Br.length bc] 327)) λe w'=>∃v,e=.returned v/\w'.ownsRow (wr.alloc (.cells #[.slice na h.N.length nc,.slice ba h.Br.length bc] 327)).heap.size 313 7 v (f (k+1)).length (gN (f (k+1)))/\Below (wr.alloc (.cells #[.slice na h.N.length nc,.slice ba h.Br.length bc] 327)).heap.size (wr.alloc (.cells #[.slice na h.N.length nc,.slice ba h.Br.length bc] 327)) w'):=by
    rw[q5];exact aH7 (f k) h.N h.Br t p q1 q2 q3 q4 _ _ _ _ (sn.below K (aA _)) (sb.below K (aA _)) (J.below K (aA _)) q6
   clear b3 b6 b1 sn sb J q1 q2 q3 q4 q5 q6 a4
   go_wp2_with fail
   refine HC.out.mono ?_;rintro e w6 ⟨v6,rfl,b7,b0⟩;clear HC;have c2:=SV.own b7;have b2:Below w4.heap.size w4 w6:=(U.trans (K.mono b9)).trans (b0.mono (by omega));obtain⟨xa,xc,rfl⟩:=c2.shape;clear b7 b0 K c0 c1;go_wp2
   go_roundw
   case rel=>exact⟨k+1,by omega,by go_num,c2,b2⟩
   case measure=>simp[intOf];omega
  ·have e:k=I.length:=by omega
   subst e;have W:wr.heap[w.heap.size]?=_:=(U.block _ (by omega)).trans a8;have z:wr.heap[w.heap.size+1+1]?=_:=(U.block _ (by omega)).trans d0;have a0:wr.cell? ⟨w.heap.size,0,none⟩=some (.int .u8 i.a):=by simp[World.cell?,W]
   have a1:wr.cell? ⟨w.heap.size,1,none⟩=some (.int .u8 i.b):=by simp[World.cell?,W]
   have a2:wr.cell? ⟨w.heap.size,2,none⟩=some (.int .u8 i.c):=by simp[World.cell?,W]
   have a3:wr.cell? ⟨w.heap.size,3,none⟩=some (.int .u8 i.d):=by simp[World.cell?,W]
   obtain⟨va,vc,rfl⟩:=J.shape;have d4:=a5.last;have r0:wr.cell? ⟨w.heap.size+1+1,0,none⟩=some (.int .u8 0):=by simp[World.cell?,z]
   have c4:wr.frozen? ⟨w.heap.size+1+1,0,none⟩=false:=by simp[World.frozen?,z]
   have r1:wr.cell? ⟨w.heap.size+1+1,1,none⟩=some (.int .u8 0):=by simp[World.cell?,z]
   have c5:wr.frozen? ⟨w.heap.size+1+1,1,none⟩=false:=by simp[World.frozen?,z]
   have r2:wr.cell? ⟨w.heap.size+1+1,2,none⟩=some (.int .u8 0):=by simp[World.cell?,z]
   have c6:wr.frozen? ⟨w.heap.size+1+1,2,none⟩=false:=by simp[World.frozen?,z]
   have r3:wr.cell? ⟨w.heap.size+1+1,3,none⟩=some (.int .u8 0):=by simp[World.cell?,z]
   have c7:wr.frozen? ⟨w.heap.size+1+1,3,none⟩=false:=by simp[World.frozen?,z]
   have r4:wr.cell? ⟨w.heap.size+1+1,4,none⟩=some (.bool false):=by simp[World.cell?,z]
   have c8:wr.frozen? ⟨w.heap.size+1+1,4,none⟩=false:=by simp[World.frozen?,z]
   have r5:wr.cell? ⟨w.heap.size+1+1,5,none⟩=some (.slice none 0 0):=by simp[World.cell?,z]
   have c9:wr.frozen? ⟨w.heap.size+1+1,5,none⟩=false:=by simp[World.frozen?,z]
   have d5:(cV (f I.length)).length<=300000:=by unfold cV;simp;omega
   obtain⟨M,hM⟩:∃M,cV (f I.length)=M:=⟨_,rfl⟩;have c3:Hid (cV (f I.length)=M):=hM;have HU:Hid (Calls Tryz.prog 356 #[.slice va (f I.length).length vc] wr.drew λe w'=>∃xa xc,e=.returned (.slice xa M.length xc)/\SV wr (.slice xa M.length xc) M/\w'=wr.drew):=by
    refine(vB (f I.length) _ wr.drew (show SV wr.drew _ _ from J) (by omega) d4.1).mono ?_;rintro e w7 ⟨v7,rfl,d7,rfl⟩;have V:SV wr v7 M:=by rw[<- hM];exact d7
    obtain⟨xa,xc,rfl⟩:=V.shape;exact⟨xa,xc,rfl,V,rfl⟩
   clear hM
   go_wp2_with fail
   go_region_with (go_at_call 356;refine HU.out.mono ?_;rintro e w7 ⟨xa,xc,rfl,V,rfl⟩)
   all_goals
    obtain⟨w9,a7⟩:∃w9,w9=((((((wr.setCell ⟨w.heap.size+1+1,0,none⟩ (.int .u8 i.a)).setCell ⟨w.heap.size+1+1,1,none⟩ (.int .u8 i.b)).setCell ⟨w.heap.size+1+1,2,none⟩ (.int .u8 i.c)).setCell ⟨w.heap.size+1+1,3,none⟩ (.int .u8 i.d)).setCell ⟨w.heap.size+1+1,4,none⟩ (.bool true)).setCell ⟨w.heap.size+1+1,5,none⟩ (.slice xa M.length xc)).drew:=⟨_,rfl⟩;obtain⟨s1,s2⟩:=aTd wr _ _ _ _ _ _ w9 (w.heap.size+1+1) _ rfl _ _ _ _ _ _ z rfl rfl rfl rfl rfl rfl a7;rw[<- a7];have d8:SV w9 (.slice xa M.length xc) M:=V.far z (by simp) (by rw[s2.size];exact aA _) (λk _ hk=>s2.block k hk);have d1:Below w.heap.size w w9:=⟨s2.os.trans E.os,s2.tape.trans E.tape,s2.output.trans E.output,by rw[s2.size];exact E.size,λk hk=>(s2.block k (by omega)).trans (E.block k hk)⟩;clear a7 s2 r0 r1 r2 r3 r4 r5 c4 c5 c6 c7 c8 c9 a0 a1 a2 a3 HU V J;go_wp2;refine bodyPost_ret (results_cell_row (p:=4) (ty:=185) (by kernel_rfl) _ w9 (w.heap.size+1+1) 185 _ (0,0) _ rfl s1 Tryz.underlying185 rfl (by kernel_rfl)) rfl ?_;exact⟨_,rfl,by rw[c3.out];exact d8,d1⟩
def kO(name:ByteArray):ByteArray:=((⟨#[97,108,116,101,114,32]⟩:ByteArray)++name)++⟨#[10]⟩
def pM(name:ByteArray):ByteArray:=((⟨#[97,100,100,32]⟩:ByteArray)++name)++⟨#[10]⟩
theorem uP(w:World){z:World}(x y:Obj)(h:z=(w.alloc x).alloc y):Below w.heap.size w z/\z.heap.size=w.heap.size+2/\z.heap[w.heap.size]?=some x:=by
 subst h;have E:Below w.heap.size w (w.alloc x):=(Below.refl _ _).alloc (aA _) _;have s1:(w.alloc x).heap.size=w.heap.size+1:=by simp
 refine⟨E.alloc (by omega) _,by simp,?_⟩;rw[Below.heap_alloc _ _ _ (by omega)];exact(aH w x).1
structure aSp (F:List aU) (Hs:List Hk) (g:Nat->ByteArray):Prop where
 step:∀(k:Nat) (h:Hk),Hs[k]?=some h->∃t p,h.N[0]?=some t/\rY F t=some p/\p+1<=F.length/\2<=h.N.length/\yI (cV h.N)/\yI h.Br/\h.N.length<=100000/\(living (F.take (p+1))).length<100/\g (k+1)=g k++aDc F h.N h.Br p
 small:∀k,k<=Hs.length->(g k).size<=1000000000
theorem aHv(i:cL)(z:List Hk)(g:Nat->ByteArray)(S:List aU)(name:ByteArray)(b6:name.size<=1000)(b4:g 0=kO name)(J:aSp (aM S) z g)(hv rv:Value)(j:cL)(al:Bool)(w:World)(hh:HV w hv z)(hr:SV w rv S)(hS:S.length<=90000)(b9:z.length<=100000):
  Calls Tryz.prog 354 #[.agg #[.int .u8 i.a,.int .u8 i.b,.int .u8 i.c,.int .u8 i.d,hv],.string name,.agg #[.int .u8 j.a,.int .u8 j.b,.int .u8 j.c,.int .u8 j.d,.bool al,rv]] w λe w'=>e=.returned (.string (g z.length))/\Below w.heap.size w w':=by
 obtain⟨ra,rc,rfl⟩:=hr.shape;have HH:Hid (HV w hv z):=hh;obtain⟨ha,hc,rfl,b1⟩:=hh;clear b1;obtain⟨Z,Y⟩:∃Z,Z=(w.alloc (.cells #[.int .u8 i.a,.int .u8 i.b,.int .u8 i.c,.int .u8 i.d,.slice ha z.length hc] 288)).alloc (.cells #[.int .u8 j.a,.int .u8 j.b,.int .u8 j.c,.int .u8 j.d,.bool al,.slice ra S.length rc] 185):=⟨_,rfl⟩;obtain⟨a0,c2,hA⟩:=uP w _ _ Y;have a8:=hr.below a0 (aA _);have HF:Hid (Calls Tryz.prog 248 #[.slice ra S.length rc] Z λe w'=>∃v,e=.returned v/\w'.ownsRow Z.heap.size 313 7 v (aM S).length (gN (aM S))/\Below Z.heap.size Z w'):=rX S _ Z a8 (by omega);have z1:(⟨#[97,108,116,101,114,32]⟩:ByteArray).size=6:=rfl;have z2:(⟨#[10]⟩:ByteArray).size=1:=rfl;have z3:((⟨#[97,108,116,101,114,32]⟩:ByteArray)++name).size<=1006:=by rw[aN];omega
 have b3:(aM S).length<=90002:=by simp[aM];omega
 go_enter Tryz.func354,Tryz.ntmps354
 go_wp2_with fail
 rw[<- Y];clear Y hr a8;refine HF.out.mono ?_;rintro e w4 ⟨fv,rfl,a5,U⟩;clear HF;have V:=SV.own a5;obtain⟨F,hF⟩:∃F,aM S=F:=⟨_,rfl⟩;rw[hF] at V J b3;obtain⟨fa,fc,b2⟩:=V.shape;clear a5 hF;have b0:w4.heap[w.heap.size]?=_:=(U.block _ (by omega)).trans hA;have b8:w4.cell? ⟨w.heap.size,4,none⟩=some (.slice ha z.length hc):=by simp[World.cell?,b0]
 have c3:=U.size;subst b2;have HG:Hid (((⟨#[97,108,116,101,114,32]⟩:ByteArray)++name)++⟨#[10]⟩=g 0):=b4.symm;go_wp2
 go_loopw [7,20] (λv i' wr=>∃k:Nat,k<=z.length/\i'=.int .i64 k/\v=.string (g k)/\Below w4.heap.size w4 wr) (λ_ i' _=>z.length - (intOf i').toNat)
 case atStart=>exact⟨0,aE _,rfl,by rw[<- HG.out],Below.refl _ _⟩
 case round=>
  obtain⟨k,hk,rfl,rfl,I⟩:=hrel;have a9:=I.size;have K:Below w.heap.size w wr:=(a0.trans (U.mono (by omega))).trans (I.mono (by omega));by_cases b5:k<z.length
  ·obtain⟨h,W⟩:∃h,z[k]?=some h:=⟨_,aC b5⟩;obtain⟨_,_,e1,a4⟩:=HH.out.below K (aA _)
   cases e1
   obtain⟨b,o,rfl,hb,c0,c1,sn,sb⟩:=a4 k h W;obtain⟨t,p,q1,q2,q3,q4,q5,q6,q7,q8,q9⟩:=J.step k h W;obtain⟨na,nc,a7⟩:=sn.shape;obtain⟨ba,bc,a2⟩:=sb.shape;rw[a7] at c0 sn;rw[a2] at c1 sb;have E:Below wr.heap.size wr (wr.alloc (.cells #[.slice na h.N.length nc,.slice ba h.Br.length bc] 327)):=(Below.refl _ _).alloc (aA _) _;have c4:(wr.alloc (.cells #[.slice na h.N.length nc,.slice ba h.Br.length bc] 327)).heap.size=wr.heap.size+1:=by simp
   have a6:=(V.below I (aA _)).below E (aA _);obtain⟨T,hT⟩:∃T,aDc F h.N h.Br p=T:=⟨_,rfl⟩;have HC:Hid (Calls Tryz.prog 361 #[.agg #[.slice na h.N.length nc,.slice ba h.Br.length bc],.slice fa F.length fc] (wr.alloc (.cells #[.slice na h.N.length nc,.slice ba h.Br.length bc] 327)) λe w'=>e=.returned (.string T)/\Below (wr.alloc (.cells #[.slice na h.N.length nc,.slice ba h.Br.length bc] 327)).heap.size (wr.alloc (.cells #[.slice na h.N.length nc,.slice ba h.Br.length bc] 327)) w'):=by
    rw[<- hT];exact aK3 F h.N h.Br t p q1 q2 q3 q4 _ _ _ _ (sn.below E (aA _)) (sb.below E (aA _)) a6 (by omega) q5 q6 q7 q8
   rw[hT] at q9;have c5:=J.small k (by omega);have b7:=J.small (k+1) (by omega);rw[q9,aN] at b7;have c6:¬ (9223372036854775807<((g k).size:Int)+(T.size:Int)):=by omega
   have Q9:Hid (g (k+1)=g k++T):=q9;clear a4 a7 a2 sn sb q1 q2 q3 q4 q5 q6 q7 q8 q9 W a6 hT
   go_wp2_with fail
   refine HC.out.mono ?_;rintro e w6 ⟨rfl,a1⟩;clear HC;have a3:Below w4.heap.size w4 w6:=(I.trans (E.mono a9)).trans (a1.mono (by omega));clear a1 E c0 c1;go_wp2
   go_roundw
   case rel=>exact⟨k+1,by omega,by go_num,by rw[Q9.out],a3⟩
   case measure=>simp[intOf];omega
  ·have e:k=z.length:=by omega
   subst e;go_wp2;go_ret;exact⟨rfl,K⟩
theorem aQi(i l:cL)(S:List aU)(rv:Value)(x:Value)(j:cL)(al:Bool)(U:Option Addr)(W V:Nat)(hx:x=.slice U W V)(w:World)(Z:SV w rv S):
  Calls Tryz.prog 332 #[.agg #[.int .u8 i.a,.int .u8 i.b,.int .u8 i.c,.int .u8 i.d,.int .u8 l.a,.int .u8 l.b,.int .u8 l.c,.int .u8 l.d,rv],.agg #[.int .u8 j.a,.int .u8 j.b,.int .u8 j.c,.int .u8 j.d,.bool al,x]] w λe w'=>e=.returned (.agg #[.int .u8 i.a,.int .u8 i.b,.int .u8 i.c,.int .u8 i.d,.bool true,rv])/\Below w.heap.size w w':=by
 subst hx;obtain⟨J,K,rfl⟩:=Z.shape;obtain⟨I,z⟩:∃I,I=((w.alloc (.cells #[.int .u8 i.a,.int .u8 i.b,.int .u8 i.c,.int .u8 i.d,.int .u8 l.a,.int .u8 l.b,.int .u8 l.c,.int .u8 l.d,.slice J S.length K] 282)).alloc (.cells #[.int .u8 j.a,.int .u8 j.b,.int .u8 j.c,.int .u8 j.d,.bool al,.slice U W V] 185)).alloc (.cells #[.int .u8 i.a,.int .u8 i.b,.int .u8 i.c,.int .u8 i.d,.bool true,.slice J S.length K] 185):=⟨_,rfl⟩;obtain⟨E,a0,hA,Y⟩:=nQ w _ _ _ z;go_enter Tryz.func332,Tryz.ntmps332;go_wp2;rw[<- z];clear z;refine bodyPost_ret (results_cell_row (p:=4) (ty:=185) (by kernel_rfl) _ I (w.heap.size+1+1) 185 _ (0,0) _ rfl Y Tryz.underlying185 rfl (by kernel_rfl)) rfl ?_;exact⟨rfl,E⟩
theorem aFb(i l:cL)(S:List aU)(rv:Value)(name:ByteArray)(V:name.size<=1000)(x:Value)(j:cL)(al:Bool)(xa:Option Addr)(xn xc:Nat)(hx:x=.slice xa xn xc)(w:World)(W:SV w rv S)(Z:yI S):
  Calls Tryz.prog 336 #[.agg #[.int .u8 i.a,.int .u8 i.b,.int .u8 i.c,.int .u8 i.d,.int .u8 l.a,.int .u8 l.b,.int .u8 l.c,.int .u8 l.d,rv],.string name,.agg #[.int .u8 j.a,.int .u8 j.b,.int .u8 j.c,.int .u8 j.d,.bool al,x]] w λe w'=>e=.returned (.string (pM name++gI ⟨#[43]⟩ S))/\Below w.heap.size w w':=by
 subst hx;obtain⟨ra,rc,rfl⟩:=W.shape;obtain⟨E,z⟩:∃E,E=(w.alloc (.cells #[.int .u8 i.a,.int .u8 i.b,.int .u8 i.c,.int .u8 i.d,.int .u8 l.a,.int .u8 l.b,.int .u8 l.c,.int .u8 l.d,.slice ra S.length rc] 282)).alloc (.cells #[.int .u8 j.a,.int .u8 j.b,.int .u8 j.c,.int .u8 j.d,.bool al,.slice xa xn xc] 185):=⟨_,rfl⟩;obtain⟨I,a0,hA⟩:=uP w _ _ z;have Y:Hid (Calls Tryz.prog 338 #[.string ⟨#[43]⟩,.slice ra S.length rc] E λe w'=>e=.returned (.string (gI ⟨#[43]⟩ S))/\Below E.heap.size E w'):=kJ ⟨#[43]⟩ S _ E (W.below I (aA _)) (by decide) Z;have z0:=uO ⟨#[43]⟩ S (by decide) Z;have z1:(⟨#[97,100,100,32]⟩:ByteArray).size<=4:=by decide
 have z2:(⟨#[10]⟩:ByteArray).size<=1:=by decide
 have z3:((⟨#[97,100,100,32]⟩:ByteArray)++name).size<=1004:=by rw[aN];omega
 have z4:(((⟨#[97,100,100,32]⟩:ByteArray)++name)++⟨#[10]⟩).size<=1005:=by rw[aN];omega
 clear hA;go_enter Tryz.func336,Tryz.ntmps336
 go_wp2_with fail
 rw[<- z];clear z W;refine Y.out.mono ?_;rintro e w4 ⟨rfl,K⟩;clear Y;have U:Below w.heap.size w w4:=I.trans (K.mono (by omega));obtain⟨T,J⟩:∃T,gI ⟨#[43]⟩ S=T:=⟨_,rfl⟩;rw[J] at z0 ⊢;have HT:Hid (gI ⟨#[43]⟩ S=T):=J;clear J;go_wp2;go_ret;exact⟨by rw[HT.out];rfl,U⟩
theorem aN7(O N:List ByteArray)(z:O.length<=10000)(Y:N.length<=10000)(ov nv:Value)(w:World)(W:LV w ov O)(V:LV w nv N):
  Calls Tryz.prog 249 #[ov,nv] w λe w'=>∃v,e=.returned v/\pJ O N w w' v/\Below w.heap.size w w':=by
 obtain⟨I,J,rfl,E,_⟩:=W;obtain⟨na,Z,rfl,K,U,⟨rfl,rfl,rfl⟩|⟨b,o,rfl,hb⟩⟩:=V
 ·exact aK0 O z I J w E (yN O [] z (by simp) I none J 0 w E K)
 ·exact aK1 O N z Y I J b o Z w E K hb U (yN O N z Y I _ J Z w E K)
theorem aN6{O N:List ByteArray}{i j k l:Nat}(hi:i<=O.length)(E:j<=N.length)(h:tJ O N i j=(k,l)):∀q∈fA i k j l,q.i<=q.k/\q.k<=O.length/\q.j<=q.l/\q.l<=N.length:=by
 have p:=oB O N i j hi E;rw[h] at p;intro q z;unfold fA at z;split at z
 ·simp at z;subst z;exact⟨p.1,p.2.1,p.2.2.1,p.2.2.2.1⟩
 ·cases z
theorem dS.ok{O N:List ByteArray}{i j:Nat}{Q:List dL}(h:dS O N i j Q)(hi:i<=O.length)(E:j<=N.length):∀q∈Q,q.i<=q.k/\q.k<=O.length/\q.j<=q.l/\q.l<=N.length:=by
 induction h with
 | stop h1 h2=>exact aN6 hi E h1
 | go h1 h2 h3 ih=>
  rename_i i j k l I
  have p:=oB O N i j hi E;rw[h1] at p;simp only at p;have J:l<N.length:=by
   rcases p.2.2.2.2 with h|h
   ·exact h.2.1
   ·omega
  intro q z;rcases aG.1 z with z|z
  ·exact aN6 hi E h1 q z
  ·exact ih (by omega) (by omega) q z
theorem zW(S:List aU):(living S).length=(cA S).length:=by
 have h:=congrArg List.length (gX S);unfold aL at h;simpa using h
theorem fK(S:List aU):(living (aM S)).length=(aL S).length+2:=by
 rw[zW,gX,aT];unfold cA aM;simp[jR,lD,gE]
theorem aLn(S:List aU)(k:Nat):(fC S k).Pairwise (·<·):=by
 induction k with
 | zero=>simp[fC]
 | succ k ih=>
  unfold fC;split
  ·rw[List.pairwise_append];refine⟨ih,by simp,λa E b z=>?_⟩;simp at z;subst z;exact(sU E).1
  ·exact ih
theorem kQ(S:List aU){x y:Nat}(z:x<y)(E:y<(living S).length):(living S)[x]'(by omega)<(living S)[y]:=
 cW.1 (aLn S S.length) x y (by show _<(living S).length;omega) E z
theorem iK(S:List aU){x:Nat}(z:x<(living S).length):(living S)[x]<S.length:=aOy (bZ z)
def dA(F:List aU)(q:dL):List aU:=(F.take ((living F).getD (q.k+1) 0+1)).drop ((living F).getD q.i 0)
def eO(n:Int)(N:List ByteArray):List dL->Int
 | []=>n
 | q::qs=>eO (n+(bX N q).length) N qs
theorem aRx(n:Int)(N:List ByteArray)(z:List dL)(q:dL):eO n N (z++[q])=eO n N z+(bX N q).length:=by
 induction z generalizing n with
 | nil=>rfl
 | cons a z ih=>simp only[cI,eO,ih]
structure HW (w:World) (B:Nat) (v:Value) (Hs:List Hk):Prop where
 row:w.ownsRow B 327 2 v Hs.length (Hs.flatMap λh=>[h.nv,h.bv])
 nv:∀h∈Hs,w.ownsRow B 313 7 h.nv h.N.length (gN h.N)
 bv:∀h∈Hs,w.ownsRow B 313 7 h.bv h.Br.length (gN h.Br)
def oJ(F:List aU)(i:cL)(n:Int)(N:List ByteArray)(qs:List dL)(Hs:List Hk):Prop:=Hs.length=qs.length/\∀(k:Nat) (h:Hk),Hs[k]?=some h->∃q,qs[k]?=some q/\h.N=dA F q/\h.Br=eD i (eO n N (qs.take k)) (bX N q)
theorem pT{w w':World}{B n size K:Nat}{e:TypeId}{v:Value}{U:List Value}(h:w.ownsRow B e size v n U)(V:lZ w w' K)(Y:K<B):w'.ownsRow B e size v n U:=by
 have J:=h.lt;refine⟨h.1,?_⟩;rcases h.2 with hn|⟨g,cap,E,hv,I,W,z⟩
 ·exact .inl hn
 ·exact .inr ⟨g,cap,E,hv,I,(V.block g (J g (by rw[hv];rfl)).2 (by omega)).trans W,z⟩
theorem HW.but{w w':World}{B K:Nat}{v:Value}{J:List Hk}(h:HW w B v J)(z:lZ w w' K)(E:K<B):HW w' B v J:=
 ⟨pT h.row z E,λx I=>pT (h.nv x I) z E,λx I=>pT (h.bv x I) z E⟩
theorem HW.step{w K:World}{B:Nat}{v v':Value}{I:List Hk}{h:Hk}(H:HW w B v I)(J:w.grownBy K v.ownBlock)(E:K.ownsRow B 327 2 v' (I.length+1) ((I.flatMap λh=>[h.nv,h.bv])++[h.nv,h.bv]))(V:w.ownsRow B 313 7 h.nv h.N.length (gN h.N))(U:w.ownsRow B 313 7 h.bv h.Br.length (gN h.Br)):HW K B v' (I++[h]):=by
 refine⟨by simpa using E,λx z=>?_,λx z=>?_⟩
 ·rcases aG.1 z with z|z
  ·exact(H.nv x z).kept J (xN (H.nv x z) H.row (by decide))
  ·simp at z;subst z;exact V.kept J (xN V H.row (by decide))
 ·rcases aG.1 z with z|z
  ·exact(H.bv x z).kept J (xN (H.bv x z) H.row (by decide))
  ·simp at z;subst z;exact U.kept J (xN U H.row (by decide))
theorem oJ.step{F:List aU}{i:cL}{n:Int}{N:List ByteArray}{J:List dL}{I:List Hk}{q:dL}{h:Hk}(z:oJ F i n N J I)(h1:h.N=dA F q)(h2:h.Br=eD i (eO n N J) (bX N q)):oJ F i n N (J++[q]) (I++[h]):=by
 refine⟨by simp[z.1],λk x E=>?_⟩;by_cases V:k<I.length
 ·rw[aZ V] at E;obtain⟨q',W,Y,Z⟩:=z.2 k x E;have U:k<J.length:=by rw[<- z.1];exact V
  refine⟨q',by rw[aZ U];exact W,Y,?_⟩;rw[fD (by omega)];exact Z
 ·have K:k=I.length:=by
   have:=(aB.1 E).1;simp at this;omega
  subst K;simp at E;subst E;refine⟨q,by rw[z.1];simp,h1,?_⟩;rw[z.1,fD (aA _),bD];exact h2
theorem Tryz.info327:(Tryz.prog.info? 327).map (λi=>(i.zero,i.size,i.bytes))=some (some (.agg #[.slice none 0 0,.slice none 0 0]),2,48):=by kernel_rfl
theorem aRv(w:World)(x y:Value)(t:TypeId):∀j u,[x,y][j]?=some u->(w.alloc (.cells #[x,y] t)).cell? ((⟨w.heap.size,0,none⟩:Addr).add j)=some u:=by
 intro j u z;obtain⟨a,b⟩:=iJ (aH w (.cells #[x,y] t)).1
 match j,z with
 | 0,z=>simp at z;subst z;exact a
 | 1,z=>simp at z;subst z;exact b
 | j+2,z=>simp at z
theorem aK2(G:List Gp)(k:Nat)(g:Gp)(h:G[k]?=some g)(j:Nat)(z:j<3):(gsC G)[k * 3+j]?=(gpC g)[j]?:=by
 induction G generalizing k with
 | nil=>simp at h
 | cons q G ih=>
  cases k with
  | zero=>
   simp at h;subst h;simp only[gsC,bL,Nat.zero_mul,dC];rw[aZ (by simpa using z)]
  | succ k=>
   simp only[fB] at h;simp only[gsC,bL];rw[bH (by simp;omega)];have e:(k+1) * 3+j - (gpC q).length=k * 3+j:=by simp;omega
   rw[e];exact ih k h
theorem bB1{w:World}{B:Nat}{v:Value}{G:List Gp}(h:w.ownsRow B 324 3 v G.length (gsC G)){k:Nat}{g:Gp}(z:G[k]?=some g):
  ∃b cap,v=.slice (some ⟨b,0,none⟩) G.length cap/\b<w.heap.size/\w.cell? ⟨b,k * 3,none⟩=some (.int .i64 (g.q.i:Nat))/\w.cell? ⟨b,k * 3+1,none⟩=some (.int .i64 (g.q.k:Nat))/\w.cell? ⟨b,k * 3+2,none⟩=some g.lv:=by
 have E:=h.lt;have U:=(aB.1 z).1;have J:=h;rcases h.2 with ⟨rfl,h2⟩|⟨b,cap,I,rfl,_,W,V,_⟩
 ·omega
 ·have c:=λj (K:j<G.length * 3)=>dQ J j K;refine⟨b,cap,rfl,(E b rfl).2,?_,?_,?_⟩
  ·have:=c (k * 3+0) (by omega);rw[aK2 G k g z 0 (by omega)] at this;exact this
  ·have:=c (k * 3+1) (by omega);rw[aK2 G k g z 1 (by omega)] at this;exact this
  ·have:=c (k * 3+2) (by omega);rw[aK2 G k g z 2 (by omega)] at this;exact this
theorem dS.len{O N:List ByteArray}{i j:Nat}{Q:List dL}(h:dS O N i j Q)(hi:i<=O.length)(z:j<=N.length):Q.length+i<=O.length+1:=by
 induction h with
 | stop h1 h2=>
  rename_i i j k l
  have p:=oB O N i j hi z;rw[h1] at p;simp only at p;have:(fA i k j l).length<=1:=by unfold fA;split<;>simp
  omega
 | go h1 h2 h3 ih=>
  rename_i i j k l E
  have p:=oB O N i j hi z;rw[h1] at p;simp only at p;have I:l<N.length:=by
   rcases p.2.2.2.2 with h|h
   ·exact h.2.1
   ·omega
  have J:=ih (by omega) (by omega);have:(fA i k j l).length<=1:=by unfold fA;split<;>simp
  rw[aJ];omega
theorem fS(F:List aU){x:Nat}(h:x<(living F).length):(living F).getD x 0=(living F)[x]:=by rw[aQ,aC h,jZ]
theorem lZ.alloc'{w:World}(z:Nat)(o:Obj):lZ w (w.alloc o) z:=(lZ.refl w z).alloc o
theorem GV.but{w J:World}{B I:Nat}{v:Value}{N:List ByteArray}{G:List Gp}(h:GV w B v N G)(z:lZ w J I)(E:I<B):GV J B v N G:=⟨pT h.row z E,λx K=>pT (h.lines x K) z E⟩
theorem pC.below{w w':World}{z B:Nat}{i:cL}{n:Int}(h:pC w z i n)(E:Below B w w')(I:z<B):pC w' z i n:=(E.block z I).trans h
theorem HW.mono{w:World}{B I:Nat}{v:Value}{J:List Hk}(h:HW w I v J)(z:B<=I):HW w B v J:=⟨bK h.row z,λx E=>bK (h.nv x E) z,λx E=>bK (h.bv x E) z⟩
def aAk(S:List aU)(N:List ByteArray)(i:cL)(n:Int)(mb:Nat)(w w':World)(v:Value):Prop:=
 ∃(Hs:List Hk) (Q:List dL),HW w' w.heap.size v Hs/\dS (aL S) N 0 0 Q/\oJ (aM S) i n N Q Hs/\pC w' mb i (eO n N Q)
theorem aK4(S:List aU)(N:List ByteArray)(i:cL)(n:Int)(z:Nat)(rv lv:Value)(w:World)(hr:SV w rv S)(hl:LV w lv N)(hm:pC w z i n)(hS:S.length<=9000)(hN:N.length<=9000)(p6:0<=n)(o5:n<=1000000)(V:∀Q,dS (aL S) N 0 0 Q->∀k,eO n N (Q.take k)<=10000000/\0<=eO n N (Q.take k)):
  Calls Tryz.prog 217 #[.pointer (some ⟨z,0,none⟩),rv,lv] w λe w'=>∃v,e=.returned v/\aAk S N i n z w w' v/\lZ w w' z:=by
 obtain⟨i0,hi,o0,o1,o2⟩:=info_parts Tryz.info327;have e4:=hm.lt;have HF:Hid (Calls Tryz.prog 248 #[rv] w λe w'=>∃v,e=.returned v/\w'.ownsRow w.heap.size 313 7 v (aM S).length (gN (aM S))/\Below w.heap.size w w'):=rX S rv w hr (by omega);have k9:=hr;obtain⟨ra,rc,rfl⟩:=hr.shape;have m2:=aO hl;obtain⟨la,lc,rfl⟩:∃la lc,lv=.slice la N.length lc:=by obtain⟨la,lc,e,_⟩:=hl;exact⟨la,lc,e⟩
 have n4:(aM S).length<=9002:=by simp[aM];omega
 have k6:=fK S;have q8:=lV S;clear hl hr;go_enter Tryz.func217,Tryz.ntmps217
 go_wp2_with fail
 refine HF.out.mono ?_;rintro e w1 ⟨fv,rfl,a9,E⟩;clear HF;obtain⟨F,hF⟩:∃F,aM S=F:=⟨_,rfl⟩;rw[hF] at a9 n4 k6;have l5:=E.size;have h5:Hid (Calls Tryz.prog 237 #[fv] w1 λe w'=>∃v,e=.returned v/\w'.ownsRow w1.heap.size 3 1 v (living F).length (aRu (living F))/\Below w1.heap.size w1 w'):=sA F fv w1 (SV.own a9) (by omega);have k2:=a9;obtain⟨fa,fc,rfl⟩:=bC k2
 go_wp2_with fail
 refine h5.out.mono ?_;rintro e w2 ⟨r8,rfl,k7,a4⟩;clear h5;have q9:=a4.size;have d5:=bQ a9 a4 (aA _);have b0:=bK k7 l5;have l0:=(k9.below E (aA _)).below a4 (aA _);have h6:Hid (Calls Tryz.prog 200 #[.slice ra S.length rc] w2 λe w'=>∃v,e=.returned v/\w'.ownsRow w2.heap.size 9 1 v (aL S).length (bW (aL S))/\Below w2.heap.size w2 w'):=uC S _ w2 l0 (by omega);obtain⟨r6,r7,rfl⟩:=bC b0;clear a9 k7 k9 l0
 go_wp2_with fail
 refine h6.out.mono ?_;rintro e w3 ⟨ov,rfl,g4,a5⟩;clear h6;have r1:=a5.size;have d6:=bQ d5 a5 (aA _);have d9:=bQ b0 a5 (aA _);have d3:Below w.heap.size w w3:=(E.trans (a4.mono l5)).trans (a5.mono (by omega));have HG:Hid (Calls Tryz.prog 249 #[ov,.slice la N.length lc] w3 λe w'=>∃v,e=.returned v/\pJ (aL S) N w3 w' v/\Below w3.heap.size w3 w'):=aN7 (aL S) N (by omega) (by omega) ov _ w3 (LV.own g4) (m2.out.below d3 (aA _));obtain⟨oa,oc,rfl⟩:=bC g4;clear g4 d5 b0
 go_wp2_with fail
 refine HG.out.mono ?_;rintro e W ⟨gv,rfl,⟨G,i8,a1⟩,a6⟩;clear HG;have r2:=a6.size;have k3:=bQ d6 a6 (aA _);have k8:=bQ d9 a6 (aA _);have a2:=i8.mono (B:=w.heap.size) (by omega);have d4:Below w.heap.size w W:=d3.trans (a6.mono (by omega));have n2:pC W z i n:=(d4.block z e4).trans hm;obtain⟨ga,gc,rfl⟩:=bC a2.row;have l9:=aO a1;have m4:Hid (∀q∈G.map (·.q),q.i<=q.k/\q.k<=(aL S).length/\q.j<=q.l/\q.l<=N.length):=a1.ok (aE _) (aE _);have i6:=aO (V _ a1);have l8:=aO hF;have h0:=aO a2;have p8:G.length<=10000:=by have:=a1.len (aE _) (aE _);simp at this;omega
 clear i8 a2 a1 hF d6 d9 E a4 a5 a6 V;have c3:z<w.heap.size:=e4;have a0:z<W.heap.size:=by omega
 go_wp2
 go_loopw [9,24] (λv x wr=>∃(k:Nat) (Hs:List Hk),k<=G.length/\x=.int .i64 k/\Hs.length=k/\Hid (HW wr W.heap.size v Hs)/\Hid (oJ F i n N ((G.map (·.q)).take k) Hs)/\Hid (pC wr z i (eO n N ((G.map (·.q)).take k)))/\lZ W wr z) (λ_ x _=>G.length - (intOf x).toNat)
 case atStart=>exact⟨0,[],aE _,rfl,rfl,⟨aK _ _ _ _,(λh hh=>by cases hh),(λh hh=>by cases hh)⟩,⟨rfl,λk h hk=>by simp at hk⟩,n2,lZ.refl _ _⟩
 case round=>
  obtain⟨k,Hs,hk,rfl,i9,b7,b9,b8,J⟩:=hrel;have o9:=J.size;by_cases n8:k<G.length
  ·obtain⟨g,hg⟩:∃g,G[k]?=some g:=⟨_,aC n8⟩;obtain⟨gb,o6,e1,q5,c0,c1,c2⟩:=bB1 (h0.out.but J c3).row hg;have k4:g.q∈G.map (·.q):=aI.2 ⟨g,aD hg,rfl⟩;obtain⟨q1,q2,q3,q4⟩:=m4.out _ k4;have c7:=(h0.out.but J c3).lines g (aD hg);obtain⟨xa,xc,l6⟩:=bC c7;obtain⟨q,lx⟩:=g;simp only at c0 c1 c2 q1 q2 q3 q4 c7 l6;have q6:(bX N q).length<=9000:=by unfold bX;simp;omega
   have hA:q.i<(living F).length:=by omega
   have hB:q.k+1<(living F).length:=by omega
   have i7:=kQ F (show q.i<q.k+1 by omega) hB;have n1:=iK F hB;have e0:=pT k8 J c3;obtain⟨_,_,e2,g0⟩:=NV.own e0;simp only[lC] at e1 e2;obtain⟨m5,m6,m7⟩:=e1;subst m5;obtain⟨m8,m9,n0⟩:=e2;subst m8;obtain⟨lb,l7,n7,k5,l1⟩:=g0 q.i hA;obtain⟨r5,lo2,d8,o7,l2⟩:=g0 (q.k+1) hB;subst n7;simp only[cJ,Addr.mk.injEq,and_true] at d8;obtain⟨rfl,rfl⟩:=d8;subst l6;obtain⟨x1,g5⟩:∃x,(living F)[q.i]=x:=⟨_,rfl⟩;obtain⟨x2,g6⟩:∃x,(living F)[q.k+1]=x:=⟨_,rfl⟩;rw[g5] at l1 i7;rw[g6] at l2 i7 n1;have i4:Hid (dA F q=(F.take (x2+1)).drop x1):=by show _=_;unfold dA;rw[fS F hA,fS F hB,g5,g6]
   have bA:(q.i:Int)<((living F).length:Int):=by omega
   have bB:(q.k:Int)+1<((living F).length:Int):=by omega
   have pB:(0:Int)<=(q.k:Int)+1:=by omega
   have wB:IntKind.i64.wrap ((q.k:Int)+1)=(q.k:Int)+1:=by simp[IntKind.wrap,IntKind.signed,IntKind.bits];omega
   have tB:((q.k:Int)+1).toNat=q.k+1:=by omega
   have o8:(living F).length<=9010:=by omega
   obtain⟨Y,I⟩:∃Y,Y=wr.alloc (.cells #[.int .i64 (q.i:Nat),.int .i64 (q.k:Nat),.slice xa (bX N q).length xc] 324):=⟨_,rfl⟩;have E:Below wr.heap.size wr Y:=by rw[I];exact(Below.refl _ _).alloc (aA _) _
   have f7:Y.heap[wr.heap.size]?=some (.cells #[.int .i64 (q.i:Nat),.int .i64 (q.k:Nat),.slice xa (bX N q).length xc] 324 (0,0)):=by rw[I];exact(aH wr _).1
   have e9:wr.heap.size<Y.heap.size:=by rw[I];simp
   obtain⟨d0,d1,d2⟩:=dW f7;have o3:=(E.cell (p:=⟨lb,l7+q.i,none⟩) k5).trans l1;have o4:=(E.cell (p:=⟨lb,l7+(q.k+1),none⟩) k5).trans l2;clear k6 g5 g6 m6 m7 m9 n0 g0 e0 k4 hA hB
   go_wp2_with fail
   rw[<- I];clear I c0 c1 c2 l1 l2
   go_quiet (fail)
   obtain⟨Z,b6⟩:∃Z,Z=Y.drewN nq:=⟨_,rfl⟩;have f5:Below wr.heap.size wr Z:=by rw[b6];exact below_drewN E nq
   have n9:wr.heap.size<Z.heap.size:=by rw[b6];exact e9
   have n6:Z.heap[wr.heap.size]?=some (.cells #[.int .i64 (q.i:Nat),.int .i64 (q.k:Nat),.slice xa (bX N q).length xc] 324 (0,0)):=by rw[b6];exact f7
   rw[<- b6];clear b6 f7 E e9 d0 d1 d2 o3 o4;have f6:=bQ (pT k3 J c3) f5 (aA _);have b5:=SV.own f6;obtain⟨fb,e3,q0⟩:∃fb,fa=some ⟨fb,0,none⟩/\F.length<=fc:=by
    rcases f6.2 with ⟨h1,h2⟩|⟨g',cp,p7,h1,_,_,h3,_⟩
    ·omega
    ·simp only[lC] at h1;exact⟨g',h1.1,by omega⟩
   have b3:SV Z (.slice (some ⟨fb,x1 * 7,none⟩) (x2+1 - x1) (fc - x1)) (dA F q):=by
    rw[i4.out];rw[e3] at b5;have:=b5.part x1 (x2+1) (by omega) (by omega);rwa[dC] at this
   subst e3;have q7:(dA F q).length<=9002:=by rw[i4.out];simp;omega
   have g9:Hid (Calls Tryz.prog 250 #[.slice (some ⟨fb,x1 * 7,none⟩) (x2+1 - x1) (fc - x1)] Z λe w'=>∃v,e=.returned v/\w'.ownsRow Z.heap.size 313 7 v (dA F q).length (gN (dA F q))/\Below Z.heap.size Z w'):=aAs (dA F q) _ Z b3 (by omega);have j1:(x1:Int)<=(x2:Int)+1:=by omega
   have j2:(x2:Int)+1<=(fc:Int):=by omega
   have j3:(0:Int)<=(x2:Int)+1:=by omega
   have j4:(x1:Int)<(fc:Int):=by omega
   have j5:x1<fc:=by omega
   have j6:fc - x1≠0:=by omega
   have j7:x2+1<=fc:=by omega
   have j8:((x2:Int)+1).toNat=x2+1:=by omega
   have j9:IntKind.i64.wrap ((x2:Int)+1)=(x2:Int)+1:=by simp[IntKind.wrap,IntKind.signed,IntKind.bits];omega
   clear b3 b5
   go_wp2_with fail
   refine g9.out.mono ?_;rintro e w5 ⟨nv,rfl,f9,c4⟩;clear g9;have r3:=c4.size;have U:Below wr.heap.size wr w5:=f5.trans (c4.mono (by omega));have n5:=(c4.block wr.heap.size n9).trans n6;obtain⟨_,_,d2⟩:=dW n5;have d7:=bQ c7 U (aA _);have j0:pC w5 z i (eO n N ((G.map (·.q)).take k)):=b8.out.below U (by omega);have V:=i6.out k;have g8:Hid (Calls Tryz.prog 216 #[.pointer (some ⟨z,0,none⟩),.slice xa (bX N q).length xc] w5 λe w'=>∃v,e=.returned v/\w'.ownsRow w5.heap.size 313 7 v (eD i (eO n N ((G.map (·.q)).take k)) (bX N q)).length (gN (eD i (eO n N ((G.map (·.q)).take k)) (bX N q)))/\pC w' z i (eO n N ((G.map (·.q)).take k)+(bX N q).length)/\lZ w5 w' z):=aAp i _ (bX N q) xa xc z w5 (gD.own d7) j0 (by omega) V.2 (by omega);obtain⟨nl,e6⟩:∃m,(dA F q).length=m:=⟨_,rfl⟩;have b1:=f9;rw[e6] at b1;obtain⟨na,nc,rfl⟩:=bC b1;have i5:=aO f9;clear b1 f9 e6 d7 j0
   go_wp2_with fail
   refine g8.out.mono ?_;rintro e w6 ⟨bv,rfl,f4,k0,c5⟩;clear g8;have r4:=c5.size;have a8:lZ wr w6 z:=(lZ.of_below z U).trans c5;have c8:=b7.out.but a8 a0;obtain⟨bl,f3⟩:∃m,(eD i (eO n N ((G.map (·.q)).take k)) (bX N q)).length=m:=⟨_,rfl⟩;have a7:=f4;rw[f3] at a7;obtain⟨ba,bc,rfl⟩:=bC a7;have a3:HW (w6.alloc (.cells #[.slice na nl nc,.slice ba bl bc] 327)) W.heap.size u9 Hs:=c8.but (lZ.alloc' z _) a0;have e7:(w6.alloc (.cells #[.slice na nl nc,.slice ba bl bc] 327)).ownsRow W.heap.size 313 7 (.slice na nl nc) (dA F q).length (gN (dA F q)):=(pT (bK i5.out (show W.heap.size<=Z.heap.size by omega)) c5 a0).alloc _;have c9:(w6.alloc (.cells #[.slice na nl nc,.slice ba bl bc] 327)).ownsRow W.heap.size 313 7 (.slice ba bl bc) (eD i (eO n N ((G.map (·.q)).take k)) (bX N q)).length (gN (eD i (eO n N ((G.map (·.q)).take k)) (bX N q))):=(bK f4 (by omega)).alloc _;have K:=a3.row;have e5:=aRv w6 (.slice na nl nc) (.slice ba bl bc) 327;have e8:∀u∈[Value.slice na nl nc,.slice ba bl bc],u.oneCell'=true:=by
    intro u hu;simp only[cC,fN,or_false] at hu;rcases hu with rfl|rfl<;>rfl
   have h4:=aO a3;have h9:=aO e7;have g7:=aO c9;have p5:=aO f3;have m1:=aO i9;have p9:Hs.length<=10000:=by omega
   have h7:=aO k0;clear a7 f4 f3 e7 c9 a3 c8 i5 k0 d2 i9
   go_wp2_with (at_builtin;refine wpList_append_own _ rfl _ _ 285 rfl W.heap.size 327 i0 _ 2 48 Tryz.underlying285 hi o0 o1 o2 rfl (by decide) _ _ _ rfl K ⟨w6.heap.size,0,none⟩ 1 1 [.slice na nl nc,.slice ba bl bc] rfl rfl e5 e8 (by unfold maxLen;omega) (by omega) (by simp;omega) ?_)
   intro v' w7 b2 c6 _;have b4:∀j,u9.ownBlock=some j->W.heap.size<=j:=λj hj=>(K.lt j hj).1;have m0:Hid (HW w7 W.heap.size v' (Hs++[⟨.slice na nl nc,.slice ba bl bc,dA F q,eD i (eO n N ((G.map (·.q)).take k)) (bX N q)⟩])):=h4.out.step c6 b2 h9.out g7.out;have k1:lZ W w7 z:=((J.trans a8).alloc _).grown c6 b4;have m3:Hid (pC w7 z i (eO n N ((G.map (·.q)).take (k+1)))):=by
    have f8:(G.map (·.q)).take (k+1)=(G.map (·.q)).take k++[q]:=by
     rw[jD,aP,hg];rfl
    show pC _ _ _ _;rw[f8,aRx];have h1:=c6.block z (by simp;omega) (λe=>by have:=b4 z e.symm;omega);exact h1.trans ((Below.heap_alloc w6 _ _ (by omega)).trans h7.out)
   have h8:Hid (oJ F i n N ((G.map (·.q)).take (k+1)) (Hs++[⟨.slice na nl nc,.slice ba bl bc,dA F q,eD i (eO n N ((G.map (·.q)).take k)) (bX N q)⟩])):=by
    have f8:(G.map (·.q)).take (k+1)=(G.map (·.q)).take k++[q]:=by
     rw[jD,aP,hg];rfl
    show oJ _ _ _ _ _ _;rw[f8];exact b9.out.step rfl rfl
   clear b2 c6 K e5 e8 h4 h9 g7 h7 b8 b9 b7 a8 c5 U c4 f5 f6 c7;go_wp2
   go_roundw
   case rel=>exact⟨k+1,_,by omega,by go_num,by simp[m1.out],m0,h8,m3,k1⟩
   case measure=>simp[intOf];omega
  ·have e:k=G.length:=by omega
   have HF:Hid (aAk S N i n z w wr u9):=by
    refine⟨Hs,G.map (·.q),b7.out.mono (by omega),l9.out,?_,?_⟩
    ·have:=b9.out;rw[e,mU (by simp)] at this;rw[l8.out];exact this
    ·have:=b8.out;rw[e,mU (by simp)] at this;exact this
   have HB:Hid (lZ w wr z):=(lZ.of_below z (d4.mono (aA _))).trans J;clear e b7 b9 b8;go_wp2;go_ret;exact⟨_,rfl,HF.out,HB.out⟩
end Go.Proofs.YtgdfipmdmgkidaaGreatDoor

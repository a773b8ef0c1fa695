import Derived.Test.YtgdfipmdmgkidaaGreatDoorPwrite
import Derived.Test.YtgdfipmdmgkidaaGreatDoorNplace
import Derived.Test.YtgdfipmdmgkidaaGreatDoorWcomm
import Derived.Test.YtgdfipmdmgkidaaGreatDoorPtell
import Derived.BigRegion
import Derived.Test.YtgdfipmdmgkidaaGreatDoorAl
set_option linter.all false
set_option maxHeartbeats 3200000
set_option maxRecDepth 100000
namespace Go.Proofs.YtgdfipmdmgkidaaGreatDoor
open Go.RowKit
theorem aKo(pb rg I wb wo z V:Nat)(w:World)(Q:ByteArray->World->Prop)(W:w.cell? ⟨wb,wo,none⟩=some (.string ⟨#[110,101,119]⟩))(U:1<=z)
  (E:Calls Tryz.prog 66 #[.pointer (some ⟨rg,I,none⟩)] w λe w'=>∃x,e=.returned (.string x)/\Q x w') :
  Calls Tryz.prog 45 #[.pointer (some ⟨pb,0,none⟩),.pointer (some ⟨rg,I,none⟩),.slice (some ⟨wb,wo,none⟩) z V] w λe w'=>∃x,e=.returned (.tuple #[.string x,.int .i64 0])/\Q x w':=by
 have J:=aO E;clear E;have j1:(0:Int)<(z:Int):=by omega
 go_enter Tryz.func45,Tryz.ntmps45
 go_wp2_with (go_at_call 66;refine J.out.mono ?_;rintro e Y ⟨x,rfl,K⟩)
 go_ret2;exact⟨x,rfl,K⟩
theorem yK(pb rg Y wb wo I wc:Nat)(a b c d:UInt8)(w:World)(Q:ByteArray->Int->World->Prop)(hw:w.cell? ⟨wb,wo,none⟩=some (.string ⟨#[115,104,111,119]⟩))(K:w.cell? ⟨wb,wo+1,none⟩=some (.string ⟨#[a,b,c,d]⟩))(a0:2<=I)
  (W:∀u,Below w.heap.size w u->Calls Tryz.prog 69 #[.pointer (some ⟨rg,Y,none⟩),.agg #[.int .u8 a.toNat,.int .u8 b.toNat,.int .u8 c.toNat,.int .u8 d.toNat]] u λe w'=>∃x z,e=.returned (.tuple #[.string x,.int .i64 z])/\Q x z w') :
  Calls Tryz.prog 45 #[.pointer (some ⟨pb,0,none⟩),.pointer (some ⟨rg,Y,none⟩),.slice (some ⟨wb,wo,none⟩) I wc] w λe w'=>∃x z,e=.returned (.tuple #[.string x,.int .i64 z])/\Q x z w':=by
 have V:=aO W;have U:=aO (aF5 a b c d w);clear W;have j0:(0:Int)<(I:Int):=by omega
 have j1:(1:Int)<(I:Int):=by omega
 go_enter Tryz.func45,Tryz.ntmps45
 go_wp2_with fail
 refine U.out.mono ?_;rintro e w1 ⟨rfl,J⟩;have E:=aO (V.out w1 J);clear V hw K U
 go_wp2_with fail
 refine E.out.mono ?_;rintro e w2 ⟨x,z,rfl,Z⟩;clear E;go_wp2;go_ret2;exact⟨x,z,rfl,Z⟩
theorem aKp(pb rg ro wb wc:Nat)(a b c d:UInt8)(L:List ByteArray)(w:World)(Q:ByteArray->Int->World->Prop)(I:w.ownsRow 0 9 1 (.slice (some ⟨wb,0,none⟩) (L.length+2) wc) (L.length+2) (bW (wV::⟨#[a,b,c,d]⟩::L)))(hL:L.length<=1000)
  (hN:∀u va vc,Below w.heap.size w u->gD u va L->Calls Tryz.prog 72 #[.pointer (some ⟨pb,0,none⟩),.pointer (some ⟨rg,ro,none⟩),.agg #[.int .u8 a.toNat,.int .u8 b.toNat,.int .u8 c.toNat,.int .u8 d.toNat],.slice va L.length vc] u λe w'=>∃x cd,e=.returned (.tuple #[.string x,.int .i64 cd])/\Q x cd w'/\bU (λt=>t=9) u w') :
  Calls Tryz.prog 45 #[.pointer (some ⟨pb,0,none⟩),.pointer (some ⟨rg,ro,none⟩),.slice (some ⟨wb,0,none⟩) (L.length+2) wc] w λe w'=>∃x cd,e=.returned (.tuple #[.string x,.int .i64 cd])/\Q x cd w':=by
 have HN:=aO hN;have a5:=aA5 I;have a2:TB w wb 9:=dI I rfl;have K:∀(j:Nat) (x:ByteArray),(wV::(⟨#[a,b,c,d]⟩:ByteArray)::L)[j]?=some x->w.cell? ⟨wb,j,none⟩=some (.string x):=λj x hj=>by
  rw[dQ I j (by have:=(aB.1 hj).1;simp at this ⊢;omega)];unfold bW;rw[aP,hj];rfl
 have hw:w.cell? ⟨wb,0,none⟩=some (.string wV):=K 0 _ rfl;have a1:w.cell? ⟨wb,1,none⟩=some (.string ⟨#[a,b,c,d]⟩):=K 1 _ rfl;have a3:=aO K;have HI:Hid (Calls Tryz.prog 70 #[.string ⟨#[a,b,c,d]⟩] w.drew λe w'=>e=.returned (.agg #[.int .u8 a.toNat,.int .u8 b.toNat,.int .u8 c.toNat,.int .u8 d.toNat])/\Below w.heap.size w w'):=(aF5 a b c d w.drew).mono λe w' h=>⟨h.1,(Below.refl w.heap.size w).drew.trans h.2⟩;have E:=aO a1;have Z:=aO a2;clear hN K I a2;have j0:(0:Int)<(L.length:Int)+2:=by omega
 have j1:(1:Int)<(L.length:Int)+2:=by omega
 have j2:(2:Int)<=(L.length:Int)+2:=by omega
 go_enter Tryz.func45,Tryz.ntmps45
 go_wp2_with fail
 refine dF (λw'=>w'.cell? ⟨wb,1,none⟩=some (.string ⟨#[a,b,c,d]⟩)) 99 (by kernel_rfl) ?_;refine zt 0 (v:=?v0) E.out (λV z=>?hy) ?_
 case hy=>go_simp;with_reducible rfl
 simp only[Act.put,aW];refine zt 1 (v:=?v1) E.out (λV z=>?hy) ?_
 case hy=>go_simp;with_reducible rfl
 simp only[Act.put];refine zt 2 (v:=?v2) E.out (λV z=>?hy) ?_
 case hy=>go_simp;with_reducible rfl
 simp only[Act.put];refine zt 3 (v:=?v3) E.out (λV z=>?hy) ?_
 case hy=>go_simp;with_reducible rfl
 simp only[Act.put];refine zt 4 (v:=?v4) E.out (λV z=>?hy) ?_
 case hy=>go_simp;with_reducible rfl
 simp only[Act.put];refine zt 6 (v:=?v6) E.out (λV z=>?hy) ?_
 case hy=>go_simp;with_reducible rfl
 simp only[Act.put];refine zt 7 (v:=?v7) E.out (λV z=>?hy) ?_
 case hy=>go_simp;with_reducible rfl
 simp only[Act.put];refine bT 5 _ rfl (by kernel_rfl) (λKK W=>?_);go_simp;refine HI.out.mono ?_;rintro e w1 ⟨rfl,U⟩;clear HI;dsimp only;have c1:w1.cell? ⟨wb,1,none⟩=some (.string ⟨#[a,b,c,d]⟩):=(U.cell (p:=⟨wb,1,none⟩) Z.out.lt).trans a1;refine W.out _ _ (λ_=>c1) ?_;clear W;have Y:=Z.out.below U (aA _);have J:gD w1 (if wc=2 then some ⟨wb,0,none⟩ else some ⟨wb,2,none⟩) L:=by
  by_cases a4:L.length=0
  ·exact .inl a4
  ·refine .inr ⟨wb,2,by rw[if_neg (by omega)],Y.lt,λk hk=>?_⟩;rw[Nat.add_comm];refine(U.cell (p:=⟨wb,k+2,none⟩) Z.out.lt).trans (a3.out (k+2) _ ?_);show L[k]?=_;rw[aQ,aC hk];rfl
 have a0:=aO (HN.out w1 _ (wc - 2) U J);clear HN J;refine bT 8 _ rfl (by kernel_rfl) (λKK W=>?_);go_simp;refine a0.out.mono ?_;rintro e w2 ⟨x,cd,rfl,hq,hh⟩;clear a0;have HQ:=aO hq;have c2:w2.cell? ⟨wb,1,none⟩=some (.string ⟨#[a,b,c,d]⟩):=(bN (hh.keep wb 9 Y rfl) 1).trans c1;clear hq hh;dsimp only;refine W.out _ _ (λ_=>c2) ?_;clear W;refine zt 9 (v:=?w9) c2 (λV z=>?hy) ?_
 case hy=>go_simp;with_reducible rfl
 simp only[Act.put];refine zt 10 (v:=?w10) c2 (λV z=>?hy) ?_
 case hy=>go_simp;with_reducible rfl
 simp only[Act.put];refine zt 11 (v:=?w11) c2 (λV z=>?hy) ?_
 case hy=>go_simp;with_reducible rfl
 simp only[Act.put];refine bT 12 _ rfl (by kernel_rfl) (λKK W=>?_);go_simp;refine W.out _ _ (λ_=>c2) ?_;clear W;refine fJ (by kernel_rfl) ?_ _;go_wp2
 all_goals
  go_ret2;exact⟨x,cd,rfl,HQ.out⟩
structure zH where
 A:Int
 B:Int
 rv:Value
 run:List (Nat×Bool)
 nv:Value
 new:List Nat
structure vH where
 name:ByteArray
 kind:Nat
 file:Int
 new:Nat
 cv:Value
 cells:List Nat
 rv:Value
 run:List (Nat×Bool)
 hv:Value
 hunks:List zH
structure RPt where
 id:ByteArray
 cv:Value
 chs:List vH
abbrev eH(h:zH):List Value:=[.int .i64 h.A,.int .i64 h.B,h.rv,h.nv]
abbrev eC(c:vH):List Value:=[.string c.name,.int .i64 c.kind,.int .i64 c.file,.int .i64 c.new,c.cv,c.rv,c.hv]
abbrev eP(p:RPt):List Value:=[.string p.id,p.cv]
abbrev eL(c:ByteArray×Nat):List Value:=[.string c.1,.int .i64 c.2]
abbrev eN(n:Nat×Bool):List Value:=[.int .i64 n.1,.bool n.2]
abbrev RI(w:World)(v:Value)(L:List Nat):Prop:=eJ w 3 1 L.length v (oO L)
abbrev RN(w:World)(v:Value)(L:List (Nat×Bool)):Prop:=eJ w 273 2 L.length v (L.flatMap eN)
theorem eJ.at_{w:World}{t:TypeId}{sz n:Nat}{v:Value}{E:List Value}(h:eJ w t sz n v E):∃z cap,v=.slice z n cap/\n<=cap/\(0<n->∃b o,z=some ⟨b,o,none⟩/\b<w.heap.size/\∀(j:Nat) (u:Value),E[j]?=some u->w.cell? ⟨b,o+j,none⟩=some u):=by
 obtain⟨_,z,cap,rfl,J,h1⟩:=h;refine⟨z,cap,rfl,J,λK=>?_⟩;rcases h1 with ⟨_,h1,_⟩|⟨b,o,e,h2,I⟩
 ·omega
 ·exact⟨b,o,e,h2.lt,I⟩
theorem tT{α:Type}(enc:α->List Value){sz:Nat}(z:∀a,(enc a).length=sz):∀(L:List α) (k:Nat) (a:α),L[k]?=some a->∀(j:Nat),j<sz->(L.flatMap enc)[k * sz+j]?=(enc a)[j]?
 | [],k,a,h,_,_=>by simp at h
 | x::L,0,a,h,j,hj=>by
  simp at h;subst h;rw[bL,aZ (by rw[z];omega)];simp
 | x::L,k+1,a,h,j,hj=>by
  have E:=tT enc z L k a (by simpa using h) j hj;rw[bL,bH (by rw[z,Nat.succ_mul];omega),z,<- E];congr 1;rw[Nat.succ_mul];omega
theorem eJ.each{α:Type}{enc:α->List Value}{w:World}{t:TypeId}{sz:Nat}{v:Value}{L:List α}(h:eJ w t sz L.length v (L.flatMap enc))(E:∀a,(enc a).length=sz):
  ∃I cap,v=.slice I L.length cap/\L.length<=cap/\∀(k:Nat) (a:α),L[k]?=some a->∃b o,I=some ⟨b,o,none⟩/\b<w.heap.size/\∀(j:Nat) (u:Value),(enc a)[j]?=some u->w.cell? ⟨b,o+(k * sz+j),none⟩=some u:=by
 obtain⟨I,cap,rfl,V,h1⟩:=h.at_;refine⟨I,cap,rfl,V,λk a K=>?_⟩;obtain⟨b,o,e,U,h2⟩:=h1 (by have:=(aB.1 K).1;omega);refine⟨b,o,e,U,λj u J=>h2 _ u ?_⟩;have z:=(aB.1 J).1;rw[E] at z;rw[tT enc E L k a K j z,J]
theorem RI.each{w:World}{v:Value}{L:List Nat}(h:RI w v L):∃z cap,v=.slice z L.length cap/\L.length<=cap/\∀(k c:Nat),L[k]?=some c->∃b o,z=some ⟨b,o,none⟩/\b<w.heap.size/\w.cell? ⟨b,o+k,none⟩=some (.int .i64 c):=by
 obtain⟨z,cap,rfl,J,h1⟩:=h.at_;refine⟨z,cap,rfl,J,λk c E=>?_⟩;obtain⟨b,o,e,I,h2⟩:=h1 (by have:=(aB.1 E).1;omega);exact⟨b,o,e,I,h2 k _ (by rw[aP,E];rfl)⟩
def OkH(w:World)(h:zH):Prop:=RN w h.rv h.run/\RI w h.nv h.new
def OkC(w:World)(c:vH):Prop:=RI w c.cv c.cells/\RN w c.rv c.run/\eJ w 269 4 c.hunks.length c.hv (c.hunks.flatMap eH)/\∀h∈c.hunks,OkH w h
def OkP(w:World)(p:RPt):Prop:=eJ w 265 7 p.chs.length p.cv (p.chs.flatMap eC)/\∀c∈p.chs,OkC w c
theorem OkC.below{w w':World}{c:vH}(h:OkC w c)(z:Below w.heap.size w w'):OkC w' c:=⟨h.1.below z,h.2.1.below z,h.2.2.1.below z,λx E=>⟨(h.2.2.2 x E).1.below z,(h.2.2.2 x E).2.below z⟩⟩
theorem OkP.below{w w':World}{p:RPt}(h:OkP w p)(z:Below w.heap.size w w'):OkP w' p:=⟨h.1.below z,λc E=>(h.2 c E).below z⟩
abbrev fix(t:TypeId):Prop:=t=3\/t=273\/t=269\/t=265\/t=9
theorem OkC.held{w w':World}{c:vH}(h:OkC w c)(z:bU fix w w'):OkC w' c:=⟨h.1.held z (by simp[fix]),h.2.1.held z (by simp[fix]),h.2.2.1.held z (by simp[fix]),λx E=>⟨(h.2.2.2 x E).1.held z (by simp[fix]),(h.2.2.2 x E).2.held z (by simp[fix])⟩⟩
theorem OkP.held{w w':World}{p:RPt}(h:OkP w p)(z:bU fix w w'):OkP w' p:=⟨h.1.held z (by simp[fix]),λc E=>(h.2 c E).held z⟩
structure iD where
 nv:Value
 tv:Value
 lv:Value
 F:jN
 L:List Nat
abbrev eR(r:iD):List Value:=[r.nv,r.tv,r.lv]
def OkR(w:World)(r:iD):Prop:=eJ w 9 1 r.F.length r.nv (bW (fO r.F))/\eJ w 9 1 r.F.length r.tv (bW (txs r.F))/\RI w r.lv r.L
theorem OkR.below{w w':World}{r:iD}(h:OkR w r)(z:Below w.heap.size w w'):OkR w' r:=⟨h.1.below z,h.2.1.below z,h.2.2.below z⟩
theorem OkR.held{w w':World}{r:iD}(h:OkR w r)(z:bU fix w w'):OkR w' r:=⟨h.1.held z (by simp[fix]),h.2.1.held z (by simp[fix]),h.2.2.held z (by simp[fix])⟩
structure RD where
 pts:List RPt
 cells:List (ByteArray×Nat)
 files:List (ByteArray×Nat)
 repos:List iD
structure WV (w:World) (rb:Nat) (D:RD):Prop where
 wb:∃pv cv fv sv,w.heap[rb]?=some (.cells #[pv,cv,fv,sv] 192 (0,0))/\eJ w 195 2 D.pts.length pv (D.pts.flatMap eP)/\eJ w 255 2 D.cells.length cv (D.cells.flatMap eL)/\eJ w 261 2 D.files.length fv (D.files.flatMap eL)/\eJ w 205 3 D.repos.length sv (D.repos.flatMap eR)
 ok:∀p∈D.pts,OkP w p
 okr:∀r∈D.repos,OkR w r
theorem WV.lt{w:World}{rb:Nat}{D:RD}(h:WV w rb D):rb<w.heap.size:=by
 obtain⟨_,_,_,_,h1,_⟩:=h.wb;exact(aV.1 h1).1
theorem WV.below{w w':World}{rb:Nat}{D:RD}(h:WV w rb D)(z:Below w.heap.size w w'):WV w' rb D:=by
 refine⟨?_,λp E=>(h.ok p E).below z,λp E=>(h.okr p E).below z⟩;obtain⟨pv,cv,I,V,h1,h2,J,K,U⟩:=h.wb;exact⟨pv,cv,I,V,(z.block _ h.lt).trans h1,h2.below z,J.below z,K.below z,U.below z⟩
theorem WV.cells_{w:World}{rb:Nat}{D:RD}(h:WV w rb D):∃z cap,w.cell? ⟨rb,1,none⟩=some (.slice z D.cells.length cap)/\∀(k:Nat) (l:ByteArray) (p:Nat),D.cells[k]?=some (l,p)->∃b o,z=some ⟨b,o,none⟩/\w.cell? ⟨b,o+k * 2,none⟩=some (.string l):=by
 obtain⟨pv,cv,U,Y,h1,h2,E,V,W⟩:=h.wb;obtain⟨z,cap,rfl,_,J⟩:=E.each (λ_=>rfl);refine⟨z,cap,by simp[World.cell?,h1],λk l p K=>?_⟩;obtain⟨b,o,e,_,I⟩:=J k _ K;exact⟨b,o,e,I 0 _ rfl⟩
theorem WV.files_{w:World}{rb:Nat}{D:RD}(h:WV w rb D):∃z cap,w.cell? ⟨rb,2,none⟩=some (.slice z D.files.length cap)/\∀(k:Nat) (l:ByteArray) (p:Nat),D.files[k]?=some (l,p)->∃b o,z=some ⟨b,o,none⟩/\w.cell? ⟨b,o+k * 2,none⟩=some (.string l)/\w.cell? ⟨b,o+k * 2+1,none⟩=some (.int .i64 p):=by
 obtain⟨pv,cv,U,Y,h1,h2,V,I,W⟩:=h.wb;obtain⟨z,cap,rfl,_,J⟩:=I.each (λ_=>rfl);refine⟨z,cap,by simp[World.cell?,h1],λk l p K=>?_⟩;obtain⟨b,o,e,_,E⟩:=J k _ K;exact⟨b,o,e,E 0 _ rfl,E 1 _ rfl⟩
theorem WV.pts_{w:World}{rb:Nat}{D:RD}(h:WV w rb D):∃z cap,w.cell? ⟨rb,0,none⟩=some (.slice z D.pts.length cap)/\∀(k:Nat) (p:RPt),D.pts[k]?=some p->∃b o,z=some ⟨b,o,none⟩/\w.cell? ⟨b,o+k * 2,none⟩=some (.string p.id)/\w.cell? ⟨b,o+k * 2+1,none⟩=some p.cv/\OkP w p:=by
 obtain⟨pv,cv,K,Y,h1,h2,U,V,W⟩:=h.wb;obtain⟨z,cap,rfl,_,J⟩:=h2.each (λ_=>rfl);refine⟨z,cap,by simp[World.cell?,h1],λk p I=>?_⟩;obtain⟨b,o,e,_,E⟩:=J k _ I;exact⟨b,o,e,E 0 _ rfl,E 1 _ rfl,h.ok p (aD I)⟩
theorem WV.repos_{w:World}{rb:Nat}{D:RD}(h:WV w rb D):∃z cap,w.cell? ⟨rb,3,none⟩=some (.slice z D.repos.length cap)/\∀(k:Nat) (r:iD),D.repos[k]?=some r->∃b o,z=some ⟨b,o,none⟩/\w.cell? ⟨b,o+k * 3,none⟩=some r.nv/\w.cell? ⟨b,o+k * 3+1,none⟩=some r.tv/\w.cell? ⟨b,o+k * 3+2,none⟩=some r.lv/\OkR w r:=by
 obtain⟨pv,cv,U,Y,h1,h2,V,W,J⟩:=h.wb;obtain⟨z,cap,rfl,_,K⟩:=J.each (λ_=>rfl);refine⟨z,cap,by simp[World.cell?,h1],λk p I=>?_⟩;obtain⟨b,o,e,_,E⟩:=K k _ I;exact⟨b,o,e,E 0 _ rfl,E 1 _ rfl,E 2 _ rfl,h.okr p (aD I)⟩
abbrev tlT(sg l:ByteArray):ByteArray:=⟨(tlB sg l).toArray⟩
theorem bB4{sg l:ByteArray}(V:0<l.size):tlT sg l=if l[l.size - 1].toNat=10 then sg++l else sg++l++⟨#[36,10]⟩:=by
 have z:l.data.toList.length=l.size:=rfl;have I:l.data.toList≠[]:=λe=>by rw[e] at z;simp at z;omega
 have J:l.data.toList.getLast I=l[l.size - 1]:=by
  rw[List.getLast_eq_getElem];rfl
 have E:Lib.hasSuffix l.data.toList [10]=true↔l[l.size - 1].toNat=10:=by
  have K:=jF I;rw[J] at K;unfold Lib.hasSuffix;rw[List.isSuffixOf_iff_suffix,<- K,List.singleton_suffix_iff_getLast?_eq_some];constructor
  ·intro h;have:l[l.size - 1]=10:=by simpa using h
   rw[this];rfl
  ·intro h;have:l[l.size - 1]=10:=UInt8.toNat_inj.1 h;simp[this]
 apply gL;by_cases h:l[l.size - 1].toNat=10
 ·rw[if_pos h];simp[tlT,tlB,E.2 h]
 ·rw[if_neg h];have:Lib.hasSuffix l.data.toList [10]=false:=by
   cases U:Lib.hasSuffix l.data.toList [10]
   ·rfl
   ·exact absurd (E.1 U) h
  simp[tlT,tlB,this]
theorem aDk(sg:ByteArray)(c:Nat)(l:ByteArray)(p rb:Nat)(D:RD)(w:World)(h:WV w rb D)(E:D.cells[c]?=some (l,p))(J:0<l.size)(Z:l.size<=1000000)(hs:sg.size<=1000):
  Calls Tryz.prog 243 #[.pointer (some ⟨rb,0,none⟩),.string sg,.int .i64 c] w λe w'=>e=.returned (.string (tlT sg l))/\w'=w:=by
 obtain⟨V,cap,W,z⟩:=h.cells_;obtain⟨b,o,rfl,Y⟩:=z c l p E;have K:c<D.cells.length:=(aB.1 E).1;generalize D.cells.length=n at *;have I:=aO (bB4 (sg:=sg) J);generalize tlT sg l=T at *;clear z E h;go_enter Tryz.func243,Tryz.ntmps243;go_wp2
 all_goals
  rename_i U
  go_ret;refine⟨?_,rfl⟩;rw[I.out];simp at U
 ·rw[if_pos (by omega)];rfl
 ·rw[if_neg (by omega)];rfl
def RD.ln(D:RD)(c:Nat):ByteArray:=(D.cells[c]?.getD (⟨#[]⟩,0)).1
structure aTh (D:RD) (c:Nat):Prop where
 lt:c<D.cells.length
 pos:0<(D.ln c).size
 le:(D.ln c).size<=1000
theorem aTh.get{D:RD}{c:Nat}(h:aTh D c):∃p,D.cells[c]?=some (D.ln c,p):=by
 refine⟨(D.cells[c]'h.lt).2,?_⟩;rw[RD.ln,aC h.lt];rfl
theorem aMf(m l:ByteArray)(J:m.size<=10)(I:l.size<=1000):(tlB m l).length<=1012:=by
 have z:m.data.toList.length=m.size:=rfl;have E:l.data.toList.length=l.size:=rfl;unfold tlB;rw[aJ,aJ,z,E];split<;>simp<;>omega
theorem aCp(m:ByteArray)(z:m.size<=10):∀L:List ByteArray,(∀l∈L,l.size<=1000)->(eQ m L).length<=L.length * 1012
 | [],_=>by simp[eQ]
 | l::L,h=>by
  have:=aCp m z L (λx E=>h x (by simp[E]));have:=aMf m l z (h l (by simp));unfold eQ at *;rw[bL,aJ,aY];omega
theorem aSt(a b:List UInt8):(⟨a.toArray⟩:ByteArray)++⟨b.toArray⟩=⟨(a++b).toArray⟩:=by
 apply gL;simp
theorem vR(a:List UInt8):(⟨a.toArray⟩:ByteArray).size=a.length:=by simp[ByteArray.size]
theorem vV(L:List Nat)(v:Value)(rb:Nat)(D:RD)(w:World)(h:WV w rb D)(hv:RI w v L)(W:∀c∈L,aTh D c)(Z:L.length<=100000):
  Calls Tryz.prog 205 #[.pointer (some ⟨rb,0,none⟩),v] w λe w'=>e=.returned (.string ⟨(eQ ⟨#[43]⟩ (L.map D.ln)).toArray⟩)/\w'=w:=by
 obtain⟨ao,cap,rfl,Y,I⟩:=hv.each;have HC:=aO I;have HW:=aO h;have V:=aO W;clear I h W hv;go_enter Tryz.func205,Tryz.ntmps205;go_wp2
 go_loopw [5,6] (λs i wr=>∃k:Nat,k<=L.length/\i=.int .i64 k/\s=.string ⟨(eQ ⟨#[43]⟩ ((L.take k).map D.ln)).toArray⟩/\Hid (wr=w)) (λ_ i _=>L.length - (intOf i).toNat)
 case atStart=>exact⟨0,aE _,rfl,rfl,rfl⟩
 case round=>
  obtain⟨k,hk,rfl,rfl,hw⟩:=hrel;have U:=hw.out.symm;subst U;clear hw
  have J:=aCp ⟨#[43]⟩ (by decide) ((L.take k).map D.ln) (λl Z=>by
   obtain⟨c,E,rfl⟩:=aI.1 Z
   exact(V.out c (cG E)).le)
  rw[aT,bR] at J;have a0:=vR (eQ ⟨#[43]⟩ ((L.take k).map D.ln));by_cases K:k<L.length
  ·obtain⟨c,E⟩:∃c,L[k]?=some c:=⟨_,aC K⟩;obtain⟨b,o,rfl,_,c0⟩:=HC.out k c E;have z:=V.out c (aD E);obtain⟨p,hp⟩:=z.get;have h1:=z.le;have HE:Hid ((⟨(eQ ⟨#[43]⟩ ((L.take k).map D.ln)).toArray⟩:ByteArray)++tlT ⟨#[43]⟩ (D.ln c)=⟨(eQ ⟨#[43]⟩ ((L.take (k+1)).map D.ln)).toArray⟩):=by
    show _=_;rw[jD,E,aSt];simp[eQ]
   have ht:(tlT ⟨#[43]⟩ (D.ln c)).size<=1012:=by rw[vR];exact aMf _ _ (by decide) h1
   have HN:=aO (aDk ⟨#[43]⟩ c _ p rb D w HW.out hp z.pos (by omega) (by decide));clear hp z HW;generalize D.ln c=l at *;generalize (⟨(eQ ⟨#[43]⟩ ((L.take k).map D.ln)).toArray⟩:ByteArray)=T at *;generalize tlT ⟨#[43]⟩ l=t at *
   go_wp2_with (go_at_call 243;refine HN.out.mono ?_;rintro e w' ⟨rfl,rfl⟩)
   go_roundw
   case rel=>exact⟨k+1,by omega,by go_num,by rw[HE.out],trivial⟩
   case measure=>simp[intOf];omega
  ·have e:k=L.length:=by omega
   subst e;rw[bD] at *;go_wp2;go_ret;exact⟨rfl,rfl⟩
def RD.run(D:RD)(R:List (Nat×Bool)):List ByteArray:=(R.filter (λn=>!n.2)).map λn=>D.ln n.1
theorem aX0{D:RD}{R:List (Nat×Bool)}{k:Nat}{n:Nat×Bool}(h:R[k]?=some n):D.run (R.take (k+1))=D.run (R.take k)++(if n.2=true then [] else [D.ln n.1]):=by
 unfold RD.run;rw[jD,h]
 cases z:n.2<;>simp[z]
theorem bBb{D:RD}{R:List (Nat×Bool)}(h:∀n∈R,aTh D n.1)(k:Nat):(eQ ⟨#[45]⟩ (D.run (R.take k))).length<=k * 1012:=by
 have h1:=aCp ⟨#[45]⟩ (by decide) (D.run (R.take k)) (λl E=>by
  obtain⟨c,z,rfl⟩:=aI.1 E
  exact(h c (cG (cT.1 z).1)).le)
 have h2:(D.run (R.take k)).length<=k:=by
  unfold RD.run;rw[aT];exact aR (dZ _ _) (aMv _ _)
 exact aR h1 (dV _ h2)
theorem yQ(L:List (Nat×Bool))(v:Value)(rb:Nat)(D:RD)(w:World)(h:WV w rb D)(hv:RN w v L)(hL:∀c∈L,aTh D c.1)(hl:L.length<=100000):
  Calls Tryz.prog 206 #[.pointer (some ⟨rb,0,none⟩),v] w λe w'=>e=.returned (.string ⟨(eQ ⟨#[45]⟩ (D.run L)).toArray⟩)/\w'=w:=by
 obtain⟨ao,cap,rfl,a0,K⟩:=hv.each (λ_=>rfl);have HC:=aO K;have HW:=aO h;have Z:=aO hL;clear K h hL hv;go_enter Tryz.func206,Tryz.ntmps206;go_wp2
 go_loopw [5,6] (λs i wr=>∃k:Nat,k<=L.length/\i=.int .i64 k/\s=.string ⟨(eQ ⟨#[45]⟩ (D.run (L.take k))).toArray⟩/\Hid (wr=w)) (λ_ i _=>L.length - (intOf i).toNat)
 case atStart=>exact⟨0,aE _,rfl,rfl,rfl⟩
 case round=>
  obtain⟨k,hk,rfl,rfl,hw⟩:=hrel;have Y:=hw.out.symm;subst Y;clear hw;have a1:=bBb Z.out k;have a2:=vR (eQ ⟨#[45]⟩ (D.run (L.take k)));by_cases V:k<L.length
  ·obtain⟨⟨c,d⟩,J⟩:∃c,L[k]?=some c:=⟨_,aC V⟩;obtain⟨b,o,rfl,_,E⟩:=HC.out k _ J;have c0:w.cell? ⟨b,o+k * 2,none⟩=some (.int .i64 c):=E 0 _ rfl;have c1:w.cell? ⟨b,o+k * 2+1,none⟩=some (.bool d):=E 1 _ rfl;have z:=Z.out _ (aD J);obtain⟨p,W⟩:=z.get;have h1:(D.ln c).size<=1000:=z.le;have I:=aO (aX0 (D:=D) J);have ht:(tlT ⟨#[45]⟩ (D.ln c)).size<=1012:=by rw[vR];exact aMf _ _ (by decide) h1
   clear E
   cases d
   ·have U:Hid ((⟨(eQ ⟨#[45]⟩ (D.run (L.take k))).toArray⟩:ByteArray)++tlT ⟨#[45]⟩ (D.ln c)=⟨(eQ ⟨#[45]⟩ (D.run (L.take (k+1)))).toArray⟩):=by
     show _=_;rw[I.out,aSt,if_neg (by simp),aHd]
    have HN:=aO (aDk ⟨#[45]⟩ c (D.ln c) p rb D w HW.out W z.pos (by omega) (by decide));clear W z HW I J;generalize (⟨(eQ ⟨#[45]⟩ (D.run (L.take k))).toArray⟩:ByteArray)=T at *;generalize D.ln c=l at *;generalize tlT ⟨#[45]⟩ l=t at *
    go_wp2_with (go_at_call 243;refine HN.out.mono ?_;rintro e w' ⟨rfl,rfl⟩)
    go_roundw
    case rel=>exact⟨k+1,by omega,by go_num,by rw[U.out],trivial⟩
    case measure=>simp[intOf];omega
   ·have U:Hid (D.run (L.take (k+1))=D.run (L.take k)):=by
     show _=_;rw[I.out,if_pos rfl,cR]
    clear W z HW I J;generalize hT:(⟨(eQ ⟨#[45]⟩ (D.run (L.take k))).toArray⟩:ByteArray)=T at *;have I:=aO hT;clear hT;go_wp2
    go_roundw
    case rel=>exact⟨k+1,by omega,by go_num,by rw[U.out,I.out],trivial⟩
    case measure=>simp[intOf];omega
  ·have e:k=L.length:=by omega
   subst e;rw[bD] at *;go_wp2;go_ret;exact⟨rfl,rfl⟩
def RD.pid(D:RD)(p:Nat):ByteArray:=(D.pts[p]?.map (·.id)).getD ⟨#[]⟩
def RD.idsT(D:RD)(L:List Nat):List UInt8:=L.flatMap λp=>(D.pid p).data.toList++[10]
theorem RD.pid_at{D:RD}{p:Nat}{P:RPt}(h:D.pts[p]?=some P):D.pid p=P.id:=by simp[RD.pid,h]
theorem aOc(D:RD):∀L:List Nat,(∀p∈L,(D.pid p).size<=4)->(D.idsT L).length<=L.length * 5
 | [],_=>by simp[RD.idsT]
 | p::L,h=>by
  have:=aOc D L (λx E=>h x (by simp[E]));have h1:=h p (by simp);have z:(D.pid p).data.toList.length=(D.pid p).size:=rfl;unfold RD.idsT at *;simp only[bL,aJ,aY,z,cX];omega
theorem aRa(L:List Nat)(v:Value)(rb:Nat)(D:RD)(w:World)(h:WV w rb D)(hv:RI w v L)(Z:∀p∈L,p<D.pts.length/\(D.pid p).size<=4)(hl:L.length<=100000):
  Calls Tryz.prog 155 #[.pointer (some ⟨rb,0,none⟩),v] w λe w'=>e=.returned (.string ⟨(D.idsT L).toArray⟩)/\Below w.heap.size w w':=by
 obtain⟨ao,cap,rfl,a0,_⟩:=hv.each;have HV:=aO hv;have HW:=aO h;have Y:=aO Z;clear h Z hv;go_enter Tryz.func155,Tryz.ntmps155;go_wp2
 go_loopw [5,6] (λs i wr=>∃k:Nat,k<=L.length/\i=.int .i64 k/\s=.string ⟨(D.idsT (L.take k)).toArray⟩/\Below w.heap.size w wr) (λ_ i _=>L.length - (intOf i).toNat)
 case atStart=>exact⟨0,aE _,rfl,rfl,Below.refl _ _⟩
 case round=>
  obtain⟨k,hk,rfl,rfl,K⟩:=hrel;have V:=aOc D (L.take k) (λp z=>(Y.out p (cG z)).2);rw[bR] at V;have a2:=vR (D.idsT (L.take k));by_cases W:k<L.length
  ·obtain⟨p,z⟩:∃p,L[k]?=some p:=⟨_,aC W⟩;obtain⟨_,_,e1,_,E⟩:=RI.each (HV.out.below K)
   cases e1
   obtain⟨b,o,rfl,_,c0⟩:=E k p z;obtain⟨I,a1⟩:=Y.out p (aD z);obtain⟨pa,pc,c1,J⟩:=(HW.out.below K).pts_;obtain⟨b2,o2,rfl,c2,-⟩:=J p _ (aC I);rw[<- RD.pid_at (aC I)] at c2;have HE:Hid ((⟨(D.idsT (L.take k)).toArray⟩:ByteArray)++D.pid p++⟨#[10]⟩=⟨(D.idsT (L.take (k+1))).toArray⟩):=by
    show _=_;rw[jD,z];apply gL;simp[RD.idsT]
   clear E J z;generalize (⟨(D.idsT (L.take k)).toArray⟩:ByteArray)=T at *;generalize D.pid p=t at *;generalize D.pts.length=n at *
   go_wp2_with fail
   go_quiet (fail)
   have U:=below_drewN K nq;go_wp2
   go_roundw
   case rel=>exact⟨k+1,by omega,by go_num,by rw[HE.out],U⟩
   case measure=>simp[intOf];omega
  ·have e:k=L.length:=by omega
   subst e;rw[bD] at *;go_wp2;go_ret;exact⟨rfl,K⟩
def RD.fnd(D:RD)(L:List Nat)(x:ByteArray):Option Nat:=L.findIdx? λp=>decide (D.pid p=x)
theorem aC9(r:Nat)(R:iD)(x:ByteArray)(rb:Nat)(D:RD)(w:World)(h:WV w rb D)(hr:D.repos[r]?=some R)(hL:∀p∈R.L,p<D.pts.length)(hl:R.L.length<=100000)(a3:D.repos.length<=1000):
  Calls Tryz.prog 149 #[.pointer (some ⟨rb,0,none⟩),.int .i64 r,.string x] w λe w'=>e=.returned (.int .i64 (uR (D.fnd R.L x)))/\Below w.heap.size w w':=by
 obtain⟨sa,sc,c3,a0⟩:=h.repos_;obtain⟨sb,so,rfl,_,_,c4,hR⟩:=a0 r R hr;have a4:=(aB.1 hr).1;obtain⟨ao,cap,W,a2,_⟩:=hR.2.2.each;have HV:=aO hR.2.2;rw[W] at c4 HV;have HW:=aO h;have HL:=aO hL;generalize R.L=L at *;generalize D.repos.length=nr at *;clear h hL W hR a0 hr;obtain⟨T,hT⟩:∃T,uR (D.fnd L x)=T:=⟨_,rfl⟩;have HT:=aO hT;rw[hT];clear hT;go_enter Tryz.func149,Tryz.ntmps149;go_wp2
 go_loopw [8] (λi wr=>∃k:Nat,k<=L.length/\i=.int .i64 k/\Hid (∀j p,j<k->L[j]?=some p->D.pid p≠x)/\Below w.heap.size w wr) (λi _=>L.length - (intOf i).toNat)
 case atStart=>exact⟨0,aE _,rfl,λj p J=>by omega,Below.refl _ _⟩
 case round=>
  obtain⟨k,hk,rfl,HN,K⟩:=hrel;clear c3 c4;by_cases V:k<L.length
  ·obtain⟨p,hp⟩:∃p,L[k]?=some p:=⟨_,aC V⟩;obtain⟨_,_,e1,_,U⟩:=RI.each (HV.out.below K)
   cases e1
   obtain⟨b,o,rfl,_,c0⟩:=U k p hp;have Y:=HL.out p (aD hp);obtain⟨pa,pc,c1,Z⟩:=(HW.out.below K).pts_;obtain⟨b2,o2,rfl,c2,-⟩:=Z p _ (aC Y);rw[<- RD.pid_at (aC Y)] at c2;have HP:=aO hp;clear U Z hp;generalize z:D.pid p=t at *;have HQ:=aO z;clear z;generalize D.pts.length=n at *
   cases I:decide (t=x)
   ·have a1:(t.toList == x.toList)=false:=by rw[oM];exact I
    have HX:Hid (t≠x):=by show _≠_;simpa using I
    clear I
    go_wp2_with fail
    go_quiet (fail)
    have E:=below_drewN K nq;go_wp2
    go_roundw
    case rel=>
     refine⟨k+1,by omega,by go_num,λj q J z=>?_,E⟩;by_cases e:j=k
     ·subst e;rw[HP.out] at z;cases z;rw[HQ.out];exact HX.out
     ·exact HN.out j q (by omega) z
    case measure=>simp[intOf];omega
   ·have a1:(t.toList == x.toList)=true:=by rw[oM];exact I
    have HX:Hid (t=x):=by show _=_;simpa using I
    clear I
    go_wp2_with fail
    go_quiet (fail)
    have E:=below_drewN K nq;go_wp2;go_ret;refine⟨fW ?_,E⟩;rw[<- HT.out];have:D.fnd L x=some k:=by
     unfold RD.fnd;rw[cQ];have:=(aB.1 HP.out).2;refine⟨V,by simp[this,HQ.out,HX.out],λj J=>?_⟩;simpa using HN.out j _ J (aC (by omega))
    rw[this];rfl
  ·go_wp2;go_ret;refine⟨fW ?_,K⟩;rw[<- HT.out];have:D.fnd L x=none:=by
    unfold RD.fnd;rw[fE];intro q z;obtain⟨j,J⟩:=bI.1 z;have:=(aB.1 J).1;simpa using HN.out j q (by omega) J
   rw[this];rfl
theorem bP{w:World}{b o:Nat}{v:Value}(O:Obj)(h:w.cell? ⟨b,o,none⟩=some v):(w.alloc O).cell? ⟨b,o,none⟩=some v:=by
 have E:b<w.heap.size:=by
  cases z:w.heap[b]? with
  | none=>simp[World.cell?,z] at h
  | some x=>exact(aV.1 z).1
 exact(((Below.refl w.heap.size w).alloc (aA _) O).cell (p:=⟨b,o,none⟩) E).trans h
theorem aZq(w:World)(cs:Array Value)(t:TypeId):Below w.heap.size w (w.alloc (.cells cs t)).drew/\(w.alloc (.cells cs t)).drew.heap[w.heap.size]?=some (.cells cs t (0,0)):=⟨((Below.refl _ _).alloc (aA _) _).drew,(aH w _).1⟩
theorem aGp(w:World)(cs:Array Value)(t:TypeId):Below w.heap.size w (w.alloc (.cells cs t))/\(w.alloc (.cells cs t)).heap[w.heap.size]?=some (.cells cs t (0,0)):=⟨(Below.refl _ _).alloc (aA _) _,(aH w _).1⟩
def aMy(Cs:List vH)(j:Nat):Int:=((Cs.find? λc=>decide (c.kind=0/\c.new=j)).map (·.file)).getD (-1)
theorem aSr{Cs:List vH}{k j:Nat}{c:vH}(E:Cs[k]?=some c)(z:∀(i:Nat) (d:vH),i<k->Cs[i]?=some d->¬ (d.kind=0/\d.new=j))(h:c.kind=0/\c.new=j):aMy Cs j=c.file:=by
 unfold aMy;have:Cs.find? (λc=>decide (c.kind=0/\c.new=j))=some c:=by
  rw[List.find?_eq_some_iff_getElem];obtain⟨h1,h2⟩:=aB.1 E;exact⟨by simpa using h,k,h1,h2,λi hi=>by have:=z i _ hi (aC (by omega));simp only[Bool.not_eq_true',decide_eq_false_iff_not];exact this⟩
 rw[this];rfl
theorem aY7{Cs:List vH}{j:Nat}(z:∀(i:Nat) (d:vH),Cs[i]?=some d->¬ (d.kind=0/\d.new=j)):aMy Cs j=-1:=by
 unfold aMy;have:Cs.find? (λc=>decide (c.kind=0/\c.new=j))=none:=by
  rw[List.find?_eq_none];intro c E;obtain⟨i,hi⟩:=bI.1 E;have:=z i c hi;simp only[decide_eq_true_eq];exact this
 rw[this];rfl
theorem aKi(j p:Nat)(x:ByteArray)(P:RPt)(rb:Nat)(D:RD)(w:World)(h:WV w rb D)(hj:D.files[j]?=some (x,p))(hp:D.pts[p]?=some P)(hl:P.chs.length<=100000):
  Calls Tryz.prog 265 #[.pointer (some ⟨rb,0,none⟩),.int .i64 j] w λe w'=>e=.returned (.int .i64 (aMy P.chs j))/\Below w.heap.size w w':=by
 obtain⟨fa,fc,c2,V⟩:=h.files_;obtain⟨fb,fo,rfl,-,f1⟩:=V j x p hj;obtain⟨pa,pc,c0,W⟩:=h.pts_;obtain⟨b,o,rfl,p0,p1,hP⟩:=W p P hp;have a9:=(aB.1 hj).1;have b0:=(aB.1 hp).1;obtain⟨ca,cc,U,-,-⟩:=hP.1.each (λ_=>rfl);have HV:=aO hP.1;rw[U] at p1 HV;generalize D.files.length=nf at *;generalize D.pts.length=np at *;generalize P.chs=Cs at *;clear V W hP U hp hj h;obtain⟨T,hT⟩:∃T,aMy Cs j=T:=⟨_,rfl⟩;have HT:=aO hT;rw[hT];clear hT;go_enter Tryz.func265,Tryz.ntmps265
 go_wp2_with fail
 have a0:=bP (.cells #[.string ⟨#[]⟩,.slice none 0 0] 195) c0;have a1:=bP (.cells #[.string ⟨#[]⟩,.slice none 0 0] 195) c2;have a2:=bP (.cells #[.string ⟨#[]⟩,.slice none 0 0] 195) f1;have a3:=bP (.cells #[.string ⟨#[]⟩,.slice none 0 0] 195) p0;have a4:=bP (.cells #[.string ⟨#[]⟩,.slice none 0 0] 195) p1
 go_region
 obtain⟨E,a5⟩:=aZq w #[.string P.id,.slice ca Cs.length cc] 195;generalize (w.alloc (.cells #[.string P.id,.slice ca Cs.length cc] 195)).drew=u at *;clear a0 a1 a2 a3 a4 f1 c2 c0 p0 p1;have a8:u.cell? ⟨w.heap.size,1,none⟩=some (.slice ca Cs.length cc):=by simp[World.cell?,a5]
 obtain⟨_,_,e1,-,K⟩:=(HV.out.below E).each (λ_=>rfl)
 cases e1
 have HC:=aO K;clear K HV;go_wp2
 go_loopw [6] (λi wr=>∃k:Nat,k<=Cs.length/\i=.int .i64 k/\Hid (∀(i:Nat) (d:vH),i<k->Cs[i]?=some d->¬ (d.kind=0/\d.new=j))/\Hid (wr=u)) (λi _=>Cs.length - (intOf i).toNat)
 case atStart=>exact⟨0,aE _,rfl,λi d hi=>by omega,rfl⟩
 case round=>
  obtain⟨k,hk,rfl,HN,hw⟩:=hrel;have a7:=hw.out.symm;subst a7;clear hw;by_cases a6:k<Cs.length
  ·obtain⟨c,hc⟩:∃c,Cs[k]?=some c:=⟨_,aC a6⟩;obtain⟨b,o,rfl,_,z⟩:=HC.out k _ hc;have d1:u.cell? ⟨b,o+k * 7+1,none⟩=some (.int .i64 c.kind):=z 1 _ rfl;have d2:u.cell? ⟨b,o+k * 7+2,none⟩=some (.int .i64 c.file):=z 2 _ rfl;have d3:u.cell? ⟨b,o+k * 7+3,none⟩=some (.int .i64 c.new):=z 3 _ rfl;have HK:=aO hc;clear z hc;have next:¬ (c.kind=0/\c.new=j)->∀(i:Nat) (d:vH),i<k+1->Cs[i]?=some d->¬ (d.kind=0/\d.new=j):=λhn i d hi I=>by
    by_cases e:i=k
    ·subst e;rw[HK.out] at I;cases I;exact hn
    ·exact HN.out i d (by omega) I
   by_cases J:c.kind=0
   ·have q1:((c.kind:Int) == 0)=true:=by simp[J]
    by_cases Y:c.new=j
    ·have q3:((c.new:Int) == (j:Int))=true:=by simp[Y]
     have Z:=aO (aSr HK.out HN.out ⟨J,Y⟩);clear next J Y;generalize c.kind=ck at *;generalize c.new=cn at *;go_wp2;go_ret;exact⟨fW (by rw[<- HT.out,Z.out]),E⟩
    ·have q3:((c.new:Int) == (j:Int))=false:=by simp;omega
     have HX:=aO (next (λh=>Y h.2));clear next J Y;generalize c.kind=ck at *;generalize c.new=cn at *;go_wp2
     go_roundw
     case rel=>exact⟨k+1,by omega,by go_num,HX,trivial⟩
     case measure=>simp[intOf];omega
   ·have q1:((c.kind:Int) == 0)=false:=by simp;omega
    have HX:=aO (next (λh=>J h.1));clear next J;generalize c.kind=ck at *;go_wp2
    go_roundw
    case rel=>exact⟨k+1,by omega,by go_num,HX,trivial⟩
    case measure=>simp[intOf];omega
  ·have Z:=aO (aY7 (j:=j) (λi d I=>HN.out i d (by have:=(aB.1 I).1;omega) I));go_wp2;go_ret;exact⟨fW (by rw[<- HT.out,Z.out]),E⟩
structure RS where
 came:List Bool
 gone:List Bool
 rows:List (Value×List Nat)
 dead:List Bool
abbrev eV(r:Value×List Nat):List Value:=[r.1]
abbrev eB(b:Bool):List Value:=[.bool b]
structure sE (w:World) (sb:Nat) (s:RS):Prop where
 wb:∃cv gv rv dv,w.heap[sb]?=some (.cells #[cv,gv,rv,dv] 259 (0,0))/\eJ w 4 1 s.came.length cv (s.came.flatMap eB)/\eJ w 4 1 s.gone.length gv (s.gone.flatMap eB)/\eJ w 25 1 s.rows.length rv (s.rows.flatMap eV)/\eJ w 4 1 s.dead.length dv (s.dead.flatMap eB)
 ok:∀r∈s.rows,RI w r.1 r.2
theorem sE.lt{w:World}{z:Nat}{s:RS}(h:sE w z s):z<w.heap.size:=by
 obtain⟨_,_,_,_,h1,_⟩:=h.wb;exact(aV.1 h1).1
theorem sE.below{w w':World}{E:Nat}{s:RS}(h:sE w E s)(z:Below w.heap.size w w'):sE w' E s:=by
 refine⟨?_,λr W=>(h.ok r W).below z⟩;obtain⟨cv,J,rv,I,h1,h2,K,U,V⟩:=h.wb;exact⟨cv,J,rv,I,(z.block _ h.lt).trans h1,h2.below z,K.below z,U.below z,V.below z⟩
abbrev aJ7(w:World)(sb i:Nat)(L:List Bool):Prop:=∃ao cap,w.cell? ⟨sb,i,none⟩=some (.slice ao L.length cap)/\∀(k:Nat) (d:Bool),L[k]?=some d->∃b o,ao=some ⟨b,o,none⟩/\w.cell? ⟨b,o+k,none⟩=some (.bool d)
theorem aKm{w:World}{E i:Nat}{v:Value}{L:List Bool}(h:eJ w 4 1 L.length v (L.flatMap eB))(J:w.cell? ⟨E,i,none⟩=some v):aJ7 w E i L:=by
 obtain⟨I,cap,rfl,_,K⟩:=h.each (λ_=>rfl);refine⟨I,cap,J,λk d U=>?_⟩;obtain⟨b,o,e,_,z⟩:=K k _ U;have:=z 0 _ rfl;rw[jW] at this;exact⟨b,o,e,this⟩
theorem sE.came_{w:World}{z:Nat}{s:RS}(h:sE w z s):aJ7 w z 0 s.came:=by
 obtain⟨cv,I,rv,E,h1,h2,J,K,U⟩:=h.wb;exact aKm h2 (by simp[World.cell?,h1])
theorem sE.gone_{w:World}{z:Nat}{s:RS}(h:sE w z s):aJ7 w z 1 s.gone:=by
 obtain⟨cv,J,rv,I,h1,h2,E,K,U⟩:=h.wb;exact aKm E (by simp[World.cell?,h1])
theorem sE.dead_{w:World}{z:Nat}{s:RS}(h:sE w z s):aJ7 w z 3 s.dead:=by
 obtain⟨cv,J,rv,I,h1,h2,K,U,E⟩:=h.wb;exact aKm E (by simp[World.cell?,h1])
theorem sE.rows_{w:World}{J:Nat}{s:RS}(h:sE w J s):∃z cap,w.cell? ⟨J,2,none⟩=some (.slice z s.rows.length cap)/\∀(k:Nat) (v:Value) (r:List Nat),s.rows[k]?=some (v,r)->∃b o,z=some ⟨b,o,none⟩/\w.cell? ⟨b,o+k,none⟩=some v/\RI w v r:=by
 obtain⟨cv,W,rv,V,h1,h2,Y,K,Z⟩:=h.wb;obtain⟨z,cap,rfl,_,U⟩:=K.each (λ_=>rfl);refine⟨z,cap,by simp[World.cell?,h1],λk v r I=>?_⟩;obtain⟨b,o,e,_,E⟩:=U k _ I;have:=E 0 _ rfl;rw[jW] at this;exact⟨b,o,e,this,h.ok _ (aD I)⟩
def RD.aft(D:RD)(j:Nat):Int:=match D.files[j]? with
 | some (_,p)=>aMy ((D.pts[p]?.map (·.chs)).getD []) j
 | none=>-1
structure aV1 (D:RD) (s:RS) (x:ByteArray) (k:Int):Prop where
 lo:-1<=k
 hi:k<s.came.length
 is_:∀i:Nat,(i:Int)=k->s.came[i]?=some true/\(D.files[i]?.map (·.1))=some x/\∀j:Nat,s.came[j]?=some true->D.aft j≠i
 oth:∀i:Nat,(i:Int)≠k->s.came[i]?=some true->(D.files[i]?.map (·.1))=some x->s.gone[i]?=some true/\(i:Int)<k/\∃j:Nat,s.came[j]?=some true/\D.aft j=i
structure bAh (D:RD) (s:RS):Prop where
 len:s.came.length<=D.files.length
 gl:s.gone.length=s.came.length
 rl:s.rows.length=s.came.length
 by_:∀(j:Nat) (x:ByteArray) (p:Nat),j<s.came.length->D.files[j]?=some (x,p)->p<D.pts.length
 chs:∀P∈D.pts,P.chs.length<=100000
 few:D.files.length<=1000000
 gt:∀i:Nat,s.gone[i]?=some true->s.came[i]?=some true
def aEe(D:RD)(s:RS)(i j:Nat):Bool:=(List.range j).any λt=>(s.came[t]?.getD false) && decide (D.aft t=i)
theorem aT6(D:RD)(s:RS)(i j:Nat)(c:Bool)(z:s.came[j]?=some c):aEe D s i (j+1)=(aEe D s i j || (c && decide (D.aft j=i))):=by
 unfold aEe;rw[vL,vK];simp[z]
theorem aN4{D:RD}{s:RS}{i:Nat}:aEe D s i s.came.length=true↔∃j:Nat,s.came[j]?=some true/\D.aft j=i:=by
 unfold aEe;rw[aV3];constructor
 ·rintro⟨t,z,h⟩;simp only[jX,decide_eq_true_eq] at h;refine⟨t,?_,h.2⟩;have:t<s.came.length:=fL.1 z;have h2:=h.1;rw[aC this] at h2 ⊢;simpa using h2
 ·rintro⟨j,h1,h2⟩;exact⟨j,fL.2 (aB.1 h1).1,by simp[h1,h2]⟩
theorem RD.aft_at{D:RD}{j p:Nat}{x:ByteArray}{P:RPt}(h1:D.files[j]?=some (x,p))(h2:D.pts[p]?=some P):D.aft j=aMy P.chs j:=by
 unfold RD.aft;rw[h1];simp[h2]
theorem aXw{row:List Nat}(J:row.Nodup){k c:Nat}(E:row[k]?=some c):plc row (c:Int)=k:=by
 obtain⟨I,e⟩:=aB.1 E;unfold plc;have:(row.findIdx? λ(j:Nat)=>decide ((j:Int)=(c:Int)))=some k:=by
  rw[cQ];refine⟨I,by simp[e],λj U=>?_⟩;simp only[decide_eq_true_eq];intro K;have z:row[j]=row[k]:=by rw[e];omega
  have:=(List.getElem_inj J).1 z;omega
 rw[this];rfl
def aYw(dead:List Bool)(X:List Nat)(A:Int):Prop:=(A=-1/\X=[])\/∃X' c,X=X'++[c]/\A=(c:Nat)/\dead[c]?=some false
def aYx(dead:List Bool)(Z:List Nat)(B:Int):Prop:=(B=-1/\Z=[])\/∃c Z',Z=c::Z'/\B=(c:Nat)/\dead[c]?=some false
theorem qH(X Y Z:List Nat)(A B:Int)(ua va:Option Addr)(un uc vn vc:Nat)(v:Value)(sb:Nat)(s:RS)(w:World)(hs:sE w sb s)(hr:RI w v (X++(Y++Z)))(a1:(X++(Y++Z)).Nodup)(hA:aYw s.dead X A)(hB:aYx s.dead Z B)(hl:(X++(Y++Z)).length<=1000000):
  Calls Tryz.prog 207 #[.pointer (some ⟨sb,0,none⟩),v,.agg #[.int .i64 A,.int .i64 B,(.slice ua un uc),(.slice va vn vc)]] w λe w'=>e=.returned (.tuple #[.int .i64 X.length,.int .i64 (X++Y).length,.bool true])/\Below w.heap.size w w':=by
 obtain⟨ao,cap,rfl,a7,-⟩:=RI.each hr;have a8:(X++Y).length<=(X++(Y++Z)).length:=by simp
 have b3:X.length<=(X++Y).length:=by simp
 have pA:(A=-1/\X.length=0)\/(∃c k:Nat,A=c/\s.dead[c]?=some false/\X.length=k+1/\plc (X++(Y++Z)) (c:Int)=(k:Int)):=by
  rcases hA with ⟨h1,h2⟩|⟨X',c,h1,h2,h3⟩
  ·exact .inl ⟨h1,by simp[h2]⟩
  ·exact .inr ⟨c,X'.length,h2,h3,by simp[h1],aXw a1 (by simp[h1])⟩
 have pB:(B=-1/\(X++(Y++Z)).length=(X++Y).length)\/(∃c:Nat,B=c/\s.dead[c]?=some false/\plc (X++(Y++Z)) (c:Int)=((X++Y).length:Nat)):=by
  rcases hB with ⟨h1,h2⟩|⟨c,Z',h1,h2,h3⟩
  ·exact .inl ⟨h1,by simp[h2]⟩
  ·refine .inr ⟨c,h2,h3,aXw a1 ?_⟩;rw[h1,<- bG,bH (aA _)];simp
 have HP:Hid (∀(c:Int) (u:World),Below w.heap.size w u->Calls Tryz.prog 157 #[.slice ao (X++(Y++Z)).length cap,.int .i64 c] u λe w'=>e=.returned (.int .i64 (plc (X++(Y++Z)) c))/\w'=u):=λc u hu=>aLz _ _ c u (hr.below hu) hl;have HS:=aO hs;generalize hn:(X++(Y++Z)).length=n at *;generalize hm:(X++Y).length=m at *;generalize X.length=q at *;generalize X++(Y++Z)=row at *;clear hs hr a1 hA hB;clear hn hm;obtain⟨K,J⟩:∃K,K=w.alloc (.cells #[.int .i64 A,.int .i64 B,(.slice ua un uc),(.slice va vn vc)] 269):=⟨_,rfl⟩;have HK:Hid (∀u,Below K.heap.size K u->Below w.heap.size w u/\u.cell? ⟨w.heap.size,0,none⟩=some (.int .i64 A)/\u.cell? ⟨w.heap.size,1,none⟩=some (.int .i64 B)):=λu hu=>by
  rw[J] at hu;obtain⟨a2,a3⟩:=aGp w #[.int .i64 A,.int .i64 B,(.slice ua un uc),(.slice va vn vc)] 269;have e:=(hu.block w.heap.size (aV.1 a3).1).trans a3;exact⟨a2.trans (hu.mono a2.size),by simp[World.cell?,e],by simp[World.cell?,e]⟩
 have HD:Hid (∀u,Below w.heap.size w u->∀c:Nat,s.dead[c]?=some false->c<s.dead.length/\∃b o dc,u.cell? ⟨sb,3,none⟩=some (.slice (some ⟨b,o,none⟩) s.dead.length dc)/\u.cell? ⟨b,o+c,none⟩=some (.bool false)):=λu hu c hc=>by
  obtain⟨da,dc,h1,h2⟩:=(HS.out.below hu).dead_;obtain⟨b,o,rfl,h3⟩:=h2 c _ hc;exact⟨(aB.1 hc).1,b,o,dc,h1,h3⟩
 clear HS;rcases pA with ⟨rfl,hq⟩|⟨c,k,rfl,hc,rfl,a4⟩
 ·have a5:((q:Nat):Int)=0:=by omega
  rcases pB with ⟨rfl,hm⟩|⟨d,rfl,hd,V⟩
  ·subst hm;go_enter Tryz.func207,Tryz.ntmps207
   go_wp2_with fail
   rw[<- J];obtain⟨E,k0,k1⟩:=HK.out K (Below.refl _ _);clear J HK HD HP;go_wp2
   go_ret3
   exact⟨by simp[a5],E⟩
  ·go_enter Tryz.func207,Tryz.ntmps207
   go_wp2_with fail
   rw[<- J];obtain⟨E,k0,k1⟩:=HK.out K (Below.refl _ _);obtain⟨a6,b,o,dc,e3,e4⟩:=HD.out K E d hd;have z:=aO (HP.out (d:Int) K E);rw[V] at z;clear V hd J HK HD HP
   go_wp2_with fail
   refine z.out.mono ?_;rintro e w2 ⟨rfl,I⟩;have W:=I.symm;subst W;clear I z
   go_wp2_with fail
   go_quiet (fail)
   have U:=below_drewN E nq;go_wp2
   go_ret3
   exact⟨by simp[a5],U⟩
 ·go_enter Tryz.func207,Tryz.ntmps207
  go_wp2_with fail
  rw[<- J];obtain⟨E,k0,k1⟩:=HK.out K (Below.refl _ _);obtain⟨b2,b,o,dc,e3,e4⟩:=HD.out K E c hc;have z:=aO (HP.out (c:Int) K E);rw[a4] at z;clear a4 hc J
  go_wp2_with fail
  refine z.out.mono ?_;rintro e w2 ⟨rfl,I⟩;have W:=I.symm;subst W;clear I z
  go_wp2_with fail
  go_quiet (fail)
  have U:=below_drewN (Below.refl K.heap.size K) nq;generalize K.drewN nq=u at *;obtain⟨a0,b4,b5⟩:=HK.out u U;rcases pB with ⟨rfl,hm⟩|⟨d,rfl,hd,V⟩
  ·subst hm;clear HK HD HP k0 k1 e3 e4;go_wp2
   go_ret3
   exact⟨by simp;omega,a0⟩
  ·obtain⟨a6,b',o',a9,b0,b1⟩:=HD.out u a0 d hd;have z:=aO (HP.out (d:Int) u a0);rw[V] at z;clear HK HD HP k0 k1 e3 e4 V hd
   go_wp2_with fail
   refine z.out.mono ?_;rintro e w2 ⟨rfl,I⟩;have W:=I.symm;subst W;clear I z
   go_wp2_with fail
   go_quiet (fail)
   have U:=below_drewN a0 nq;go_wp2
   go_ret3
   exact⟨by simp;omega,U⟩
structure aWa (Ps:List PM):Prop where
 few:∀P∈Ps,P.Cs.length<=300
 names:∀P∈Ps,∀c∈P.Cs,c.1.size<=1000
 small:∀P∈Ps,∀c∈P.Cs,qU c.2
 br:∀P∈Ps,∀c∈P.Cs,(jS c.2).length<=1000
 line:∀P∈Ps,∀c∈P.Cs,∀t∈jS c.2,t.line.size<=1000
theorem aWa.sub{Ps E:List PM}(h:aWa Ps)(hs:∀P∈E,P∈Ps):aWa E:=⟨λP z=>h.few P (hs P z),λP z=>h.names P (hs P z),λP z=>h.small P (hs P z),λP z=>h.br P (hs P z),λP z=>h.line P (hs P z)⟩
structure HSl (Ps:List PM) (s:ByteArray->PL):Prop where
 hist:qE Ps s
 len:Ps.length<=40
 slim:aWa Ps
theorem aWg{P:PM}{s s':ByteArray->PL}(h:aBp P s s')(I:∀c∈P.Cs,(jS c.2).length<=1000)(x:ByteArray):(s' x).S.length<=(s x).S.length+1000:=by
 by_cases E:∃c∈P.Cs,c.1=x
 ·obtain⟨c,z,rfl⟩:=E;have:=aSs (h.app c z);have:=I c z;omega
 ·rw[h.other x (λc z e=>E ⟨c,z,e⟩)];omega
theorem aFl:∀{Ps:List PM} {s s':ByteArray->PL},mD Ps s s'->aWa Ps->∀x,(s' x).S.length<=(s x).S.length+1000 * Ps.length
 | [],s,s',h,_,x=>by
  have h:s'=s:=h;subst h;simp
 | P::Ps,s,s',⟨s1,h1,h2⟩,hs,x=>by
  have a:=aFl h2 (hs.sub λQ z=>dP _ z) x;have b:=aWg h1 (hs.br P (eT ..)) x;rw[aY];omega
theorem HSl.rows{Ps:List PM}{s:ByteArray->PL}(h:HSl Ps s)(x:ByteArray):(s x).S.length<=40000:=by
 have a:=aFl h.hist.chain h.slim x;have b:=h.len;have c:(pl0).S.length=0:=rfl;simp only[c] at a;omega
theorem HSl.stands{Ps:List PM}{s:ByteArray->PL}(h:HSl Ps s):∃U a0,hU Ps U a0/\U Ps.length 0=s/\a0 Ps.length<=300 * Ps.length/\(∀p,p<=Ps.length->HSl (Ps.take p) (U p 0))/\∀p P,Ps[p]?=some P->aBp P (U p 0) (U (p+1) 0):=by
 have hs:=h.slim;have hl:=h.len;have hw:=h;replace h:=h.hist;obtain⟨S,e0,e1,e2⟩:=h.chain.seq;have a2:∀p,p<=Ps.length->mD (Ps.take p) (λ_=>pl0) (S p):=by
  intro p
  induction p with
  | zero=>intro _;exact e0
  | succ p ih=>
   intro hp;have I:p<Ps.length:=by omega
   rw[aF I];exact mD.app.2 ⟨S p,ih (by omega),S (p+1),e2 p _ (aC I),rfl⟩
 have hh:∀p,p<=Ps.length->HSl (Ps.take p) (S p):=λp hp=>by
  have h1:Ps.take p++Ps.drop p=Ps:=bV p Ps;refine⟨⟨a2 p hp,?_,?_,λP z=>h.wf P (cG z)⟩,by rw[bR];omega,hs.sub λP z=>cG z⟩
  ·have:=h.nd;rw[<- h1,bF] at this;exact(cP.1 this).1
  ·have:=h.noz;rw[<- h1,bF] at this;exact λk=>this (aG.2 (.inl k))
 have W:∀p,p<=Ps.length->∀x,(S p x).S.length<=40000:=λp hp x=>(hh p hp).rows x
 let U:Nat->Nat->ByteArray->PL:=λp k=>match Ps[p]? with
  | some P=>vE P (S p) (S (p+1)) k
  | none=>S p
 have J:∀p P,Ps[p]?=some P->∀k,U p k=vE P (S p) (S (p+1)) k:=λp P z k=>by
  show (match Ps[p]? with|some P=>vE P (S p) (S (p+1)) k|none=>S p)=_;rw[z]
 have E:∀p,U p 0=S p:=λp=>by
  cases z:Ps[p]? with
  | none=>
   show (match Ps[p]? with|some P=>vE P (S p) (S (p+1)) 0|none=>S p)=_;rw[z]
  | some P=>rw[J p P z 0,aJj]
 have V:∀p,((Ps.take p).map (·.Cs.length)).sum<=300 * (Ps.take p).length:=λp=>by
  have:∀L:List PM,(∀P∈L,P.Cs.length<=300)->(L.map (·.Cs.length)).sum<=300 * L.length:=by
   intro L
   induction L with
   | nil=>intro _;simp
   | cons P L ih=>
    intro hL;have a:=hL P (by simp);have b:=ih (λQ hQ=>hL Q (by simp[hQ]));simp only[cU,List.sum_cons,aY];omega
  exact this _ (λP z=>hs.few P (cG z))
 refine⟨U,λp=>((Ps.take p).map (·.Cs.length)).sum,⟨?_,λp P z=>?_,λp P k c z Z x hx=>?_,λp P k c z Z=>?_,λP z c Z=>hs.names P z c Z,λP z=>?_,λp P z=>?_,λp=>?_⟩,?_,?_,λp hp=>by rw[E];exact hh p hp,λp P z=>by rw[E,E];exact e2 p P z⟩
 ·rw[E,e0]
 ·rw[E,J p P z,aO4 (e2 p P z)]
 ·rw[J p P z,J p P z];exact aGm Z hx
 ·have I:=(aB.1 z).1;have K:=aD z;obtain⟨m1,m2⟩:=aGl (s:=S p) (s':=S (p+1)) (h.wf P K).nd Z;rw[J p P z,J p P z,m1,m2];have Y:=aD Z;have hH:=(hh p (by omega)).hist;have aO:P.id∉(Ps.take p).map (·.id):=by
   have a1:=(hh (p+1) (by omega)).hist;rw[aF I,(aB.1 z).2] at a1;exact a1.last.choose_spec.2.2.2.1
  have a3:P.id≠lF:=λe=>h.noz (by rw[<- e];exact aI.2 ⟨P,K,rfl⟩);exact aIs ((e2 p P z).app c Y) (hH.good.1 c.1) hH.noz aO a3 ((h.wf P K).wf c Y) (hs.small P K c Y) (W p (by omega) _) (W (p+1) (by omega) _)
 ·have:=hs.few P z;omega
 ·have I:=(aB.1 z).1;show ((Ps.take (p+1)).map (·.Cs.length)).sum=((Ps.take p).map (·.Cs.length)).sum+P.Cs.length;rw[aF I,(aB.1 z).2];simp
 ·have a:=V p;have b:(Ps.take p).length<=Ps.length:=by rw[bR];omega
  show ((Ps.take p).map (·.Cs.length)).sum<=100000;omega
 ·rw[E,e1]
 ·have:=V Ps.length;rw[bD] at this;simp only[bD];exact this
end Go.Proofs.YtgdfipmdmgkidaaGreatDoor

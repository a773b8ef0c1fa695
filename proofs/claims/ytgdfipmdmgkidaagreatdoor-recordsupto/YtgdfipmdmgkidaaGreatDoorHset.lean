import Derived.Test.YtgdfipmdmgkidaaGreatDoorHcme
import Derived.Test.YtgdfipmdmgkidaaGreatDoorHfil
import Derived.Test.YtgdfipmdmgkidaaGreatDoorGset
import Derived.Test.YtgdfipmdmgkidaaGreatDoorNplace
import Derived.Deep.DeepCutAuto
import Derived.Test.YtgdfipmdmgkidaaGreatDoorHmake
import Derived.Test.YtgdfipmdmgkidaaGreatDoorXrec
import Derived.Test.YtgdfipmdmgkidaaGreatDoorPwrite
import Derived.Test.YtgdfipmdmgkidaaGreatDoorAl
set_option linter.all false
set_option maxHeartbeats 12800000
set_option maxRecDepth 100000
namespace Go.Proofs.YtgdfipmdmgkidaaGreatDoor
open Go.RowKit
def RD.setR(D:RD)(r:Nat)(R:iD):RD:={ D with repos:=D.repos.set r R }
theorem aTc(L:List iD)(i:Nat)(s:iD)(hi:i<L.length):(L.set i s).flatMap eR=(((L.flatMap eR).set (i * 3) s.nv).set (i * 3+1) s.tv).set (i * 3+2) s.lv:=by
 induction L generalizing i with
 | nil=>simp at hi
 | cons x L ih=>
  cases i with
  | zero=>simp
  | succ i=>
   have:=ih i (by simpa using hi);simp only[List.set_cons_succ];obtain⟨X,z⟩:∃X:List Value,X=eR x:=⟨_,rfl⟩;have I:X.length=3:=by rw[z];rfl
   have e:∀(u:Value) (T:List Value) (j:Nat),(X++T).set ((i+1) * 3+j) u=X++T.set (i * 3+j) u:=λu T j=>by
    rw[tG _ _ (by omega)];congr 2;omega
   have E:∀(u:Value) (T:List Value),(X++T).set ((i+1) * 3) u=X++T.set (i * 3) u:=λu T=>e u T 0;rw[bL,bL,<- z,this,E,e,e]
theorem aXu{w V W E:World}{z g cap:Nat}{L:List iD}(h:w.ownsRow z 205 3 (.slice (some ⟨g,0,none⟩) L.length cap) L.length (L.flatMap eR)){i:Nat}(hi:i<L.length)(s:iD)
  (Y:V=w.setCell ⟨g,i * 3,none⟩ s.nv) (Z:W=V.setCell ⟨g,i * 3+1,none⟩ s.tv) (e3:E=W.setCell ⟨g,i * 3+2,none⟩ s.lv) :
  E.ownsRow z 205 3 (.slice (some ⟨g,0,none⟩) L.length cap) L.length ((L.set i s).flatMap eR)/\w.grownBy E (some g):=by
 obtain⟨h1,J⟩:=h.stored (i * 3) s.nv;rw[<- Y] at h1 J;obtain⟨h2,K⟩:=h1.stored (i * 3+1) s.tv;rw[<- Z] at h2 K;obtain⟨I,U⟩:=h2.stored (i * 3+2) s.lv;rw[<- e3] at I U;rw[aTc L i s hi];exact⟨I,aDb J (aDb K U)⟩
theorem WO.putR{w I:World}{B rb g cap r:Nat}{D:RD}{R:iD}(h:WO w B rb D)(Z:w.cell? ⟨rb,3,none⟩=some (.slice (some ⟨g,0,none⟩) D.repos.length cap))(hr:r<D.repos.length)(hR:OkR w R)
  (e3:I=((w.setCell ⟨g,r * 3,none⟩ R.nv).setCell ⟨g,r * 3+1,none⟩ R.tv).setCell ⟨g,r * 3+2,none⟩ R.lv):WO I B rb (D.setR r R)/\hJ w I rb:=by
 obtain⟨pv,cv,fv,sv,Y,h1,h2,h3,h4⟩:=h.wr.wb;have es:sv=.slice (some ⟨g,0,none⟩) D.repos.length cap:=by
  simp[World.cell?,Y] at Z;exact Z
 subst es;obtain⟨o3,g3⟩:=aXu h4 hr R rfl rfl e3;have a0:TB w g 205:=dI h4 rfl;have hm:xB w rb g:=.inr ⟨3,_,Z,rfl⟩;have U:∀{k:Nat} {t:TypeId},TB w k t->t≠205->I.heap[k]?=w.heap[k]?:=λ{k t} z K=>g3.block k z.lt (λW=>by cases W;exact z.ne a0 K rfl);have V:I.heap[rb]?=w.heap[rb]?:=U ⟨_,_,Y⟩ (by decide);have E:∀{t:TypeId} {sz n:Nat} {v:Value} {xs:List Value},t≠205->w.ownsRow B t sz v n xs->I.ownsRow B t sz v n xs:=λK ho=>lR ho λk z=>U (dI ho z) K
 have J:hJ w I rb:=⟨g3.os,g3.tape,g3.output,g3.size,λk z K=>g3.block k z (λW=>by cases W;exact K hm),λk z=>.inl (by
  rcases z with rfl|⟨i,v,hv,hb⟩
  ·exact .inl rfl
  ·refine .inr ⟨i,v,?_,hb⟩;rw[<- hv]
   exact(bN V i).symm)⟩
 have hh:=J.held h.wr;refine⟨⟨⟨h.wr.lo,pv,cv,fv,_,V.trans Y,E (by decide) h1,E (by decide) h2,E (by decide) h3,?_⟩,λp hp=>(h.ok p hp).still hh,λr' a1=>?_⟩,J⟩
 ·have:(D.setR r R).repos.length=D.repos.length:=by simp[RD.setR]
  rw[this];exact o3
 ·rcases kR a1 with h9|rfl
  ·exact(h.okr r' h9).still hh
  ·exact hR.still hh
theorem WO.rep{w:World}{B rb r:Nat}{D:RD}{R:iD}(h:WO w B rb D)(U:D.repos[r]?=some R):∃g cap,w.cell? ⟨rb,3,none⟩=some (.slice (some ⟨g,0,none⟩) D.repos.length cap)/\w.cell? ⟨g,r * 3,none⟩=some R.nv/\w.cell? ⟨g,r * 3+1,none⟩=some R.tv/\w.cell? ⟨g,r * 3+2,none⟩=some R.lv/\g<w.heap.size/\∀o,w.frozen? ⟨g,o,none⟩=false:=by
 obtain⟨pv,cv,fv,sv,Y,-,-,-,K⟩:=h.wr.wb;have a0:=(aB.1 U).1;have E:=λj Z=>tT eR (sz:=3) (λ_=>rfl) D.repos r R U j Z;rcases id K.2 with ⟨-,h9⟩|⟨g,cap,W,rfl,-,V,-⟩
 ·omega
 ·have z:=E 0 (by omega);have I:=E 1 (by omega);have J:=E 2 (by omega);rw[oK] at z;refine⟨g,cap,by simp[World.cell?,Y],?_,?_,?_,lt_of_block V,λo=>by simp[World.frozen?,V]⟩
  ·rw[dQ K _ (by omega),z];rfl
  ·rw[dQ K _ (by omega),I];rfl
  ·rw[dQ K _ (by omega),J];rfl
def aQf(w wx:World)(lv:Value)(G:jN):Prop:=∃na nc ta tc,wx.heap[w.heap.size]?=some (.cells #[.slice na G.length nc,.slice ta G.length tc,lv] 205 (0,0))/\eJ wx 9 1 G.length (.slice na G.length nc) (bW (fO G))/\eJ wx 9 1 G.length (.slice ta G.length tc) (bW (txs G))/\Below w.heap.size w wx
theorem eJ.set{w:World}{t z:TypeId}{sz n g o:Nat}{v u:Value}{E:List Value}{c:Array Value}(h:eJ w t sz n v E)(I:w.heap[g]?=some (.cells c z (0,0)))(J:t≠z):eJ (w.setCell ⟨g,o,none⟩ u) t sz n v E:=
 h.held (T:=λx=>x=t) (bU.set ⟨c,_,I⟩ (λe=>J e.symm) _) rfl
theorem aAe(r:Nat)(R:iD)(name text:ByteArray)(there:Bool)(B rb:Nat)(D:RD)(w:World)(h:WO w B rb D)(hR:D.repos[r]?=some R)(l5:D.repos.length<=3)(hF:R.F.length<=10000):
  Calls Tryz.prog 166 #[.pointer (some ⟨rb,0,none⟩),.int .i64 r,.string name,.string text,.bool there] w λq w'=>q=.returned (.tuple #[])/\∃R':iD,R'.F=yF R.F name text there/\R'.L=R.L/\WO w' B rb (D.setR r R')/\hJ w w' rb:=by
 obtain⟨g,cap,c3,d0,d1,d2,a3,h8⟩:=h.rep hR;have i9:=(aB.1 hR).1;obtain⟨o1,o2,o3⟩:=h.okr R (aD hR);have HO:=aO h;have HL:=aO o3;obtain⟨nv,tv,lv,F,L⟩:=R;simp only at *;obtain⟨-,na,nc,rfl,-,-⟩:=id o1;obtain⟨-,ta,tc,rfl,-,-⟩:=id o2;obtain⟨-,Z,lc,rfl,-,-⟩:=id o3;have c1:=h.wr.lt;have z:Below w.heap.size w (w.alloc (.cells #[.slice na F.length nc,.slice ta F.length tc,.slice Z L.length lc] 205)):=(Below.refl _ _).alloc (aA _) _;have a7:(w.alloc (.cells #[.slice na F.length nc,.slice ta F.length tc,.slice Z L.length lc] 205)).heap[w.heap.size]?=some (.cells #[.slice na F.length nc,.slice ta F.length tc,.slice Z L.length lc] 205 (0,0)):=(aH w _).1;have b3:Hid (aQf w (w.alloc (.cells #[.slice na F.length nc,.slice ta F.length tc,.slice Z L.length lc] 205)) (.slice Z L.length lc) F):=⟨na,nc,ta,tc,a7,o1.below z,o2.below z,z⟩;have HC:Hid (w.cell? ⟨rb,3,none⟩=some (.slice (some ⟨g,0,none⟩) D.repos.length cap)/\w.cell? ⟨g,r * 3,none⟩=some (.slice na F.length nc)/\w.cell? ⟨g,r * 3+1,none⟩=some (.slice ta F.length tc)/\w.cell? ⟨g,r * 3+2,none⟩=some (.slice Z L.length lc)):=⟨c3,d0,d1,d2⟩;have c6:=aO h8;have k8:=aO i9;obtain⟨nr,e4⟩:∃nr,D.repos.length=nr:=⟨_,rfl⟩;have g5:=aO e4;rw[e4] at c3 l5 i9;clear hR h e4 h8;have b7:(fO F).length=F.length:=gV F;have i5:(txs F).length=F.length:=aEz F;have f7:Hid (Calls Tryz.prog 165 #[.slice na F.length nc,.string name] (w.alloc (.cells #[.slice na F.length nc,.slice ta F.length tc,.slice Z L.length lc] 205)) λe w'=>e=.returned (.int .i64 (uR (pI (fO F) name)))/\w'=(w.alloc (.cells #[.slice na F.length nc,.slice ta F.length tc,.slice Z L.length lc] 205))):=by
  have hv:gD (w.alloc (.cells #[.slice na F.length nc,.slice ta F.length tc,.slice Z L.length lc] 205)) na (fO F):=eJ.view (n:=F.length) (cap:=nc) (by rw[b7];exact o1.below z);have:=oV (fO F) name na nc _ hv (by omega);rw[b7] at this;exact this
 clear o1 o2 o3 z;go_enter Tryz.func166,Tryz.ntmps166
 go_upto_if 26 with (go_at_call 165;refine f7.out.mono ?_;rintro q w1 ⟨rfl,rfl⟩)
 obtain⟨wA,j7⟩:∃wA,wA=w.alloc (.cells #[.slice na F.length nc,.slice ta F.length tc,.slice Z L.length lc] 205):=⟨_,rfl⟩;rw[<- j7] at b3 a7 ⊢;clear f7 j7;obtain⟨kw,d4⟩:∃kw,uR (pI (fO F) name)=kw:=⟨_,rfl⟩;rw[d4];have c7:=aO d4;clear d4
 go_cut [] (λwx=>aQf w wx (.slice Z L.length lc) (gA F name))
 case first=>
  obtain⟨J,K,E,I,s1,s2,s3,z⟩:=b3.out;have d9:=lt_of_block s1;have h4:=s1.symm.trans a7;simp only[cJ,Obj.cells.injEq,Array.mk.injEq,fY,lC,and_true,true_and] at h4;obtain⟨⟨rfl,rfl⟩,rfl,rfl⟩:=h4;obtain⟨l0,l1,l2⟩:=fH s1;rcases hk:pI (fO F) name with _|k
  ·have l9:¬ ((0:Int)<=kw):=by
    have:=c7.out;rw[hk] at this;have h9:uR none=-1:=rfl;omega
   have HG:Hid (gA F name=F):=aT9 hk;clear l0 l1 l2 a7 s1 s2 s3 hk;go_wp2
   go_meet
   rw[HG.out];exact b3.out
  ·obtain rfl:kw=(k:Int):=by
    have:=c7.out;rw[hk] at this;exact this.symm
   have m3:=aYo hk;have EN:(fO F).eraseIdx k=fO (gA F name):=by rw[aI6 hk,aUz]
   have ET:(txs F).eraseIdx k=txs (gA F name):=by rw[aI6 hk,aVe]
   have j4:gD wA J (fO F):=eJ.view (n:=F.length) (cap:=K) (by rw[b7];exact s2);have f9:Hid (Calls Tryz.prog 213 #[.slice J F.length K,.int .i64 k] wA λe w'=>∃v,e=.returned v/\w'.ownsRow wA.heap.size 9 1 v (gA F name).length (bW (fO (gA F name)))/\Below wA.heap.size wA w'):=by
    have:=wX (fO F) k J K wA j4 (by omega) (by omega);rw[b7,EN,gV] at this;exact this
   clear hk j4
   go_wp2_with fail
   refine f9.out.mono ?_;rintro q w2 ⟨v1,rfl,e5,b5⟩;obtain⟨a1,p1,rfl⟩:=bC e5;clear f9 l0 l1 l2;have a8:=(b5.block _ d9).trans s1;obtain⟨l0,l1,l2⟩:=fH a8;have f2:=oE (o:=0) a8;have d5:=aHg (u:=.slice a1 (gA F name).length p1) a8;have h7:Below w.heap.size w (w2.setCell ⟨w.heap.size,0,none⟩ (.slice a1 (gA F name).length p1)):=(z.trans (b5.mono (by omega))).setCell (p:=⟨w.heap.size,0,none⟩) (aA _) _;have r1:eJ (w2.setCell ⟨w.heap.size,0,none⟩ (.slice a1 (gA F name).length p1)) 9 1 (gA F name).length (.slice a1 (gA F name).length p1) (bW (fO (gA F name))):=(eJ.own e5).set a8 (by decide);have j8:eJ (w2.setCell ⟨w.heap.size,0,none⟩ (.slice a1 (gA F name).length p1)) 9 1 F.length (.slice E F.length I) (bW (txs F)):=(s3.below b5).set a8 (by decide);have j5:gD (w2.setCell ⟨w.heap.size,0,none⟩ (.slice a1 (gA F name).length p1)) E (txs F):=eJ.view (n:=F.length) (cap:=I) (by rw[i5];exact j8);have g0:Hid (∀w3,w3=w2.setCell ⟨w.heap.size,0,none⟩ (.slice a1 (gA F name).length p1)->Calls Tryz.prog 213 #[.slice E F.length I,.int .i64 k] w3 λe w'=>∃v,e=.returned v/\w'.ownsRow w3.heap.size 9 1 v (gA F name).length (bW (txs (gA F name)))/\Below w3.heap.size w3 w'):=λw3 e3=>by
    have:=wX (txs F) k E I w3 (by rw[e3];exact j5) (by omega) (by omega);rw[i5,ET,aEz] at this;exact this
   have g6:=aO r1;have c8:=aO d5;have c5:=aO h7;obtain⟨m0,m1,m2⟩:=fH d5;clear e5 b5 a8 h7 r1 j8 j5 d5 s1 s2 s3 z a7
   go_wp2_with fail
   refine(g0.out _ rfl).mono ?_;rintro q w4 ⟨v2,rfl,e6,b6⟩;obtain⟨a2,p2,rfl⟩:=bC e6;clear g0 l0 l1 l2 m0 m1 m2 f2;have a9:=(b6.block _ (lt_of_block c8.out)).trans c8.out;obtain⟨l0,l1,l2⟩:=fH a9;have f4:=oE (o:=1) a9;have i4:=aHh (u:=.slice a2 (gA F name).length p2) a9;have k9:Hid (aQf w (w4.setCell ⟨w.heap.size,1,none⟩ (.slice a2 (gA F name).length p2)) (.slice Z L.length lc) (gA F name)):=
    ⟨a1,p1,a2,p2,i4,(g6.out.below b6).set a9 (by decide),(eJ.own e6).set a9 (by decide),(c5.out.trans (b6.mono c5.out.size)).setCell (p:=⟨w.heap.size,1,none⟩) (aA _) _⟩
   clear e6 b6 a9 i4 c8 c5 g6;go_wp2
   go_meet
   exact k9.out
 case rest=>
  clear b3 a7;have b4:=aO hcut;clear hcut;have l8:(gA F name).length<=10000:=aR (aF2 F name).length_le hF;generalize hG:gA F name=G at *;have e8:=aO hG;clear hG c7
  go_upto_if 37 with fail
  go_cut [] (λwx=>aQf w wx (.slice Z L.length lc) (yF F name text there))
  case first=>
   cases there with
   | false=>
    go_wp2
    go_meet
    show aQf w wc (.slice Z L.length lc) (gA F name);rw[e8.out];exact b4.out
   | true=>
    obtain⟨J,K,E,I,s1,s2,s3,z⟩:=b4.out;have d9:=lt_of_block s1;obtain⟨l0,l1,l2⟩:=fH s1;have g8:=aO s3;have k0:=aO z;have f5:=aO s1;clear s3 z s1 b4
    go_wp2_with (at_builtin;refine mW ei9 _ rfl _ _ rfl (w.heap.size+1) (.slice none 0 0) 0 [] rfl (aK _ _ _ _) (.slice J G.length K) G.length (bW (fO G)) rfl s2 (eX _) (by unfold maxLen;omega) (by omega) (by omega) ?_)
    intro n1 w6 e0 a5;have b1:Below wc.heap.size wc w6:=⟨a5.os,a5.tape,a5.output,a5.size,λk hk=>a5.block k hk (by simp[Value.ownBlock])⟩;have W:∀g,n1.ownBlock=some g->w.heap.size+1<=g/\g<w6.heap.size:=λg hg=>e0.lt g hg;have d6:=(b1.block _ d9).trans f5.out;have g9:=aO (g8.out.below b1);have k3:Hid (Below w.heap.size w w6):=k0.out.trans (b1.mono (by omega));have m4:=b1.size;clear l0 l1 l2 a5 b1 g8 f5 s2;obtain⟨l0,l1,l2⟩:=fH d6;have s3:=g9.out
    go_wp2_with (at_builtin;refine mW ei9 _ rfl _ _ rfl w6.heap.size (.slice none 0 0) 0 [] rfl (aK _ _ _ _) (.slice E G.length I) G.length (bW (txs G)) rfl s3 (eX _) (by unfold maxLen;omega) (by omega) (aA _) ?_)
    intro t1 w7 e7 a6;have b2:Below w6.heap.size w6 w7:=⟨a6.os,a6.tape,a6.output,a6.size,λk hk=>a6.block k hk (by simp[Value.ownBlock])⟩;have Y:∀g,t1.ownBlock=some g->w6.heap.size<=g/\g<w7.heap.size:=λg hg=>e7.lt g hg;have d7:=(b2.block _ (by omega)).trans d6;have i6:=bQ e0 b2 (aA _);have k4:Hid (Below w.heap.size w w7):=k3.out.trans (b2.mono (by omega));have m5:=b2.size;clear l0 l1 l2 a6 b2 g9 d6 s3 e0;obtain⟨l0,l1,l2⟩:=fH d7
    go_wp2_with (at_builtin;refine jA ei9 _ rfl _ _ rfl (w.heap.size+1) n1 G.length (bW (fO G)) rfl i6 #[.string name] rfl rfl (eX [name]) (by omega) (by decide) (by omega) ?_)
    intro g2 c2 w8 i7 a0 h6 _;have a0:=iH a0;have b0:=(a0.block w.heap.size (by omega) (λe9=>by have:=(W _ e9.symm).1;omega)).trans d7
    have j0:=e7.kept a0 (by
     cases hb:t1.ownBlock with
     | none=>exact .inl rfl
     | some b=>exact .inr λe9=>by have:=(W _ e9.symm).2;have:=(Y _ hb).1;omega)
    have k5:Hid (Below w.heap.size w w8):=k4.out.grown a0 (by omega) λk hk=>by have:=(W k hk).1;omega
    have m6:=a0.size;clear l0 l1 l2 a0 d7 i6 e7;obtain⟨l0,l1,l2⟩:=fH b0;have f8:=oE (o:=0) b0;have d8:=aHg (u:=.slice (some ⟨g2,0,none⟩) (G.length+1) c2) b0;have j3:=gO j0 b0 (o:=0) (u:=.slice (some ⟨g2,0,none⟩) (G.length+1) c2) (by decide);have i8:=gO i7 b0 (o:=0) (u:=.slice (some ⟨g2,0,none⟩) (G.length+1) c2) (by decide);have a4:Hid ((w8.setCell ⟨w.heap.size,0,none⟩ (.slice (some ⟨g2,0,none⟩) (G.length+1) c2)).heap.size=w8.heap.size):=by unfold Hid;simp[World.setCell]
    have k6:Hid (Below w.heap.size w (w8.setCell ⟨w.heap.size,0,none⟩ (.slice (some ⟨g2,0,none⟩) (G.length+1) c2))):=k5.out.setCell (p:=⟨w.heap.size,0,none⟩) (aA _) _;have h0:=aO j3;have g4:=aO i8;have f6:=aO d8;obtain⟨m0,m1,m2⟩:=fH d8;clear b0 j0 i7 d8 j3 i8
    go_wp2_with (at_builtin;refine jA ei9 _ rfl _ _ rfl w6.heap.size t1 G.length (bW (txs G)) rfl h0.out #[.string text] (by rw[a4.out];rfl) rfl (eX [text]) (by omega) (by decide) (by rw[a4.out];omega) ?_)
    intro g3 h3 j9 c4 U _ _;have U:=iH U;have V:=(U.block w.heap.size (by rw[a4.out];omega) (λe9=>by have:=(Y _ e9.symm).1;omega)).trans f6.out
    have c0:=g4.out.kept U (by
     refine .inr λe9=>?_;have h1:=Y g2 e9.symm;rcases h6 with h2|h2
     ·have:=(W g2 h2).2;omega
     ·omega)
    have b8:Below w.heap.size w j9:=k6.out.grown U (by rw[a4.out];omega) λk hk=>by have:=(Y k hk).1;omega
    clear l0 l1 l2 m0 m1 m2 f8;obtain⟨l0,l1,l2⟩:=fH V;have l7:=oE (o:=1) V;have b9:=aHh (u:=.slice (some ⟨g3,0,none⟩) (G.length+1) h3) V;have g7:Hid (aQf w (j9.setCell ⟨w.heap.size,1,none⟩ (.slice (some ⟨g3,0,none⟩) (G.length+1) h3)) (.slice Z L.length lc) (yF F name text true)):=by
     have e1:yF F name text true=G++[(name,text)]:=by show gA F name++_=_;rw[e8.out]
     have e2:(G++[(name,text)]).length=G.length+1:=by simp
     rw[e1];unfold aQf;rw[e2,aO7,aYj];refine⟨_,_,_,_,b9,(eJ.own (B:=w.heap.size+1) ?_).set V (by decide),(eJ.own (B:=w6.heap.size) ?_).set V (by decide),b8.setCell (p:=⟨w.heap.size,1,none⟩) (aA _) _⟩
     ·simpa[bW] using c0
     ·simpa[bW] using c4
    clear V b9 c0 c4 U b8 h0 g4 f6;go_wp2
    go_meet
    exact g7.out
  case rest=>
   clear b4;obtain⟨J,K,E,I,s1,s2,s3,z⟩:=hcut;obtain⟨C3,C0,C1,C2⟩:=HC.out;have l6:=a3;have h5:=HO.out.below z;rw[g5.out] at C3;have d3:=(z.cell (p:=⟨rb,3,none⟩) c1).trans C3;have d0:=(z.cell (p:=⟨g,r * 3,none⟩) a3).trans C0;have d1:=(z.cell (p:=⟨g,r * 3+1,none⟩) a3).trans C1;have d2:=(z.cell (p:=⟨g,r * 3+2,none⟩) a3).trans C2;obtain⟨l0,l1,l2⟩:=fH s1;have f0:=(z.frozen (p:=⟨g,r * 3,none⟩) a3).trans (c6.out (r * 3));have f1:=(z.frozen (p:=⟨g,r * 3+1,none⟩) a3).trans (c6.out (r * 3+1));have f2:=(z.frozen (p:=⟨g,r * 3+2,none⟩) a3).trans (c6.out (r * 3+2));obtain⟨FF,c9⟩:∃FF,yF F name text there=FF:=⟨_,rfl⟩;rw[c9] at s1 s2 s3 l0 l1;have k7:=aO c9;obtain⟨w9,j6⟩:∃w9,w9=((wc.setCell ⟨g,r * 3,none⟩ (.slice J FF.length K)).setCell ⟨g,r * 3+1,none⟩ (.slice E FF.length I)).setCell ⟨g,r * 3+2,none⟩ (.slice Z L.length lc):=⟨_,rfl⟩;obtain⟨k1,k2⟩:=WO.putR (R:=⟨.slice J FF.length K,.slice E FF.length I,.slice Z L.length lc,FF,L⟩) h5 (by rw[g5.out];exact d3) k8.out ⟨s2,s3,HL.out.below z⟩ j6;have f3:Hid (WO w9.drew B rb (D.setR r ⟨.slice J FF.length K,.slice E FF.length I,.slice Z L.length lc,FF,L⟩)/\hJ w w9.drew rb):=
    ⟨k1.below (Below.refl _ _).drew,(hJ.ofBelow z c1).trans (k2.trans (hJ.ofBelow (Below.refl _ _).drew k1.wr.lt))⟩
   clear C3 C0 C1 C2 k1 k2 h5 s1 s2 s3 c9 z
   go_wp2_with fail
   go_region
   all_goals go_wp2
   go_end0
   rw[<- j6];exact⟨rfl,⟨.slice J FF.length K,.slice E FF.length I,.slice Z L.length lc,FF,L⟩,k7.out.symm,rfl,f3.out.1,f3.out.2⟩
section
variable {e:iA} {own:List ByteArray} {Pa:List PM} {D:RD} {s:ByteArray->PL}
theorem RD.setR_at{D:RD}{r:Nat}{R R':iD}(h:D.repos[r]?=some R):(D.setR r R').repos[r]?=some R':=by
 have:=(aB.1 h).1;simp[RD.setR,this]
theorem RD.setR_setR(D:RD)(r:Nat)(R R':iD):(D.setR r R).setR r R'=D.setR r R':=by simp[RD.setR]
theorem RD.setR_self{D:RD}{r:Nat}{R:iD}(h:D.repos[r]?=some R):D.setR r R=D:=by
 have z:=(aB.1 h).1;have:D.repos.set r R=D.repos:=by
  rw[<- (aB.1 h).2];exact tH z
 simp[RD.setR,this]
theorem RD.ext_setR(D:RD)(r:Nat)(R:iD):D.Ext (D.setR r R):=⟨⟨[],by simp[RD.setR]⟩,⟨[],by simp[RD.setR]⟩,⟨[],by simp[RD.setR]⟩⟩
theorem kC.setR{w w':World}{B rb r:Nat}{R:iD}(h:kC w rb D e own Pa D)(E:WO w' B rb (D.setR r R))(h1:R.F.length<=10000)(h2:(fO R.F).Nodup):kC w' rb (D.setR r R) e own Pa D:=by
 refine⟨E.view,h.rel,RD.ext_setR D r R,h.chs,h.few,h.ln,by simpa[RD.setR] using h.rps.1,λR' z=>?_⟩;rcases kR z with h9|rfl
 ·exact h.rps.2 R' h9
 ·exact⟨h1,h2⟩
theorem aNz{F:jN}(z:(fO F).Nodup)(x:ByteArray)(o:Option ByteArray)(y:ByteArray):aX (yF F x (o.getD ⟨#[]⟩) o.isSome) y=if y=x then o else aX F y:=by
 cases o with
 | none=>
  show aX (gA F x) y=_;rw[rB z];by_cases h:y=x
  ·subst h;simp
  ·rw[if_neg h,if_neg (λe=>h e.symm)]
 | some t=>
  show aX (yF F x t true) y=_;rw[aFx z];by_cases h:y=x
  ·subst h;simp
  ·rw[if_neg h,if_neg (λe=>h e.symm)]
theorem aZ1(F:jN)(x t:ByteArray)(b:Bool):(yF F x t b).length<=F.length+1:=by
 have:=(aF2 F x).length_le;unfold yF;split
 ·simp;omega
 ·omega
structure aY4 (s:ByteArray->PL) (L:List ByteArray) (R R':iD):Prop where
 l:R'.L=R.L
 f:aX R'.F=sS (aX R.F) s L
 nd:(fO R'.F).Nodup
 len:R'.F.length<=R.F.length+L.length
theorem aMa(L:List ByteArray)(v:Value)(r:Nat)(R:iD)(Ls:ByteArray->cL->Prop)(B rb sb:Nat)(z:RS)(w:World)(hO:WO w B rb D)(hK:kC w rb D e own Pa D)(hR:D.repos[r]?=some R)(hs:sE w sb z)(hS:iE e own Pa D Ls s z.abs)(hl:∀x,(s x).S.length<=40000)(hv:eJ w 9 1 L.length v (bW L))(hL:L.length<=1000)(hF:R.F.length<=1000):
  Calls Tryz.prog 153 #[.pointer (some ⟨rb,0,none⟩),.int .i64 r,.pointer (some ⟨sb,0,none⟩),v] w λq w'=>q=.returned (.tuple #[])/\∃R':iD,aY4 s L R R'/\WO w' B rb (D.setR r R')/\hJ w w' rb:=by
 have HO:=aO hO;have HK:=aO hK;have HR:=aO hR;have a5:=aO hs;have a4:=aO hS;have HV:=aO hv;have a3:=aO hl;obtain⟨-,va,vc,rfl,-,-⟩:=id hv;have Z:=(hK.rps.2 R (aD hR)).2;have a9:=hO.wr.lt;have U:Hid (∃R':iD,aY4 s (L.take 0) R R'/\WO w B rb (D.setR r R')/\hJ w w rb):=⟨R,⟨rfl,by simp[aJa],Z,by simp⟩,by rw[RD.setR_self hR];exact hO,hJ.ofBelow (Below.refl _ _) a9⟩;clear hO hK hR hs hS hl hv Z;go_enter Tryz.func153,Tryz.ntmps153;go_wp2
 go_loopw [8] (λxi wr=>∃k:Nat,k<=L.length/\xi=.int .i64 k/\Hid (∃R':iD,aY4 s (L.take k) R R'/\WO wr B rb (D.setR r R')/\hJ w wr rb)) (λxi _=>L.length - (intOf xi).toNat)
 case atStart=>exact⟨0,aE _,rfl,U⟩
 case round=>
  clear U;obtain⟨k,hk,rfl,HI⟩:=hrel;by_cases Y:k<L.length
  ·obtain⟨x,K⟩:∃x,L[k]?=some x:=⟨_,aC Y⟩;obtain⟨R1,E,J,I⟩:=HI.out;have a0:=(HV.out.held (I.held HO.out.wr) (by simp[cE]));obtain⟨lb,lo,e5,c2⟩:∃lb lo,va=some ⟨lb,lo,none⟩/\∀u,Below wr.heap.size wr u->u.cell? ⟨lb,lo+k,none⟩=some (.string x):=by
    obtain⟨_,_,e5,-,a7⟩:=a0.at_
    cases e5
    obtain⟨b7,o7,e6,h8,a6⟩:=a7 (by omega);refine⟨b7,o7,e6,λu hu=>?_⟩;rw[bN (hu.block b7 h8) _];exact a6 k _ (by unfold bW;rw[aP,K];rfl)
   subst e5;have c1:=c2 wr (Below.refl _ _);have a1:=aO c2;have a8:=E.len;rw[bR] at a8;have HT:Hid (Calls Tryz.prog 142 #[.pointer (some ⟨rb,0,none⟩),.pointer (some ⟨sb,0,none⟩),.string x] wr λq w'=>q=.returned (.tuple #[.string ((dR s x).getD ⟨#[]⟩),.bool (dR s x).isSome])/\Below wr.heap.size wr w'):=
    lL x rb sb z wr (HK.out.setR J (by omega) E.nd) (a5.out.held (I.held HO.out.wr)) a4.out (a3.out x)
   have V:Hid (∀u,Below wr.heap.size wr u->Calls Tryz.prog 166 #[.pointer (some ⟨rb,0,none⟩),.int .i64 r,.string x,.string ((dR s x).getD ⟨#[]⟩),.bool (dR s x).isSome] u λq w'=>q=.returned (.tuple #[])/\∃R':iD,aY4 s (L.take (k+1)) R R'/\WO w' B rb (D.setR r R')/\hJ w w' rb):=λu hu=>by
    have b0:=J.below hu;refine(aAe r R1 x ((dR s x).getD ⟨#[]⟩) (dR s x).isSome B rb (D.setR r R1) u b0 (RD.setR_at HR.out) (by simpa[RD.setR] using HK.out.rps.1) (by omega)).mono ?_;rintro q w' ⟨rfl,R2,g1,g2,g3,g4⟩;rw[RD.setR_setR] at g3;have et:L.take (k+1)=L.take k++[x]:=by rw[aF Y,(aB.1 K).2]
    refine⟨rfl,R2,⟨g2.trans E.l,?_,by rw[g1];exact aCm E.nd _ _ _,?_⟩,g3,I.trans ((hJ.ofBelow hu J.wr.lt).trans g4)⟩
    ·funext y;rw[g1,aNz E.nd,et,<- aF7,E.f]
    ·rw[g1];have:=aZ1 R1.F x ((dR s x).getD ⟨#[]⟩) (dR s x).isSome;rw[bR];omega
   generalize (dR s x).getD ⟨#[]⟩=tx at *;generalize (dR s x).isSome=tb at *;clear a0 K E J I HI
   go_wp2_with (first|(go_at_call 142;refine HT.out.mono ?_;rintro q w3 ⟨rfl,W⟩;have c3:=a1.out w3 W)|(go_at_call 166;refine(V.out _ W).mono ?_;rintro q w5 ⟨rfl,h5⟩;have H5:=aO h5;clear h5))
   go_roundw
   case rel=>exact⟨k+1,by omega,by go_num,H5⟩
   case measure=>simp[intOf];omega
  ·obtain rfl:k=L.length:=by omega
   have HJ:=HI.out;rw[bD] at HJ;have a2:=aO HJ;clear HJ HI;go_wp2
   go_end0
   exact⟨rfl,a2.out⟩
end
section
variable {D:RD}
theorem tX{r n:Nat}(h:r<n):lE (r:Int) n=true:=by unfold lE;rw[decide_eq_true_eq];omega
theorem aSk(r:Int)(name text:ByteArray)(rb:Nat)(w:World)(h:WV w rb D)(E:lE r D.repos.length=false):
  Calls Tryz.prog 96 #[.pointer (some ⟨rb,0,none⟩),.int .i64 r,.string name,.string text] w λq w'=>q=.returned (.int .i64 1)/\w'=w:=by
 have z:=aO (lP r rb w h);rw[E] at z;clear h E;go_enter Tryz.func96,Tryz.ntmps96
 go_wp2_with (go_at_call 82;refine z.out.mono ?_;rintro q I ⟨rfl,rfl⟩)
 go_ret;exact⟨rfl,rfl⟩
theorem aD0(r:Nat)(R:iD)(name text:ByteArray)(a1:name.size<=10000000)(B rb:Nat)(w:World)(h:WO w B rb D)(hR:D.repos[r]?=some R)(a4:D.repos.length<=3)(hF:R.F.length<=10000):
  Calls Tryz.prog 96 #[.pointer (some ⟨rb,0,none⟩),.int .i64 r,.string name,.string text] w λq w'=>q=.returned (.int .i64 (gZ R.F name text))/\((gZ R.F name text=0/\∃R':iD,R'.F=yF R.F name text true/\R'.L=R.L/\WO w' B rb (D.setR r R')/\hJ w w' rb)\/(gZ R.F name text≠0/\Below w.heap.size w w')):=by
 have a6:=(aB.1 hR).1;have H1:=aO (lP (r:Int) rb w h.view);rw[tX a6] at H1;have Y:Hid (Calls Tryz.prog 164 #[.string name] w λe w'=>e=.returned (.bool (dJ name))/\Below w.heap.size w w'):=(wJ name w a1).mono λe w' ⟨h1,q,h2⟩=>⟨h1,by rw[h2];exact below_drewN (Below.refl _ _) q⟩;have H3:Hid (∀u,Calls Tryz.prog 92 #[.string text] u λe w'=>∃va vn vc,e=.returned (.tuple #[.slice va vn vc,.int .i64 (iW text)])/\Below u.heap.size u w'):=λu=>(aDl text u).mono λe w' ⟨v,h1,h2,h3⟩=>by
  obtain⟨va,vc,rfl⟩:=bC h2;exact⟨va,_,vc,h1,h3⟩
 obtain⟨o1,-,-⟩:=h.okr R (aD hR);have a0:=aO o1;obtain⟨-,na,nc,K,-,-⟩:=id o1;rw[K] at a0;have a3:(fO R.F).length=R.F.length:=gV R.F;have W:Hid (∀u,Below w.heap.size w u->Calls Tryz.prog 165 #[.slice na R.F.length nc,.string name] u λe w'=>e=.returned (.int .i64 (uR (pI (fO R.F) name)))/\w'=u):=λu hu=>by
  have hv:gD u na (fO R.F):=eJ.view (n:=R.F.length) (cap:=nc) (by rw[a3];exact eJ.below a0.out hu);have:=oV (fO R.F) name na nc u hv (by omega);rw[a3] at this;exact this
 have HC:Hid (∀u,Below w.heap.size w u->∃g cap,u.cell? ⟨rb,3,none⟩=some (.slice (some ⟨g,0,none⟩) D.repos.length cap)/\u.cell? ⟨g,r * 3,none⟩=some (.slice na R.F.length nc)):=λu hu=>by
  obtain⟨g,cap,c3,d0,-⟩:=(h.below hu).rep hR;rw[K] at d0;exact⟨g,cap,c3,d0⟩
 have a5:=h.wr.lt;have H5:Hid (∀u,Below w.heap.size w u->Calls Tryz.prog 166 #[.pointer (some ⟨rb,0,none⟩),.int .i64 r,.string name,.string text,.bool true] u λq w'=>q=.returned (.tuple #[])/\∃R':iD,R'.F=yF R.F name text true/\R'.L=R.L/\WO w' B rb (D.setR r R')/\hJ w w' rb):=λu hu=>
  (aAe r R name text true B rb D u (h.below hu) hR a4 hF).mono λq w' ⟨g0,R',g1,g2,g3,g4⟩=>⟨g0,R',g1,g2,g3,(hJ.ofBelow hu a5).trans g4⟩
 clear h hR o1 K a0;generalize a8:D.repos.length=nr at *;have HW:Hid (gZ R.F name text=if dJ name=true then (if dH text=true then (if (pI (fO R.F) name).isNone=true/\5<=R.F.length then 4 else 0) else 3) else 2):=rfl;have a2:Hid (iW text=if dH text=true then 0 else 3):=rfl
 cases U:dJ name
 ·have K:gZ R.F name text=2:=by rw[HW.out,U];rfl
  rw[K];rw[U] at Y;clear U;go_enter Tryz.func96,Tryz.ntmps96
  go_wp2_with (first|(go_at_call 82;refine H1.out.mono ?_;rintro q w1 ⟨rfl,rfl⟩)|(go_at_call 164;refine Y.out.mono ?_;rintro q w2 ⟨rfl,z⟩))
  go_ret;exact⟨rfl,.inr ⟨by decide,z⟩⟩
 rw[U] at Y
 cases V:dH text
 ·have K:gZ R.F name text=3:=by rw[HW.out,U,V];rfl
  rw[K];have e2:iW text=3:=by rw[a2.out,V];rfl
  rw[e2] at H3;clear U V e2;go_enter Tryz.func96,Tryz.ntmps96
  go_wp2_with (first|(go_at_call 82;refine H1.out.mono ?_;rintro q w1 ⟨rfl,rfl⟩)|(go_at_call 164;refine Y.out.mono ?_;rintro q w2 ⟨rfl,z⟩)|(go_at_call 92;refine(H3.out _).mono ?_;rintro q w3 ⟨va,vn,vc,rfl,E⟩))
  go_ret;exact⟨rfl,.inr ⟨by decide,z.trans (E.mono z.size)⟩⟩
 have e2:iW text=0:=by rw[a2.out,V];rfl
 rw[e2] at H3;by_cases J:(pI (fO R.F) name).isNone=true/\5<=R.F.length
 ·have K:gZ R.F name text=4:=by rw[HW.out,U,V];simp[J]
  rw[K];have hk:uR (pI (fO R.F) name)=-1:=by
   cases h9:pI (fO R.F) name with
   | none=>rfl
   | some k=>rw[h9] at J;simp at J
  rw[hk] at W;have hI:(5:Int)<=(R.F.length:Int):=by omega
  clear U V e2 hk J;go_enter Tryz.func96,Tryz.ntmps96
  go_wp2_with (first|(go_at_call 82;refine H1.out.mono ?_;rintro q w1 ⟨rfl,rfl⟩)|(go_at_call 164;refine Y.out.mono ?_;rintro q w2 ⟨rfl,z⟩)|(go_at_call 92;refine(H3.out _).mono ?_;rintro q w3 ⟨va,vn,vc,rfl,I⟩;have E:=z.trans (I.mono z.size);obtain⟨g,cap,c3,d0⟩:=HC.out _ E)|(go_at_call 165;refine(W.out _ E).mono ?_;rintro q w4 ⟨rfl,rfl⟩))
  go_ret;exact⟨rfl,.inr ⟨by decide,E⟩⟩
 ·have K:gZ R.F name text=0:=by rw[HW.out,U,V];simp only[if_true];rw[if_neg J]
  rw[K];rcases hk:pI (fO R.F) name with _|k
  ·rw[hk] at W J;have hI:¬ ((5:Int)<=(R.F.length:Int)):=by
    intro h9;exact J ⟨rfl,by omega⟩
   have Z:Hid (∀u,Below w.heap.size w u->Calls Tryz.prog 165 #[.slice na R.F.length nc,.string name] u λe w'=>e=.returned (.int .i64 (-1))/\w'=u):=W.out;clear U V e2 hk J W;go_enter Tryz.func96,Tryz.ntmps96
   go_wp2_with (first|(go_at_call 82;refine H1.out.mono ?_;rintro q w1 ⟨rfl,rfl⟩)|(go_at_call 164;refine Y.out.mono ?_;rintro q w2 ⟨rfl,z⟩)|(go_at_call 92;refine(H3.out _).mono ?_;rintro q w3 ⟨va,vn,vc,rfl,I⟩;have E:=z.trans (I.mono z.size);obtain⟨g,cap,c3,d0⟩:=HC.out _ E)|(go_at_call 165;refine(Z.out _ E).mono ?_;rintro q w4 ⟨rfl,rfl⟩)|(go_at_call 166;refine(H5.out _ E).mono ?_;rintro q w5 ⟨rfl,J⟩;have H6:=aO J;clear J))
   go_ret;exact⟨rfl,.inl ⟨trivial,H6.out⟩⟩
  ·rw[hk] at W;have Z:Hid (∀u,Below w.heap.size w u->Calls Tryz.prog 165 #[.slice na R.F.length nc,.string name] u λe w'=>e=.returned (.int .i64 (k:Int))/\w'=u):=W.out;have a7:¬ ((k:Int)<0):=by omega
   clear U V e2 hk J W;go_enter Tryz.func96,Tryz.ntmps96
   go_wp2_with (first|(go_at_call 82;refine H1.out.mono ?_;rintro q w1 ⟨rfl,rfl⟩)|(go_at_call 164;refine Y.out.mono ?_;rintro q w2 ⟨rfl,z⟩)|(go_at_call 92;refine(H3.out _).mono ?_;rintro q w3 ⟨va,vn,vc,rfl,I⟩;have E:=z.trans (I.mono z.size);obtain⟨g,cap,c3,d0⟩:=HC.out _ E)|(go_at_call 165;refine(Z.out _ E).mono ?_;rintro q w4 ⟨rfl,rfl⟩)|(go_at_call 166;refine(H5.out _ E).mono ?_;rintro q w5 ⟨rfl,J⟩;have H6:=aO J;clear J))
   go_ret;exact⟨rfl,.inl ⟨trivial,H6.out⟩⟩
theorem aQ3(r:Int)(name:ByteArray)(z:name.size<=10000000)(rb:Nat)(w:World)(h:WV w rb D)(J:jK r D.repos.length name≠0):
  Calls Tryz.prog 97 #[.pointer (some ⟨rb,0,none⟩),.int .i64 r,.string name] w λq w'=>q=.returned (.int .i64 (jK r D.repos.length name))/\Below w.heap.size w w':=by
 have I:=aO (pQ r name z rb w h);have K:(jK r D.repos.length name == 0)=false:=by simpa using J
 generalize jK r D.repos.length name=c at *;clear h;go_enter Tryz.func97,Tryz.ntmps97
 go_wp2_with (go_at_call 167;refine I.out.mono ?_;rintro q U ⟨rfl,E⟩)
 go_ret;exact⟨rfl,E⟩
theorem aNw(r:Nat)(R:iD)(name:ByteArray)(J:name.size<=10000000)(B rb:Nat)(w:World)(h:WO w B rb D)(Y:D.repos[r]?=some R)(a0:D.repos.length<=3)(hF:R.F.length<=10000)(hn:jK (r:Int) D.repos.length name=0):
  Calls Tryz.prog 97 #[.pointer (some ⟨rb,0,none⟩),.int .i64 r,.string name] w λq w'=>(((pI (fO R.F) name).isNone=true/\q=.returned (.int .i64 5)/\Below w.heap.size w w')\/((pI (fO R.F) name).isNone=false/\q=.returned (.int .i64 0)/\∃R':iD,R'.F=yF R.F name ⟨#[]⟩ false/\R'.L=R.L/\WO w' B rb (D.setR r R')/\hJ w w' rb)):=by
 have a4:=(aB.1 Y).1;have H1:=aO (pQ (r:Int) name J rb w h.view);rw[hn] at H1;obtain⟨o1,-,-⟩:=h.okr R (aD Y);have I:=aO o1;obtain⟨-,V,W,e1,-,-⟩:=id o1;rw[e1] at I;have Z:(fO R.F).length=R.F.length:=gV R.F;have K:Hid (∀u,Below w.heap.size w u->Calls Tryz.prog 165 #[.slice V R.F.length W,.string name] u λe w'=>e=.returned (.int .i64 (uR (pI (fO R.F) name)))/\w'=u):=λu U=>by
  have hv:gD u V (fO R.F):=eJ.view (n:=R.F.length) (cap:=W) (by rw[Z];exact eJ.below I.out U);have:=oV (fO R.F) name V W u hv (by omega);rw[Z] at this;exact this
 have HC:Hid (∀u,Below w.heap.size w u->∃g cap,u.cell? ⟨rb,3,none⟩=some (.slice (some ⟨g,0,none⟩) D.repos.length cap)/\u.cell? ⟨g,r * 3,none⟩=some (.slice V R.F.length W)):=λu U=>by
  obtain⟨g,cap,c3,d0,-⟩:=(h.below U).rep Y;rw[e1] at d0;exact⟨g,cap,c3,d0⟩
 have a1:=h.wr.lt;have H5:Hid (∀u,Below w.heap.size w u->Calls Tryz.prog 166 #[.pointer (some ⟨rb,0,none⟩),.int .i64 r,.string name,.string ⟨#[]⟩,.bool false] u λq w'=>q=.returned (.tuple #[])/\∃R':iD,R'.F=yF R.F name ⟨#[]⟩ false/\R'.L=R.L/\WO w' B rb (D.setR r R')/\hJ w w' rb):=λu U=>
  (aAe r R name ⟨#[]⟩ false B rb D u (h.below U) Y a0 hF).mono λq w' ⟨g0,R',g1,g2,g3,g4⟩=>⟨g0,R',g1,g2,g3,(hJ.ofBelow U a1).trans g4⟩
 clear h Y o1 e1 I hn;generalize a3:D.repos.length=nr at *;rcases hk:pI (fO R.F) name with _|k
 ·rw[hk] at K;have E:Hid (∀u,Below w.heap.size w u->Calls Tryz.prog 165 #[.slice V R.F.length W,.string name] u λe w'=>e=.returned (.int .i64 (-1))/\w'=u):=K.out;clear K hk;go_enter Tryz.func97,Tryz.ntmps97
  go_wp2_with (first|(go_at_call 167;refine H1.out.mono ?_;rintro q w1 ⟨rfl,z⟩;obtain⟨g,cap,c3,d0⟩:=HC.out _ z)|(go_at_call 165;refine(E.out _ z).mono ?_;rintro q w4 ⟨rfl,rfl⟩))
  go_ret;exact .inl ⟨rfl,rfl,z⟩
 ·rw[hk] at K;have E:Hid (∀u,Below w.heap.size w u->Calls Tryz.prog 165 #[.slice V R.F.length W,.string name] u λe w'=>e=.returned (.int .i64 (k:Int))/\w'=u):=K.out;have a2:¬ ((k:Int)<0):=by omega
  clear K hk;go_enter Tryz.func97,Tryz.ntmps97
  go_wp2_with (first|(go_at_call 167;refine H1.out.mono ?_;rintro q w1 ⟨rfl,z⟩;obtain⟨g,cap,c3,d0⟩:=HC.out _ z)|(go_at_call 165;refine(E.out _ z).mono ?_;rintro q w4 ⟨rfl,rfl⟩)|(go_at_call 166;refine(H5.out _ z).mono ?_;rintro q w5 ⟨rfl,h5⟩;have H6:=aO h5;clear h5))
  go_ret;exact .inr ⟨rfl,rfl,H6.out⟩
theorem aOv(r:Int)(rb:Nat)(w:World)(h:WV w rb D)(E:lE r D.repos.length=false):
  Calls Tryz.prog 99 #[.pointer (some ⟨rb,0,none⟩),.int .i64 r] w λq w'=>q=.returned (.tuple #[.slice none 0 0,.int .i64 1])/\w'=w:=by
 have z:=aO (lP r rb w h);rw[E] at z;clear h E;go_enter Tryz.func99,Tryz.ntmps99
 go_wp2_with (go_at_call 82;refine z.out.mono ?_;rintro q I ⟨rfl,rfl⟩)
 go_ret2;exact⟨rfl,rfl⟩
theorem aLm(r:Nat)(R:iD)(B rb:Nat)(w:World)(h:WO w B rb D)(J:D.repos[r]?=some R)(a0:D.repos.length<=3)(hF:R.F.length<=10000):
  Calls Tryz.prog 99 #[.pointer (some ⟨rb,0,none⟩),.int .i64 r] w λq w'=>∃v,q=.returned (.tuple #[v,.int .i64 0])/\w'.ownsRow w.heap.size 9 1 v (yG (fO R.F)).length (bW (yG (fO R.F)))/\Below w.heap.size w w':=by
 have V:=(aB.1 J).1;have Y:=aO (lP (r:Int) rb w h.view);rw[tX V] at Y;obtain⟨K,-,-⟩:=h.okr R (aD J);obtain⟨-,na,W,U,-,-⟩:=id K;rw[U] at K;obtain⟨g,cap,c3,d0,-⟩:=h.rep J;rw[U] at d0;have z:(fO R.F).length=R.F.length:=gV R.F;have H2:Hid (Calls Tryz.prog 143 #[.slice na R.F.length W] w λq w'=>∃E I,q=.returned (.slice E (yG (fO R.F)).length I)/\w'.ownsRow w.heap.size 9 1 (.slice E (yG (fO R.F)).length I) (yG (fO R.F)).length (bW (yG (fO R.F)))/\Below w.heap.size w w'):=by
  have:=uK (fO R.F) na W w (eJ.view (n:=R.F.length) (cap:=W) (by rw[z];exact K)) (by omega);rw[z] at this;refine this.mono ?_;rintro q w' ⟨v,rfl,h1,h2⟩;obtain⟨E,I,rfl⟩:=bC h1;exact⟨E,I,rfl,h1,h2⟩
 clear h J K U;generalize D.repos.length=nr at *;generalize a1:(yG (fO R.F)).length=sl at *;go_enter Tryz.func99,Tryz.ntmps99
 go_wp2_with (first|(go_at_call 82;refine Y.out.mono ?_;rintro q w1 ⟨rfl,rfl⟩)|(go_at_call 143;refine H2.out.mono ?_;rintro q w2 ⟨E,I,rfl,Z,hb⟩;have HO:=aO Z;clear Z))
 go_ret2;exact⟨_,rfl,HO.out,hb⟩
def iD.nil(p:Value×Value):iD:=⟨p.1,p.2,.slice none 0 0,[],[]⟩
theorem RAt.wo{w:World}{B rb sg n:Nat}{E:List (Value×Value)}(h:RAt w B rb sg E (List.replicate n []))(h1:1<=n):WO w B rb ⟨[],[],[],E.map iD.nil⟩:=by
 have W:E.length=n:=by have:=h.len;simpa using this
 have I:(E.map iD.nil).flatMap eR=E.flatMap uH:=by rw[tL];rfl
 have J:=h.n3;simp only[tF] at J;have z:(E.flatMap uH).length=n * 3:=by
  have:∀L:List (Value×Value),(L.flatMap uH).length=L.length * 3:=λL=>by
   induction L with
   | nil=>rfl
   | cons a L ih=>rw[bL,aJ,ih,aY];show 3+_=_;omega
  rw[this,W]
 have U:=h.cell;simp only[tF] at U;refine⟨⟨h.lo,_,_,_,_,U,aK _ _ _ _,aK _ _ _ _,aK _ _ _ _,?_⟩,λp K=>(by cases K),λr Y=>?_⟩
 ·show w.ownsRow B 205 3 _ (E.map iD.nil).length ((E.map iD.nil).flatMap eR);rw[I,aT,W];refine⟨z,.inr ⟨sg,n,_,rfl,h.lo2,h.row,aA _,by unfold maxLen;omega,?_,?_⟩⟩
  ·simp[z]
  ·rw[<- z];exact bD
 ·obtain⟨p,K,rfl⟩:=aI.1 Y;obtain⟨j,V⟩:=bI.1 K
  obtain⟨g1,g2⟩:=h.names j p [] V (by
   have:=(aB.1 V).1
   rw[List.getElem?_replicate,if_pos (by omega)])
  exact⟨eJ.own g1,eJ.own g2,⟨by simp,none,0,rfl,aA _,.inl ⟨rfl,rfl,rfl⟩⟩⟩
theorem aUx(w:World)(n:Nat)(h1:1<=n)(K:n<=3):Calls Tryz.prog 81 #[.int .i64 n] w λq w'=>∃(rb:Nat) (z:List (Value×Value)),q=.returned (.tuple #[.pointer (some ⟨rb,0,none⟩),.int .i64 0])/\z.length=n/\WO w' w.heap.size rb ⟨[],[],[],z.map iD.nil⟩/\Below w.heap.size w w':=by
 have E:∀k:Nat,1<=k->(Calls Tryz.prog 81 #[.int .i64 k] w λe w'=>∃rb sg z,e=.returned (.tuple #[.pointer (some ⟨rb,0,none⟩),.int .i64 0])/\RAt w' w.heap.size rb sg z (List.replicate k [])/\Below w.heap.size w w')->Calls Tryz.prog 81 #[.int .i64 k] w λq w'=>∃(rb:Nat) (z:List (Value×Value)),q=.returned (.tuple #[.pointer (some ⟨rb,0,none⟩),.int .i64 0])/\z.length=k/\WO w' w.heap.size rb ⟨[],[],[],z.map iD.nil⟩/\Below w.heap.size w w':=λk J I=>
  I.mono λe w' ⟨rb,sg,z,g1,g2,g3⟩=>⟨rb,z,g1,by have:=g2.len;simpa using this,g2.wo J,g3⟩
 have:n=1\/n=2\/n=3:=by omega
 rcases this with rfl|rfl|rfl
 ·exact E 1 (by omega) (aZn w)
 ·exact E 2 (by omega) (aZo w)
 ·exact E 3 (by omega) (aZp w)
end
section
variable {w:World} {B pb rg:Nat} {cap:qR} {gb:Nat} {pv:Value} {Ps:List PM} {fb fn:Nat} {f:ByteArray->Option ByteArray} {G:List cL}
structure vG where
 rg:Nat
 cp:Nat
 nr:Nat
 gb:Nat
 rp:Nat->Rep
def vG.cfg(p:vG)(r:Nat):qR:=⟨p.cp,p.nr,r,p.rp⟩
def nW(w:World)(B pb:Nat)(p:vG)(G:List cL):Prop:=0<p.nr/\∀r,r<p.nr->cF w B pb p.rg (p.cfg r) p.gb (p.rp r).pv (p.rp r).Ps (p.rp r).fb (p.rp r).fn (p.rp r).f G
def vG.ft(p:vG)(k:Nat):Prop:=k=p.rg\/k=p.gb\/∃r,r<p.nr/\((p.rp r).fb=k\/(p.rp r).pv.ownBlock=some k)
def vG.put(p:vG)(r:Nat)(R:Rep):vG:={ p with rp:=λj=>if j=r then R else p.rp j }
theorem cF.cfg(h:cF w B pb rg cap gb pv Ps fb fn f G){c:qR}(h1:c.cap=cap.cap)(h2:c.nr=cap.nr)(I:c.r=cap.r)(J:∀j,cap.oth j->c.rep j=cap.rep j):cF w B pb rg c gb pv Ps fb fn f G:=by
 have z:∀j,c.oth j->cap.oth j:=λj E=>⟨h2▸E.1,I▸E.2⟩;obtain⟨A,hA,U,V,W⟩:=h.row;obtain⟨Y,Z,c3,c4⟩:=h.cap1;refine⟨h.lo,by rw[h1,h2];exact h.wb,⟨A,hA,by rw[I];exact U,by rw[I];exact V,λi hi=>by rw[J i (z i hi)];exact W i (z i hi)⟩,h.given,h.own,h.chs,h.files,h.ne,⟨by rw[h2,I];exact Y,by rw[h1,h2];exact Z,by rw[h2];exact c3,λi j hi E K=>by rw[J i (z i hi),J j (z j E)];exact c4 i j (z i hi) (z j E) K⟩,λi hi=>by rw[J i (z i hi)];exact h.oths i (z i hi)⟩
theorem nW.of{p:vG}{r:Nat}{R:Rep}(J:r<p.nr)(h:cF w B pb p.rg (p.cfg r) p.gb R.pv R.Ps R.fb R.fn R.f G):nW w B pb (p.put r R) G:=by
 refine⟨Nat.lt_of_le_of_lt (aE _) J,λj I=>?_⟩;by_cases e:j=r
 ·subst e;have z:(p.put j R).rp j=R:=by simp[vG.put]
  rw[z];exact h.cfg rfl rfl rfl λi hi=>by simp[vG.put,vG.cfg,hi.2];intro e;exact absurd e hi.2
 ·have E:(p.cfg r).oth j:=⟨I,e⟩;have:=h.turn E;have z:(p.put r R).rp j=p.rp j:=by simp[vG.put,e]
  rw[z];exact this
abbrev pP(t:TypeId):Prop:=t≠87/\t≠149/\cE t
abbrev aEb(t:TypeId):Prop:=pP t/\t≠73/\t≠142/\t≠99
theorem bU.quell{w w':World}(h:bU pP w w'):bU aEb w w':=h.mono λ_ q=>q.1
def Hot(w:World)(k:Nat):Prop:=(∃es c,w.heap[k]?=some (.map es c))\/∃t,TB w k t/\¬ pP t
theorem Hot.lt{k:Nat}(h:Hot w k):k<w.heap.size:=by
 rcases h with ⟨z,c,h⟩|⟨t,h,-⟩
 ·exact(aV.1 h).1
 ·exact h.lt
theorem Hot.ne{k:Nat}{t:TypeId}(h:Hot w k)(I:TB w k t):¬ pP t:=by
 obtain⟨A,U,z⟩:=I;rcases h with ⟨K,c,h⟩|⟨V,⟨J,E,h⟩,h2⟩
 ·rw[h] at z;cases z
 ·rw[h] at z;injection z with z;injection z with _ z _;exact z▸h2
theorem nW.fts{p:vG}(h:nW w B pb p G){k:Nat}(z:p.ft k):B<=k/\Hot w k:=by
 have E:=h.2 0 h.1;rcases z with rfl|rfl|⟨r,I,z|z⟩
 ·obtain⟨A,J,_⟩:=E.row;exact⟨E.lo.2.1,.inr ⟨87,⟨_,_,J⟩,by simp[pP]⟩⟩
 ·exact⟨E.lo.2.2.1,.inl E.given.map⟩
 ·have h1:=h.2 r I;subst z;exact⟨h1.lo.2.2.2,.inl h1.files.map⟩
 ·have h1:=h.2 r I;exact⟨(h1.own.lt k z).1,.inr ⟨149,dI h1.own z,by simp[pP]⟩⟩
theorem tA{w w':World}{B n size:Nat}{e:TypeId}{v:Value}{I:List Value}(h:w.ownsRow B e size v n I)(hs:∀g,v.ownBlock=some g->w'.heap[g]?=w.heap[g]?):w'.ownsRow B e size v n I:=by
 refine⟨h.1,?_⟩;rcases h.2 with q|⟨g,cap,E,e,J,K,z⟩
 ·exact .inl q
 ·exact .inr ⟨g,cap,E,e,J,(hs g (by rw[e];rfl)).trans K,z⟩
theorem aR5{t:TypeId}(h:aBe t):aEb t:=by rcases h with rfl|rfl|rfl<;>simp[aEb,pP,cE]
theorem nW.stays{w':World}{p:vG}(h:nW w B pb p G)(K:bU aEb w w')(z:∀k,p.ft k->w'.heap[k]?=w.heap[k]?):nW w' B pb p G:=by
 refine⟨h.1,λr J=>?_⟩;have h1:=h.2 r J;obtain⟨A,W,V⟩:=h1.row;have U:aVy w w':=K.mono λ_=>aR5;refine⟨h1.lo,by rw[K.keep pb 83 ⟨_,_,h1.wb⟩ (by simp[aEb,pP,cE])];exact h1.wb,⟨A,by rw[z _ (.inl rfl)];exact W,V⟩,h1.given.same (z _ (.inr (.inl rfl))),tA h1.own λg Y=>z g (.inr (.inr ⟨r,J,.inr Y⟩)),λP E=>(h1.chs P E).held U,h1.files.same (z _ (.inr (.inr ⟨r,J,.inl rfl⟩))),h1.ne,h1.cap1,λi hi=>?_⟩;have I:=h1.oths i hi;exact I.same (z _ (.inr (.inr ⟨i,hi.1,.inl rfl⟩))) (λk q=>z k (.inr (.inr ⟨i,hi.1,.inr q⟩))) (λP E=>(I.chs P E).held U) I.far
end
structure Tn (M:Nat->Prop) (w w':World):Prop where
 os:w'.os=w.os
 tape:w'.tape=w.tape
 output:w'.output=w.output
 size:w.heap.size<=w'.heap.size
 keep:∀k,k<w.heap.size->¬ M k->w'.heap[k]?=w.heap[k]?
theorem Tn.held{M:Nat->Prop}{w w':World}(h:Tn M w w')(E:∀k,M k->k<w.heap.size->Hot w k):bU pP w w':=⟨h.size,λg _ z I=>h.keep g z.lt λq=>(E g q z.lt).ne z I⟩
theorem Tn.below{M:Nat->Prop}{w w':World}{B:Nat}(h:Tn M w w')(z:∀k,M k->B<=k)(E:B<=w.heap.size):Below B w w':=⟨h.os,h.tape,h.output,h.size,λk I=>h.keep k (by omega) λq=>by have:=z k q;omega⟩
theorem Tn.ofBelow{M:Nat->Prop}{w w':World}(h:Below w.heap.size w w'):Tn M w w':=⟨h.os,h.tape,h.output,h.size,λk z _=>h.block k z⟩
theorem Tn.ofR{w w':World}{rb:Nat}(h:hJ w w' rb):Tn (xB w rb) w w':=⟨h.os,h.tape,h.output,h.size,h.keep⟩
theorem aA1{w:World}{B rb:Nat}{D:RD}(h:WR w B rb D){k:Nat}(E:xB w rb k):B<=k/\Hot w k:=by
 obtain⟨h1,-,t,h2,z⟩:=h.muts E;exact⟨h1,.inr ⟨t,h2,λq=>z q.2.2⟩⟩
theorem aGn{w w':World}{rb:Nat}(h:w'.heap[rb]?=w.heap[rb]?)(k:Nat):xB w' rb k↔xB w rb k:=by
 have:=bN h;simp only[xB,this]
theorem WO.stays{w w':World}{B rb:Nat}{D:RD}(h:WO w B rb D)(W:bU aEb w w')(J:∀k,xB w rb k->w'.heap[k]?=w.heap[k]?):WO w' B rb D:=by
 obtain⟨pv,cv,K,sv,z,h1,h2,U,V⟩:=h.wr.wb;have own:∀{i:Nat} {v:Value} {t:TypeId} {sz n:Nat} {E:List Value},w.cell? ⟨rb,i,none⟩=some v->w.ownsRow B t sz v n E->w'.ownsRow B t sz v n E:=λ{i v t sz n E} hi Z=>tA Z λg Y=>J g (.inr ⟨i,v,hi,Y⟩);have I:bU fix w w':=W.mono λt ht=>by rcases ht with rfl|rfl|rfl|rfl|rfl<;>simp[aEb,pP,cE]
 exact⟨⟨h.wr.lo,⟨pv,cv,K,sv,by rw[J rb (.inl rfl)];exact z,own (i:=0) (by simp[World.cell?,z]) h1,own (i:=1) (by simp[World.cell?,z]) h2,own (i:=2) (by simp[World.cell?,z]) U,own (i:=3) (by simp[World.cell?,z]) V⟩⟩,λp hp=>(h.ok p hp).held I,λr hr=>(h.okr r hr).held I⟩
theorem aP1(L:List Nat)(p:Nat)(v:Value)(w:World)(h:RI w v L)(hl:L.length<=100000):
  Calls Tryz.prog 147 #[v,.int .i64 p] w λr w'=>∃v',r=.returned v'/\w'.ownsRow w.heap.size 3 1 v' (L++[p]).length (oO (L++[p]))/\Below w.heap.size w w':=by
 obtain⟨ao,cap,rfl,-,-⟩:=RI.each h;have HR:=aO h;clear h;have E:=kW L;go_enter Tryz.func147,Tryz.ntmps147
 go_wp2_with (at_builtin;refine mW ei3 _ rfl _ _ rfl w.heap.size (.slice none 0 0) 0 [] rfl (aK _ _ _ _) _ _ _ rfl HR.out E (by unfold maxLen;omega) (by omega) (aA _) ?_)
 intro v1 w1 z K;have I:=sI (Below.refl w.heap.size w) (aK w w.heap.size 3 1) K;have W:Hid (w1.ownsRow w.heap.size 3 1 v1 L.length (oO L)):=by unfold Hid;simpa using z
 have Z:=I.size;clear z K E
 go_wp2_with (at_builtin;refine jL ei3 _ rfl _ _ rfl w.heap.size _ _ _ rfl W.out #[.int .i64 p] rfl rfl (kW [p]) (by omega) (by decide) Z ?_)
 intro v2 w2 U _ J;have V:=J _ _ I (aA _);have Y:Hid (w2.ownsRow w.heap.size 3 1 v2 (L++[p]).length (oO (L++[p]))):=by
  unfold Hid;rw[aJ];simpa[oO] using U
 clear U J;go_wp2;go_ret;exact⟨v2,rfl,Y,V⟩
section
variable {e:iA} {own:List ByteArray} {Pa:List PM} {D:RD} {s:ByteArray->PL}
theorem aGv(J:qS e own Pa D){N:List Nat}{Ps:List PM}(E:pF Pa N Ps):N.map D.pid=Ps.map λP=>dT P.id:=by
 apply rV;intro j;rw[aP,aP]
 cases z:N[j]? with
 | none=>
  have:Ps[j]?=none:=by
   rw[List.getElem?_eq_none_iff] at z ⊢;rw[<- E.1];exact z
  rw[this];rfl
 | some k=>
  obtain⟨P,I⟩:∃P,Ps[j]?=some P:=⟨_,aC (by rw[<- E.1];exact(aB.1 z).1)⟩;have h1:=E.2 j k P z I;obtain⟨q,K⟩:∃q,D.pts[k]?=some q:=⟨_,aC (by rw[J.len];exact(aB.1 h1).1)⟩;rw[I];simp only[jH];rw[RD.pid_at K,(J.pt k P q h1 K).1]
theorem aLy(J:qS e own Pa D){N:List Nat}{Ps:List PM}(z:pF Pa N Ps):∀p∈N,p<D.pts.length:=λp K=>by
 obtain⟨j,E⟩:=bI.1 K;obtain⟨P,I⟩:∃P,Ps[j]?=some P:=⟨_,aC (by rw[<- z.1];exact(aB.1 E).1)⟩;rw[J.len];exact(aB.1 (z.2 j p P E I)).1
theorem aXv(I:qS e own Pa D){N:List Nat}{Ps:List PM}(E:pF Pa N Ps):D.idsT N=sB (Ps.map (·.id)):=by
 have h:=aGv I E;have z:D.idsT N=(N.map D.pid).flatMap λx=>x.data.toList++[10]:=by unfold RD.idsT;rw[tL]
 rw[z,h];unfold sB aOb;rw[tL,tL]
theorem aZv(I:qS e own Pa D){N:List Nat}{Ps:List PM}(z:pF Pa N Ps):∀p∈N,(D.pid p).size<=4:=λp J=>by
 have:D.pid p∈N.map D.pid:=aI.2 ⟨p,J,rfl⟩;rw[aGv I z] at this;obtain⟨P,-,E⟩:=aI.1 this;rw[<- E,rG];exact aA _
theorem aPe(I:qS e own Pa D){N:List Nat}{Ps:List PM}(E:pF Pa N Ps)(x:ByteArray):D.fnd N x=Ps.findIdx? λP=>decide (dT P.id=x):=by
 have h:=aGv I E;have z:D.fnd N x=(N.map D.pid).findIdx? λy=>decide (y=x):=by
  unfold RD.fnd;rw[List.findIdx?_map];rfl
 rw[z,h,List.findIdx?_map];rfl
theorem aMi{x y:Int}(z:0<=x/\x<256)(E:0<=y/\y<256)(h:UInt8.ofNat x.toNat=UInt8.ofNat y.toNat):x=y:=by
 have h1:=congrArg UInt8.toNat h;rw[UInt8.toNat_ofNat',UInt8.toNat_ofNat'] at h1;omega
theorem aS3{i j:cL}(hi:pK i)(z:pK j)(h:dT i=dT j):i=j:=by
 unfold dT strOfNums at h;simp only[cU,lA,ByteArray.mk.injEq,Array.mk.injEq,fY,and_true] at h;obtain⟨h1,h2,Z,h4⟩:=h;obtain⟨a,b,c,d⟩:=i;obtain⟨E,I,J,K⟩:=j;have U:a=E:=aMi hi.a z.a h1;have V:b=I:=aMi hi.b z.b h2;have W:c=J:=aMi hi.c z.c Z;have Y:d=K:=aMi hi.d z.d h4;rw[U,V,W,Y]
theorem aS2{Ps:List PM}(h:∀P∈Ps,pK P.id){i:cL}(hi:pK i):(Ps.findIdx? λP=>decide (dT P.id=dT i))=Ps.findIdx? λP=>decide (P.id=i):=by
 induction Ps with
 | nil=>rfl
 | cons P Ps ih=>
  rw[zB,zB,ih (λQ I=>h Q (dP _ I))];have z:decide (dT P.id=dT i)=decide (P.id=i):=by
   by_cases e:P.id=i
   ·rw[e];simp
   ·rw[decide_eq_false e,decide_eq_false λE=>e (aS3 (h P (by simp)) hi E)]
  rw[z]
end
end Go.Proofs.YtgdfipmdmgkidaaGreatDoor

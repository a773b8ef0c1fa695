import Derived.Test.YtgdfipmdmgkidaaGreatDoorHchn
import Derived.Test.YtgdfipmdmgkidaaGreatDoorHset
import Derived.Test.YtgdfipmdmgkidaaGreatDoorHmake
import Derived.Deep.DeepCutAuto
import Derived.Test.YtgdfipmdmgkidaaGreatDoorTrep
import Derived.Test.YtgdfipmdmgkidaaGreatDoorAl
set_option linter.all false
set_option maxHeartbeats 25600000
set_option maxRecDepth 100000
namespace Go.Proofs.YtgdfipmdmgkidaaGreatDoor
open Go.RowKit
theorem aZ0(L:List iD)(i:Nat)(R:iD)(hi:L[i]?=some R)(lv:Value)(N:List Nat):(L.set i { R with lv:=lv,L:=N }).flatMap eR=(L.flatMap eR).set (i * 3+2) lv:=by
 have J:=(aB.1 hi).1;rw[aTc L i _ J];have z:=tT eR (sz:=3) (λ_=>rfl) L i R hi 0 (by omega);have h1:=tT eR (sz:=3) (λ_=>rfl) L i R hi 1 (by omega);have self:∀{M:List Value} {j:Nat} {u:Value},M[j]?=some u->M.set j u=M:=λ{M j u} h=>by
  obtain⟨E,I⟩:=aB.1 h;rw[<- I];exact tH E
 rw[oK] at z;simp only;rw[self (show (L.flatMap eR)[i * 3]?=some R.nv from z),self (show (L.flatMap eR)[i * 3+1]?=some R.tv from h1)]
theorem WO.putL{w I:World}{B rb g cap r:Nat}{D:RD}{R:iD}{lv:Value}{N:List Nat}(h:WO w B rb D)(hc:w.cell? ⟨rb,3,none⟩=some (.slice (some ⟨g,0,none⟩) D.repos.length cap))(hr:D.repos[r]?=some R)(hR:RI w lv N)
  (e3:I=w.setCell ⟨g,r * 3+2,none⟩ lv):WO I B rb (D.setR r { R with lv:=lv,L:=N })/\hJ w I rb:=by
 obtain⟨pv,cv,fv,sv,Z,h1,h2,h3,h4⟩:=h.wr.wb;have es:sv=.slice (some ⟨g,0,none⟩) D.repos.length cap:=by
  simp[World.cell?,Z] at hc;exact hc
 subst es;obtain⟨o3,g3⟩:=h4.stored (r * 3+2) lv;rw[<- aZ0 D.repos r R hr lv N,<- e3] at o3;rw[<- e3] at g3;have a0:TB w g 205:=dI h4 rfl;have hm:xB w rb g:=.inr ⟨3,_,hc,rfl⟩;have V:∀{k:Nat} {t:TypeId},TB w k t->t≠205->I.heap[k]?=w.heap[k]?:=λ{k t} z U=>g3.block k z.lt (λY=>by cases Y;exact z.ne a0 U rfl);have W:I.heap[rb]?=w.heap[rb]?:=V ⟨_,_,Z⟩ (by decide);have E:∀{t:TypeId} {sz n:Nat} {v:Value} {xs:List Value},t≠205->w.ownsRow B t sz v n xs->I.ownsRow B t sz v n xs:=λU ho=>lR ho λk z=>V (dI ho z) U
 have J:hJ w I rb:=⟨g3.os,g3.tape,g3.output,g3.size,λk z U=>g3.block k z (λY=>by cases Y;exact U hm),λk z=>.inl (by
  rcases z with rfl|⟨i,v,hv,hb⟩
  ·exact .inl rfl
  ·refine .inr ⟨i,v,?_,hb⟩;rw[<- hv]
   exact(bN W i).symm)⟩
 have K:=J.held h.wr;refine⟨⟨⟨h.wr.lo,pv,cv,fv,_,W.trans Z,E (by decide) h1,E (by decide) h2,E (by decide) h3,?_⟩,λp hp=>(h.ok p hp).still K,λr' a1=>?_⟩,J⟩
 ·have:(D.setR r { R with lv:=lv,L:=N }).repos.length=D.repos.length:=by simp[RD.setR]
  rw[this];exact o3
 ·rcases kR a1 with h9|rfl
  ·exact(h.okr r' h9).still K
  ·have z:=h.okr R (aD hr);exact⟨z.1.held K (by simp[cE]),z.2.1.held K (by simp[cE]),hR.held K (by simp[cE])⟩
section
variable {e:iA} {own:List ByteArray} {Pa:List PM} {D:RD} {s:ByteArray->PL}
structure aTk (e:iA) (D:RD) (s:ByteArray->PL) (R:iD) (K:List ByteArray) (i:cL) (Cs:List (ByteArray×fM)) (m:Nat->Int) (t:Nat->ByteArray):Prop where
 at_:aCx e D i Cs
 made:dG s i (cO (aX R.F) s K) Cs m
 tells:∀k c,Cs[k]?=some c->fU c.2 c.1 (s c.1) (t k)
 tsz:∀k,(t k).size<=1000000
 app:∀c∈Cs,∃p',aE3 i c.2 (s c.1) p'
 wf:∀c∈Cs,aD1 i c.2/\¬ xK (pR c.2) i (rH c.2)/\qU c.2/\(jS c.2).length<=1000/\c.1.size<=1000
 bl:(eK Cs).length<=100000
 br:∀u∈eK Cs,0<u.2.line.size/\u.2.line.size<=1000
 few:Cs.length<=1000
theorem aTk.tlc{R:iD}{K:List ByteArray}{i:cL}{Cs:List (ByteArray×fM)}{m:Nat->Int}{t:Nat->ByteArray}{L:ByteArray->cL->Prop}{a:AS}{q:RPt}(h:aTk e D s R K i Cs m t)(Z:iE e own Pa D L s a):∀c∈Cs,TlC e (D.plus q Cs) s c:=λc E=>by
 obtain⟨p',hp⟩:=h.app c E;obtain⟨w1,w2,w3,w4,-⟩:=h.wf c E;have J:∀u∈jS c.2,u.alive=true/\∃k,(D.plus q Cs).cells[fI e u]?=some (u.line,k):=λu z=>by
  obtain⟨n,U⟩:=qL (aIr E z);obtain⟨V,W,Y⟩:=h.made.br U;have I:fI e u=D.cells.length+n:=by
   unfold fI;rw[W,h.at_.cb,V];omega
  refine⟨Y,D.pts.length,?_⟩;rw[I];exact aFd (by rw[aP,U];rfl)
 exact aYd Z (RD.ext_plus D q Cs) (λu z=>(J u z).2) (λu z=>(J u z).1) hp w1 w2 w3 w4
theorem aJw{w w':World}{B rb r:Nat}{R R':iD}{P:RPt}{Cs:List (ByteArray×fM)}(z:kC w rb D e own Pa D)(hw:WO w' B rb ((D.plus P Cs).setR r R'))(W:D.repos[r]?=some R)(U:R'.F=R.F)(hP:P.chs.length<=1000)(I:∀u∈eK Cs,0<u.2.line.size/\u.2.line.size<=1000)(Y:D.files.length<=10000)(K:Cs.length<=1000):kC w' rb ((D.plus P Cs).setR r R') e own Pa D:=by
 refine⟨hw.view,z.rel,⟨⟨[P],rfl⟩,⟨_,rfl⟩,⟨_,rfl⟩⟩,λQ V=>?_,?_,λk l q Z=>?_,by simpa[RD.setR,RD.plus] using z.rps.1,λJ E=>?_⟩
 ·rcases aG.1 (show Q∈D.pts++[P] from V) with h9|h9
  ·exact z.chs Q h9
  ·rw[bE] at h9;rw[h9];omega
 ·have:=aAl Cs;show (D.files++(gP Cs).map λx=>(x,D.pts.length)).length<=_;simp only[aJ,aT];omega
 ·rcases sH (show (D.cells++(eK Cs).map λu=>(u.2.line,D.pts.length))[k]?=some (l,q) from Z) with ⟨h1,-⟩|⟨n,-,h1⟩
  ·exact z.ln k l q h1
  ·rw[aP] at h1
   cases h2:(eK Cs)[n]? with
   | none=>rw[h2] at h1;cases h1
   | some u=>
    rw[h2] at h1;simp only[jH,cJ,Prod.mk.injEq] at h1;rw[<- h1.1];exact I u (aD h2)
 ·rcases kR (show J∈D.repos.set r R' from E) with h9|h9
  ·exact z.rps.2 J h9
  ·rw[h9,U];exact z.rps.2 R (aD W)
theorem aB1{ids:List cL}{p:PL}(h:fV ids p)(I:lF∉ids):(aM p.S).Nodup:=List.Pairwise.of_map jO (λa b E z=>E (by rw[z])) (mZ h I)
def oH(f:ByteArray->Option ByteArray)(s:ByteArray->PL)(L:List ByteArray):Prop:=∀x∈L,(f x).isSome=true\/(s x).alive=true
def aE6(D:RD)(f:ByteArray->Option ByteArray)(s:ByteArray->PL)(idt:ByteArray)(L K:List ByteArray)(c:Int):Prop:=
 (c=8/\∃P∈D.pts,P.id=idt)\/((∀P∈D.pts,P.id≠idt)/\((c=4/\40<=D.pts.length)\/(D.pts.length<40/\((c=5/\∃x∈L,(f x).isSome=false/\(s x).alive=false)\/(oH f s L/\c=9/\∀x∈K,cZ f s x=false)))))
theorem aOi(s:ByteArray->PL)(x:ByteArray):(dR s x).isSome=(s x).alive:=by unfold dR;cases (s x).alive<;>rfl
theorem aL7(i:cL)(U:ByteArray)(L K:List ByteArray)(Cs:List (ByteArray×fM))(m:Nat->Int)(t:Nat->ByteArray)(r B rb:Nat)(R:iD)(Ps:List PM)(v:Value)(w:World)
  (hO:WO w B rb D) (W:kC w rb D e own Pa D) (hR:Rpo Pa D r R Ps s) (hv:eJ w 9 1 L.length v (bW L)) (hL:L.length<=1000) (l0:pG K) (k9:∀x,x∈K↔(if L=[] then (aX R.F x).isSome=true\/(s x).alive=true else x∈L)) (q3:K.length<=1000) (n4:D.pts.length<=1000) (hc:D.cells.length<=100000) (m4:D.files.length<=10000) (q9:U.size<=1000)
  (hx:∀x∈K,(aL (s x).S).length<=1000/\(bM ((aX R.F x).getD ⟨#[]⟩)).length<=100/\((aX R.F x).getD ⟨#[]⟩).size<=10000)
  (m8:(∀P∈D.pts,P.id≠U)->D.pts.length<40->oH (aX R.F) s L->(∃x∈K,cZ (aX R.F) s x=true)->aTk e D s R K i Cs m t) :
  Calls Tryz.prog 84 #[.pointer (some ⟨rb,0,none⟩),.int .i64 r,.string U,v] w λq w'=>∃T c,q=.returned (.tuple #[.string T,.int .i64 c])/\((T=⟨#[]⟩/\Below w.heap.size w w'/\aE6 D (aX R.F) s U L K c)\/
   (c=0/\T=⟨(dK t Cs.length).toArray⟩/\(∀P∈D.pts,P.id≠U)/\D.pts.length<40/\oH (aX R.F) s L/\(∃x∈K,cZ (aX R.F) s x=true)/\∃P R',P.id=U/\P.chs.length=Cs.length/\(∀(j:Nat) (c:ByteArray×fM) (rc:vH),Cs[j]?=some c->P.chs[j]?=some rc->tN e c rc)/\R'.F=R.F/\R'.L=R.L++[D.pts.length]/\WO w' B rb ((D.plus P Cs).setR r R')/\hJ w w' rb)):=by
 have HO:=aO hO;have HK:=aO W;have HR:=aO hR;have HV:=aO hv;have j5:=aO l0;have j3:=aO k9;have HX:=aO hx;have o2:=aO m8;obtain⟨-,va,vc,rfl,-,-⟩:=id hv;have q7:=hO.wr.lt;obtain⟨np,e0⟩:∃n,D.pts.length=n:=⟨_,rfl⟩;have V:=aO e0;have j7:Hid (∃pa pc,w.cell? ⟨rb,0,none⟩=some (.slice pa np pc)/\∀(k:Nat) (q:RPt),D.pts[k]?=some q->∃b o,pa=some ⟨b,o,none⟩/\w.cell? ⟨b,o+k * 2,none⟩=some (.string q.id)):=by
  obtain⟨ao,cap,h1,h2⟩:=W.wv.pts_;rw[e0] at h1;refine⟨ao,cap,h1,λk q hq=>?_⟩;obtain⟨b,o,e1,e2,-⟩:=h2 k q hq;exact⟨b,o,e1,e2⟩
 obtain⟨pa,pc,p0,n5⟩:=j7.out;have j8:=aO n5;rw[e0] at n4;have n6:∀(k:Nat) (q:RPt),D.pts[k]?=some q->q.id.size<=1000:=λk q hq=>by
  obtain⟨P,hP⟩:∃P,Pa[k]?=some P:=⟨_,aC (by rw[<- W.rel.len];exact(aB.1 hq).1)⟩;rw[(W.rel.pt k P q hP hq).1,rG]
  decide
 have k0:=aO n6;clear hO W hR hv l0 k9 hx m8 e0 j7 n5 n6;go_enter Tryz.func84,Tryz.ntmps84;go_wp2
 go_loopw [10] (λxi wr=>∃k:Nat,k<=np/\xi=.int .i64 k/\w=wr/\Hid (∀(j:Nat) (q:RPt),j<k->D.pts[j]?=some q->q.id≠U)) (λxi _=>np - (intOf xi).toNat)
 case atStart=>exact⟨0,aE _,rfl,rfl,λj q hj=>by omega⟩
 case round=>
  obtain⟨k,hk,rfl,rfl,HN⟩:=hrel;by_cases b5:k<np
  ·obtain⟨q,hq⟩:∃q,D.pts[k]?=some q:=⟨_,aC (by rw[V.out];exact b5)⟩;obtain⟨b,o,rfl,c1⟩:=j8.out k q hq;have r6:=k0.out k q hq;have HQ:=aO hq;clear hq;by_cases c5:q.id=U
   ·have HY:Hid (aE6 D (aX R.F) s U L K 8):=.inl ⟨rfl,q,aD HQ.out,c5⟩;clear HQ;subst c5;go_wp2;go_ret2;exact⟨_,_,rfl,.inl ⟨rfl,Below.refl _ _,HY.out⟩⟩
   ·have o3:Hid (q.id≠U):=c5;have n0:=oM q.id U;rw[decide_eq_false c5] at n0;clear c5;go_wp2
    go_roundw
    case rel=>exact⟨k+1,by omega,by go_num,by first|rfl|trivial,λj q' hj i4=>by
     by_cases e9:j=k
     ·subst e9;rw[HQ.out] at i4
      cases i4
      exact o3.out
     ·exact HN.out j q' (by omega) i4⟩
    case measure=>simp[intOf];omega
  ·obtain rfl:k=np:=by omega
   have b6:Hid (∀P∈D.pts,P.id≠U):=λP hP=>by
    obtain⟨j,hj⟩:=bI.1 hP;exact HN.out j P (by have:=(aB.1 hj).1;rw[V.out] at this;exact this) hj
   clear HN;by_cases q0:40<=k
   ·have HY:Hid (aE6 D (aX R.F) s U L K 4):=.inr ⟨b6.out,.inl ⟨rfl,by rw[V.out];exact q0⟩⟩;go_wp2;go_ret2;exact⟨_,_,rfl,.inl ⟨rfl,Below.refl _ _,HY.out⟩⟩
   ·have j4:=aO (oP r R Ps rb w HK.out HR.out (by omega))
    go_wp2_with (go_at_call 140;refine j4.out.mono ?_;rintro q w1 ⟨sb,z,rfl,n8,hS,d5⟩)
    have a9:=aO (HK.out.below d5);have c8:=aO n8.view;have b3:=aO hS;have k7:=aO (HV.out.below d5);have b2:=aO d5;have b1:=aO HR.out.at_;have f8:=aO HR.out.hs.rows;have b0:D.pts.length<40:=by rw[V.out];omega
    clear n8 hS d5 j4 p0 j8 k0
    go_loopw [12] (λxi wr=>∃k:Nat,k<=L.length/\xi=.int .i64 k/\Below w1.heap.size w1 wr/\Hid (∀(j:Nat) (x:ByteArray),j<k->L[j]?=some x->(aX R.F x).isSome=true\/(s x).alive=true)) (λxi _=>L.length - (intOf xi).toNat)
    case atStart=>exact⟨0,aE _,rfl,Below.refl _ _,λj x hj=>by omega⟩
    case round=>
     rename_i kk
     obtain⟨k2,r3,rfl,J,HN⟩:=hrel;by_cases b5:k2<L.length
     ·obtain⟨x,a3⟩:∃x,L[k2]?=some x:=⟨_,aC b5⟩;obtain⟨lb,lo,e5,c2⟩:∃lb lo,va=some ⟨lb,lo,none⟩/\wr.cell? ⟨lb,lo+k2,none⟩=some (.string x):=by
       obtain⟨_,_,e5,-,g9⟩:=(k7.out.below J).at_
       cases e5
       obtain⟨b7,o7,e6,h8,g8⟩:=g9 (by omega);exact⟨b7,o7,e6,g8 k2 _ (by unfold bW;rw[aP,a3];rfl)⟩
      subst e5;have HF:Hid (Calls Tryz.prog 141 #[.pointer (some ⟨rb,0,none⟩),.int .i64 r,.string x] wr λq w'=>q=.returned (.tuple #[.string ((aX R.F x).getD ⟨#[]⟩),.bool (aX R.F x).isSome])/\w'=wr):=
       nA r R x rb wr (a9.out.below J).wv b1.out HK.out.rps.1 (HK.out.rps.2 R (aD b1.out)).1
      have HT:Hid (Calls Tryz.prog 142 #[.pointer (some ⟨rb,0,none⟩),.pointer (some ⟨sb,0,none⟩),.string x] wr λq w'=>q=.returned (.tuple #[.string ((dR s x).getD ⟨#[]⟩),.bool (s x).alive])/\Below wr.heap.size wr w'):=by
       have:=lL x rb sb z wr (a9.out.below J) (c8.out.below J) b3.out (f8.out x);rw[aOi] at this;exact this
      have c9:=aO a3;clear a3;obtain⟨f1,h0⟩:∃f1,(aX R.F x).isSome=f1:=⟨_,rfl⟩;obtain⟨a1,g6⟩:∃a1,(s x).alive=a1:=⟨_,rfl⟩;have i8:=aO h0;have i6:=aO g6;rw[h0] at HF;rw[g6] at HT;clear h0 g6;generalize (aX R.F x).getD ⟨#[]⟩=tx at *;generalize (dR s x).getD ⟨#[]⟩=ty at *;by_cases e3:f1=true\/a1=true
      ·have g0:Hid ((aX R.F x).isSome=true\/(s x).alive=true):=by unfold Hid;rw[i8.out,i6.out];exact e3
       rcases f1 with _|_<;>rcases a1 with _|_
       ·exact absurd e3 (by simp)
       all_goals clear e3
       ·go_wp2_with (first|(go_at_call 141;refine HF.out.mono ?_;rintro q w3 ⟨rfl,rfl⟩)|(go_at_call 142;refine HT.out.mono ?_;rintro q w4 ⟨rfl,Z⟩))
        go_roundw
        case rel=>exact⟨k2+1,by omega,by go_num,J.trans (Z.mono J.size),λj y hj hy=>by
         by_cases e9:j=k2
         ·subst e9;rw[c9.out] at hy
          cases hy
          exact g0.out
         ·exact HN.out j y (by omega) hy⟩
        case measure=>simp[intOf];omega
       ·go_wp2_with (first|(go_at_call 141;refine HF.out.mono ?_;rintro q w3 ⟨rfl,rfl⟩)|(go_at_call 142;refine HT.out.mono ?_;rintro q w4 ⟨rfl,Z⟩))
        go_roundw
        case rel=>exact⟨k2+1,by omega,by go_num,J.trans (Z.mono J.size),λj y hj hy=>by
         by_cases e9:j=k2
         ·subst e9;rw[c9.out] at hy
          cases hy
          exact g0.out
         ·exact HN.out j y (by omega) hy⟩
        case measure=>simp[intOf];omega
       ·go_wp2_with (first|(go_at_call 141;refine HF.out.mono ?_;rintro q w3 ⟨rfl,rfl⟩)|(go_at_call 142;refine HT.out.mono ?_;rintro q w4 ⟨rfl,Z⟩))
        go_roundw
        case rel=>exact⟨k2+1,by omega,by go_num,J.trans (Z.mono J.size),λj y hj hy=>by
         by_cases e9:j=k2
         ·subst e9;rw[c9.out] at hy
          cases hy
          exact g0.out
         ·exact HN.out j y (by omega) hy⟩
        case measure=>simp[intOf];omega
      ·have q5:f1=false:=by cases f1<;>simp_all
       have q4:a1=false:=by cases a1<;>simp_all
       subst q5 q4;have HY:Hid (aE6 D (aX R.F) s U L K 5):=.inr ⟨b6.out,.inr ⟨b0,.inl ⟨rfl,x,aD c9.out,i8.out,i6.out⟩⟩⟩;clear e3
       go_wp2_with (first|(go_at_call 141;refine HF.out.mono ?_;rintro q w3 ⟨rfl,rfl⟩)|(go_at_call 142;refine HT.out.mono ?_;rintro q w4 ⟨rfl,Z⟩))
       go_ret2;exact⟨_,_,rfl,.inl ⟨rfl,b2.out.trans ((J.trans (Z.mono J.size)).mono b2.out.size),HY.out⟩⟩
     ·obtain rfl:k2=L.length:=by omega
      have b9:Hid (oH (aX R.F) s L):=λx hx=>by
       obtain⟨j,hj⟩:=bI.1 hx;exact HN.out j x (aB.1 hj).1 hj
      clear HN;have m1:Below w.heap.size w wr:=b2.out.trans (J.mono b2.out.size);have k4:Hid (Calls Tryz.prog 143 #[.slice va L.length vc] wr λq w'=>∃v,q=.returned v/\w'.ownsRow wr.heap.size 9 1 v (yG L).length (bW (yG L))/\Below wr.heap.size wr w'):=
       uK L va vc wr (eJ.view (k7.out.below J)) (by omega)
      have e4:Hid (∀u,Below wr.heap.size wr u->Calls Tryz.prog 144 #[.pointer (some ⟨rb,0,none⟩),.int .i64 r,.pointer (some ⟨sb,0,none⟩)] u λq w'=>∃v K',q=.returned v/\w'.ownsRow u.heap.size 9 1 v K'.length (bW K')/\pG K'/\(∀x,x∈K'↔(aX R.F x).isSome=true\/(s x).alive=true)/\Below u.heap.size u w'):=λu hu=>
       zM r R rb sb z u (a9.out.below (J.trans (hu.mono J.size))) b1.out (c8.out.below (J.trans (hu.mono J.size))) b3.out m4
      go_upto_if 86 with (go_at_call 143;refine k4.out.mono ?_;rintro q w5 ⟨v5,rfl,h6,d6⟩;obtain⟨a5,p5,rfl⟩:=bC h6)
      go_cut [17] (λq8 wx=>∃a7 p7,q8=.slice a7 K.length p7/\eJ wx 9 1 K.length (.slice a7 K.length p7) (bW K)/\Below w1.heap.size w1 wx)
      case first=>
       by_cases b4:L=[]
       ·have q6:((L.length:Int) == 0)=true:=by rw[b4];rfl
        have f4:Hid (∀K',pG K'->(∀x,x∈K'↔(aX R.F x).isSome=true\/(s x).alive=true)->K'=K):=λK' h1 h2=>pG.ext h1 j5.out (λx=>by
         have:=j3.out x;rw[if_pos b4] at this
         rw[this,h2])
        clear b4
        go_wp2_with (go_at_call 144;refine(e4.out _ d6).mono ?_;rintro q w6 ⟨v6,K',rfl,n2,q1,q2,g7⟩;obtain⟨a6,p6,rfl⟩:=bC n2)
        go_meet
        obtain rfl:=f4.out K' q1 q2;exact⟨a6,p6,rfl,eJ.own n2,J.trans ((d6.mono J.size).trans (g7.mono (by have:=d6.size;have:=J.size;omega)))⟩
       ·have q6:((L.length:Int) == 0)=false:=by
         cases L with
         | nil=>exact absurd rfl b4
         | cons a b=>simp;omega
        have f4:Hid (yG L=K):=pG.ext (mR L).1 j5.out (λx=>by
         have:=j3.out x;rw[if_neg b4] at this
         rw[this,(mR L).2])
        clear b4;go_wp2
        go_meet
        rw[f4.out] at h6 ⊢;exact⟨a5,p5,rfl,eJ.own h6,J.trans (d6.mono J.size)⟩
      case rest=>
       obtain⟨a7,p7,rfl,m9,m2⟩:=hcut;have j6:=aO m9;have c6:=aO m2;have a4:Hid (Below w.heap.size w wc):=b2.out.trans (m2.mono b2.out.size);clear m9 k4 e4 m1 J;go_wp2
       go_loopw [18,19] (λcl xi wy=>∃(k:Nat) (cb:Bool),k<=K.length/\xi=.int .i64 k/\cl=.bool cb/\Hid (cb=true↔∀x∈K.take k,cZ (aX R.F) s x=false)/\Below wc.heap.size wc wy) (λ_ xi _=>K.length - (intOf xi).toNat)
       case atStart=>exact⟨0,true,aE _,rfl,rfl,by unfold Hid;simp,Below.refl _ _⟩
       case round=>
        obtain⟨k3,cb,r4,rfl,rfl,f3,J⟩:=hrel;by_cases b5:k3<K.length
        ·obtain⟨x,a3⟩:∃x,K[k3]?=some x:=⟨_,aC b5⟩;obtain⟨lb,lo,e5,c2⟩:∃lb lo,a7=some ⟨lb,lo,none⟩/\wr.cell? ⟨lb,lo+k3,none⟩=some (.string x):=by
          obtain⟨_,_,e5,-,g9⟩:=(j6.out.below J).at_
          cases e5
          obtain⟨b7,o7,e6,h8,g8⟩:=g9 (by omega);exact⟨b7,o7,e6,g8 k3 _ (by unfold bW;rw[aP,a3];rfl)⟩
         subst e5;have e7:Below w1.heap.size w1 wr:=c6.out.trans (J.mono c6.out.size);have k1:Hid (Calls Tryz.prog 145 #[.pointer (some ⟨rb,0,none⟩),.int .i64 r,.pointer (some ⟨sb,0,none⟩),.string x] wr λq w'=>q=.returned (.bool (!cZ (aX R.F) s x))/\Below wr.heap.size wr w'):=by
          have:=aDr (x:=x) r R rb sb z wr (a9.out.below e7) b1.out (c8.out.below e7) b3.out (f8.out x);rw[tS] at this;exact this
         have p9:Hid (K.take (k3+1)=K.take k3++[x]):=by unfold Hid;rw[aF b5,(aB.1 a3).2]
         obtain⟨df,d7⟩:∃df,cZ (aX R.F) s x=df:=⟨_,rfl⟩;rw[d7] at k1;have i7:Hid ((cb && !df)=true↔∀x∈K.take (k3+1),cZ (aX R.F) s x=false):=by
          unfold Hid;rw[p9.out,jX,f3.out];constructor
          ·rintro⟨h1,h2⟩ y hy;rcases aG.1 hy with h3|h3
           ·exact h1 y h3
           ·rw[bE] at h3;subst h3;rw[d7];simpa using h2
          ·intro h1;refine⟨λy hy=>h1 y (aG.2 (.inl hy)),?_⟩;have:=h1 x (aG.2 (.inr (by simp)));rw[d7] at this;rw[this];rfl
         clear d7 a3 f3
         cases cb<;>cases df
         all_goals
          go_wp2_with (go_at_call 145;refine k1.out.mono ?_;rintro q w6 ⟨rfl,g7⟩)
          go_roundw
          case rel=>exact⟨k3+1,_,by omega,by go_num,rfl,i7,J.trans (g7.mono J.size)⟩
          case measure=>simp[intOf];omega
        ·obtain rfl:k3=K.length:=by omega
         have Y:=f3.out;rw[bD] at Y
         cases cb with
         | true=>
          have HY:Hid (aE6 D (aX R.F) s U L K 9):=.inr ⟨b6.out,.inr ⟨b0,.inr ⟨b9.out,rfl,Y.1 rfl⟩⟩⟩;clear Y;go_wp2;go_ret2;exact⟨_,_,rfl,.inl ⟨rfl,a4.out.trans (J.mono a4.out.size),HY.out⟩⟩
         | false=>
          have a2:∃x∈K,cZ (aX R.F) s x=true:=by
           apply Classical.byContradiction;intro h9;have:∀x∈K,cZ (aX R.F) s x=false:=λx hx=>by
            cases h8:cZ (aX R.F) s x with
            | false=>rfl
            | true=>exact absurd ⟨x,hx,h8⟩ h9
           exact absurd (Y.2 this) (by simp)
          have HB:=aO (o2.out b6.out b0 b9.out a2);have o0:=aO a2;clear Y a2;have c4:Below w.heap.size w wr:=a4.out.trans (J.mono a4.out.size);have f7:=aO (aA7 i U K Cs m r B rb R Ps _ wr (HO.out.below c4) (HK.out.below c4) HR.out HB.out.at_ HB.out.made (j6.out.below J) q3 (by rw[V.out];exact n4) hc (by omega) HB.out.bl HB.out.br HX.out);rw[V.out] at f7
          go_wp2_with (go_at_call 146;refine f7.out.mono ?_;rintro q w6 ⟨rfl,P,l7,l8,l9,l5,h4⟩)
          have d4:(D.plus P Cs).repos[r]?=some R:=b1.out;have b8:=aO (l5.below (Below.refl _ _).drew);obtain⟨g,cap,c3,d0,d1,d2,m7,m5⟩:=b8.out.rep d4;have r7:r<(D.plus P Cs).repos.length:=(aB.1 d4).1;have r5:(D.plus P Cs).repos.length<=3:=HK.out.rps.1;generalize n1:(D.plus P Cs).repos.length=nr at *;have o4:=aO n1;have d8:=(b8.out.okr R (aD d4)).2.2;have r1:=aO d8;obtain⟨-,la,lc,d9,-,-⟩:=id d8;have r2:=aO d9;rw[d9] at d2
          have k8:=aO (aP1 R.L k (.slice la R.L.length lc) w6.drew (by rw[<- d9];exact d8) (by
           have:=HR.out.pk.1;have:=HR.out.hs.len
           omega))
          have I:Hid (w6.drew.cell? ⟨rb,3,none⟩=some (.slice (some ⟨g,0,none⟩) nr cap)/\w6.drew.cell? ⟨g,r * 3+2,none⟩=some (.slice la R.L.length lc)):=⟨c3,d2⟩;have i9:=aO h4;have k5:Hid (sE w6.drew sb z):=((c8.out.below (c6.out.trans (J.mono c6.out.size))).held (h4.held (HO.out.wr.below c4))).below (Below.refl _ _).drew;have j0:=aO m5;have f6:=aO l8;have j9:=aO l9;have o5:=aO l7;have n9:=aO c4;clear l5 h4 m5 c3 d0 d1 d2 n1 d8 d9 l8 l9 l7 c4 f7
          go_wp2_with fail
          refine dF (λw'=>w'.cell? ⟨rb,3,none⟩=some (.slice (some ⟨g,0,none⟩) nr cap)/\w'.cell? ⟨g,r * 3+2,none⟩=some (.slice la R.L.length lc)) 17 (by kernel_rfl) ?_;refine zt 0 (v:=?vA0) I.out (λw0 E=>?hy) ?_
          case hy=>obtain⟨s1,s2⟩:=E;go_simp;with_reducible rfl
          simp only[Act.put,aW];refine zt 1 (v:=?vA1) I.out (λw0 E=>?hy) ?_
          case hy=>obtain⟨s1,s2⟩:=E;go_simp;with_reducible rfl
          simp only[Act.put];refine zt 2 (v:=?vA2) I.out (λw0 E=>?hy) ?_
          case hy=>obtain⟨s1,s2⟩:=E;go_simp;with_reducible rfl
          simp only[Act.put];refine zt 3 (v:=?vA3) I.out (λw0 E=>?hy) ?_
          case hy=>obtain⟨s1,s2⟩:=E;go_simp;with_reducible rfl
          simp only[Act.put];refine zt 4 (v:=?vA4) I.out (λw0 E=>?hy) ?_
          case hy=>obtain⟨s1,s2⟩:=E;go_simp;with_reducible rfl
          simp only[Act.put];refine zt 5 (v:=?vA5) I.out (λw0 E=>?hy) ?_
          case hy=>obtain⟨s1,s2⟩:=E;go_simp;with_reducible rfl
          simp only[Act.put];refine zt 6 (v:=?vA6) I.out (λw0 E=>?hy) ?_
          case hy=>obtain⟨s1,s2⟩:=E;go_simp;with_reducible rfl
          simp only[Act.put];refine zt 7 (v:=?vA7) I.out (λw0 E=>?hy) ?_
          case hy=>obtain⟨s1,s2⟩:=E;go_simp;with_reducible rfl
          simp only[Act.put];refine zt 8 (v:=?vA8) I.out (λw0 E=>?hy) ?_
          case hy=>obtain⟨s1,s2⟩:=E;go_simp;with_reducible rfl
          simp only[Act.put];refine zt 9 (v:=?vA9) I.out (λw0 E=>?hy) ?_
          case hy=>obtain⟨s1,s2⟩:=E;go_simp;with_reducible rfl
          simp only[Act.put];refine zt 10 (v:=?vA10) I.out (λw0 E=>?hy) ?_
          case hy=>obtain⟨s1,s2⟩:=E;go_simp;with_reducible rfl
          simp only[Act.put];refine zt 11 (v:=?vA11) I.out (λw0 E=>?hy) ?_
          case hy=>obtain⟨s1,s2⟩:=E;go_simp;with_reducible rfl
          simp only[Act.put];refine zt 12 (v:=?vA12) I.out (λw0 E=>?hy) ?_
          case hy=>obtain⟨s1,s2⟩:=E;go_simp;with_reducible rfl
          simp only[Act.put];refine zt 13 (v:=?vA13) I.out (λw0 E=>?hy) ?_
          case hy=>obtain⟨s1,s2⟩:=E;go_simp;with_reducible rfl
          simp only[Act.put];refine bT 14 _ rfl (by kernel_rfl) (λKK W=>?_);go_simp;refine k8.out.mono ?_;rintro q w7 ⟨v7,rfl,h7,a0⟩;clear k8;dsimp only;have c0:w7.cell? ⟨rb,3,none⟩=some (.slice (some ⟨g,0,none⟩) nr cap)/\w7.cell? ⟨g,r * 3+2,none⟩=some (.slice la R.L.length lc):=
           ⟨(bN (a0.block rb b8.out.wr.lt) 3).trans I.out.1,(bN (a0.block g m7) (r * 3+2)).trans I.out.2⟩
          refine W.out _ _ (λ_=>c0) ?_;clear W;obtain⟨a8,p8,rfl⟩:=bC h7;have v1:=c0.2;have v2:w7.frozen? ⟨g,r * 3+2,none⟩=false:=by
           have:=a0.frozen (p:=⟨g,r * 3+2,none⟩) m7;rw[this];exact j0.out _
          have f5:=aO (b8.out.below a0);have f9:=aO c0;have e8:(R.L++[k]).length=R.L.length+1:=by simp
          have n7:RI w7 (.slice a8 (R.L.length+1) p8) (R.L++[k]):=by
           have h9:=eJ.own h7;show eJ w7 3 1 (R.L++[k]).length _ _;rw[e8] at h9 ⊢;exact h9
          obtain⟨w9,i5⟩:∃w9,w9=w7.setCell ⟨g,r * 3+2,none⟩ (.slice a8 (R.L.length+1) p8):=⟨_,rfl⟩;obtain⟨l6,h5⟩:=WO.putL (N:=R.L++[k]) f5.out (by rw[o4.out];exact c0.1) d4 n7 i5;have c7:=aO l6;have k6:Hid (sE w9 sb z):=(k5.out.below a0).held (h5.held f5.out.wr);have o1:Hid (hJ w w9 rb):=(hJ.ofBelow n9.out q7).trans (i9.out.trans ((hJ.ofBelow ((Below.refl w6.heap.size w6).drew.trans a0) (by have:=b8.out.wr.lt;exact this)).trans h5));clear l6 h5 h7 a0 c0 n7 e8;refine bT 15 _ rfl (by kernel_rfl) (λKK W=>?_);go_simp;refine W.out _ _ (λ_=>f9.out) ?_;clear W;refine bT 16 _ rfl (by kernel_rfl) (λKK W=>?_);go_simp;refine W.out _ _ (λ_=>f9.out) ?_;clear W;refine bT 17 _ rfl (by kernel_rfl) (λKK W=>?_);go_simp;rw[<- i5];refine W.out _ _ (λh=>absurd rfl h) ?_;clear W;refine fJ (by kernel_rfl) ?_ _;clear i5 v1 v2 f9 f5 I i9 j0;obtain⟨R',d3⟩:∃R',R'={ R with lv:=.slice a8 (R.L.length+1) p8,L:=R.L++[k] }:=⟨_,rfl⟩;rw[<- d3] at c7;have g5:R'.F=R.F:=by rw[d3]
          have m0:R'.L=R.L++[k]:=by rw[d3]
          have o6:=aO g5;have o8:=aO m0;have o9:=aO (aJw HK.out c7.out b1.out g5 (by rw[f6.out];exact HB.out.few) HB.out.br m4 HB.out.few);clear d3 g5 m0;have g4:Hid (Calls Tryz.prog 148 #[.pointer (some ⟨rb,0,none⟩),.pointer (some ⟨sb,0,none⟩),.int .i64 k] w9 λq w'=>q=.returned (.string ⟨(dK t Cs.length).toArray⟩)/\Below w9.heap.size w9 w'):=by
           have m6:=HR.out.hs.hist.good.1;refine wR Cs t k P rb sb z w9 o9.out k6.out b3.out ?_ f6.out j9.out HB.out.tells HB.out.tsz (HB.out.tlc (q:=P) b3.out) (λc hc=>(HB.out.wf c hc).2.2.2.2) HB.out.few (λx=>aB1 (m6 x) HR.out.hs.hist.noz) (λx=>⟨f8.out x,sV (λu hu=>(b3.out.cell x u hu).1) (m6 x).nd⟩);show (D.pts++[P])[k]?=some P;rw[<- V.out];simp
          go_wp2_with (go_at_call 148;refine g4.out.mono ?_;rintro q wz ⟨rfl,m3⟩)
          go_ret2;exact⟨_,_,rfl,.inr ⟨rfl,rfl,b6.out,b0,b9.out,o0.out,P,R',o5.out,f6.out,j9.out,o6.out,by rw[o8.out,V.out],c7.out.below m3,o1.out.trans (hJ.ofBelow m3 c7.out.wr.lt)⟩⟩
end
section
variable {e:iA} {own:List ByteArray} {Pa:List PM} {D:RD} {s:ByteArray->PL}
theorem aGf(i:cL)(r:Nat)(R:iD)(Ps:List PM)(B rb wb wo wn wc:Nat)(w:World)(U:WO w B rb D)(J:kC w rb D e own Pa D)(z:Rpo Pa D r R Ps s)(hi:pK i)(E:∀P∈Ps,pK P.id)(K:i∉Ps.map (·.id))
  (hw:w.cell? ⟨wb,wo,none⟩=some (.string ⟨#[115,104,111,119]⟩)) (W:w.cell? ⟨wb,wo+1,none⟩=some (.string (dT i))) (a6:2<=wn) (a5:wb<w.heap.size) :
  Calls Tryz.prog 90 #[.pointer (some ⟨rb,0,none⟩),.int .i64 r,.slice (some ⟨wb,wo,none⟩) wn wc] w λq w'=>q=.returned (.tuple #[.string ⟨#[]⟩,.int .i64 7])/\Below w.heap.size w w':=by
 obtain⟨g,cap,c3,d0,d1,d2,a0,-⟩:=U.rep z.at_;have a2:=(aB.1 z.at_).1;have a1:=J.rps.1;obtain⟨o1,o2,o3⟩:=U.okr R (aD z.at_);obtain⟨-,na,nc,e1,-,-⟩:=id o1;obtain⟨-,ta,tc,e2,-,-⟩:=id o2;obtain⟨-,Y,Z,e3,-,-⟩:=id o3;rw[e1] at d0;rw[e2] at d1;rw[e3] at d2;have HI:Hid (∀u,Below w.heap.size w u->Calls Tryz.prog 149 #[.pointer (some ⟨rb,0,none⟩),.int .i64 r,.string (dT i)] u λq w'=>q=.returned (.int .i64 (-1))/\Below u.heap.size u w'):=λu hu=>by
  have:=aC9 r R (dT i) rb D u (J.below hu).wv z.at_ (aLy J.rel z.pk) (by have:=z.pk.1;have:=z.hs.len;omega) (by omega);rw[aPe J.rel z.pk,aS2 E hi] at this;have h9:(Ps.findIdx? λP=>decide (P.id=i))=none:=by
   rw[fE];intro P hP;exact decide_eq_false λh8=>K (aI.2 ⟨P,hP,h8⟩)
  rw[h9] at this;exact this
 have I:Below w.heap.size w (w.alloc (.cells #[.slice na R.F.length nc,.slice ta R.F.length tc,.slice Y R.L.length Z] 205)):=(Below.refl _ _).alloc (aA _) _;have a3:=bP (.cells #[.slice na R.F.length nc,.slice ta R.F.length tc,.slice Y R.L.length Z] 205) hw;have a4:=bP (.cells #[.slice na R.F.length nc,.slice ta R.F.length tc,.slice Y R.L.length Z] 205) W;clear U J z o1 o2 o3 e1 e2 e3 E K hi;generalize dT i=it at *;generalize D.repos.length=nr at *;go_enter Tryz.func90,Tryz.ntmps90
 go_wp2_with (go_at_call 149;refine(HI.out _ I).mono ?_;rintro q w2 ⟨rfl,V⟩)
 go_ret2;exact⟨rfl,I.trans (V.mono I.size)⟩
theorem aIa(i:cL)(r:Nat)(R:iD)(Ps:List PM)(st:Nat->Nat->ByteArray->PL)(t:Nat->ByteArray)(k:Nat)(P:PM)(B rb wb wo wn wc:Nat)(w:World)(hO:WO w B rb D)(K:kC w rb D e own Pa D)(W:Rpo Pa D r R Ps s)(hi:pK i)(b2:∀P∈Ps,pK P.id)(hk:Ps[k]?=some P)(b5:P.id=i)
  (h0:st 0 0=λ_=>pl0) (h1:∀p,p<=Ps.length->HSl (Ps.take p) (st p 0)) (h2:∀p P,Ps[p]?=some P->aBp P (st p 0) (st (p+1) 0)) (hc:D.cells.length<=100000) (ht:∀j c,P.Cs[j]?=some c->fU c.2 c.1 (st k 0 c.1) (t j)) (c0:∀j,(t j).size<=1000000)
  (hw:w.cell? ⟨wb,wo,none⟩=some (.string ⟨#[115,104,111,119]⟩)) (d8:w.cell? ⟨wb,wo+1,none⟩=some (.string (dT i))) (h4:2<=wn) (c1:wb<w.heap.size) :
  Calls Tryz.prog 90 #[.pointer (some ⟨rb,0,none⟩),.int .i64 r,.slice (some ⟨wb,wo,none⟩) wn wc] w λq w'=>q=.returned (.tuple #[.string ((dT i++⟨#[10]⟩)++⟨(dK t P.Cs.length).toArray⟩),.int .i64 0])/\Below w.heap.size w w':=by
 obtain⟨g,cap,c3,d0,d1,d2,g5,-⟩:=hO.rep W.at_;have g7:=(aB.1 W.at_).1;have g6:=K.rps.1;obtain⟨o1,o2,o3⟩:=hO.okr R (aD W.at_);have a6:=aO o3;obtain⟨-,na,nc,e1,-,-⟩:=id o1;obtain⟨-,ta,tc,e2,-,-⟩:=id o2;obtain⟨-,la,lc,e3,-,-⟩:=id o3;rw[e1] at d0;rw[e2] at d1;rw[e3] at d2;rw[e3] at a6;have e6:=(aB.1 hk).1;have d4:=W.pk.1;have f9:=W.hs.len;obtain⟨p,hp⟩:∃p,R.L[k]?=some p:=⟨_,aC (by omega)⟩;have a7:=W.pk.2 k p P hp hk;obtain⟨q,hq⟩:∃q,D.pts[p]?=some q:=⟨_,aC (by rw[K.rel.len];exact(aB.1 a7).1)⟩;obtain⟨f4,d5,d6⟩:=K.rel.pt p P q a7 hq;have V:P∈Ps:=aD hk;have c2:=W.hs.hist.wf P V;have a3:=W.hs.slim;have b1:=h1 k (by omega);have b7:=b1.hist.good.1;have HI:Hid (∀u,Below w.heap.size w u->Calls Tryz.prog 149 #[.pointer (some ⟨rb,0,none⟩),.int .i64 r,.string (dT i)] u λq w'=>q=.returned (.int .i64 k)/\Below u.heap.size u w'):=λu hu=>by
  have:=aC9 r R (dT i) rb D u (K.below hu).wv W.at_ (aLy K.rel W.pk) (by omega) (by omega);rw[aPe K.rel W.pk,aS2 b2 hi] at this;have h9:(Ps.findIdx? λP=>decide (P.id=i))=some k:=by
   rw[cQ];refine⟨e6,?_,λj hj=>?_⟩
   ·rw[(aB.1 hk).2,b5];simp
   ·by_cases e9:Ps[j].id=i
    ·have:=aCe W.hs.hist.nd (j:=j) (k:=k) (a:=i) (by rw[aP,aC (by omega)];simp[e9]) (by rw[aP,hk];simp[b5]);omega
    ·simp[e9]
  rw[h9] at this;exact this
 have c4:Hid (∀u,Below w.heap.size w u->Calls Tryz.prog 161 #[.pointer (some ⟨rb,0,none⟩),.slice la R.L.length lc,.int .i64 k] u λq w'=>∃sb z,q=.returned (.pointer (some ⟨sb,0,none⟩))/\zK w' u.heap.size sb z/\iE e own Pa D (λ_ i=>i∈(Ps.take k).map (·.id)) (st k 0) z.abs/\Below u.heap.size u w'):=λu hu=>
  aDm e own Pa Ps s st rb D R.L (.slice la R.L.length lc) k u (K.below hu).wv K.rel (eJ.below a6.out hu) W.pk (by omega) W.hs h1 h2 h0 K.few (by omega)
 have c6:Hid (∀u sb z,Below w.heap.size w u->sE u sb z->iE e own Pa D (λ_ i=>i∈(Ps.take k).map (·.id)) (st k 0) z.abs->Calls Tryz.prog 148 #[.pointer (some ⟨rb,0,none⟩),.pointer (some ⟨sb,0,none⟩),.int .i64 p] u λq w'=>q=.returned (.string ⟨(dK t P.Cs.length).toArray⟩)/\Below u.heap.size u w'):=λu sb z hu g1 g2=>by
  refine wR P.Cs t p q rb sb z u (K.below hu) g1 g2 hq d5 d6 ht c0 (λc hc=>?_) (λc hc=>a3.names P V c hc) (by have:=a3.few P V;omega) (λx=>aB1 (b7 x) b1.hist.noz) (λx=>⟨b1.rows x,sV (λv hv=>(g2.cell x v hv).1) (b7 x).nd⟩);have a5:=λv hv=>K.rel.cell p P a7 c hc v hv;refine aYd (i:=P.id) g2 (RD.Ext.refl D) (λv hv=>?_) (λv hv=>(a5 v hv).1) ((h2 k P hk).app c hc) (c2.wf c hc) (c2.self c hc) (a3.small P V c hc) (a3.br P V c hc);obtain⟨-,-,-,k9,P9,h9,-⟩:=a5 v hv;exact⟨k9,h9⟩
 have g8:(⟨(dK t P.Cs.length).toArray⟩:ByteArray).size<=300000000:=by
  have e9:(⟨(dK t P.Cs.length).toArray⟩:ByteArray).size=(dK t P.Cs.length).length:=by simp[ByteArray.size]
  have:=qQ t 1000000 c0 P.Cs.length;have h8:=a3.few P V;have:P.Cs.length * 1000000<=300 * 1000000:=dV _ h8;omega
 have f5:=rG i;have a1:=uN (dT i) ⟨#[10]⟩ (by omega) (by decide);have a2:=uN (dT i++⟨#[10]⟩) ⟨(dK t P.Cs.length).toArray⟩ (by rw[aN];have e9:(⟨#[10]⟩:ByteArray).size=1:=rfl;omega) (by omega);have a4:Below w.heap.size w (w.alloc (.cells #[.slice na R.F.length nc,.slice ta R.F.length tc,.slice la R.L.length lc] 205)):=(Below.refl _ _).alloc (aA _) _;have c9:=(aH w (.cells #[.slice na R.F.length nc,.slice ta R.F.length tc,.slice la R.L.length lc] 205)).1;have g9:=bP (.cells #[.slice na R.F.length nc,.slice ta R.F.length tc,.slice la R.L.length lc] 205) hw;have h3:=bP (.cells #[.slice na R.F.length nc,.slice ta R.F.length tc,.slice la R.L.length lc] 205) d8;obtain⟨lb,lo,e7,d3⟩:∃lb lo,la=some ⟨lb,lo,none⟩/\∀u,Below w.heap.size w u->u.cell? ⟨lb,lo+k,none⟩=some (.int .i64 p):=by
  obtain⟨_,_,e9,-,e4⟩:=RI.each a6.out
  cases e9
  obtain⟨b9,o9,e8,h8,h9⟩:=e4 k p hp;exact⟨b9,o9,e8,λu hu=>(bN (hu.block b9 h8) _).trans h9⟩
 subst e7;have b4:=aO d3;have f6:k<R.L.length:=by omega
 have f7:R.L.length<=1000:=by omega
 clear d4;generalize f3:R.L.length=nl at *;clear hO K W o1 o2 o3 e1 e2 e3 b2 hi a6 d3 hp a7 hq f4 d5 d6 V c2 a3 b1 b7 h0 h1 h2 ht c0 hk b5 f3;generalize (⟨(dK t P.Cs.length).toArray⟩:ByteArray)=T at *;generalize e5:dT i=it at *;clear e5;generalize D.repos.length=nr at *;have d9:=aO c9;have f8:=aO a4;have b3:w.heap.size<(w.alloc (.cells #[.slice na R.F.length nc,.slice ta R.F.length tc,.slice (some ⟨lb,lo,none⟩) nl lc] 205)).heap.size:=by simp
 have c7:=aO b3;clear b3 c9;go_enter Tryz.func90,Tryz.ntmps90
 go_wp2_with (go_at_call 149;refine(HI.out _ a4).mono ?_;rintro q w2 ⟨rfl,b6⟩)
 have Y:Below w.heap.size w w2.drew:=(a4.trans (b6.mono a4.size)).drew;have b8:w2.drew.heap[w.heap.size]?=_:=(b6.drew.block _ c7.out).trans d9.out;have I:Hid (w2.drew.cell? ⟨wb,wo+1,none⟩=some (.string it)/\w2.drew.cell? ⟨w.heap.size,2,none⟩=some (.slice (some ⟨lb,lo,none⟩) nl lc)/\w2.drew.cell? ⟨lb,lo+k,none⟩=some (.int .i64 p)):=
  ⟨(bN (Y.block wb c1) _).trans d8,by simp[World.cell?,b8],b4.out _ Y⟩
 have e0:=aO b8;have J:=aO Y;clear b8 Y b6 a4;have g0:(1:Int)<(wn:Int):=by omega
 have g4:(k:Int)<(nl:Int):=by omega
 refine dF (λw'=>w'.cell? ⟨wb,wo+1,none⟩=some (.string it)/\w'.cell? ⟨w.heap.size,2,none⟩=some (.slice (some ⟨lb,lo,none⟩) nl lc)/\w'.cell? ⟨lb,lo+k,none⟩=some (.int .i64 p)) 99 (by kernel_rfl) ?_;refine zt 0 (v:=?vA0) I.out (λw0 E=>?hy) ?_
 case hy=>obtain⟨s1,Z,s3⟩:=E;go_simp;with_reducible rfl
 simp only[Act.put,aW];refine zt 1 (v:=?vA1) I.out (λw0 E=>?hy) ?_
 case hy=>obtain⟨s1,Z,s3⟩:=E;go_simp;with_reducible rfl
 simp only[Act.put];refine zt 2 (v:=?vA2) I.out (λw0 E=>?hy) ?_
 case hy=>obtain⟨s1,Z,s3⟩:=E;go_simp;with_reducible rfl
 simp only[Act.put];refine zt 3 (v:=?vA3) I.out (λw0 E=>?hy) ?_
 case hy=>obtain⟨s1,Z,s3⟩:=E;go_simp;with_reducible rfl
 simp only[Act.put];refine zt 4 (v:=?vA4) I.out (λw0 E=>?hy) ?_
 case hy=>obtain⟨s1,Z,s3⟩:=E;go_simp;with_reducible rfl
 simp only[Act.put];refine zt 5 (v:=?vA5) I.out (λw0 E=>?hy) ?_
 case hy=>obtain⟨s1,Z,s3⟩:=E;go_simp;with_reducible rfl
 simp only[Act.put];refine zt 6 (v:=?vA6) I.out (λw0 E=>?hy) ?_
 case hy=>obtain⟨s1,Z,s3⟩:=E;go_simp;with_reducible rfl
 simp only[Act.put];refine zt 7 (v:=?vA7) I.out (λw0 E=>?hy) ?_
 case hy=>obtain⟨s1,Z,s3⟩:=E;go_simp;with_reducible rfl
 simp only[Act.put];refine zt 8 (v:=?vA8) I.out (λw0 E=>?hy) ?_
 case hy=>obtain⟨s1,Z,s3⟩:=E;go_simp;with_reducible rfl
 simp only[Act.put];refine zt 10 (v:=?vA10) I.out (λw0 E=>?hy) ?_
 case hy=>obtain⟨s1,Z,s3⟩:=E;go_simp;with_reducible rfl
 simp only[Act.put];refine zt 11 (v:=?vA11) I.out (λw0 E=>?hy) ?_
 case hy=>obtain⟨s1,Z,s3⟩:=E;go_simp;with_reducible rfl
 simp only[Act.put];refine zt 12 (v:=?vA12) I.out (λw0 E=>?hy) ?_
 case hy=>obtain⟨s1,Z,s3⟩:=E;go_simp;with_reducible rfl
 simp only[Act.put];refine zt 13 (v:=?vA13) I.out (λw0 E=>?hy) ?_
 case hy=>obtain⟨s1,Z,s3⟩:=E;go_simp;with_reducible rfl
 simp only[Act.put];refine zt 14 (v:=?vA14) I.out (λw0 E=>?hy) ?_
 case hy=>obtain⟨s1,Z,s3⟩:=E;go_simp;with_reducible rfl
 simp only[Act.put];refine bT 9 _ rfl (by kernel_rfl) (λKK K=>?_);go_simp;refine(c4.out _ J.out).mono ?_;rintro q w3 ⟨sb,z,rfl,d7,hS,a0⟩;dsimp only;have a8:w3.cell? ⟨wb,wo+1,none⟩=some (.string it)/\w3.cell? ⟨w.heap.size,2,none⟩=some (.slice (some ⟨lb,lo,none⟩) nl lc)/\w3.cell? ⟨lb,lo+k,none⟩=some (.int .i64 p):=
  ⟨(bN (a0.block wb (bJ c1 J.out.size)) _).trans I.out.1,(bN (a0.block w.heap.size (lt_of_block e0.out)) _).trans I.out.2.1,b4.out _ (J.out.trans (a0.mono J.out.size))⟩
 refine K.out _ _ (λ_=>a8) ?_;clear K;have c5:=aO (c6.out w3 sb z (J.out.trans (a0.mono J.out.size)) d7.view hS);have U:Below w.heap.size w w3:=J.out.trans (a0.mono J.out.size);clear d7 hS c6 c4 a0;refine bT 15 _ rfl (by kernel_rfl) (λKK K=>?_);go_simp;refine c5.out.mono ?_;rintro q w4 ⟨rfl,b0⟩;dsimp only;have a9:w4.cell? ⟨wb,wo+1,none⟩=some (.string it)/\w4.cell? ⟨w.heap.size,2,none⟩=some (.slice (some ⟨lb,lo,none⟩) nl lc)/\w4.cell? ⟨lb,lo+k,none⟩=some (.int .i64 p):=
  ⟨(bN (b0.block wb (bJ c1 U.size)) _).trans a8.1,(bN (b0.block w.heap.size (by
   have h9:=a8.2.1;by_cases h8:w.heap.size<w3.heap.size
   ·exact h8
   ·simp[World.cell?,eI (show w3.heap.size<=w.heap.size by omega)] at h9)) _).trans a8.2.1,b4.out _ (U.trans (b0.mono U.size))⟩
 refine K.out _ _ (λ_=>a9) ?_;clear K c5;have c8:Below w.heap.size w w4:=U.trans (b0.mono U.size);refine bT 16 _ rfl (by kernel_rfl) (λKK K=>?_);go_simp;refine K.out _ _ (λ_=>a9) ?_;clear K;refine zt 17 (v:=?vB17) a9 (λw0 E=>?hy) ?_
 case hy=>obtain⟨s1,Z,s3⟩:=E;go_simp;with_reducible rfl
 simp only[Act.put];refine bT 18 _ rfl (by kernel_rfl) (λKK K=>?_);go_simp;refine K.out _ _ (λ_=>a9) ?_;clear K;refine fJ (by kernel_rfl) ?_ _;go_wp2;go_ret2;exact⟨rfl,c8⟩
end
section
variable {e:iA} {own:List ByteArray} {Pa:List PM} {D:RD} {s:ByteArray->PL}
theorem kC.clone{w w':World}{rb z B:Nat}(h:kC w rb D e own Pa D)(E:WO w' B z D):kC w' z D e own Pa D:=⟨E.view,h.rel,h.ext,h.chs,h.few,h.ln,h.rps⟩
theorem aLl(i:cL)(r:Nat)(R:iD)(Ps:List PM)(K:List ByteArray)(Cs:List (ByteArray×fM))(m:Nat->Int)(t:Nat->ByteArray)(B rb wb wo wn wc:Nat)(w:World)(hO:WO w B rb D)(hK:kC w rb D e own Pa D)(Y:Rpo Pa D r R Ps s)(a6:pG K)(a5:∀x,x∈K↔(aX R.F x).isSome=true\/(s x).alive=true)(b6:K.length<=1000)(c1:D.pts.length<=1000)(hc:D.cells.length<=100000)(b4:D.files.length<=10000)
  (hx:∀x∈K,(aL (s x).S).length<=1000/\(bM ((aX R.F x).getD ⟨#[]⟩)).length<=100/\((aX R.F x).getD ⟨#[]⟩).size<=10000) (W:aTk e D s R K i Cs m t)
  (hw:w.cell? ⟨wb,wo,none⟩=some (.string ⟨#[110,101,119]⟩)) (d5:1<=wn) (d4:wb<w.heap.size) :
  Calls Tryz.prog 90 #[.pointer (some ⟨rb,0,none⟩),.int .i64 r,.slice (some ⟨wb,wo,none⟩) wn wc] w λq w'=>q=.returned (.tuple #[.string ⟨(dK t Cs.length).toArray⟩,.int .i64 0])/\Below w.heap.size w w':=by
 obtain⟨g,cap,c3,d0,d1,d2,c6,-⟩:=hO.rep Y.at_;have c9:=(aB.1 Y.at_).1;have c7:=hK.rps.1;obtain⟨o1,o2,o3⟩:=hO.okr R (aD Y.at_);obtain⟨-,na,nc,e1,-,-⟩:=id o1;obtain⟨-,ta,tc,e2,-,-⟩:=id o2;obtain⟨-,la,lc,e3,-,-⟩:=id o3;rw[e1] at d0;rw[e2] at d1;rw[e3] at d2;have a3:=Y.hs.hist.good.1;have H1:Hid (∀u,Below w.heap.size w u->Calls Tryz.prog 160 #[.pointer (some ⟨rb,0,none⟩)] u λq w'=>∃E,q=.returned (.pointer (some ⟨E,0,none⟩))/\WO w' u.heap.size E D/\u.heap.size<=E/\Below u.heap.size u w'):=λu J=>
  aKs B rb D u (hO.below J) (by omega) (by omega) (by omega) (by omega)
 have H2:Hid (∀u E,WO u w.heap.size E D->Calls Tryz.prog 140 #[.pointer (some ⟨E,0,none⟩),.int .i64 r] u λq w'=>∃U z,q=.returned (.pointer (some ⟨U,0,none⟩))/\zK w' u.heap.size U z/\iE e own Pa D (λ_ i=>i∈Ps.map (·.id)) s z.abs/\Below u.heap.size u w'):=λu E J=>
  oP r R Ps E u (hK.clone J) Y (by omega)
 have H3:Hid (∀u E U z,WO u w.heap.size E D->sE u U z->iE e own Pa D (λ_ i=>i∈Ps.map (·.id)) s z.abs->Calls Tryz.prog 144 #[.pointer (some ⟨E,0,none⟩),.int .i64 r,.pointer (some ⟨U,0,none⟩)] u λq w'=>∃v,q=.returned v/\w'.ownsRow u.heap.size 9 1 v K.length (bW K)/\Below u.heap.size u w'):=λu E U z J h1 h2=>by
  refine(zM r R E U z u (hK.clone J) Y.at_ h1 h2 b4).mono ?_;rintro q w' ⟨v,K',rfl,g1,g2,g3,g4⟩;obtain rfl:K'=K:=pG.ext g2 a6 (λx=>by rw[g3,a5]);exact⟨v,rfl,g1,g4⟩
 have H4:Hid (∀u E U z v,WO u w.heap.size E D->sE u U z->iE e own Pa D (λ_ i=>i∈Ps.map (·.id)) s z.abs->u.ownsRow w.heap.size 9 1 v K.length (bW K)->Calls Tryz.prog 146 #[.pointer (some ⟨E,0,none⟩),.int .i64 r,.string ⟨#[]⟩,v] u λq w'=>q=.returned (.int .i64 D.pts.length)/\Below w.heap.size u w'/\Calls Tryz.prog 148 #[.pointer (some ⟨E,0,none⟩),.pointer (some ⟨U,0,none⟩),.int .i64 D.pts.length] w' λq c5=>q=.returned (.string ⟨(dK t Cs.length).toArray⟩)/\Below w'.heap.size w' c5):=λu E U z v J h1 h2 h3=>by
  refine(aA7 i ⟨#[]⟩ K Cs m r w.heap.size E R Ps v u J (hK.clone J) Y W.at_ W.made (eJ.own h3) b6 c1 hc (by omega) W.bl W.br hx).mono ?_;rintro q w' ⟨rfl,P,g1,g2,g3,g4,g5⟩;have c4:=aR J.wr.lo (iT J.wr.lt);have a9:(D.plus P Cs).repos[r]?=some R:=Y.at_;have c2:kC w' E (D.plus P Cs) e own Pa D:=by
   have:=aJw (R:=R) (R':=R) (r:=r) (hK.clone J) (by rw[RD.setR_self a9];exact g4) Y.at_ rfl (by rw[g2];exact W.few) W.br b4 W.few;rwa[RD.setR_self a9] at this
  refine⟨rfl,g5.below J.wr c4,?_⟩;refine wR Cs t D.pts.length P E U z w' c2 (h1.held (g5.held J.wr)) h2 ?_ g2 g3 W.tells W.tsz (W.tlc (q:=P) h2) (λc hc=>(W.wf c hc).2.2.2.2) W.few (λx=>aB1 (a3 x) Y.hs.hist.noz) (λx=>⟨Y.hs.rows x,sV (λu J=>(h2.cell x u J).1) (a3 x).nd⟩);show (D.pts++[P])[D.pts.length]?=some P;simp
 have I:Below w.heap.size w (w.alloc (.cells #[.slice na R.F.length nc,.slice ta R.F.length tc,.slice la R.L.length lc] 205)):=(Below.refl _ _).alloc (aA _) _;have d3:=bP (.cells #[.slice na R.F.length nc,.slice ta R.F.length tc,.slice la R.L.length lc] 205) hw;generalize (⟨(dK t Cs.length).toArray⟩:ByteArray)=T at *;clear hO hK Y o1 o2 o3 e1 e2 e3 W hx a5 a6 a3;generalize D.repos.length=nr at *;generalize D.pts.length=np at *;go_enter Tryz.func90,Tryz.ntmps90
 go_wp2_with (first|(go_at_call 160;refine(H1.out _ I).mono ?_;rintro q w2 ⟨E,rfl,V,c8,b1⟩;have b0:=I.trans (b1.mono I.size);have a7:WO w2 w.heap.size E D:=⟨⟨aR I.size V.wr.lo,by (obtain⟨pv,cv,fv,sv,x0,x1,x2,x3,x4⟩:=V.wr.wb;exact⟨pv,cv,fv,sv,x0,bK x1 I.size,bK x2 I.size,bK x3 I.size,bK x4 I.size⟩)⟩,V.ok,V.okr⟩)|(go_at_call 140;refine(H2.out _ E a7).mono ?_;rintro q w3 ⟨U,z,rfl,b5,hS,a1⟩;have a8:=a7.below a1;have a2:=b0.trans (a1.mono b0.size))|(go_at_call 144;refine(H3.out _ E U z a8 b5.view hS).mono ?_;rintro q w4 ⟨v4,rfl,c0,Z⟩;have b7:=a8.below Z;have b8:=a2.trans (Z.mono a2.size))|(go_at_call 146;refine(H4.out _ E U z v4 b7 (b5.view.below Z) hS (bK c0 a2.size)).mono ?_;rintro q w5 ⟨rfl,b3,a0⟩;have b2:=b8.trans b3;have a4:=aO a0;clear a0)|(go_at_call 148;refine a4.out.mono ?_;rintro q w6 ⟨rfl,b9⟩))
 go_ret2;exact⟨rfl,b2.trans (b9.mono b2.size)⟩
end
end Go.Proofs.YtgdfipmdmgkidaaGreatDoor

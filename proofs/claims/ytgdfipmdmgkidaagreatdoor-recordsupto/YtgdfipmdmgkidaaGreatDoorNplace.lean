import Derived.Test.YtgdfipmdmgkidaaGreatDoorPgiven
import Derived.Laws.BytesArg
import Derived.Test.YtgdfipmdmgkidaaGreatDoorQrow
import Derived.Test.YtgdfipmdmgkidaaGreatDoorWcomm
import Derived.Test.YtgdfipmdmgkidaaGreatDoorWsize
import Derived.Deep.QuietTactic
import Derived.BigQuiet
import Derived.Test.YtgdfipmdmgkidaaGreatDoorAl
set_option linter.all false
set_option maxHeartbeats 12800000
set_option maxRecDepth 100000
namespace Go.Proofs.YtgdfipmdmgkidaaGreatDoor
open Go.RowKit
theorem aL0(P:PM)(i:cL)(ib:Nat)(w:World)(z:∃a n c,P.cv=.slice a n c)(hi:w.heap[ib]?=some (.cells #[.int .u8 i.a,.int .u8 i.b,.int .u8 i.c,.int .u8 i.d] 113 (0,0))):
  Calls Tryz.prog 188 #[pmV P,.pointer (some ⟨ib,0,none⟩)] w λe w'=>e=.returned (.bool (decide (P.id=i)))/\Below w.heap.size w w':=by
 obtain⟨V,Y,W,z⟩:=z;have K:=(aV.1 hi).1;obtain⟨U,I⟩:∃U,U=w.alloc (.cells #[.int .u8 P.id.a,.int .u8 P.id.b,.int .u8 P.id.c,.int .u8 P.id.d,.slice V Y W] 149):=⟨_,rfl⟩;have J:Below w.heap.size w U:=by rw[I];exact(Below.refl _ _).alloc (aA _) _
 have E:=(aH w (.cells #[.int .u8 P.id.a,.int .u8 P.id.b,.int .u8 P.id.c,.int .u8 P.id.d,.slice V Y W] 149)).1;rw[<- I] at E;obtain⟨p0,p1,p2,p3,_⟩:=sK E;obtain⟨i0,i1,i2,i3⟩:=iV ((J.block ib K).trans hi);have Z:=aR4 P.id i;clear E hi;unfold pmV;rw[z];subst I;go_enter Tryz.func188,Tryz.ntmps188;go_wp2;go_ret;exact⟨rfl,J⟩
theorem PV.cv{w:World}{pv:Value}{Ps:List PM}(h:PV w pv Ps){P:PM}(z:P∈Ps):CV w P.cv P.Cs:=by
 obtain⟨_,_,_,E⟩:=h;obtain⟨k,I⟩:=bI.1 z;obtain⟨_,_,_,_,_,_,_,_,_,h⟩:=E k P I;exact h
theorem CV.cvS{w:World}{v:Value}{Cs:List (ByteArray×fM)}(h:CV w v Cs):∃a n c,v=.slice a n c:=by
 obtain⟨a,c,rfl,_⟩:=h;exact⟨a,_,c,rfl⟩
theorem aA8(Ps:List PM)(pv:Value)(i:cL)(rg K:Nat)(w:World)(U:PV w pv Ps)(hl:Ps.length<=10000)(Z:w.cell? ⟨rg,K,none⟩=some pv)(V:rg<w.heap.size):
  Calls Tryz.prog 122 #[.pointer (some ⟨rg,K,none⟩),.agg #[.int .u8 i.a,.int .u8 i.b,.int .u8 i.c,.int .u8 i.d]] w λe w'=>e=.returned (.int .i64 (aB3 (Ps.findIdx? λP=>decide (P.id=i))))/\Below w.heap.size w w':=by
 obtain⟨I,E⟩:∃I,I=w.alloc (.cells #[.int .u8 i.a,.int .u8 i.b,.int .u8 i.c,.int .u8 i.d] 113):=⟨_,rfl⟩;have z:Below w.heap.size w I:=by rw[E];exact(Below.refl _ _).alloc (aA _) _
 have J:=(aH w (.cells #[.int .u8 i.a,.int .u8 i.b,.int .u8 i.c,.int .u8 i.d] 113)).1;rw[<- E] at J;have W:w.heap.size<I.heap.size:=by rw[E];simp
 have r1:I.cell? ⟨rg,K,none⟩=some pv:=(z.cell (p:=⟨rg,K,none⟩) V).trans Z;have Y:Hid (Calls Tryz.prog 187 #[pv,.func (.func 188) #[] #[.pointer (some ⟨w.heap.size,0,none⟩)]] I λe w'=>e=.returned (.int .i64 (aB3 (Ps.findIdx? λP=>decide (P.id=i))))/\Below I.heap.size I w'):=by
  refine aOd Ps (λP=>decide (P.id=i)) 188 _ (λ_ _=>by kernel_rfl) pv I (U.below z (aA _)) (by omega) (λP hP u hu=>?_);exact aL0 P i w.heap.size u (U.cv hP).cvS ((hu.block _ W).trans J)
 obtain⟨pa,pc,rfl,_⟩:=U;clear J Z;subst E;go_enter Tryz.func122,Tryz.ntmps122
 go_wp2_with fail
 refine Y.out.mono ?_;rintro e w' ⟨rfl,hb⟩;clear Y r1;go_wp2;go_ret;exact⟨rfl,z.trans (hb.mono z.size)⟩
def dT(i:cL):ByteArray:=strOfNums [i.a,i.b,i.c,i.d]
theorem yT(i:cL)(w:World):
  Calls Tryz.prog 115 #[.agg #[.int .u8 i.a,.int .u8 i.b,.int .u8 i.c,.int .u8 i.d]] w λe w'=>e=.returned (.string (dT i))/\Below w.heap.size w w':=by
 obtain⟨I,E⟩:∃I,I=w.alloc (.cells #[.int .u8 i.a,.int .u8 i.b,.int .u8 i.c,.int .u8 i.d] 113):=⟨_,rfl⟩;have J:Below w.heap.size w I:=by rw[E];exact(Below.refl _ _).alloc (aA _) _
 have z:=(aH w (.cells #[.int .u8 i.a,.int .u8 i.b,.int .u8 i.c,.int .u8 i.d] 113)).1;rw[<- E] at z;obtain⟨i0,i1,i2,i3⟩:=iV z
 have K:(convert 156 9 (.slice (some ⟨w.heap.size,0,none⟩) 4 4)).run Tryz.prog I=.ok (.string (dT i)) I:=run_convert_bytes_arg I 156 5 Tryz.underlying156 Tryz.underlying5 w.heap.size 0 4 4 [i.a,i.b,i.c,i.d] rfl (λj U=>by
  match j,U with
  | 0,_=>exact i0
  | 1,_=>exact i1
  | 2,_=>exact i2
  | 3,_=>exact i3) 9 Tryz.underlying9
 clear z;subst E;go_enter Tryz.func115,Tryz.ntmps115;go_wp2;go_ret;exact⟨rfl,J⟩
theorem bB2{w:World}{z g cap:Nat}{L:List PM}(h:w.ownsRow z 149 5 (.slice (some ⟨g,0,none⟩) L.length cap) L.length (kI L)){k:Nat}{s:PM}(E:L[k]?=some s):
  w.cell? ⟨g,k * 5,none⟩=some (.int .u8 s.id.a)/\w.cell? ⟨g,k * 5+1,none⟩=some (.int .u8 s.id.b)/\w.cell? ⟨g,k * 5+2,none⟩=some (.int .u8 s.id.c)/\w.cell? ⟨g,k * 5+3,none⟩=some (.int .u8 s.id.d)/\w.cell? ⟨g,k * 5+4,none⟩=some s.cv:=by
 have K:=(aB.1 E).1;obtain⟨f0,f1,f2,I,J⟩:=aL4 L k s E;refine⟨?_,?_,?_,?_,?_⟩
 ·rw[dQ h _ (by omega),f0]
 ·rw[dQ h _ (by omega),f1]
 ·rw[dQ h _ (by omega),f2]
 ·rw[dQ h _ (by omega),I]
 ·rw[dQ h _ (by omega),J]
theorem aRs(S:List aU):cV (aM S)=S:=by
 unfold cV aM;simp
theorem fR.applied:∀{Hs:List Hk} {F z:List aU},fR F Hs z->((F.map jO)++(Hs.flatMap (·.Br)).map jO).Nodup->z.length<=50000->∃g:Nat->List aU,g 0=F/\g Hs.length=z/\∀(k:Nat) (h:Hk),Hs[k]?=some h->(∃t p,h.N[0]?=some t/\rY (g k) t=some p/\p+h.N.length<=(g k).length/\2<=h.N.length/\g (k+1)=mV (g k) h.N h.Br p)/\(g k).length+h.N.length+h.Br.length<=300000
 | [],F,z,h,_,_=>⟨λ_=>F,rfl,by cases h;rfl,λk x E=>by simp at E⟩
 | h::Hs,F,z,⟨F1,h1,h2⟩,hn,hl=>by
  have Z:F.Nodup:=nL (cP.1 hn).1;have I:((F1.map jO)++(Hs.flatMap (·.Br)).map jO).Nodup:=by
   simp only[bL,bF] at hn;rw[<- bG] at hn;exact(rT _ h1.cids).nodup_iff.2 hn
  obtain⟨g,Y,g1,g2⟩:=h2.applied I hl;obtain⟨t,p,J,K,U,V,W⟩:=h1.apply Z;have l1:=h1.len;have l2:=h2.len;refine⟨λk=>match k with|0=>F|k+1=>g k,rfl,g1,λk x E=>?_⟩
  cases k with
  | zero=>
   simp at E;subst E;refine⟨⟨t,p,J,K,U,V,?_⟩,?_⟩
   ·show g 0=_;rw[Y];exact W
   ·show F.length+h.N.length+h.Br.length<=300000;omega
  | succ k=>exact g2 k x (by simpa using E)
section
variable {ids:List cL} {p p':PL} {i:cL} {c:fM}
theorem aSs(h:aE3 i c p p'):p'.S.length<=p.S.length+(jS c).length:=by
 cases c with
 | add i' l rv S=>
  obtain⟨_,_,_,rfl⟩:=h;exact Nat.le_add_left _ _
 | remove i' rv S=>
  obtain⟨_,_,rfl,rfl⟩:=h;simp[cD]
 | alter i' hv Hs=>
  have:=h.2.2.2.2.2.len;simp only[aM,aY,aJ,cX] at this;show _<=_+(Hs.flatMap (·.Br)).length;omega
theorem aIs(h:aE3 i c p p')(W:fV ids p)(hz:lF∉ids)(hi:i∉ids)(E:i≠lF)(w:aD1 i c)(hs:qU c)(hl:p.S.length<=40000)(Y:p'.S.length<=40000):yY c p p':=by
 cases c with
 | add i' l rv S=>
  obtain⟨_,rfl,_,rfl⟩:=h;exact rfl
 | remove i' rv S=>
  obtain⟨_,rfl,rfl,rfl⟩:=h;exact⟨rfl,by omega⟩
 | alter i' hv Hs=>
  obtain⟨_,rfl,_,J,K,U⟩:=h;have Z:=aFg W hz hi E w;have z:(aM p'.S).length=p'.S.length+2:=by simp[aM]
  obtain⟨g,V,g1,g2⟩:=U.applied Z (by omega);refine⟨g,V,⟨λk x I=>(g2 k x I).1,λk x I=>(g2 k x I).2,by rw[g1,z];omega,by rw[g1,z];omega⟩,?_,by omega,by have:=hs.1;omega⟩;rw[g1,aRs]
  cases p'
  simp only at J K;subst J K;rfl
end
theorem mD.seq:∀{Ps:List PM} {s s':ByteArray->PL},mD Ps s s'->∃S:Nat->ByteArray->PL,S 0=s/\S Ps.length=s'/\∀(p:Nat) (P:PM),Ps[p]?=some P->aBp P (S p) (S (p+1))
 | [],s,s',h=>⟨λ_=>s,rfl,by cases h;rfl,λp P z=>by simp at z⟩
 | P::Ps,s,s',⟨s1,h1,h2⟩=>by
  obtain⟨S,E,I,J⟩:=h2.seq;refine⟨λk=>match k with|0=>s|k+1=>S k,rfl,I,λp Q z=>?_⟩
  cases p with
  | zero=>
   simp at z;subst z;show aBp P s (S 0);rw[E];exact h1
  | succ p=>exact J p Q (by simpa using z)
def vE(P:PM)(s s':ByteArray->PL)(k:Nat)(x:ByteArray):PL:=if ∃c∈P.Cs.take k,c.1=x then s' x else s x
theorem aJj(P:PM)(s s':ByteArray->PL):vE P s s' 0=s:=by
 funext x;simp[vE]
theorem aO4{P:PM}{s s':ByteArray->PL}(h:aBp P s s'):vE P s s' P.Cs.length=s':=by
 funext x;unfold vE;rw[bD];split
 ·rfl
 ·rename_i E
  exact(h.other x (λc z e=>E ⟨c,z,e⟩)).symm
theorem aGl{P:PM}(z:(P.Cs.map (·.1)).Nodup){s s':ByteArray->PL}{k:Nat}{c:ByteArray×fM}(I:P.Cs[k]?=some c):vE P s s' k c.1=s c.1/\vE P s s' (k+1) c.1=s' c.1:=by
 obtain⟨U,e⟩:=aB.1 I;constructor
 ·unfold vE;rw[if_neg];rintro⟨d,J,E⟩;obtain⟨j,K,rfl⟩:=aMu J;rw[bR] at K;rw[kZ] at E;have:=aJm z (aC (show j<P.Cs.length by omega)) I E;omega
 ·unfold vE;rw[if_pos];refine⟨c,?_,rfl⟩;rw[aF U,e];simp
theorem aGm{P:PM}{s s':ByteArray->PL}{k:Nat}{c:ByteArray×fM}(I:P.Cs[k]?=some c){x:ByteArray}(K:x≠c.1):vE P s s' (k+1) x=vE P s s' k x:=by
 obtain⟨J,e⟩:=aB.1 I;unfold vE;rw[aF J,e];have:(∃d∈P.Cs.take k++[c],d.1=x)↔∃d∈P.Cs.take k,d.1=x:=by
  constructor
  ·rintro⟨d,z,E⟩;rcases aG.1 z with z|z
   ·exact⟨d,z,E⟩
   ·rw[bE.1 z] at E;exact absurd E.symm K
  ·rintro⟨d,z,E⟩;exact⟨d,aG.2 (.inl z),E⟩
 simp only[this]
theorem aX1(F:List aU){a b:Nat}(z:a<b)(E:b<F.length):(F.take (b+1)).drop a=F[a]::((F.take b).drop (a+1)++[F[b]]):=by
 rw[aF E,dO (by rw[bR];omega)];have:(F.take b).drop a=F[a]::(F.take b).drop (a+1):=by
  rw[bO (by rw[bR];omega),kZ]
 rw[this];rfl
theorem oI.hstep{F:List aU}{z:List (dL×List aU)}{k:Nat}{q:dL}{B:List aU}(h:oI F z k)(hF:F.Nodup)(hk:z[k]?=some (q,B))(b0:q.i<q.k\/B≠[]):gS (kS F z k) (dA F q) B (kS F z (k+1)):=by
 obtain⟨P,x,hx,e1,e2,J,e4⟩:=h.ex;obtain⟨a9,a8⟩:=aB.1 hk;have hd:z.drop k=(q,B)::z.drop (k+1):=by rw[bO a9,a8]
 rw[hd] at e2 J;simp only[cU] at J;obtain⟨a1,a2,a3,a4,a5⟩:=J.at
 have b1:q.i<(living F).length:=by have:=J.2.1;have:=J.2.2.1;omega
 have V:q.k+1<(living F).length:=J.2.2.1;have U:(F[av F q]'(by omega)).alive=true:=by
  have K:=sG (F:=F) (x:=q.i) b1;simp only[<- a4] at K;exact K
 have W:(F[bv F q]'(by omega)).alive=true:=by
  have K:=sG (F:=F) (x:=q.k+1) V;simp only[<- a5] at K;exact K
 have I:dA F q=(F.take (bv F q+1)).drop (av F q):=rfl;have Y:F.getD (av F q) jR=F[av F q]'(by omega):=by
  rw[aQ,aC (by omega)];rfl
 have Z:rY (kS F z k) (F.getD (av F q) jR)=some (P.length+(av F q - (living F).getD x 0)):=by
  rw[e1,Y];exact aRb hF a1 (by omega) (λs hs=>e4 s hs _ (by omega) a1 U)
 have b2:kS F z (k+1)=mV (kS F z k) (dA F q) B (P.length+(av F q - (living F).getD x 0)):=by
  rw[kS,hk];simp only;rw[Z];rfl
 have a0:kS F z (k+1)=(P++((F.take (av F q+1)).drop ((living F).getD x 0)++(cD ((F.take (bv F q)).drop (av F q+1))++B)))++F.drop (bv F q):=by
  rw[b2,e1,I];exact aM2 a1 a2 a3
 have b3:(F.take (av F q+1)).drop ((living F).getD x 0)=(F.take (av F q)).drop ((living F).getD x 0)++[F[av F q]]:=by
  rw[aF (by omega),dO (by rw[bR];omega)]
 have a6:F.drop (bv F q)=F[bv F q]::F.drop (bv F q+1):=bO a3;have a7:F.drop ((living F).getD x 0)=(F.take (av F q)).drop ((living F).getD x 0)++((F.take (bv F q+1)).drop (av F q)++F.drop (bv F q+1)):=aDt F a1 (by omega);refine⟨P++(F.take (av F q)).drop ((living F).getD x 0),F[av F q],(F.take (bv F q)).drop (av F q+1),F[bv F q],F.drop (bv F q+1),?_,?_,?_,U,W,?_⟩
 ·rw[I];exact aX1 F a2 a3
 ·rw[e1,a7,I,bG]
 ·rw[a0,b3,a6];simp
 ·rcases b0 with hlt|hB
  ·left;have E:q.i+1<(living F).length:=by omega
   have hm:(living F)[q.i+1]<F.length:=iK F E;have g1:av F q<(living F)[q.i+1]:=by rw[a4];exact kQ F (by omega) E
   have g2:(living F)[q.i+1]<bv F q:=by rw[a5];exact kQ F (by omega) V
   refine⟨F[(living F)[q.i+1]],?_,sG E⟩;refine lB.2 ⟨(living F)[q.i+1] - (av F q+1),by rw[mB,bR];omega,?_⟩;rw[aBh,kZ];congr 1;omega
  ·exact .inr hB
theorem aZe{O N:List ByteArray}{i j:Nat}{Q:List dL}(h:dS O N i j Q):∀q∈Q,q.i<q.k\/q.j<q.l:=by
 have one:∀{i k j l:Nat},∀q∈fA i k j l,q.i<q.k\/q.j<q.l:=λ{i k j l} q z=>by
  unfold fA at z;split at z
  ·rename_i h1
   rw[bE.1 z];exact h1
  ·cases z
 induction h with
 | stop h1 h2=>exact one
 | go h1 h2 h3 ih=>
  intro q z;rcases aG.1 z with z|z
  ·exact one q z
  ·exact ih q z
theorem aO1{S:List aU}{N:List ByteArray}{i:cL}{n:Int}{Q:List dL}{Hs:List Hk}(E:oJ (aM S) i n N Q Hs)(I:dS (aL S) N 0 0 Q)(U:(aM S).Nodup)(aO:∀s∈aM S,¬ (s.a=i.a/\s.b=i.b/\s.c=i.c/\s.d=i.d)):fR (aM S) Hs (kS (aM S) (nF Q Hs) Hs.length):=by
 have ho:=I.ord (aE _) (aE _);have J:=fK S;have hB:∀r∈nF Q Hs,∀s∈r.2,s∉aM S:=λr hr s hs K=>by
  obtain⟨m,h⟩:=aGx E r hr;rw[h] at hs;exact aO s K (vU hs)
 have h0:oI (aM S) (nF Q Hs) 0:=oI.start (nK S) (by omega) (by rw[aAa E,J];exact ho);have a1:=aL5 E;refine fR.of_seq (kS (aM S) (nF Q Hs)) (λk h V=>?_);have a0:k<Hs.length:=(aB.1 V).1;obtain⟨q,W,Y,Z,e4⟩:=aPi E V;rw[Z];refine(oI.all U hB h0 k (by omega)).hstep U Y ?_;have z:=aD W;rcases aZe I q z with hlt|hlt
 ·exact .inl hlt
 ·right;obtain⟨_,_,_,o4⟩:=I.ok (aE _) (aE _) q z;intro e;rw[e4] at e;have h1:=congrArg List.length e;rw[kP] at h1;unfold bX at h1;rw[mB,bR] at h1;simp at h1;omega
theorem yY.det{c:fM}{p p' z:PL}(h:yY c p p')(k:yY c p z):z=p':=by
 cases c with
 | add i l rv S=>rw[h,k]
 | remove i rv S=>rw[h.1,k.1]
 | alter i hv Hs=>
  obtain⟨g,Y,g1,rfl,_⟩:=h;obtain⟨f,f0,f1,rfl,_⟩:=k;have:∀j,j<=Hs.length->f j=g j:=by
   intro j
   induction j with
   | zero=>intro _;rw[f0,Y]
   | succ j ih=>
    intro Z;have K:Hs[j]?=some Hs[j]:=aC (by omega);obtain⟨t,q,U,V,_,_,W⟩:=g1.step j _ K;obtain⟨t',q',I,E,_,_,J⟩:=f1.step j _ K;rw[U] at I
    cases I
    rw[ih (by omega)] at E J;rw[V] at E
    cases E
    rw[W,J]
  rw[this _ (aA _)]
theorem aXk{ids:List cL}{p:PL}(h:fV ids p){i:cL}(hi:i∉ids)(hz:lF∉ids)(Y:i≠lF){n n':Int}(hn:0<=n){there:Bool}{text:ByteArray}{c:fM}(K:jE p i n there text c n')(U:p.alive=true->there=true->aL p.S≠bM text):∃p',aE3 i c p p'/\aD1 i c/\(jS c).length<=(bM text).length:=by
 cases c with
 | add i' l rv S=>
  obtain⟨h1,rfl,rfl,rfl,_⟩:=K;refine⟨⟨i',true,eD i' n (bM text)⟩,⟨h1,rfl,rfl,rfl⟩,⟨λt J=>?_,zO _ _ _⟩,by show (eD i' n (bM text)).length<=_;rw[kP];exact aA _⟩;have z:t∈eD i' n (bM text):=J;unfold eD qT at z;obtain⟨k,_,rfl⟩:=aI.1 z;exact⟨rfl,by show 0<=n+(k:Int);omega⟩
 | remove i' rv S=>
  obtain⟨h1,_,rfl,rfl,_⟩:=K;exact⟨⟨p.by_,false,cD p.S⟩,⟨h1,rfl,rfl,rfl⟩,⟨(λt J=>by cases J),aKb⟩,aE _⟩
 | alter i' hv Hs=>
  obtain⟨h1,h2,rfl,Q,W,Z,_⟩:=K;have I:=aO1 Z W (nL (mZ h hz)) (pN h hi Y);have E:Hs.flatMap (·.Br)=kL i (bM text) n Q:=oS Q Hs n Z;have V:=I.framed;rw[V] at I;refine⟨⟨p.by_,true,cV (kS (aM p.S) (nF Q Hs) Hs.length)⟩,⟨h1,rfl,λe=>?_,rfl,rfl,I⟩,⟨λt J=>?_,?_⟩,?_⟩
  ·subst e;have hQ:Q=[]:=aS (by have:=Z.1;simpa using this.symm);subst hQ;have:=W.gives (aE _) (aE _);rw[rU] at this;exact U h1 h2 (by rw[<- this];simp[zT])
  ·have z:t∈Hs.flatMap (·.Br):=J;rw[E] at z;obtain⟨k1,k2,_⟩:=nY Q n t z;exact⟨k1,by omega⟩
  ·show ((Hs.flatMap (·.Br)).map jO).Nodup;rw[E];exact vT Q n
  ·show (Hs.flatMap (·.Br)).length<=_;have k1:=xD (i:=i) (N:=bM text) Q n;have k2:=W.num (aE _) (aE _) n;rw[E];omega
theorem aUn{ids:List cL}{p:PL}(h:fV ids p){i:cL}(hi:i∉ids)(z:i≠lF){n U:Int}{there:Bool}{text:ByteArray}{c:fM}(E:jE p i n there text c U):¬ xK (pR c) i (rH c):=by
 rintro⟨u,I,k⟩;obtain⟨J,K⟩:=aRp h E u I;rcases k with k|k
 ·rcases J with q|q
  ·exact hi (k▸q)
  ·exact z (k.symm.trans q)
 ·obtain⟨j1,j2⟩:=aRn h E u k;exact K j1 j2
theorem aOr{N:List ByteArray}{q:dL}{l:ByteArray}(h:l∈bX N q):l∈N:=by
 unfold bX at h;exact cG (dU h)
theorem aFh{i:cL}{n:Int}{L:List ByteArray}{t:aU}(h:t∈eD i n L):t.line∈L:=by
 have h1:t.line∈aL (eD i n L):=by
  rw[gX];exact aI.2 ⟨t,cT.2 ⟨h,aC3 i n L t h⟩,rfl⟩
 rwa[iS] at h1
theorem aRo{p:PL}{i:cL}{n U:Int}{there:Bool}{text:ByteArray}{c:fM}(E:jE p i n there text c U):∀t∈jS c,t.line∈bM text:=by
 cases c with
 | add i' l rv S=>
  obtain⟨_,_,_,rfl,_⟩:=E;exact λt z=>aFh z
 | remove i' rv S=>intro t z;cases z
 | alter i' hv Hs=>
  obtain⟨_,_,_,Q,_,K,_⟩:=E;intro t z;obtain⟨h,I,z⟩:=dD.1 z;obtain⟨k,J⟩:=bI.1 I;obtain⟨q,_,_,e⟩:=K.2 k h J;rw[e] at z;exact aOr (aFh z)
section
variable {S:List aU} {N:List ByteArray} {i:cL} {n:Int} {Q:List dL} {Hs:List Hk}
theorem aO2(name:ByteArray)(a8:name.size<=1000)(hm:oJ (aM S) i n N Q Hs)(hg:dS (aL S) N 0 0 Q)(hF:(aM S).Nodup)(hS:S.length<=9000)(hN:N.length<=400)(b0:(aL S).length<98)(Z:∀l∈aL S,l.size<=1000)(Y:∀l∈N,l.size<=1000):
  aSp (aM S) Hs (aN5 name (aL S) N Q):=by
 have ho:=hg.ord (aE _) (aE _);have a1:=hg.ok (aE _) (aE _);have a9:=ho.len;have b5:=lV S;have b3:=fK S;have b2:Hs.length=Q.length:=hm.1;have b1:(aM S).length=S.length+2:=by simp[aM]
 refine⟨λk h hk=>?_,λk hk=>?_⟩
 ·obtain⟨q,e1,e2,J,e4⟩:=aPi hm hk;obtain⟨o1,o2,o3,o4⟩:=a1 q (aD e1);have a4:q.i<(living (aM S)).length:=by omega
  have I:q.k+1<(living (aM S)).length:=by omega
  have a2:=kQ (aM S) (show q.i<q.k+1 by omega) I;have a3:=iK (aM S) I;have ea:(living (aM S)).getD q.i 0=(living (aM S))[q.i]:=fS _ a4;have eb:(living (aM S)).getD (q.k+1) 0=(living (aM S))[q.k+1]:=fS _ I;have a5:(dA (aM S) q)[0]?=some ((aM S)[(living (aM S))[q.i]]'(by omega)):=by
   unfold dA;rw[ea,eb,zC,dN (by omega),aC (by omega)];rfl
  have a0:(dA (aM S) q).length=(living (aM S))[q.k+1]+1 - (living (aM S))[q.i]:=by
   unfold dA;rw[ea,eb];simp;omega
  have E:=aRb (P:=[]) hF (aE _) (show (living (aM S))[q.i]<(aM S).length by omega) (by simp);simp only[cY,rU,cX,dC,Nat.sub_zero] at E;have V:=aLf S q o1 o2;have U:aL h.Br=bX N q:=by rw[e4,iS]
  have z:=aMz (aM S) a4;have b4:(cV (dA (aM S) q)).length<=(dA (aM S) q).length:=by unfold cV;simp;omega
  refine⟨_,_,by rw[J];exact a5,E,by omega,by rw[J,a0];omega,⟨by rw[J];omega,λl W=>?_⟩,⟨by rw[e4,kP];have:=rK N q;omega,λl W=>?_⟩,by rw[J,a0];omega,by rw[z];omega,?_⟩
  ·rw[J,V] at W;exact Z l (cG (dU W))
  ·rw[U] at W;exact Y l (cG (dU W))
  ·rw[aUa (O:=aL S) (T:=N) (q:=q) z (by rw[J];exact V) U];obtain⟨a6,a7⟩:=aB.1 e1;unfold aN5;rw[aF a6,eE,vW,a7,bL,aD5,cR,aIt]
 ·have K:∀R:List dL,(∀q∈R,q∈Q)->(jI (R.flatMap (nU (aL S) N))).size<=R.length * 1000000:=by
   intro R
   induction R with
   | nil=>intro _;simp[jI,ByteArray.size]
   | cons q R ih=>
    intro hR;rw[bL,vW,aN,aY,aBk];have:=ih (λx hx=>hR x (by simp[hx]));have:=aUc (q:=q) Z Y (by omega) (by omega) (by have:=a1 q (hR q (by simp));omega);omega
  have h1:=K (Q.take k) (λq hq=>cG hq);have h2:(Q.take k).length<=100:=by simp;omega
  have h3:(Q.take k).length * 1000000<=100 * 1000000:=dV _ h2;unfold aN5 kO;rw[aN,aN,aN];have e7:(⟨#[97,108,116,101,114,32]⟩:ByteArray).size=6:=rfl;have e8:(⟨#[10]⟩:ByteArray).size=1:=rfl;omega
end
def aE9(p:PL)(there:Bool)(text name T:ByteArray):Prop:=
 (p.alive=false/\T=pM name++⟨(eQ ⟨#[43]⟩ (bM text)).toArray⟩)\/(p.alive=true/\there=false/\T=oC name++gI ⟨#[45]⟩ p.S)\/
 (p.alive=true/\there=true/\∃Q,dS (aL p.S) (bM text) 0 0 Q/\T=kO name++jI (Q.flatMap (nU (aL p.S) (bM text))))
theorem aE9.det{p:PL}{there:Bool}{text name T J:ByteArray}(h:aE9 p there text name T)(K:aE9 p there text name J):T=J:=by
 rcases h with ⟨a,rfl⟩|⟨a,b,rfl⟩|⟨a,b,Q,U,rfl⟩<;>rcases K with ⟨z,rfl⟩|⟨z,E,rfl⟩|⟨z,E,V,I,rfl⟩
 ·rfl
 ·rw[a] at z;cases z
 ·rw[a] at z;cases z
 ·rw[a] at z;cases z
 ·rfl
 ·rw[b] at E;cases E
 ·rw[a] at z;cases z
 ·rw[b] at E;cases E
 ·rw[U.det I]
theorem aPw(mk:ByteArray)(E:mk.size<=10)(L:List ByteArray)(z:L.length<=20)(I:∀l∈L,l.size<=1000):(eQ mk L).length<=40000:=by
 have h:=wQ mk E L I;have:L.length * 2000<=20 * 2000:=dV _ z;omega
theorem aUo{ids:List cL}{p:PL}(h:fV ids p)(hz:lF∉ids){i:cL}{n n':Int}{there:Bool}{text:ByteArray}{c:fM}(hc:jE p i n there text c n')(name:ByteArray)(J:name.size<=1000)(hS:p.S.length<=900)(hR:(aL p.S).length<=20)(I:∀l∈aL p.S,l.size<=1000)(hN:(bM text).length<=20)(E:∀l∈bM text,l.size<=1000):
  ∃T,fU c name p T/\aE9 p there text name T/\T.size<=1000000/\0<T.size:=by
 cases c with
 | add i' l rv S=>
  obtain⟨h1,rfl,_,rfl,_⟩:=hc;have e:gI ⟨#[43]⟩ (eD i' n (bM text))=⟨(eQ ⟨#[43]⟩ (bM text)).toArray⟩:=by unfold gI;rw[iS]
  have z:=aPw ⟨#[43]⟩ (by decide) (bM text) hN E;refine⟨_,⟨⟨by rw[kP];omega,by rw[iS];exact E⟩,rfl⟩,.inl ⟨h1,by rw[e]⟩,?_,?_⟩
  ·rw[e,aN];have:(⟨(eQ ⟨#[43]⟩ (bM text)).toArray⟩:ByteArray).size=(eQ ⟨#[43]⟩ (bM text)).length:=by simp[ByteArray.size]
   have hh:(pM name).size<=1005:=by
    unfold pM;rw[aN,aN];have K:(⟨#[97,100,100,32]⟩:ByteArray).size=4:=rfl;have e2:(⟨#[10]⟩:ByteArray).size=1:=rfl;omega
   omega
  ·rw[aN];unfold pM;rw[aN,aN];have K:(⟨#[97,100,100,32]⟩:ByteArray).size=4:=rfl;omega
 | remove i' rv S=>
  obtain⟨h1,h2,rfl,rfl,_⟩:=hc;have z:=aPw ⟨#[45]⟩ (by decide) (aL p.S) hR I;have e3:(gI ⟨#[45]⟩ p.S).size=(eQ ⟨#[45]⟩ (aL p.S)).length:=by simp[gI,ByteArray.size]
  refine⟨_,⟨⟨by omega,I⟩,rfl⟩,.inr (.inl ⟨h1,h2,rfl⟩),?_,?_⟩
  ·rw[aN];unfold oC;rw[aN,aN];have K:(⟨#[114,101,109,111,118,101,32]⟩:ByteArray).size=7:=rfl;have e2:(⟨#[10]⟩:ByteArray).size=1:=rfl;omega
  ·rw[aN];unfold oC;rw[aN,aN];have K:(⟨#[114,101,109,111,118,101,32]⟩:ByteArray).size=7:=rfl;omega
 | alter i' hv Hs=>
  obtain⟨h1,h2,rfl,Q,Z,hm,_⟩:=hc;have hF:=nL (mZ h hz);have ht:=aO2 name J hm Z hF (by omega) (by omega) (by omega) I E;have hQ:=Z.len (aE _) (aE _);have a1:=Z.ok (aE _) (aE _);have a0:Hs.length=Q.length:=hm.1;have e0:aN5 name (aL p.S) (bM text) Q 0=kO name:=by
   unfold aN5;rw[zE,aD5,aNb];exact gL (by simp)
  have K:aN5 name (aL p.S) (bM text) Q Hs.length=kO name++jI (Q.flatMap (nU (aL p.S) (bM text))):=by
   unfold aN5;rw[a0,bD]
  refine⟨_,⟨aN5 name (aL p.S) (bM text) Q,e0,ht,K.symm,by omega,by omega⟩,.inr (.inr ⟨h1,h2,Q,Z,rfl⟩),?_,?_⟩
  ·have V:∀R:List dL,(∀q∈R,q∈Q)->(jI (R.flatMap (nU (aL p.S) (bM text)))).size<=R.length * 45000:=by
    intro R
    induction R with
    | nil=>intro _;simp[jI,ByteArray.size]
    | cons q R ih=>
     intro U;rw[bL,vW,aN,aY,aBk];have:=ih (λx Y=>U x (by simp[Y]));have hq:=a1 q (U q (by simp))
     have a2:=aNc (nU (aL p.S) (bM text) q) 1003 (λl z=>by
      unfold nU at z;rcases cC.1 z with rfl|z
      ·have:=aM5 (n:=q.i+1) (by omega);omega
      ·rcases aG.1 z with z|z
       ·obtain⟨x,Y,rfl⟩:=aI.1 z;have:=aBf 45 x;have:=I x (cG (dU Y));omega
       ·obtain⟨x,Y,rfl⟩:=aI.1 z;have:=aBf 43 x;have:=E x (cG (dU Y))
        omega)
     have W:(nU (aL p.S) (bM text) q).length<=41:=by
      unfold nU;simp only[aY,aJ,aT];have:=rK (bM text) q;have:(aJi (aL p.S) q.i q.k).length<=(aL p.S).length:=by unfold aJi;simp;omega
      omega
     have:(nU (aL p.S) (bM text) q).length * 1003<=41 * 1003:=dV _ W;omega
   have h3:=V Q (λ_ h=>h);have h4:Q.length * 45000<=21 * 45000:=dV _ (by omega);rw[aN];unfold kO;rw[aN,aN];have e7:(⟨#[97,108,116,101,114,32]⟩:ByteArray).size=6:=rfl;have e8:(⟨#[10]⟩:ByteArray).size=1:=rfl;omega
  ·rw[aN];unfold kO;rw[aN,aN];have e7:(⟨#[97,108,116,101,114,32]⟩:ByteArray).size=6:=rfl;omega
theorem Tryz.info149:(Tryz.prog.info? 149).map (λi=>(i.zero,i.size,i.bytes))=some (some (.agg #[.int .u8 0,.int .u8 0,.int .u8 0,.int .u8 0,.slice none 0 0]),5,32):=by kernel_rfl
structure aKf (pb rg ro gb N M:Nat) (i:cL) (pv cv:Value) (w':World):Prop where
 g:w'.cell? ⟨pb,1,none⟩=some (.map (some gb))
 r:w'.cell? ⟨rg,ro,none⟩=some pv
 ia:w'.cell? ⟨N,0,none⟩=some (.int .u8 i.a)
 ib:w'.cell? ⟨N,1,none⟩=some (.int .u8 i.b)
 ic:w'.cell? ⟨N,2,none⟩=some (.int .u8 i.c)
 id:w'.cell? ⟨N,3,none⟩=some (.int .u8 i.d)
 pa:w'.cell? ⟨M,0,none⟩=some (.int .u8 i.a)
 pb:w'.cell? ⟨M,1,none⟩=some (.int .u8 i.b)
 pc:w'.cell? ⟨M,2,none⟩=some (.int .u8 i.c)
 pd:w'.cell? ⟨M,3,none⟩=some (.int .u8 i.d)
 pe:w'.cell? ⟨M,4,none⟩=some cv
theorem aKf.of{w:World}{B pb rg:Nat}{cap:qR}{gb:Nat}{pv:Value}{Ps:List PM}{fb fn:Nat}{f:ByteArray->Option ByteArray}{G:List cL}{N M:Nat}{i:cL}{cv:Value}(h:cF w B pb rg cap gb pv Ps fb fn f G)(h1:w.heap[N]?=some (.cells #[.int .u8 i.a,.int .u8 i.b,.int .u8 i.c,.int .u8 i.d] 113 (0,0)))(h2:w.heap[M]?=some (.cells #[.int .u8 i.a,.int .u8 i.b,.int .u8 i.c,.int .u8 i.d,cv] 149 (0,0))):aKf pb rg (cap.r * 2) gb N M i pv cv w:=by
 obtain⟨z,E,I,J⟩:=iV h1;obtain⟨K,U,V,W,Y⟩:=sJ h2;exact⟨h.c1,h.r0,z,E,I,J,K,U,V,W,Y⟩
def dY(s:ByteArray):Bool:=decide (pU s 0<=120) && tQ (bY s)
def jP(s:ByteArray):List ByteArray:=if dY s=true then bY s else []
def mO(s:ByteArray):Int:=if dY s=true then 0 else 6
theorem mP{s:ByteArray}(h:dY s=false):jP s=[]/\mO s=6:=by unfold jP mO;rw[h];simp
theorem jV{s:ByteArray}(h:dY s=true):jP s=bY s/\mO s=0:=by unfold jP mO;rw[h];simp
theorem uT{s:ByteArray}(h:120<pU s 0):dY s=false:=by
 unfold dY;have:decide (pU s 0<=120)=false:=by simpa using h
 rw[this];rfl
theorem wY{s:ByteArray}(h:¬ 120<pU s 0):dY s=tQ (bY s):=by
 unfold dY;have:decide (pU s 0<=120)=true:=by simpa using h
 rw[this];rfl
theorem wP{s:ByteArray}(h:¬ 120<pU s 0):s.size<=480:=by
 have:=aG7 s s.size 0 (by omega);omega
theorem aA5{w:World}{B n size cap:Nat}{e:TypeId}{E:Option Addr}{K:List Value}(h:w.ownsRow B e size (.slice E n cap) n K):n<=cap:=by
 rcases h.2 with ⟨h1,rfl⟩|⟨g,z,I,h1,_,_,J,_⟩
 ·omega
 ·cases h1
  exact J
theorem rP(s:ByteArray)(w:World):
  Calls Tryz.prog 44 #[.string s] w λe w'=>∃v,e=.returned (.tuple #[v,.bool (dY s)])/\w'.ownsRow w.heap.size 9 1 v (jP s).length (bW (jP s))/\Below w.heap.size w w':=by
 by_cases E:120<pU s 0
 ·have W:=uT E;have Z:Hid (decide (120<pU s 0)=true):=by show _=_;simpa using E
  rw[(mP W).1,W];clear W E;go_enter Tryz.func44,Tryz.ntmps44
  go_wp2_with (go_at_call 63;refine(sZ _ 120 _ (by omega)).mono ?_;rw[Z.out];rintro e w' ⟨rfl,q,rfl⟩)
  go_ret2;exact⟨_,rfl,aK _ _ _ _,(Below.refl _ _).alloc (aA _) _⟩
 ·have Z:Hid (decide (120<pU s 0)=false):=by show _=_;simpa using E
  have a2:=wP E;have a1:=uL s;have HW:=wY E;clear E
  cases Y:tQ (bY s)
  ·rw[Y] at HW;rw[(mP HW).1,HW];have HK:=aO Y;clear Y HW;go_enter Tryz.func44,Tryz.ntmps44
   go_wp2_with fail
   refine(sZ _ 120 _ (by omega)).mono ?_;rw[Z.out];rintro e w' ⟨rfl,q,rfl⟩;have K:Below w.heap.size w (w.iter s q):=(Below.refl _ _).alloc (aA _) _;generalize w.iter s q=w1 at *
   go_wp2_with fail
   refine(aDs s w1 (by omega)).mono ?_;rintro e w2 ⟨v,rfl,z,I⟩;obtain⟨ao,cap,rfl⟩:=bC z;have J:=aA5 z;have hv:=gD.own z
   go_wp2_with fail
   refine(aI1 _ ao cap w2 hv J (by omega)).mono ?_;rw[HK.out];rintro e w3 ⟨rfl,U⟩;go_wp2;go_ret2;have V:=K.size;have a0:=I.size;exact⟨_,rfl,aK _ _ _ _,K.trans ((I.mono V).trans (U.mono (by omega)))⟩
  ·rw[Y] at HW;rw[(jV HW).1,HW];have HK:=aO Y;clear Y HW;go_enter Tryz.func44,Tryz.ntmps44
   go_wp2_with fail
   refine(sZ _ 120 _ (by omega)).mono ?_;rw[Z.out];rintro e w' ⟨rfl,q,rfl⟩;have K:Below w.heap.size w (w.iter s q):=(Below.refl _ _).alloc (aA _) _;generalize w.iter s q=w1 at *
   go_wp2_with fail
   refine(aDs s w1 (by omega)).mono ?_;rintro e w2 ⟨v,rfl,z,I⟩;obtain⟨ao,cap,rfl⟩:=bC z;have J:=aA5 z;have hv:=gD.own z
   go_wp2_with fail
   refine(aI1 _ ao cap w2 hv J (by omega)).mono ?_;rw[HK.out];rintro e w3 ⟨rfl,U⟩;go_wp2;go_ret2;have V:=K.size;have a0:=I.size;exact⟨_,rfl,bK (bQ z U (aA _)) V,K.trans ((I.mono V).trans (U.mono (by omega)))⟩
abbrev wV:ByteArray:=⟨#[114,101,99,111,114,100]⟩
section
variable {B pb rg:Nat} {cap:qR} {gb:Nat} {pv:Value} {Ps:List PM} {fb fn:Nat} {f:ByteArray->Option ByteArray} {G:List cL}
theorem kF{w:World}(h:cF w B pb rg cap gb pv Ps fb fn f G):Calls Tryz.prog 42 #[.pointer (some ⟨pb,0,none⟩),.int .i64 cap.r] w λe w'=>e=.returned (.bool true)/\w'=w:=by
 have E:=h.c0;have z:=h.cap1.1;have g1:(cap.r:Int)<(cap.nr:Int):=by omega
 clear h;go_enter Tryz.func42,Tryz.ntmps42;go_wp2;go_ret;exact⟨rfl,rfl⟩
theorem sO{w:World}(h:cF w B pb rg cap gb pv Ps fb fn f G)(s:ByteArray)(hs:dY s=true)(Q:ByteArray->Int->World->Prop)
  (W:∀u z E,Below w.heap.size w u->u.ownsRow w.heap.size 9 1 (.slice z (bY s).length E) (bY s).length (bW (bY s))->Calls Tryz.prog 45 #[.pointer (some ⟨pb,0,none⟩),.pointer (some ⟨rg,cap.r * 2,none⟩),.slice z (bY s).length E] u λe w'=>∃x c,e=.returned (.tuple #[.string x,.int .i64 c])/\Q x c w') :
  Calls Tryz.prog 17 #[.pointer (some ⟨pb,0,none⟩),.int .i64 cap.r,.string s] w λe w'=>∃x c,e=.returned (.tuple #[.string x,.int .i64 c])/\Q x c w':=by
 have V:=kF h;have U:=aO V;have HW:Hid (Calls Tryz.prog 44 #[.string s] w λe w'=>∃z E,e=.returned (.tuple #[.slice z (bY s).length E,.bool true])/\w'.ownsRow w.heap.size 9 1 (.slice z (bY s).length E) (bY s).length (bW (bY s))/\Below w.heap.size w w'):=by
  have:=rP s w;rw[hs,(jV hs).1] at this;refine this.mono ?_;rintro e w' ⟨v,rfl,h1,h2⟩;obtain⟨z,E,rfl⟩:=bC h1;exact⟨z,E,rfl,h1,h2⟩
 have HO:=aO h;have J:=aO W;have Z:=h.cap1.1;have K:=h.cap1.2.1;have g1:(cap.r:Int)<(cap.nr:Int):=by omega
 obtain⟨n,hn⟩:∃n,(bY s).length=n:=⟨_,rfl⟩;rw[hn] at HW J;clear h V W hs hn;go_enter Tryz.func17,Tryz.ntmps17
 go_wp2_with fail
 refine U.out.mono ?_;rintro e w0 ⟨rfl,rfl⟩;clear U
 go_wp2_with fail
 refine HW.out.mono ?_;rintro e w1 ⟨z,E,rfl,h1,h2⟩;clear HW;have Y:=J.out w1 z E h2 h1;have I:=aO Y;have c0:=(HO.out.below h2).c0;clear J Y h1 h2
 go_wp2_with fail
 refine I.out.mono ?_;rintro e w2 ⟨x,c,rfl,hq⟩;clear I;go_wp2;go_ret2;exact⟨x,c,rfl,hq⟩
theorem aLb{w:World}(h:cF w B pb rg cap gb pv Ps fb fn f G){z:Nat->Nat->ByteArray->PL}{E:Nat->Nat}(hs:hU Ps z E)(a1:Ps.length<=1000)(x:ByteArray)(hx:x.size<=1000)(V:dJ x=true)(J:(z Ps.length 0 x).alive=true)(Y:(z Ps.length 0 x).S.length<=1000000)(Z:(dM (z Ps.length 0 x).S).size<=1000000000):
  Calls Tryz.prog 18 #[.pointer (some ⟨pb,0,none⟩),.int .i64 cap.r,.string x] w λe w'=>e=.returned (.tuple #[.string (dM (z Ps.length 0 x).S),.int .i64 0])/\Below w.heap.size w w':=by
 have W:=aO (kF h);have K:Hid (Calls Tryz.prog 46 #[.pointer (some ⟨rg,cap.r * 2,none⟩),.string x] w λe w'=>e=.returned (.tuple #[.string (dM (z Ps.length 0 x).S),.int .i64 0])/\Below w.heap.size w w'):=
  aB4 Ps pv z E rg (cap.r * 2) x w h.view (λu hu v hv=>hs.grows ((h.view.below hu (aA _)).below hv (aA _))) (by omega) h.r0 h.lts.2.1 (by omega) V J Y Z
 have c0:=h.c0;have a0:=h.cap1.1;have U:=h.cap1.2.1;have g1:(cap.r:Int)<(cap.nr:Int):=by omega
 obtain⟨T,I⟩:∃T,dM (z Ps.length 0 x).S=T:=⟨_,rfl⟩;rw[I] at K ⊢;clear h hs J Y Z I;go_enter Tryz.func18,Tryz.ntmps18
 go_wp2_with fail
 refine W.out.mono ?_;rintro e w0 ⟨rfl,rfl⟩;clear W
 go_wp2_with fail
 refine K.out.mono ?_;rintro e w1 ⟨rfl,h2⟩;clear K;go_wp2;go_ret2;exact⟨rfl,h2⟩
end
theorem aUw(B pb rg:Nat)(cap:qR)(gb:Nat)(pv:Value)(Ps:List PM)(fb fn:Nat)(f:ByteArray->Option ByteArray)(G:List cL)(st:Nat->Nat->ByteArray->PL)(e5:Nat->Nat)(w:World)
  (h:cF w B pb rg cap gb pv Ps fb fn f G) (hs:hU Ps st e5) (f4:Ps.length<=40) (d3:fn<=1000) (c0:aMw f (st Ps.length 0))
  (c3:∀K Cs m,aCw f (st Ps.length 0) K->dG (st Ps.length 0) ⟨0,0,0,0⟩ (cO f (st Ps.length 0) K) Cs m->∃t:Nat->ByteArray,(∀k c,Cs[k]?=some c->fU c.2 c.1 (st Ps.length 0 c.1) (t k))/\∀k,(t k).size<=1000000) :
  Calls Tryz.prog 66 #[.pointer (some ⟨rg,cap.r * 2,none⟩)] w λe w'=>∃K Cs m t,e=.returned (.string ⟨(dK t Cs.length).toArray⟩)/\aCw f (st Ps.length 0) K/\dG (st Ps.length 0) ⟨0,0,0,0⟩ (cO f (st Ps.length 0) K) Cs m/\(∀k c,Cs[k]?=some c->fU c.2 c.1 (st Ps.length 0 c.1) (t k))/\(∀k,(t k).size<=1000000)/\Below w.heap.size w w':=by
 obtain⟨s,a5⟩:∃s,st Ps.length 0=s:=⟨_,rfl⟩;have HK:Hid (Calls Tryz.prog 77 #[.pointer (some ⟨rg,cap.r * 2,none⟩)] w λe w'=>∃I n,e=.returned (.agg #[.map (some I)])/\cK w' I s n/\n<=100000/\w.heap.size<=I/\Below w.heap.size w w'):=by
  have:=wE hs h.view (by omega) h.r0 h.lts.2.1;rw[a5] at this;exact this
 rw[a5] at c0 c3;have HH:=aO h;have e0:=aO a5;have b0:=aO c0;have e2:=aO c3;clear h hs a5 c0 c3;go_enter Tryz.func66,Tryz.ntmps66
 go_wp2_with fail
 refine HK.out.mono ?_;rintro e w2 ⟨I,n,rfl,d1,hn,f5,a4⟩;clear HK;obtain⟨z,a3⟩:∃z,z=w2.alloc (.cells #[.map (some I)] 121):=⟨_,rfl⟩;have Y:Below w2.heap.size w2 z:=by rw[a3];exact(Below.refl _ _).alloc (aA _) _
 have b6:Below w.heap.size w z:=a4.trans (Y.mono a4.size);have b9:z.heap[w2.heap.size]?=some (.cells #[.map (some I)] 121 (0,0)):=by rw[a3];exact(aH w2 _).1
 have e7:w2.heap.size<z.heap.size:=by rw[a3];simp
 have f6:=a4.size;have e9:=aO b9;have c4:Hid (cF z.drew B pb rg cap gb pv Ps fb fn f G):=(HH.out.below b6).drew;have c6:Hid (cK z.drew I s n):=(d1.below Y (aA _)).below (Below.refl _ _).drew (aA _);have d7:=aO b6.drew;have E:Hid (z.drew.cell? ⟨w2.heap.size,0,none⟩=some (.map (some I))):=by show z.cell? _=_;simp[World.cell?,b9]
 have W:Hid (∀u,Below z.heap.size z.drew u->u.cell? ⟨w2.heap.size,0,none⟩=some (.map (some I))):=λu hu=>(hu.cell (p:=⟨w2.heap.size,0,none⟩) e7).trans E.out;have HA:=aO (c4.out.allNames d3 c6.out hn);clear d1 Y a4 b6 b9 HH
 go_wp2_with fail
 rw[<- a3];clear a3;refine dF (λw'=>w'.cell? ⟨w2.heap.size,0,none⟩=some (.map (some I))) 99 (by kernel_rfl) ?_;refine zt 0 (v:=?v0) E.out (λw0 V=>?hy) ?_
 case hy=>
  go_simp
  with_reducible rfl
 simp only[Act.put,aW];refine zt 1 (v:=?v1) E.out (λw0 V=>?hy) ?_
 case hy=>
  go_simp
  with_reducible rfl
 simp only[Act.put];refine zt 2 (v:=?v2) E.out (λw0 V=>?hy) ?_
 case hy=>
  go_simp
  with_reducible rfl
 simp only[Act.put];refine zt 3 (v:=?v3) E.out (λw0 V=>?hy) ?_
 case hy=>
  go_simp
  with_reducible rfl
 simp only[Act.put];refine zt 4 (v:=?v4) E.out (λw0 V=>?hy) ?_
 case hy=>
  go_simp
  with_reducible rfl
 simp only[Act.put];refine zt 5 (v:=?v5) E.out (λw0 V=>?hy) ?_
 case hy=>
  go_simp
  with_reducible rfl
 simp only[Act.put];refine zt 9 (v:=?v9) E.out (λw0 V=>?hy) ?_
 case hy=>
  go_simp
  with_reducible rfl
 simp only[Act.put];refine bT 6 _ rfl (by kernel_rfl) (λKK J=>?_);go_simp;refine HA.out.mono ?_;rintro e w5 ⟨va,vn,vc,L,rfl,d0,d6,d5,a2⟩;clear HA;dsimp only;refine J.out _ _ (λ_=>W.out w5 a2) ?_;clear J;have e8:=a2.size;have c5:=aO (c4.out.below a2);have b1:Hid (cK w5 I s n):=c6.out.below a2 (aA _);have HC:=aO (c5.out.changed b1.out hn d3 b0.out d0 d6 d5);clear d0 d6 d5;refine bT 7 _ rfl (by kernel_rfl) (λKK J=>?_);go_simp;refine HC.out.mono ?_;rintro e w6 ⟨xa,xc,K,rfl,c9,b4,b7⟩;clear HC;have Z:Below z.heap.size z.drew w6:=a2.trans (b7.mono e8);dsimp only;refine J.out _ _ (λ_=>W.out w6 Z) ?_;clear J;obtain⟨b3,c8⟩:=aWn b0.out b4;have f7:=b7.size;have c7:Hid (cK w6 I s n):=b1.out.below b7 (aA _);have a9:Hid (Calls Tryz.prog 110 #[.agg #[.int .u8 0,.int .u8 0,.int .u8 0,.int .u8 0],.agg #[.map (some I)],.slice xa (cO f s K).length xc] w6 λe w'=>∃ca cn cc Cs m,e=.returned (.agg #[.int .u8 0,.int .u8 0,.int .u8 0,.int .u8 0,.slice ca cn cc])/\CV w' (.slice ca cn cc) Cs/\dG s ⟨0,0,0,0⟩ (cO f s K) Cs m/\Below w6.heap.size w6 w'):=by
  refine(aGh ⟨0,0,0,0⟩ I n s (cO f s K) _ w6 c7.out hn c9 b3 c8).mono ?_;rintro e w' ⟨cv,Cs,m,rfl,g1,g2,g3⟩;obtain⟨ca,cc,rfl,g4⟩:=g1;exact⟨ca,_,cc,Cs,m,rfl,⟨ca,cc,rfl,g4⟩,g2,g3⟩
 have a7:=aO b4;obtain⟨cl,b8⟩:∃cl,(cO f s K).length=cl:=⟨_,rfl⟩;have d9:=aO b8;rw[b8] at a9 b3 ⊢;clear c9 b4 c8 c5 b1 b8;refine bT 8 _ rfl (by kernel_rfl) (λKK J=>?_);go_simp;refine a9.out.mono ?_;rintro e w7 ⟨ca,cn,cc,Cs,m,rfl,a6,U,d2⟩;clear a9;have a0:Below z.heap.size z.drew w7:=Z.trans (d2.mono (by have:=Z.size;exact this));dsimp only;refine J.out _ _ (λ_=>W.out w7 a0) ?_;clear J;obtain⟨t,c1,c2⟩:=e2.out K Cs m a7.out U;have e1:=aO c1;have e3:=aO c2;have a8:=aO U;have f3:Cs.length<=300:=by rw[U.len,d9.out];exact b3
 have b2:Hid (Calls Tryz.prog 113 #[.agg #[.int .u8 0,.int .u8 0,.int .u8 0,.int .u8 0,.slice ca cn cc],.agg #[.map (some I)]] w7 λe w'=>e=.returned (.string ⟨(dK t Cs.length).toArray⟩)/\Below w7.heap.size w7 w'):=by
  refine aHj ⟨0,0,0,0⟩ a6 (c7.out.below d2 (aA _)) (by omega) (by omega) (λc hc=>?_) t c1 c2;obtain⟨k,hk⟩:=bI.1 hc;have d4:k<(cO f s K).length:=by rw[<- a8.out.len];exact(aB.1 hk).1
  have hf:=aC d4;rw[(a8.out.at_ k _ c hf hk).1];exact((aWn b0.out a7.out).2 _ (bZ d4)).name
 obtain⟨T,b5⟩:∃T,(⟨(dK t Cs.length).toArray⟩:ByteArray)=T:=⟨_,rfl⟩;rw[b5] at b2;have e4:=aO b5;clear a6 U c1 c2 b5;refine bT 10 _ rfl (by kernel_rfl) (λKK J=>?_);go_simp;refine b2.out.mono ?_;rintro e w8 ⟨rfl,e6⟩;clear b2;have a1:Below z.heap.size z.drew w8:=a0.trans (e6.mono (by have:=a0.size;exact this));dsimp only;refine J.out _ _ (λ_=>W.out w8 a1) ?_;clear J;refine bT 11 _ rfl (by kernel_rfl) (λKK J=>?_);go_simp;refine J.out _ _ (λ_=>W.out w8 a1) ?_;clear J;refine fJ (by kernel_rfl) ?_ _;have d8:Hid (Below w.heap.size w w8):=d7.out.trans (a1.mono (by omega));go_wp2;go_ret;rw[e0.out];exact⟨K,Cs,m,t,by rw[e4.out];rfl,a7.out,a8.out,e1.out,e3.out,d8.out⟩
def eJ(w:World)(t:TypeId)(sz n:Nat)(v:Value)(xs:List Value):Prop:=xs.length=n * sz/\∃ao cap,v=.slice ao n cap/\n<=cap/\((ao=none/\n=0/\cap=0)\/∃b o,ao=some ⟨b,o,none⟩/\TB w b t/\∀(j:Nat) (u:Value),xs[j]?=some u->w.cell? ⟨b,o+j,none⟩=some u)
theorem eJ.below{w w':World}{t:TypeId}{sz n:Nat}{v:Value}{E:List Value}(h:eJ w t sz n v E)(z:Below w.heap.size w w'):eJ w' t sz n v E:=by
 obtain⟨J,I,cap,rfl,U,h1⟩:=h;refine⟨J,I,cap,rfl,U,h1.imp id ?_⟩;rintro⟨b,o,rfl,h2,K⟩;exact⟨b,o,rfl,h2.below z (aA _),λj u V=>(z.cell (p:=⟨b,o+j,none⟩) h2.lt).trans (K j u V)⟩
theorem eJ.held{w w':World}{t:TypeId}{sz n:Nat}{v:Value}{z:List Value}{T:TypeId->Prop}(h:eJ w t sz n v z)(W:bU T w w')(Z:T t):eJ w' t sz n v z:=by
 obtain⟨J,E,cap,rfl,V,h1⟩:=h;refine⟨J,E,cap,rfl,V,h1.imp id ?_⟩;rintro⟨b,o,rfl,h2,K⟩;have e:=W.keep b t h2 Z;obtain⟨cs,I,U⟩:=h2;exact⟨b,o,rfl,⟨cs,I,e.trans U⟩,λj u Y=>(bN e _).trans (K j u Y)⟩
theorem eJ.own{w:World}{B n sz:Nat}{t:TypeId}{v:Value}{J:List Value}(h:w.ownsRow B t sz v n J):eJ w t sz n v J:=by
 have K:=λg=>eZ h (g:=g);have h1:=h.1;rcases h.2 with ⟨rfl,I⟩|⟨g,cap,z,rfl,_,U,E,_⟩
 ·exact⟨h1,none,0,by rw[I],by omega,.inl ⟨rfl,I,rfl⟩⟩
 ·refine⟨h1,some ⟨g,0,none⟩,cap,rfl,E,.inr ⟨g,0,rfl,⟨z,_,U⟩,λj u V=>?_⟩⟩;have:=K g rfl j u V;have e:(⟨g,0,none⟩:Addr).add j=⟨g,0+j,none⟩:=by cases j<;>simp[Addr.add]
  rwa[e] at this
abbrev oO(L:List Nat):List Value:=L.map λ(k:Nat)=>.int .i64 k
def plc(L:List Nat)(c:Int):Int:=aB3 (L.findIdx? λ(k:Nat)=>decide ((k:Int)=c))
theorem aLz(L:List Nat)(v:Value)(c:Int)(w:World)(h:eJ w 3 1 L.length v (oO L))(hl:L.length<=1000000):
  Calls Tryz.prog 157 #[v,.int .i64 c] w λe w'=>e=.returned (.int .i64 (plc L c))/\w'=w:=by
 obtain⟨_,ao,cap,rfl,a1,h1⟩:=h;have Z:=aO h1;clear h1;obtain⟨r,hr⟩:∃r,plc L c=r:=⟨_,rfl⟩;have Y:=aO hr;rw[hr];clear hr;go_enter Tryz.func157,Tryz.ntmps157;go_wp2
 go_loopw [5] (λi wr=>∃j:Nat,j<=L.length/\i=.int .i64 j/\Hid (wr=w/\∀i,i<j->∀k:Nat,L[i]?=some k->((k:Int)=c)->False)) (λi _=>L.length - (intOf i).toNat)
 case atStart=>exact⟨0,aE _,rfl,rfl,λi hi=>by omega⟩
 case round=>
  obtain⟨j,hj,rfl,HI⟩:=hrel;obtain⟨V,U⟩:=HI.out;have W:=V.symm;subst W;clear V HI;have I:=aO U;clear U;by_cases K:j<L.length
  ·obtain⟨k,J⟩:∃k,L[j]?=some k:=⟨_,aC K⟩;obtain⟨b,o,rfl,c0⟩:∃b o,ao=some ⟨b,o,none⟩/\w.cell? ⟨b,o+j,none⟩=some (.int .i64 k):=by
    rcases Z.out with ⟨_,h0,_⟩|⟨b,o,e,_,hc⟩
    ·omega
    ·exact⟨b,o,e,hc j _ (by rw[aP,J];rfl)⟩
   have q1:(j:Int)<(L.length:Int):=by omega
   have HK:=aO J;clear J;by_cases z:(k:Int)=c
   ·have e:r=(j:Int):=by
     rw[<- Y.out];unfold plc;have:(L.findIdx? λ(k:Nat)=>decide ((k:Int)=c))=some j:=by
      rw[cQ];refine⟨K,?_,λi hi=>?_⟩
      ·have:=(aB.1 HK.out).2;simp[this,z]
      ·simp only[decide_eq_true_eq];exact λe=>I.out i hi _ (aC (by omega)) e
     rw[this];rfl
    subst e;subst z;clear Y I HK Z;go_wp2;go_ret;exact⟨rfl,rfl⟩
   ·have q2:((k:Int) == c)=false:=by rw[beq_eq_false_iff_ne];exact z
    go_wp2
    go_roundw
    case rel=>
     refine⟨j+1,by omega,by go_num,trivial,λi hi k' E e=>?_⟩;by_cases a0:i=j
     ·subst a0;rw[HK.out] at E
      cases E
      exact z e
     ·exact I.out i (by omega) k' E e
    case measure=>simp[intOf];omega
  ·have q1:¬ (j:Int)<(L.length:Int):=by omega
   have e:r=-1:=by
    rw[<- Y.out];unfold plc;have:(L.findIdx? λ(k:Nat)=>decide ((k:Int)=c))=none:=by
     rw[fE];intro k J;obtain⟨i,hi⟩:=bI.1 J;have a2:=(aB.1 hi).1;simp only[decide_eq_false_iff_not];exact λe=>I.out i (by omega) k hi e
    rw[this];rfl
   subst e;clear Y I Z;go_wp2;go_ret;exact⟨rfl,rfl⟩
def qR.turn(c:qR)(i:Nat)(R:Rep):qR:={ c with r:=i,rep:=λj=>if j=c.r then R else c.rep j }
theorem qR.turn_old(c:qR)(i:Nat)(R:Rep):(c.turn i R).rep c.r=R:=by simp[qR.turn]
theorem qR.turn_other{c:qR}{i j:Nat}{R:Rep}(h:j≠c.r):(c.turn i R).rep j=c.rep j:=by simp[qR.turn,h]
section
variable {w:World} {B pb rg:Nat} {cap:qR} {gb:Nat} {pv:Value} {Ps:List PM} {fb fn:Nat} {f:ByteArray->Option ByteArray} {G:List cL}
theorem cF.turn(h:cF w B pb rg cap gb pv Ps fb fn f G){i:Nat}(hi:cap.oth i):cF w B pb rg (cap.turn i ⟨pv,Ps,fb,fn,f⟩) gb (cap.rep i).pv (cap.rep i).Ps (cap.rep i).fb (cap.rep i).fn (cap.rep i).f G:=by
 have J:=h.oths i hi;obtain⟨A,hA,Y,Z,I⟩:=h.row;obtain⟨c1,c2,c3,c4⟩:=h.cap1;refine⟨⟨h.lo.1,h.lo.2.1,h.lo.2.2.1,J.lo⟩,h.wb,⟨A,hA,(I i hi).1,(I i hi).2,λj E=>?_⟩,h.given,J.own,J.chs,J.files,λe=>J.ng e.symm,⟨hi.1,c2,c3,λj k E V K=>?_⟩,λj E=>?_⟩
 ·by_cases e:j=cap.r
  ·subst e;rw[qR.turn_old];exact⟨Y,Z⟩
  ·rw[qR.turn_other e];exact I j ⟨E.1,e⟩
 ·by_cases e:j=cap.r
  ·subst e;rw[qR.turn_old,qR.turn_other (λq=>K q.symm)];have U:=h.oths k ⟨V.1,λq=>K q.symm⟩;exact⟨λq=>U.nf q.symm,λq hq a3=>U.far q a3 hq⟩
  ·rw[qR.turn_other e];by_cases W:k=cap.r
   ·subst W;rw[qR.turn_old];have z:=h.oths j ⟨E.1,e⟩;exact⟨z.nf,z.far⟩
   ·rw[qR.turn_other W];exact c4 j k ⟨E.1,e⟩ ⟨V.1,W⟩ K
 ·by_cases e:j=cap.r
  ·subst e;rw[qR.turn_old];exact⟨h.lo.2.2.2,h.own,h.chs,h.files,λq=>h.ne q.symm,λq=>J.nf q.symm,λk V a0=>J.far k a0 V⟩
  ·rw[qR.turn_other e];have z:=h.oths j ⟨E.1,e⟩;obtain⟨a1,a2⟩:=c4 j i ⟨E.1,e⟩ hi E.2;exact⟨z.lo,z.own,z.chs,z.files,z.ng,a1,a2⟩
end
end Go.Proofs.YtgdfipmdmgkidaaGreatDoor

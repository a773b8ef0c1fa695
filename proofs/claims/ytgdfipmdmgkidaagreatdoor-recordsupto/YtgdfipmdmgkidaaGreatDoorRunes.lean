import Derived.Lib.DecodeN
import Derived.Lib.DecodeNEq
import Derived.Lib.RuneCount
import Derived.Test.YtgdfipmdmgkidaaGreatDoorAl
set_option linter.all false
namespace Go.Proofs.YtgdfipmdmgkidaaGreatDoor
def wD(c:Int)(k:Int)(b:Int):Bool:=
 decide ((if k=1/\c=224 then 160 else if k=1/\c=240 then 144 else 128)<=b/\b<=(if k=1/\c=237 then 159 else if k=1/\c=244 then 143 else 191))
def gb(s:ByteArray)(i:Nat):Nat:=(s.get! i).toNat
theorem kM(s:ByteArray)(i:Nat):gb s i<256:=UInt8.toNat_lt _
theorem gT(s:ByteArray)(i:Nat)(h:i<s.size):s[i].toNat=gb s i:=by
 have e:s.get! i=s[i]'h:=by
  simp[ByteArray.get!,getElem!_pos,h];rfl
 rw[gb,e]
def cls(n:Nat)(c:Nat):Prop:=
 n=1/\(c<194\/244<c)\/n=2/\194<=c/\c<=223\/n=3/\224<=c/\c<=239\/n=4/\240<=c/\c<=244
def aPa(s:ByteArray)(a:Nat)(n:Nat):Prop:=∀i:Nat,1<=i->i<n->a+i<s.size/\wD (gb s a) i (gb s (a+i))=true
theorem zR(s:ByteArray)(a:Nat):Utf8.decode s a=Lib.decodeN (s.size - a) (gb s a) (gb s (a+1)) (gb s (a+2)) (gb s (a+3)):=Lib.decode_at s a
theorem aAv(c k b:Nat)(z:k≠1):wD c k b=true↔128<=b/\b<=191:=by
 have h:¬ ((k:Int)=1):=by omega
 simp only[wD,h,false_and,if_false,decide_eq_true_eq];omega
theorem tV(c b lo hi:Nat)(E:(if (c:Int)=224 then 160 else if (c:Int)=240 then 144 else (128:Int))=lo)(z:(if (c:Int)=237 then 159 else if (c:Int)=244 then 143 else (191:Int))=hi):
  wD c (1:Nat) b=true↔lo<=b/\b<=hi:=by
 simp only[wD,Int.natCast_one,true_and,E,z,decide_eq_true_eq];omega
theorem sM(n c z E I:Nat)(K:1<=n)(h1:z<256)(h2:E<256)(J:I<256)(V:194<=c/\c<=244):
  ∃sz lo hi,2<=sz/\cls sz c/\128<=lo/\hi<=191/\(∀b:Nat,wD c (1:Nat) b=true↔lo<=b/\b<=hi)/\Lib.decodeN n c z E I=Lib.slowN n c z E I sz lo hi:=by
 have U:(194<=c/\c<224)\/c=224\/((225<=c/\c<237)\/(238<=c/\c<240))\/c=237\/c=240\/(241<=c/\c<244)\/c=244:=by omega
 rcases U with h|h|h|h|h|h|h
 ·exact⟨2,128,191,by omega,by unfold cls;omega,by omega,by omega,λb=>tV c b 128 191 (by repeat' split<;>omega) (by repeat' split<;>omega),(Lib.slow_C2 n c z E I K h1 h2 J h).symm⟩
 ·exact⟨3,160,191,by omega,by unfold cls;omega,by omega,by omega,λb=>tV c b 160 191 (by repeat' split<;>omega) (by repeat' split<;>omega),(Lib.slow_E0 n c z E I K h1 h2 J h).symm⟩
 ·exact⟨3,128,191,by omega,by unfold cls;omega,by omega,by omega,λb=>tV c b 128 191 (by repeat' split<;>omega) (by repeat' split<;>omega),(Lib.slow_E1 n c z E I K h1 h2 J h).symm⟩
 ·exact⟨3,128,159,by omega,by unfold cls;omega,by omega,by omega,λb=>tV c b 128 159 (by repeat' split<;>omega) (by repeat' split<;>omega),(Lib.slow_ED n c z E I K h1 h2 J h).symm⟩
 ·exact⟨4,144,191,by omega,by unfold cls;omega,by omega,by omega,λb=>tV c b 144 191 (by repeat' split<;>omega) (by repeat' split<;>omega),(Lib.slow_F0 n c z E I K h1 h2 J h).symm⟩
 ·exact⟨4,128,191,by omega,by unfold cls;omega,by omega,by omega,λb=>tV c b 128 191 (by repeat' split<;>omega) (by repeat' split<;>omega),(Lib.slow_F1 n c z E I K h1 h2 J h).symm⟩
 ·exact⟨4,128,143,by omega,by unfold cls;omega,by omega,by omega,λb=>tV c b 128 143 (by repeat' split<;>omega) (by repeat' split<;>omega),(Lib.slow_F4 n c z E I K h1 h2 J h).symm⟩
theorem aEp(n c z E I:Nat)(J:c<256)(K:128<=c/\c<194\/244<c):Lib.decodeN n c z E I=(65533,1):=by
 refine Lib.bad_eq n c z E I J ?_;unfold Lib.firstT
 repeat' split
 all_goals omega
theorem aEq(n c z E I:Nat)(J:c<128):Lib.decodeN n c z E I=(c,1):=by
 unfold Lib.decodeN;rw[if_pos J]
theorem aSy{m n c:Nat}(h:cls m c)(k:cls n c):m=n:=by unfold cls at h k;omega
theorem aKv(s:ByteArray)(a n:Nat)(h:a<s.size)(z:cls n (gb s a))(I:aPa s a n):(Utf8.decode s a).2=n:=by
 rw[zR];have J:=kM s a;by_cases W:gb s a<128
 ·rw[aEq _ _ _ _ _ W];unfold cls at z;simp only[];omega
 by_cases hb:gb s a<194\/244<gb s a
 ·rw[aEp _ _ _ _ _ J (by omega)];unfold cls at z;simp only[];omega
 obtain⟨sz,lo,hi,h2,E,Y,V,U,K⟩:=sM (s.size - a) (gb s a) (gb s (a+1)) (gb s (a+2)) (gb s (a+3)) (by omega) (kM _ _) (kM _ _) (kM _ _) (by omega);obtain rfl:=aSy z E;have Z:n<=4:=by unfold cls at z;omega
 rw[K];have o1:=I 1 (by omega) (by omega);rw[U] at o1;unfold Lib.slowN;by_cases h3:3<=n
 ·have o2:=I 2 (by omega) (by omega);rw[aAv _ _ _ (by omega)] at o2;by_cases h4:4<=n
  ·have o3:=I 3 (by omega) (by omega);rw[aAv _ _ _ (by omega)] at o3;rw[if_neg (by omega),if_neg (by omega),if_neg (by omega),if_neg (by omega),if_neg (by omega),if_neg (by omega)];simp only[];omega
  ·rw[if_neg (by omega),if_neg (by omega),if_neg (by omega),if_neg (by omega),if_pos (by omega)];simp only[];omega
 ·rw[if_neg (by omega),if_neg (by omega),if_pos (by omega)];simp only[];omega
theorem aBy(s:ByteArray)(a n j:Nat)(h:a<s.size)(E:cls n (gb s a))(Y:1<=j)(hj:j<n)(K:¬ (a+j<s.size/\wD (gb s a) j (gb s (a+j))=true)):(Utf8.decode s a).2=1:=by
 rw[zR];have b0:=kM s a;by_cases hl:gb s a<128
 ·unfold cls at E;omega
 by_cases hb:gb s a<194\/244<gb s a
 ·unfold cls at E;omega
 obtain⟨sz,lo,hi,h2,I,Z,W,V,U⟩:=sM (s.size - a) (gb s a) (gb s (a+1)) (gb s (a+2)) (gb s (a+3)) (by omega) (kM _ _) (kM _ _) (kM _ _) (by omega);obtain rfl:=aSy E I;have a0:n<=4:=by unfold cls at E;omega
 rw[U];have J:j=1\/j=2\/j=3:=by omega
 unfold Lib.slowN;rcases J with rfl|rfl|rfl
 ·rw[V] at K;by_cases z:s.size - a<n
  ·rw[if_pos z]
  ·rw[if_neg z,if_pos (by omega)]
 ·rw[aAv _ _ _ (by omega)] at K;by_cases z:s.size - a<n
  ·rw[if_pos z]
  ·rw[if_neg z];split
   ·rfl
   ·rw[if_neg (by omega),if_pos (by omega)]
 ·rw[aAv _ _ _ (by omega)] at K;by_cases z:s.size - a<n
  ·rw[if_pos z]
  ·rw[if_neg z];split
   ·rfl
   ·rw[if_neg (by omega)];split
    ·rfl
    ·rw[if_neg (by omega),if_pos (by omega)]
theorem jU(s:ByteArray)(a:Nat)(h:a<s.size):1<=(Utf8.decode s a).2:=Lib.decode_width_pos s a h
theorem sN(s:ByteArray)(a:Nat)(h:a<s.size):
  (gb s a<128/\Utf8.decode s a=(gb s a,1))\/
  (128<=gb s a/\128<=(Utf8.decode s a).1/\a+(Utf8.decode s a).2<=s.size/\∀i,i<(Utf8.decode s a).2->128<=gb s (a+i)):=by
 rw[zR];have Z:=kM s a;have z:128<=gb s a->∀k,k<=4->(1<k->128<=gb s (a+1))->(2<k->128<=gb s (a+2))->(3<k->128<=gb s (a+3))->∀i,i<k->128<=gb s (a+i):=by
  intro U k hk h1 h2 Y i hi;have:i=0\/i=1\/i=2\/i=3:=by omega
  rcases this with rfl|rfl|rfl|rfl
  ·simpa using U
  ·exact h1 (by omega)
  ·exact h2 (by omega)
  ·exact Y (by omega)
 by_cases U:gb s a<128
 ·left;exact⟨U,aEq _ _ _ _ _ U⟩
 right;by_cases hb:gb s a<194\/244<gb s a
 ·rw[aEp _ _ _ _ _ Z (by omega)];exact⟨by omega,by simp,by simp only[];omega,z (by omega) _ (by simp) (by simp) (by simp) (by simp)⟩
 obtain⟨sz,lo,hi,h2,W,a2,a1,K,he⟩:=sM (s.size - a) (gb s a) (gb s (a+1)) (gb s (a+2)) (gb s (a+3)) (by omega) (kM _ _) (kM _ _) (kM _ _) (by omega);have h1:=kM s (a+1);have a0:=kM s (a+2);have Y:=kM s (a+3);rw[he];have V:=W;unfold cls at V;unfold Lib.slowN;split
 ·exact⟨by omega,by simp,by simp only[];omega,z (by omega) _ (by simp) (by simp) (by simp) (by simp)⟩
 split
 ·exact⟨by omega,by simp,by simp only[];omega,z (by omega) _ (by simp) (by simp) (by simp) (by simp)⟩
 split
 ·exact⟨by omega,by simp only[];omega,by simp only[];omega,z (by omega) _ (by simp) (λ_=>by omega) (by simp) (by simp)⟩
 split
 ·exact⟨by omega,by simp,by simp only[];omega,z (by omega) _ (by simp) (by simp) (by simp) (by simp)⟩
 split
 ·refine⟨by omega,?_,by simp only[];omega,z (by omega) _ (by simp) (λ_=>by omega) (λ_=>by omega) (by simp)⟩;by_cases e:gb s a=224
  ·have J:=(K 160).1 (by rw[e];decide);have:=(K 159);have I:wD (gb s a) (1:Nat) (159:Nat)=false:=by rw[e];decide
   rw[I] at this;simp at this;simp only[];omega
  ·simp only[];omega
 split
 ·exact⟨by omega,by simp,by simp only[];omega,z (by omega) _ (by simp) (by simp) (by simp) (by simp)⟩
 ·refine⟨by omega,?_,by simp only[];omega,z (by omega) _ (by simp) (λ_=>by omega) (λ_=>by omega) (λ_=>by omega)⟩;by_cases e:gb s a=240
  ·have J:=(K 144).1 (by rw[e];decide);have:=(K 143);have E:wD (gb s a) (1:Nat) (143:Nat)=false:=by rw[e];decide
   rw[E] at this;simp at this;simp only[];omega
  ·simp only[];omega
theorem aAb(s:ByteArray):∀f g pos,s.size - pos<=f->s.size - pos<=g->Lib.runeCountFrom s f pos=Lib.runeCountFrom s g pos
 | 0,g,pos,hf,_=>by rw[Lib.runeCountFrom_end s 0 pos (by omega),Lib.runeCountFrom_end s g pos (by omega)]
 | f+1,0,pos,_,hg=>by rw[Lib.runeCountFrom_end s _ pos (by omega),Lib.runeCountFrom_end s 0 pos (by omega)]
 | f+1,g+1,pos,hf,hg=>by
  unfold Lib.runeCountFrom;by_cases h:pos<s.size
  ·rw[if_pos h,if_pos h];have:=jU s pos h;rw[aAb s f g _ (by omega) (by omega)]
  ·rw[if_neg h,if_neg h]
def pU(s:ByteArray)(pos:Nat):Nat:=Lib.runeCountFrom s s.size pos
theorem aBa(s:ByteArray)(pos:Nat)(h:s.size<=pos):pU s pos=0:=Lib.runeCountFrom_end s _ pos (by omega)
theorem nN(s:ByteArray)(pos:Nat)(h:pos<s.size):pU s pos=1+pU s (pos+(Utf8.decode s pos).2):=by
 unfold pU;have E:=jU s pos h;obtain⟨n,z⟩:∃n,s.size=n+1:=⟨s.size - 1,by omega⟩;rw[z]
 conv=>lhs;unfold Lib.runeCountFrom
 rw[if_pos h,aAb s n (n+1) _ (by omega) (by omega)]
theorem bBa(s:ByteArray)(pos:Nat):pU s pos<=s.size - pos:=by
 unfold pU;rw[aAb s s.size (s.size - pos) pos (by omega) (by omega)];exact Lib.runeCountFrom_le s _ _
theorem aQw(s:ByteArray)(a:Nat)(h:a<s.size):a+(Utf8.decode s a).2<=s.size:=by
 rcases sN s a h with ⟨_,h2⟩|⟨_,_,z,_⟩
 ·rw[h2];exact h
 ·exact z
theorem oF(s:ByteArray)(i j:Nat)(z:j<=s.size):(s.extract i j).size=j - i:=by
 rw[ByteArray.size_extract];omega
theorem bAo(s:ByteArray)(i j k:Nat)(z:j<=s.size)(E:k<j - i):gb (s.extract i j) k=gb s (i+k):=by
 have h1:k<(s.extract i j).size:=by rw[oF s i j z];exact E
 rw[<- gT _ _ h1,<- gT s (i+k) (by omega)];simp[ByteArray.getElem_extract]
theorem aWy{s t:ByteArray}(hs:s.size=t.size)(h:∀i,i<s.size->gb s i=gb t i):s=t:=by
 apply ByteArray.ext_getElem hs;intro i h1 h2;have:=h i h1;rw[<- gT s i h1,<- gT t i h2] at this;exact UInt8.toNat_inj.1 this
def sD(s:ByteArray):ByteArray:=if 1<=s.size/\gb s (s.size - 1)=10 then s.extract 0 (s.size - 1) else s
theorem aDv(z:ByteArray):∀(n i:Nat) (r:List UInt8),z.size - i=n->ByteArray.toList.loop z i r=r.reverse++z.data.toList.drop i
 | 0,i,r,h=>by
  rw[ByteArray.toList.loop,if_neg (by omega),fF (by show z.data.toList.length<=i;rw[fP];show z.size<=i;omega),cR]
 | n+1,i,r,h=>by
  have hi:i<z.size:=by omega
  rw[ByteArray.toList.loop,if_pos hi,aDv z n (i+1) _ (by omega)];have E:i<z.data.toList.length:=by rw[fP];exact hi
  rw[bO E];have:z.get! i=z.data.toList[i]:=by
   show z.data[i]! = _;rw[getElem!_pos z.data i hi];simp
  rw[this];simp
theorem kA(z:ByteArray):z.toList=z.data.toList:=by
 rw[ByteArray.toList,aDv z _ 0 [] rfl];simp
theorem aJd(s:ByteArray)(h:1<=s.size):((s.extract (s.size - 1) s.size).toList == [10])=decide (gb s (s.size - 1)=10):=by
 have e:s.extract (s.size - 1) s.size=⟨#[s[s.size - 1]'(by omega)]⟩:=by
  apply aWy
  ·rw[oF _ _ _ (aA _)];show s.size - (s.size - 1)=1;omega
  ·intro i hi;rw[oF _ _ _ (aA _)] at hi;have:i=0:=by omega
   subst this;rw[bAo _ _ _ _ (aA _) hi,oK,<- gT s (s.size - 1) (by omega)];rfl
 rw[e];have z:(⟨#[s[s.size - 1]'(by omega)]⟩:ByteArray).toList=[s[s.size - 1]'(by omega)]:=by
  rw[kA]
 rw[z,<- gT s (s.size - 1) (by omega)];rw[kU];simp[<- UInt8.toNat_inj]
theorem aNo(m J z E I K U V:Nat)(hm:1<=m)(h1:1<m->z=K)(h2:2<m->E=U)(h3:3<m->I=V)(W:m=1->z=10)(Y:m=2->E=10)(Z:m=3->I=10):
  Lib.decodeN (m+1) J z E I=Lib.decodeN m J K U V:=by
 by_cases m1:m=1
 ·subst m1;rw[W rfl];simp[Lib.decodeN]
 by_cases m2:m=2
 ·subst m2;rw[Y rfl,h1 (by omega)];simp[Lib.decodeN]
 by_cases m3:m=3
 ·subst m3;rw[Z rfl,h1 (by omega),h2 (by omega)];simp[Lib.decodeN]
 rw[h1 (by omega),h2 (by omega),h3 (by omega)];simp only[Lib.decodeN,show (1<m+1)=True from eq_true (by omega),show (2<m+1)=True from eq_true (by omega),show (3<m+1)=True from eq_true (by omega),show (1<m)=True from eq_true (by omega),show (2<m)=True from eq_true (by omega),show (3<m)=True from eq_true (by omega)]
theorem aWp(s:ByteArray)(n pos:Nat)(K:s.size=n+1)(z:gb s n=10)(I:pos<n):Utf8.decode s pos=Utf8.decode (s.extract 0 n) pos:=by
 have E:(s.extract 0 n).size=n:=by rw[oF _ _ _ (by omega)];omega
 have g:∀k,k<n->gb (s.extract 0 n) k=gb s k:=λk J=>by rw[bAo _ _ _ _ (by omega) (by omega),dC]
 rw[zR,zR,E,g pos I,show s.size - pos=(n - pos)+1 by omega];refine aNo _ _ _ _ _ _ _ _ (by omega) ?_ ?_ ?_ ?_ ?_ ?_
 ·intro h;rw[g _ (by omega)]
 ·intro h;rw[g _ (by omega)]
 ·intro h;rw[g _ (by omega)]
 ·intro h;rw[show pos+1=n by omega];exact z
 ·intro h;rw[show pos+2=n by omega];exact z
 ·intro h;rw[show pos+3=n by omega];exact z
theorem aXy(s:ByteArray)(n:Nat)(U:s.size=n+1)(I:gb s n=10):∀f pos,n - pos<=f->pos<=n->pU s pos=pU (s.extract 0 n) pos+1:=by
 have K:(s.extract 0 n).size=n:=by rw[oF _ _ _ (by omega)];omega
 have z:pU s n=pU (s.extract 0 n) n+1:=by
  have E:(Utf8.decode s n).2=1:=by
   rcases sN s n (by omega) with ⟨_,h2⟩|⟨h1,_⟩
   ·rw[h2]
   ·omega
  rw[nN s n (by omega),E,aBa s (n+1) (by omega),aBa _ n (by omega)]
 intro f
 induction f with
 | zero=>
  intro pos h1 h2;obtain rfl:pos=n:=by omega
  exact z
 | succ f ih=>
  intro pos h1 h2;by_cases e:pos=n
  ·subst e;exact z
  ·have E:=aWp s n pos U I (by omega);have V:=jU s pos (by omega);have J:=aQw (s.extract 0 n) pos (by omega);rw[<- E,K] at J;rw[nN s pos (by omega),nN (s.extract 0 n) pos (by omega),<- E,ih _ (by omega) (by omega)];omega
def gB(s:ByteArray):Nat:=pU (sD s) 0
theorem aLi(s:ByteArray)(h:1<=s.size)(z:gb s (s.size - 1)=10):pU s 0=gB s+1:=by
 unfold gB sD;rw[if_pos ⟨h,z⟩];exact aXy s (s.size - 1) (by omega) z _ 0 (aA _) (by omega)
theorem aLj(s:ByteArray)(z:gb s (s.size - 1)≠10):pU s 0=gB s:=by
 unfold gB sD;rw[if_neg (by intro h;exact z h.2)]
def mE(s:ByteArray):Nat->List ByteArray×Nat
 | 0=>([],0)
 | i+1=>if gb s i=10 then ((mE s i).1++[s.extract (mE s i).2 (i+1)],i+1) else mE s i
def bM(s:ByteArray):List ByteArray:=if (mE s s.size).2<s.size then (mE s s.size).1++[s.extract (mE s s.size).2 s.size] else (mE s s.size).1
theorem xS{s:ByteArray}{i:Nat}(h:gb s i=10):mE s (i+1)=((mE s i).1++[s.extract (mE s i).2 (i+1)],i+1):=by
 rw[mE,if_pos h]
theorem xT{s:ByteArray}{i:Nat}(h:gb s i≠10):mE s (i+1)=mE s i:=by
 rw[mE,if_neg h]
theorem oG(s:ByteArray):∀i,(mE s i).2<=i/\(mE s i).1.length<=i
 | 0=>⟨aA _,aA _⟩
 | i+1=>by
  have z:=oG s i;by_cases h:gb s i=10
  ·rw[xS h];simp only[aJ,aY,cX];omega
  ·rw[xT h];omega
theorem aJ0(s:ByteArray):∀i,(mE s i).1.length<=(mE s i).2
 | 0=>aA _
 | i+1=>by
  have z:=aJ0 s i;have:=(oG s i).1;by_cases h:gb s i=10
  ·rw[xS h];simp only[aJ,aY,cX];omega
  ·rw[xT h];omega
theorem aJ1(s:ByteArray)(p:Nat):∀k,(∀i,i<k->gb s (p+i)≠10)->mE s (p+k)=mE s p
 | 0,_=>rfl
 | k+1,h=>by
  rw[<- dB,xT (h k (by omega))];exact aJ1 s p k λi hi=>h i (by omega)
theorem xR(s:ByteArray):∀i,i<=s.size->∀l∈(mE s i).1,1<=l.size/\l.size<=s.size
 | 0,_,l,h=>by simp[mE] at h
 | i+1,hi,l,h=>by
  by_cases z:gb s i=10
  ·rw[xS z] at h;rcases aG.1 h with h|h
   ·exact xR s i (by omega) l h
   ·have:=(oG s i).1;rw[bE.1 h,oF _ _ _ hi];omega
  ·rw[xT z] at h;exact xR s i (by omega) l h
theorem qX(s:ByteArray):∀l∈bM s,1<=l.size/\l.size<=s.size:=by
 intro l h;unfold bM at h;split at h
 ·rcases aG.1 h with h|h
  ·exact xR s _ (aA _) l h
  ·rw[bE.1 h,oF _ _ _ (aA _)];omega
 ·exact xR s _ (aA _) l h
theorem aFr(s:ByteArray):(bM s).length<=s.size:=by
 have h1:=aJ0 s s.size;have h2:=oG s s.size;unfold bM;split
 ·simp only[aJ,aY,cX];omega
 ·exact h2.2
theorem aFt(s:ByteArray)(p:Nat)(h:p<s.size)(z:gb s p<128):Utf8.decode s p=(gb s p,1):=by
 rcases sN s p h with h|h
 ·exact h.2
 ·omega
theorem aS0(s:ByteArray)(p c:Nat)(h:p<s.size)(J:c<128)(z:gb s p≠c):
  ∃r k:Nat,Utf8.decode s p=(r,k)/\r≠c/\1<=k/\p+k<=s.size/\∀i,i<k->gb s (p+i)≠c:=by
 rcases sN s p h with ⟨h1,h2⟩|⟨h1,h2,E,I⟩
 ·refine⟨_,_,h2,z,aA _,h,λi hi=>?_⟩;have:i=0:=by omega
  subst this;exact z
 ·exact⟨(Utf8.decode s p).1,(Utf8.decode s p).2,rfl,by omega,jU s p h,E,λi hi=>by have:=I i hi;omega⟩
def gC(L:List ByteArray)(s:ByteArray)(p q:Nat):List ByteArray:=if p<q then L++[s.extract p q] else L
def xW(s:ByteArray):Nat->List ByteArray×Nat
 | 0=>([],0)
 | i+1=>if gb s i=32 then (gC (xW s i).1 s (xW s i).2 i,i+1) else xW s i
def bY(s:ByteArray):List ByteArray:=gC (xW s s.size).1 s (xW s s.size).2 s.size
theorem uQ{s:ByteArray}{i:Nat}(h:gb s i=32):xW s (i+1)=(gC (xW s i).1 s (xW s i).2 i,i+1):=by rw[xW,if_pos h]
theorem aCt{s:ByteArray}{i:Nat}(h:gb s i≠32):xW s (i+1)=xW s i:=by rw[xW,if_neg h]
theorem aCy(L:List ByteArray)(s:ByteArray)(p q:Nat):(gC L s p q).length<=L.length+1:=by
 unfold gC;split<;>simp
theorem aCs(s:ByteArray):∀i,(xW s i).2<=i/\(xW s i).1.length<=(xW s i).2
 | 0=>⟨aA _,aA _⟩
 | i+1=>by
  have z:=aCs s i;by_cases h:gb s i=32
  ·rw[uQ h];have:=aCy (xW s i).1 s (xW s i).2 i;simp only;omega
  ·rw[aCt h];omega
theorem aHm(s:ByteArray)(p:Nat):∀k,(∀i,i<k->gb s (p+i)≠32)->xW s (p+k)=xW s p
 | 0,_=>rfl
 | k+1,h=>by
  rw[<- dB,aCt (h k (by omega))];exact aHm s p k λi hi=>h i (by omega)
theorem uL(s:ByteArray):(bY s).length<=s.size+1:=by
 have h:=aCs s s.size;have:=aCy (xW s s.size).1 s (xW s s.size).2 s.size;unfold bY;omega
theorem wU(s:ByteArray):∀i,i<=s.size->∀l∈(xW s i).1,l.size<=s.size
 | 0,_,l,h=>by simp[xW] at h
 | i+1,hi,l,h=>by
  by_cases z:gb s i=32
  ·rw[uQ z] at h;simp only[gC] at h;split at h
   ·rcases aG.1 h with h|h
    ·exact wU s i (by omega) l h
    ·rw[bE.1 h,oF _ _ _ (by omega)];omega
   ·exact wU s i (by omega) l h
  ·rw[aCt z] at h;exact wU s i (by omega) l h
theorem aIk(s:ByteArray):∀l∈bY s,l.size<=s.size:=by
 intro l h;unfold bY gC at h;split at h
 ·rcases aG.1 h with h|h
  ·exact wU s _ (aA _) l h
  ·rw[bE.1 h,oF _ _ _ (aA _)];omega
 ·exact wU s _ (aA _) l h
theorem aSe(s:ByteArray)(a:Nat)(h:a<s.size):(Utf8.decode s a).2<=4:=by
 rw[zR];have z:=kM s a;by_cases K:gb s a<128
 ·rw[aEq _ _ _ _ _ K];simp only;omega
 by_cases V:gb s a<194\/244<gb s a
 ·rw[aEp _ _ _ _ _ z (by omega)];simp only;omega
 obtain⟨sz,lo,hi,h2,E,U,J,W,I⟩:=sM (s.size - a) (gb s a) (gb s (a+1)) (gb s (a+2)) (gb s (a+3)) (by omega) (kM _ _) (kM _ _) (kM _ _) (by omega);rw[I];unfold Lib.slowN
 repeat' split
 all_goals (simp only;omega)
theorem aG7(s:ByteArray):∀f pos,s.size - pos<=f->s.size - pos<=4 * pU s pos
 | 0,pos,h=>by omega
 | f+1,pos,h=>by
  by_cases z:pos<s.size
  ·have h1:=jU s pos z;have E:=aSe s pos z;have I:=aG7 s f (pos+(Utf8.decode s pos).2) (by omega);rw[nN s pos z];omega
  ·omega
def tY(c:Int):Bool:=decide ((48<=c/\c<=57)\/(97<=c/\c<=102))
def aI8(s:ByteArray)(n:Nat):Prop:=∀i,i<n->tY (gb s i)=true
def idB(s:ByteArray):Bool:=decide (s.size=4) && (List.range s.size).all λi=>tY (gb s i)
theorem aF4{s:ByteArray}{n:Nat}(h:aI8 s n)(h1:tY (gb s n)=true):aI8 s (n+1):=by
 intro i hi;by_cases e:i=n
 ·subst e;exact h1
 ·exact h i (by omega)
theorem aXb{s:ByteArray}(z:s.size=4)(h:aI8 s s.size):idB s=true:=by
 unfold idB;simp only[jX,decide_eq_true_eq,aD2,fL];exact⟨z,h⟩
theorem bAr{s:ByteArray}{i:Nat}(hi:i<s.size)(h:tY (gb s i)=false):idB s=false:=by
 unfold idB;rw[Bool.and_eq_false_iff];right;rw[List.all_eq_false];exact⟨i,fL.2 hi,by rw[h];simp⟩
theorem aXa{s:ByteArray}(z:s.size≠4):idB s=false:=by
 unfold idB;simp[z]
theorem aW7(s:ByteArray)(p:Nat)(h:p<s.size):tY ((Utf8.decode s p).1:Nat)=tY (gb s p)/\(tY (gb s p)=true->(Utf8.decode s p).2=1):=by
 rcases sN s p h with ⟨h1,h2⟩|⟨h1,h2,_,_⟩
 ·rw[h2];exact⟨rfl,λ_=>rfl⟩
 ·have a:tY (gb s p)=false:=by unfold tY;rw[decide_eq_false_iff_not];omega
  have b:tY ((Utf8.decode s p).1:Nat)=false:=by unfold tY;rw[decide_eq_false_iff_not];omega
  rw[a,b];exact⟨rfl,λh=>by cases h⟩
def rZ(r:Int):Bool:=decide ((97<=r/\r<=122)\/(945<=r/\r<=969))
def aOp(s:ByteArray):Nat->Nat->Bool
 | 0,_=>true
 | f+1,pos=>if pos<s.size then rZ ((Utf8.decode s pos).1:Nat) && aOp s f (pos+(Utf8.decode s pos).2) else true
theorem wG(s:ByteArray)(f pos:Nat)(h:s.size<=pos):aOp s f pos=true:=by
 cases f with
 | zero=>rfl
 | succ f=>rw[aOp,if_neg (by omega)]
theorem aDj(s:ByteArray):∀f g pos,s.size - pos<=f->s.size - pos<=g->aOp s f pos=aOp s g pos
 | 0,g,pos,hf,_=>by rw[wG s 0 pos (by omega),wG s g pos (by omega)]
 | f+1,0,pos,_,hg=>by rw[wG s _ pos (by omega),wG s 0 pos (by omega)]
 | f+1,g+1,pos,hf,hg=>by
  unfold aOp;by_cases h:pos<s.size
  ·rw[if_pos h,if_pos h];have:=jU s pos h;rw[aDj s f g _ (by omega) (by omega)]
  ·rw[if_neg h,if_neg h]
def aB7(s:ByteArray)(pos:Nat):Bool:=aOp s s.size pos
theorem aOq(s:ByteArray)(pos:Nat)(h:s.size<=pos):aB7 s pos=true:=wG s _ pos h
theorem aB8(s:ByteArray)(pos:Nat)(h:pos<s.size):aB7 s pos=(rZ ((Utf8.decode s pos).1:Nat) && aB7 s (pos+(Utf8.decode s pos).2)):=by
 unfold aB7;have E:=jU s pos h;obtain⟨n,z⟩:∃n,s.size=n+1:=⟨s.size - 1,by omega⟩;rw[z]
 conv=>lhs;unfold aOp
 rw[if_pos h,aDj s n (n+1) _ (by omega) (by omega)]
def dJ(s:ByteArray):Bool:=decide (1<=s.size) && decide (pU s 0<=8) && aB7 s 0
theorem aXj(s:ByteArray)(p:Nat)(h:p<s.size):
  ((Utf8.decode s p).2=1->rZ ((Utf8.decode s p).1:Nat)=decide (97<=gb s p/\gb s p<=122))/\
  ((Utf8.decode s p).2=2->p+1<s.size/\194<=gb s p/\gb s p<=223/\128<=gb s (p+1)/\gb s (p+1)<=191/\(((Utf8.decode s p).1:Nat):Int)=64 * ((gb s p:Int) - 192)+(gb s (p+1):Int) - 128)/\
  (2<(Utf8.decode s p).2->rZ ((Utf8.decode s p).1:Nat)=false):=by
 rw[zR];have V:=kM s p;have W:=kM s (p+1);have Y:=kM s (p+2);have Z:=kM s (p+3);by_cases hl:gb s p<128
 ·rw[aEq _ _ _ _ _ hl];refine⟨λ_=>?_,λh=>by simp at h,λh=>by simp at h⟩;unfold rZ;rw[decide_eq_decide];simp only;omega
 have J:rZ ((65533:Nat):Int)=decide (97<=gb s p/\gb s p<=122):=by
  unfold rZ;rw[decide_eq_decide];omega
 by_cases hb:gb s p<194\/244<gb s p
 ·rw[aEp _ _ _ _ _ V (by omega)];exact⟨λ_=>J,λh=>by simp at h,λh=>by simp at h⟩
 obtain⟨sz,lo,hi,h2,U,a1,a0,K,he⟩:=sM (s.size - p) (gb s p) (gb s (p+1)) (gb s (p+2)) (gb s (p+3)) (by omega) W Y Z (by omega);rw[he];unfold cls at U;unfold Lib.slowN;split
 ·exact⟨λ_=>J,λh=>by simp at h,λh=>by simp at h⟩
 split
 ·exact⟨λ_=>J,λh=>by simp at h,λh=>by simp at h⟩
 split
 ·refine⟨λh=>by simp at h,λ_=>?_,λh=>by simp at h⟩;simp only;omega
 split
 ·exact⟨λ_=>J,λh=>by simp at h,λh=>by simp at h⟩
 split
 ·refine⟨λh=>by simp at h,λh=>by simp at h,λ_=>?_⟩;unfold rZ;rw[decide_eq_false_iff_not];simp only;by_cases e:gb s p=224
  ·have I:=(K 160).1 (by rw[e];decide);have:=(K 159);have E:wD (gb s p) (1:Nat) (159:Nat)=false:=by rw[e];decide
   rw[E] at this;simp at this;omega
  ·omega
 split
 ·exact⟨λ_=>J,λh=>by simp at h,λh=>by simp at h⟩
 ·refine⟨λh=>by simp at h,λh=>by simp at h,λ_=>?_⟩;unfold rZ;rw[decide_eq_false_iff_not];simp only;by_cases e:gb s p=240
  ·have I:=(K 144).1 (by rw[e];decide);have:=(K 143);have z:wD (gb s p) (1:Nat) (143:Nat)=false:=by rw[e];decide
   rw[z] at this;simp at this;omega
  ·omega
def mL(s:ByteArray):Bool:=decide (s.size=1/\48<=gb s 0/\gb s 0<=50)
end Go.Proofs.YtgdfipmdmgkidaaGreatDoor

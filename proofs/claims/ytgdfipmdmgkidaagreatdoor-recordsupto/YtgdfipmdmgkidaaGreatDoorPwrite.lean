import Derived.Test.YtgdfipmdmgkidaaGreatDoorNplace
import Derived.Test.YtgdfipmdmgkidaaGreatDoorAl
set_option linter.all false
set_option maxHeartbeats 6400000
set_option maxRecDepth 100000
namespace Go.Proofs.YtgdfipmdmgkidaaGreatDoor
open Go.RowKit
theorem aP6(f:ByteArray->Option ByteArray)(fb fn rb ro:Nat)(name text:ByteArray)(w:World)(h:FK w fb f fn)(b3:fn<=1000)(hr:w.cell? ⟨rb,ro+1,none⟩=some (.map (some fb)))(a9:rb<w.heap.size)(hs:name.size<=1000)(hn:dJ name=true)(hl:dH text=true)(hf:(f name).isSome=true\/fn<5):
  Calls Tryz.prog 43 #[.pointer (some ⟨rb,ro,none⟩),.string name,.string text] w λe w'=>e=.returned (.int .i64 0)/\∃u,Below w.heap.size w u/\FK w' fb (λx=>if x=name then some text else f x) (fn+1)/\u.grownBy w' (some fb):=by
 have HN:Hid (Calls Tryz.prog 61 #[.string name] w λe w'=>e=.returned (.bool true)/\Below w.heap.size w w'):=by
  have:=iF name w;rw[hn] at this;exact this
 have HL:Hid (∀u,Calls Tryz.prog 62 #[.string text] u λe w'=>∃va vn vc,e=.returned (.tuple #[.slice va vn vc,.bool true])/\Below u.heap.size u w'):=λu=>by
  have:=rJ text u;rw[hl] at this;refine this.mono ?_;rintro e w' ⟨v,rfl,h1,h2⟩;obtain⟨va,vc,rfl⟩:=bC h1;exact⟨va,_,vc,rfl,h2⟩
 have HF:=aO h;have a8:=h.lt;clear hn hl h;go_enter Tryz.func43,Tryz.ntmps43
 go_wp2_with fail
 refine HN.out.mono ?_;rintro e w1 ⟨rfl,Y⟩;clear HN;have b0:=Y.size
 go_wp2_with fail
 refine(HL.out w1).mono ?_;rintro e w2 ⟨va,vn,vc,rfl,a4⟩;clear HL;have z:Below w.heap.size w w2:=Y.trans (a4.mono b0);have b1:=z.size;have c2:w2.cell? ⟨rb,ro+1,none⟩=some (.map (some fb)):=(z.cell (p:=⟨rb,ro+1,none⟩) a9).trans hr;have V:FK w2 fb f fn:=HF.out.same (z.block fb a8);have K:=V.look name (by omega);obtain⟨t,ht⟩:∃t,(f name).getD ⟨#[]⟩=t:=⟨_,rfl⟩;obtain⟨J,a7⟩:∃J,J=w2.alloc (.cells #[.string t] 105):=⟨_,rfl⟩;have E:Below w2.heap.size w2 J:=by rw[a7];exact(Below.refl _ _).alloc (aA _) _
 have W:FK J fb f fn:=V.same (E.block fb (by omega));have c3:J.cell? ⟨rb,ro+1,none⟩=some (.map (some fb)):=(E.cell (p:=⟨rb,ro+1,none⟩) (by show rb<_;omega)).trans c2;obtain⟨w4,a6,a3,a5⟩:=W.put (by omega) name text (by omega);have a0:Hid (Below w.heap.size w J):=z.trans (E.mono b1);rw[ht] at K;unfold rE at K a6;have a1:=aO a3;have a2:=aO a5;have I:∃m:Nat,m<=fn/\∀ty,(Builtin.len_ #[85] ty #[.map (some fb)]).run Tryz.prog J=.ok (.int .i64 (m:Nat)) J:=by
  obtain⟨D,h1,_⟩:=W;exact⟨Maps.size D,h1.size_le,λty=>h1.len Tryz.underlying85 ty⟩
 obtain⟨m,hm,I⟩:=I;have Z:=I 3;rw[a7] at c3 Z a6;clear V W a3 a5 E z a4 Y ht I
 cases U:(f name).isSome
 ·rw[U] at K hf;have h5:fn<5:=hf.resolve_left (by simp);have b2:decide ((5:Int)<=(m:Int))=false:=by simp;omega
  clear hf U;go_wp2;go_ret;exact⟨rfl,J,a0.out,a1.out,a2.out⟩
 ·rw[U] at K;clear hf U;go_wp2;go_ret;exact⟨rfl,J,a0.out,a1.out,a2.out⟩
theorem Tryz.info87:(Tryz.prog.info? 87).map (λi=>(i.zero,i.size,i.bytes))=some (some (.agg #[.slice none 0 0,.map none]),2,32):=by kernel_rfl
theorem aIf(w:World):
  Calls Tryz.prog 41 #[] w λe w'=>∃fb,e=.returned (.agg #[.slice none 0 0,.map (some fb)])/\w.heap.size<=fb/\FK w' fb (λ_=>none) 0/\Below w.heap.size w w':=by
 have Y:∀w,(Instr.makeMap 85 none).run Tryz.prog w=.ok (.map (some w.heap.size)) (w.alloc (.map #[] 0)):=λ_=>by kernel_rfl
 obtain⟨U,z⟩:∃U,U=(w.alloc (.cells #[.slice none 0 0,.map (some (w.heap.size+1))] 87)).alloc (.map #[] 0):=⟨_,rfl⟩;obtain⟨E,K,J,I⟩:=iI w _ _ z;have V:FK U (w.heap.size+1) (λ_=>none) 0:=by
  have:=FK.made (w.alloc (.cells #[.slice none 0 0,.map (some (w.heap.size+1))] 87));simp only[World.size_alloc] at this;rw[z];exact this
 have W:=aO V;clear K I V;go_enter Tryz.func41,Tryz.ntmps41;go_wp2;rw[<- z];refine bodyPost_ret (results_cell_row (p:=0) (ty:=87) (by kernel_rfl) _ _ w.heap.size 87 _ (0,0) _ rfl J Tryz.underlying87 rfl (by kernel_rfl)) rfl ?_;exact⟨w.heap.size+1,rfl,by omega,W.out,E⟩
def lK(b:Nat):Rep:=⟨.slice none 0 0,[],b,0,λ_=>none⟩
def lT(F:List Nat):List Value:=F.flatMap λb=>[.slice none 0 0,.map (some b)]
theorem aL9(F:List Nat):∀i b,F[i]?=some b->(lT F)[i * 2]?=some (.slice none 0 0)/\(lT F)[i * 2+1]?=some (.map (some b)):=by
 induction F with
 | nil=>intro i b h;simp at h
 | cons x F ih=>
  intro i b h
  cases i with
  | zero=>
   simp at h;subst h;exact⟨rfl,rfl⟩
  | succ i=>
   have:=ih i b (by simpa using h);have z:(i+1) * 2=i * 2+1+1:=by omega
   have E:lT (x::F)=.slice none 0 0::.map (some x)::lT F:=rfl;rw[z,E];simpa using this
structure bAw (w wr:World) (k:Nat) (v:Value) (F:List Nat):Prop where
 wb:wr.heap[w.heap.size+1]?=some (.cells #[v,.map (some w.heap.size)] 83 (0,0))
 given:GAt wr w.heap.size []
 own:wr.ownsRow w.heap.size 87 2 v k (lT F)
 len:F.length=k
 nd:F.Nodup
 files:∀b∈F,FK wr b (λ_=>none) 0/\w.heap.size+2<=b
 below:Below w.heap.size w wr
theorem aUv(w:World)(n:Nat)(e7:1<=n)(f6:n<=3):
  Calls Tryz.prog 15 #[.int .i64 n] w λe w'=>∃pb rg cap gb fb,e=.returned (.tuple #[.pointer (some ⟨pb,0,none⟩),.int .i64 0])/\cap.nr=n/\cap.r=0/\(∀i,cap.oth i->∃b,cap.rep i=lK b)/\cF w' w.heap.size pb rg cap gb (.slice none 0 0) [] fb 0 (λ_=>none) []/\Below w.heap.size w w':=by
 obtain⟨i0,d3,e0,e3,e4⟩:=info_parts Tryz.info87;have f5:∀w,(Instr.makeMap 80 none).run Tryz.prog w=.ok (.map (some w.heap.size)) (w.alloc (.map #[] 0)):=λ_=>by kernel_rfl
 obtain⟨w1,b1⟩:∃w1,w1=(w.alloc (.map #[] 0)).alloc (.cells #[.slice none 0 0,.map (some w.heap.size)] 83):=⟨_,rfl⟩;obtain⟨c1,d7,d4,c2⟩:=iI w _ _ b1;have b9:GAt w1 w.heap.size []:=by
  have:=GAt.made w;refine this.same ?_;rw[b1,Below.heap_alloc _ _ _ (by simp)]
 have b8:Hid (bAw w w1 0 (.slice none 0 0) []):=⟨c2,b9,aK _ _ _ _,rfl,aKb,(λb hb=>by cases hb),c1⟩;have j1:¬ (n:Int)<1:=by omega
 have j2:¬ (3:Int)<(n:Int):=by omega
 clear b9 c2 c1 d4 d7;go_enter Tryz.func15,Tryz.ntmps15;go_wp2;rw[<- b1];clear b1
 go_loopw [15] (λx wr=>∃(k:Nat) (v:Value) (F:List Nat),k<=n/\x=.int .i64 k/\Hid (bAw w wr k v F)) (λx _=>n - (intOf x).toNat)
 case atStart=>exact⟨0,_,[],aE _,rfl,b8⟩
 case round=>
  clear b8;obtain⟨k,v,F,hk,rfl,z⟩:=hrel;by_cases f3:k<n
  ·have c6:w.heap.size+1<wr.heap.size:=(aV.1 z.out.wb).1;obtain⟨va,vc,rfl⟩:=bC z.out.own;have Z:Hid (wr.drew.cell? ⟨w.heap.size+1,0,none⟩=some (.slice va k vc)):=by show wr.cell? _=_;simp[World.cell?,z.out.wb]
   have HN:Hid (Calls Tryz.prog 41 #[] wr.drew λe w'=>∃fb,e=.returned (.agg #[.slice none 0 0,.map (some fb)])/\wr.heap.size<=fb/\FK w' fb (λ_=>none) 0/\Below wr.heap.size wr w'):=(aIf wr.drew).mono λe w' ⟨fb,h1,h2,h3,h4⟩=>⟨fb,h1,h2,h3,(Below.refl _ _).drew.trans h4⟩;have j3:(k:Int)<(n:Int):=by omega
   go_wp2_with fail
   refine dF (λw'=>w'.cell? ⟨w.heap.size+1,0,none⟩=some (.slice va k vc)) 10 (by kernel_rfl) ?_;refine zt 0 (v:=?v0) Z.out (λw0 a7=>?hy) ?_
   case hy=>go_simp;with_reducible rfl
   simp only[Act.put,aW];refine zt 1 (v:=?v1) Z.out (λw0 a7=>?hy) ?_
   case hy=>go_simp;with_reducible rfl
   simp only[Act.put];refine zt 2 (v:=?v2) Z.out (λw0 a7=>?hy) ?_
   case hy=>go_simp;with_reducible rfl
   simp only[Act.put];refine zt 3 (v:=?v3) Z.out (λw0 a7=>?hy) ?_
   case hy=>go_simp;with_reducible rfl
   simp only[Act.put];refine zt 4 (v:=?v4) Z.out (λw0 a7=>?hy) ?_
   case hy=>go_simp;with_reducible rfl
   simp only[Act.put];refine bT 5 _ rfl (by kernel_rfl) (λKK U=>?_);go_simp;refine HN.out.mono ?_;rintro e w2 ⟨fb,rfl,a3,b5,E⟩;clear HN;have a4:=(E.block _ c6).trans z.out.wb;have f7:=E.size;have a9:=bQ z.out.own E (aA _);dsimp only;refine U.out _ _ (λ_=>by simp[World.cell?,a4]) ?_;clear U;refine bT 6 _ rfl (by kernel_rfl) (λKK U=>?_);go_simp;have Y:Below w2.heap.size w2 (w2.alloc (.cells #[.slice none 0 0,.map (some fb)] 87)):=(Below.refl _ _).alloc (aA _) _;have c3:=(Y.block _ (by omega)).trans a4;refine U.out _ _ (λ_=>by simp[World.cell?,c3]) ?_;clear U;refine bT 7 _ rfl (by kernel_rfl) (λKK U=>?_);refine step_append_lies _ (by rfl) _ _ _ (by rfl) w.heap.size 87 i0 _ 2 32 Tryz.underlying81 d3 e0 e3 e4 rfl (by omega) (.slice va k vc) k (lT F) (by rfl) (a9.alloc _) ⟨w2.heap.size,0,none⟩ 1 1 [.slice none 0 0,.map (some fb)] (by rfl) (by rfl) (World.news_of_block (cs:=#[.slice none 0 0,.map (some fb)]) (t:=87) (fr:=(0,0)) (heap_alloc_new w2 _)) (by simp[Value.oneCell']) (by omega) (by unfold maxLen;omega) (by omega) (by simp;omega) (w2.heap.size+1) (by simp) ?_;intro g cp wa W I c0 c4;have tv:∀q,(Value.slice va k vc).ownBlock=some q->TB w2 q 87:=λq V=>dI a9 V;have a0:∀(q:Nat) (o:Obj),w2.heap[q]?=some o->(∀cs fz,o≠.cells cs 87 fz)->wa.heap[q]?=w2.heap[q]?:=λq o ho d6=>by
    have V:=(aV.1 ho).1;refine(I.block q (by simp;omega) (λe=>?_)).trans (Y.block q V);obtain⟨cs,fz,b0⟩:=tv q e.symm;rw[ho] at b0;injection b0 with b0;exact d6 cs fz b0
   have a5:=(a0 _ _ a4 (λcs fz e=>by cases e)).trans a4;have rA:wa.cell? ⟨w.heap.size+1,0,none⟩=some (.slice va k vc):=by simp[World.cell?,a5]
   have zA:=eG a5 0;refine U.out _ _ (λ_=>rA) ?_;clear U;simp only[Act.put,aW];refine bT 8 _ rfl (by kernel_rfl) (λKK U=>?_);go_simp;refine U.out _ _ (λ_=>rA) ?_;clear U;refine bT 9 _ rfl (by kernel_rfl) (λKK U=>?_);go_simp;refine U.out _ _ (λ_=>rA) ?_;clear U;refine bT 10 _ rfl (by kernel_rfl) (λKK U=>?_);go_simp;refine U.out _ _ (λh=>absurd rfl h) ?_;clear U;refine fJ (by kernel_rfl) ?_ _;have HO:Hid (bAw w (wa.setCell ⟨w.heap.size+1,0,none⟩ (.slice (some ⟨g,0,none⟩) (k+1) cp)) (k+1) (.slice (some ⟨g,0,none⟩) (k+1) cp) (F++[fb])):=by
    have a6:∀q,q≠w.heap.size+1->(wa.setCell ⟨w.heap.size+1,0,none⟩ (.slice (some ⟨g,0,none⟩) (k+1) cp)).heap[q]?=wa.heap[q]?:=λq V=>Below.heap_setCell _ _ _ _ V;obtain⟨es,c,hm⟩:=z.out.given.map;have a8:=z.out.given.lt;have d0:=(E.block _ a8).trans hm;have c5:g≠w.heap.size+1:=λe=>by
     obtain⟨cs,fz,V⟩:=dI W (g:=g) rfl;rw[e,a5] at V
     cases V
    have J:∀q (es:Array MapEntry) (c:Nat),w2.heap[q]?=some (.map es c)->q≠w.heap.size+1->(wa.setCell ⟨w.heap.size+1,0,none⟩ (.slice (some ⟨g,0,none⟩) (k+1) cp)).heap[q]?=w2.heap[q]?:=λq es c V hn=>(a6 q hn).trans (a0 q _ V (λcs fz e=>by cases e));refine⟨heap_setCell_same wa _ 0 _ 83 _ a5,z.out.given.same ((J _ es c d0 (by omega)).trans (E.block _ a8)),?_,by simp[z.out.len],?_,λb hb=>?_,?_⟩
    ·have e2:lT (F++[fb])=lT F++[.slice none 0 0,.map (some fb)]:=by simp[lT]
     rw[e2];exact W.kept (row:=some (w.heap.size+1)) ⟨rfl,rfl,rfl,by simp[World.setCell],λq _ V=>a6 q (λe=>V (by rw[e]))⟩ (.inr (by simp[Value.ownBlock];exact c5))
    ·rw[cP];refine⟨z.out.nd,by simp,λa ha b hb e=>?_⟩;rw[bE.1 hb] at e;have:=(z.out.files a ha).1.lt;omega
    ·rcases aG.1 hb with hb|hb
     ·obtain⟨h1,h2⟩:=z.out.files b hb;obtain⟨b4,c',b7⟩:=h1.map;have c7:=(E.block _ h1.lt).trans b7;exact⟨h1.same ((J b b4 c' c7 (by omega)).trans (E.block _ h1.lt)),h2⟩
     ·rw[bE.1 hb];obtain⟨b4,c',b7⟩:=b5.map;exact⟨b5.same (J fb b4 c' b7 (by omega)),by omega⟩
    ·have d8:=I.size;simp at d8;refine z.out.below.trans ⟨I.os.trans E.os,I.tape.trans E.tape,I.output.trans E.output,by simp[World.setCell];omega,λq V=>?_⟩;refine(a6 q (by omega)).trans ((I.block q (by simp;omega) (λe=>?_)).trans ((Y.block q (by omega)).trans (E.block q (by omega))));have:=(a9.lt q e.symm).1;omega
   clear W I c0 c4 a0 a5 rA zA a4 c3 Y E b5 Z z a9 tv;go_wp2
   go_roundw
   case rel=>exact⟨k+1,_,_,by omega,by go_num,HO⟩
   case measure=>simp[intOf];omega
  ·have e:k=n:=by omega
   subst e;obtain⟨va,vc,rfl⟩:=bC z.out.own;obtain⟨g,rfl,d1,a8⟩:=qM z.out.own (by omega);have e5:=z.out.len;have HO:Hid (∃cap fb,cap.nr=k/\cap.r=0/\(∀i,cap.oth i->∃b,cap.rep i=lK b)/\cF wr w.heap.size (w.heap.size+1) g cap w.heap.size (.slice none 0 0) [] fb 0 (λ_=>none) []):=by
    obtain⟨fb,a3⟩:∃fb,F[0]?=some fb:=⟨_,aC (by omega)⟩;have f4:=z.out.given.lt;rcases z.out.own.2 with ⟨h1,_⟩|⟨g',e6,b3,h1,c8,d2,d5,e8,e9,d9⟩
    ·cases h1
    ·cases h1
     have at_:∀i b,F[i]?=some b->b3[i * 2]?=some (.slice none 0 0)/\b3[i * 2+1]?=some (.map (some b)):=λi b hb=>by
      obtain⟨a1,a2⟩:=aL9 F i b hb;have hi:=(aB.1 hb).1;rw[<- d9,dN (by omega)] at a1 a2;exact⟨by simpa using a1,by simpa using a2⟩
     have K:∀i,i<k->F[i]?=some (F.getD i 0):=λi hi=>by
      rw[aQ,aC (by omega)];rfl
     have b2:∀i j,i<k->j<k->i≠j->F.getD i 0≠F.getD j 0:=λi j hi hj b6 e=>by
      have e1:=K i hi;have e2:=K j hj;rw[e] at e1;exact b6 ((List.getElem?_inj (by omega) z.out.nd).1 (e1.trans e2.symm))
     have c9:fb=F.getD 0 0:=by
      have:=a3.symm.trans (K 0 (by omega));simpa using this
     obtain⟨f1,f2⟩:=z.out.files fb (aD a3);refine⟨⟨vc,k,0,λi=>lK (F.getD i 0)⟩,fb,rfl,rfl,λi _=>⟨_,rfl⟩,⟨⟨by omega,by omega,by omega,by omega⟩,z.out.wb,⟨b3,d2,(at_ 0 fb a3).1,(at_ 0 fb a3).2,λi hi=>at_ i _ (K i hi.1)⟩,z.out.given,aK _ _ _ _,by simp,f1,by omega,⟨by show 0<k;omega,d5,by show k<=1000;omega,λi j hi hj b6=>⟨b2 i j hi.1 hj.1 b6,λq V=>by cases V⟩⟩,λi hi=>?_⟩⟩;obtain⟨g1,g2⟩:=z.out.files _ (aD (K i hi.1));exact⟨by show _<=F.getD i 0;omega,aK _ _ _ _,(λP hP=>by cases hP),g1,by show F.getD i 0≠_;omega,by rw[c9];exact b2 i 0 hi.1 (by omega) hi.2,λq V=>by cases V⟩
   have HB:=aO z.out.below;clear z d1 a8;go_wp2;go_ret2;obtain⟨cap,fb,k1,k2,k3,k4⟩:=HO.out;exact⟨_,g,cap,_,fb,rfl,k1,k2,k3,k4,HB.out⟩
open Go.ChangeMaps Go.MapKept
theorem aRz{w:World}{I n:Nat}{D:DataW Value}(h:w.ownsMap Tryz.prog 9 gU I n D):w.ownsMap Tryz.prog 9 gU I (Maps.size D) D:=by
 obtain⟨J,z,K,F,_,E⟩:=h;exact⟨J,z,K,F,by rw[E];simp[Maps.size,length_sorted],E⟩
theorem xM {α:Type} [DecidableEq α]:∀{L M:List α},L.Nodup->(∀x∈L,x∈M)->L.length<=M.length
 | [],_,_,_=>aE _
 | x::L,M,h,hs=>by
  rw[iC] at h;have z:=hs x (by simp);have I:=xM (L:=L) (M:=M.erase x) h.2 (λy E=>(List.mem_erase_of_ne (λe:y=x=>h.1 (e▸E))).2 (hs y (by simp[E])));rw[List.length_erase_of_mem z] at I;have:0<M.length:=List.length_pos_of_mem z;rw[aY];omega
theorem FK.few{w:World}{V n:Nat}{f:ByteArray->Option ByteArray}(h:FK w V f n){N:List ByteArray}(Y:∀x,(f x).isSome=true->x∈N):FK w V f N.length:=by
 obtain⟨D,h1,h2,U⟩:=h;obtain⟨k1,k2⟩:=zS h1;have J:Maps.size D=(strKeys D).length:=by
  obtain⟨K,I,_⟩:=h1.keysOf;rw[I];simp[strKeys,Maps.size]
 have a0:Maps.size D<=N.length:=by
  rw[J];have E:(strKeys D)⊆N.map (λx=>x.data.toList):=λx hx=>by
   have W:(f ⟨x.toArray⟩).isSome=true:=by
    rw[<- U];have e:kl ⟨x.toArray⟩=.string x:=by simp[kl]
    rw[e];exact(k2 x).1 hx
   refine aI.2 ⟨⟨x.toArray⟩,Y _ W,by simp⟩
  have:=xM k1 E;simpa using this
 obtain⟨K,z,Z,F,hn,I⟩:=aRz h1;exact⟨D,⟨K,z,Z,F,by omega,I⟩,h2,U⟩
theorem FK.del{w':World}{z n:Nat}{f:ByteArray->Option ByteArray}{D:DataW Value}(h2:∀x,D.atKey (kl x) (.held (rE ⟨#[]⟩))=.held (rE ((f x).getD ⟨#[]⟩)))(I:∀x,Maps.has D (kl x)=(f x).isSome)(E:Maps.Tidy D)(a:ByteArray)(h1:w'.ownsMap Tryz.prog 9 gU z n (D.del (kl a))):FK w' z (λx=>if x=a then none else f x) n:=by
 refine⟨_,h1,λx=>?_,λx=>?_⟩
 ·show _=DataW.held (rE ((if x=a then none else f x).getD ⟨#[]⟩));by_cases e:x=a
  ·subst e;rw[Maps.atKey_del_same,if_pos rfl];rfl
  ·rw[Maps.atKey_del_other (λq=>e (wF q)),h2,if_neg e]
 ·show _=(if x=a then none else f x).isSome;by_cases e:x=a
  ·subst e;rw[Maps.has_del_same,if_pos rfl];rfl
  ·rw[Maps.has_del_other (λq=>e (wF q)),I,if_neg e]
section
variable {B pb rg:Nat} {cap:qR} {gb:Nat} {pv:Value} {Ps:List PM} {fb fn:Nat} {f:ByteArray->Option ByteArray} {G:List cL}
theorem aU8{w:World}(h:cF w B pb rg cap gb pv Ps fb fn f G)(x:ByteArray)(hx:x.size<=1000)(hn:dJ x=true):
  Calls Tryz.prog 79 #[.pointer (some ⟨rg,cap.r * 2,none⟩),.string x] w λe w'=>e=.returned (.tuple #[.string ((f x).getD ⟨#[]⟩),.int .i64 (if (f x).isSome=true then 0 else 5)])/\Below w.heap.size w w':=by
 have U:Hid (Calls Tryz.prog 61 #[.string x] w λe w'=>e=.returned (.bool true)/\Below w.heap.size w w'):=by
  have:=iF x w;rw[hn] at this;exact this
 have E:=aO h;clear h hn;obtain⟨t,I⟩:∃t,(f x).getD ⟨#[]⟩=t:=⟨_,rfl⟩;rw[I]
 cases hs:(f x).isSome
 ·have K:t=⟨#[]⟩:=by rw[<- I];cases hf:f x<;>simp_all
  have V:=aO K;have J:Hid (∀u,Below w.heap.size w u->(Instr.lookup 85 (.map (some fb)) (.string x) true).run Tryz.prog u=.ok (.tuple #[.agg #[.string t],.bool false]) u):=λu Y=>by
   have:=(E.out.below Y).files.look x (by omega);rw[I,hs] at this;exact this
  clear I hs K;go_enter Tryz.func79,Tryz.ntmps79
  go_wp2_with fail
  refine U.out.mono ?_;rintro e Z ⟨rfl,z⟩;clear U;have c1:=(E.out.below z).r1;have W:=J.out Z z;have hr:=(E.out.below z).lts.2.1;clear J;go_wp2;go_ret2;rw[V.out];exact⟨rfl,z.alloc z.size _⟩
 ·have J:Hid (∀u,Below w.heap.size w u->(Instr.lookup 85 (.map (some fb)) (.string x) true).run Tryz.prog u=.ok (.tuple #[.agg #[.string t],.bool true]) u):=λu Y=>by
   have:=(E.out.below Y).files.look x (by omega);rw[I,hs] at this;exact this
  clear I hs;go_enter Tryz.func79,Tryz.ntmps79
  go_wp2_with fail
  refine U.out.mono ?_;rintro e Z ⟨rfl,z⟩;clear U;have c1:=(E.out.below z).r1;have W:=J.out Z z;have hr:=(E.out.below z).lts.2.1;clear J;go_wp2;go_ret2;exact⟨rfl,z.alloc z.size _⟩
theorem cF.few{w:World}(h:cF w B pb rg cap gb pv Ps fb fn f G){N:List ByteArray}(z:∀x,(f x).isSome=true->x∈N):cF w B pb rg cap gb pv Ps fb N.length f G:=
 ⟨h.lo,h.wb,h.row,h.given,h.own,h.chs,h.files.few z,h.ne,h.cap1,h.oths⟩
end
structure aV2 (rg ro fb N:Nat) (x:ByteArray) (t:ByteArray) (w:World):Prop where
 m:w.cell? ⟨rg,ro+1,none⟩=some (.map (some fb))
 n:w.cell? ⟨N,0,none⟩=some (.string x)
 t:w.cell? ⟨N,2,none⟩=some (.string t)
section
variable {B pb rg:Nat} {cap:qR} {gb:Nat} {pv:Value} {Ps:List PM} {fb fn:Nat} {f:ByteArray->Option ByteArray} {G:List cL}
theorem aLh{w:World}(h:cF w B pb rg cap gb pv Ps fb fn f G)(hB:B<=w.heap.size)(a4:fn<=1000)(x t:ByteArray)(hx:x.size<=1000):
  Calls Tryz.prog 190 #[.pointer (some ⟨rg,cap.r * 2,none⟩),.agg #[.string x,.bool true,.string t]] w λe w'=>e=.returned (.tuple #[])/\cF w' B pb rg cap gb pv Ps fb (fn+1) (λy=>if y=x then some t else f y) G/\Below B w w'/\bU (λ_=>True) w w'/\∀k,k<w.heap.size->k≠fb->w'.heap[k]?=w.heap[k]?:=by
 obtain⟨Z,U⟩:∃Z,Z=w.alloc (.cells #[.string x,.bool true,.string t] 118):=⟨_,rfl⟩;have K:Below w.heap.size w Z:=by rw[U];exact(Below.refl _ _).alloc (aA _) _
 have a1:Z.heap[w.heap.size]?=some (.cells #[.string x,.bool true,.string t] 118 (0,0)):=by rw[U];exact(aH w _).1
 have a5:w.heap.size<Z.heap.size:=by rw[U];simp
 obtain⟨r0,r1,r2⟩:=dW a1;have h1:=h.below K;have I:Hid (aV2 rg (cap.r * 2) fb w.heap.size x t Z.drew):=⟨h1.r1,r0,r2⟩;obtain⟨w2,a2,a0,J⟩:=h1.drew.files.put (by omega) x t (by omega);have E:Z.grownBy w2 (some fb):=⟨J.os,J.tape,J.output,J.size,J.block⟩;have HX:Hid (cF w2 B pb rg cap gb pv Ps fb (fn+1) (λy=>if y=x then some t else f y) G/\Below B w w2/\bU (λ_=>True) w w2/\∀k,k<w.heap.size->k≠fb->w2.heap[k]?=w.heap[k]?):=by
  refine⟨h1.map_put E h1.files.map (.inr rfl) (h1.given.same (E.block gb h1.lts.2.2.1 (by simp;exact h.ne))) a0,(K.mono hB).trans ⟨E.os,E.tape,E.output,E.size,λk hk=>E.block k (by omega) (by have:=h.lo;simp;omega)⟩,(bU.of_below K).trans (bU.of_map E h1.files.map),λk hk a3=>(E.block k (by omega) (by simp;exact a3)).trans (K.block k hk)⟩
 unfold rE at a2;clear h h1 a1 a0 J E K;go_enter Tryz.func190,Tryz.ntmps190
 go_wp2_with fail
 rw[<- U];clear U
 go_wp2_with fail
 refine dF (aV2 rg (cap.r * 2) fb w.heap.size x t) 9 (by kernel_rfl) ?_;refine zt 0 (v:=?z1) I.out (λY z=>?hy) ?_
 case hy=>obtain⟨s1,V,W⟩:=z;go_simp;with_reducible rfl
 simp only[Act.put,aW];refine zt 1 (v:=?z2) I.out (λY z=>?hy) ?_
 case hy=>obtain⟨s1,V,W⟩:=z;go_simp;with_reducible rfl
 simp only[Act.put];refine zt 2 (v:=?z3) I.out (λY z=>?hy) ?_
 case hy=>obtain⟨s1,V,W⟩:=z;go_simp;with_reducible rfl
 simp only[Act.put];refine zt 3 (v:=?z4) I.out (λY z=>?hy) ?_
 case hy=>obtain⟨s1,V,W⟩:=z;go_simp;with_reducible rfl
 simp only[Act.put];refine zt 4 (v:=?z5) I.out (λY z=>?hy) ?_
 case hy=>obtain⟨s1,V,W⟩:=z;go_simp;with_reducible rfl
 simp only[Act.put];refine zt 5 (v:=?z6) I.out (λY z=>?hy) ?_
 case hy=>obtain⟨s1,V,W⟩:=z;go_simp;with_reducible rfl
 simp only[Act.put];refine zt 6 (v:=?z7) I.out (λY z=>?hy) ?_
 case hy=>obtain⟨s1,V,W⟩:=z;go_simp;with_reducible rfl
 simp only[Act.put];refine zt 7 (v:=?z8) I.out (λY z=>?hy) ?_
 case hy=>obtain⟨s1,V,W⟩:=z;go_simp;with_reducible rfl
 simp only[Act.put];refine zt 8 (v:=?z9) I.out (λY z=>?hy) ?_
 case hy=>obtain⟨s1,V,W⟩:=z;go_simp;with_reducible rfl
 simp only[Act.put];refine bT 9 _ rfl (by kernel_rfl) (λKK hK=>?_);go_simp;refine hK.out _ _ (λh=>absurd rfl h) ?_;clear hK a2;refine fJ (by kernel_rfl) ?_ _;go_wp2;refine bodyPost_end (results_none rfl _ _ _) rfl ?_;exact⟨rfl,HX.out⟩
theorem aOm{w:World}(h:cF w B pb rg cap gb pv Ps fb fn f G)(hB:B<=w.heap.size)(a7:fn<=1000)(x:ByteArray)(hx:x.size<=1000):
  Calls Tryz.prog 190 #[.pointer (some ⟨rg,cap.r * 2,none⟩),.agg #[.string x,.bool false,.string ⟨#[]⟩]] w λe w'=>e=.returned (.tuple #[])/\cF w' B pb rg cap gb pv Ps fb fn (λy=>if y=x then none else f y) G/\Below B w w'/\bU (λ_=>True) w w'/\∀k,k<w.heap.size->k≠fb->w'.heap[k]?=w.heap[k]?:=by
 obtain⟨w1,Y⟩:∃w1,w1=w.alloc (.cells #[.string x,.bool false,.string ⟨#[]⟩] 118):=⟨_,rfl⟩;have U:Below w.heap.size w w1:=by rw[Y];exact(Below.refl _ _).alloc (aA _) _
 have Z:w1.heap[w.heap.size]?=some (.cells #[.string x,.bool false,.string ⟨#[]⟩] 118 (0,0)):=by rw[Y];exact(aH w _).1
 have a9:w.heap.size<w1.heap.size:=by rw[Y];simp
 obtain⟨r0,r1,r2⟩:=dW Z;have h1:=h.below U;have J:Hid (aV2 rg (cap.r * 2) fb w.heap.size x ⟨#[]⟩ w1.drew):=⟨h1.r1,r0,r2⟩;obtain⟨D,V,k2,k3⟩:=h1.drew.files;obtain⟨w2,a4,W,I⟩:=V.drop (fT Tryz.underlying9) Tryz.underlying85 (aDg (s:=x) (by unfold maxLen;omega)) 0;have K:=I.grown;have a3:=FK.del k2 k3 (V.tidy (fT Tryz.underlying9)) x W;have z:w1.grownBy w2 (some fb):=⟨K.os,K.tape,K.output,K.size,K.block⟩;have HX:Hid (cF w2 B pb rg cap gb pv Ps fb fn (λy=>if y=x then none else f y) G/\Below B w w2/\bU (λ_=>True) w w2/\∀k,k<w.heap.size->k≠fb->w2.heap[k]?=w.heap[k]?):=by
  refine⟨h1.map_put z h1.files.map (.inr rfl) (h1.given.same (z.block gb h1.lts.2.2.1 (by simp;exact h.ne))) a3,(U.mono hB).trans ⟨z.os,z.tape,z.output,z.size,λk hk=>z.block k (by omega) (by have:=h.lo;simp;omega)⟩,(bU.of_below U).trans (bU.of_map z h1.files.map),λk hk a6=>(z.block k (by omega) (by simp;exact a6)).trans (U.block k hk)⟩
 have a5:Hid (aV2 rg (cap.r * 2) fb w.heap.size x ⟨#[]⟩ w2):=by
  have a8:=h.lts.2.2.2;have e:=z.block w.heap.size (by omega) (by simp;omega);obtain⟨a0,a1,a2⟩:=dW (e.trans Z);exact⟨HX.out.1.r1,a0,a2⟩
 clear h h1 Z a3 K z U V W I k2 k3;go_enter Tryz.func190,Tryz.ntmps190
 go_wp2_with fail
 rw[<- Y];clear Y
 go_wp2_with fail
 refine dF (aV2 rg (cap.r * 2) fb w.heap.size x ⟨#[]⟩) 99 (by kernel_rfl) ?_;refine zt 0 (v:=?z10) J.out (λw0 E=>?hy) ?_
 case hy=>obtain⟨s1,s2,s3⟩:=E;go_simp;with_reducible rfl
 simp only[Act.put,aW];refine zt 1 (v:=?z11) J.out (λw0 E=>?hy) ?_
 case hy=>obtain⟨s1,s2,s3⟩:=E;go_simp;with_reducible rfl
 simp only[Act.put];refine zt 2 (v:=?z12) J.out (λw0 E=>?hy) ?_
 case hy=>obtain⟨s1,s2,s3⟩:=E;go_simp;with_reducible rfl
 simp only[Act.put];refine zt 3 (v:=?z13) J.out (λw0 E=>?hy) ?_
 case hy=>obtain⟨s1,s2,s3⟩:=E;go_simp;with_reducible rfl
 simp only[Act.put];refine zt 4 (v:=?z14) J.out (λw0 E=>?hy) ?_
 case hy=>obtain⟨s1,s2,s3⟩:=E;go_simp;with_reducible rfl
 simp only[Act.put];refine zt 5 (v:=?z15) J.out (λw0 E=>?hy) ?_
 case hy=>obtain⟨s1,s2,s3⟩:=E;go_simp;with_reducible rfl
 simp only[Act.put];refine bT 6 _ rfl (by kernel_rfl) (λKK hK=>?_);go_simp;refine hK.out _ _ (λ_=>a5.out) ?_;clear hK a4;refine fJ (by kernel_rfl) ?_ _;go_wp2;refine bodyPost_end (results_none rfl _ _ _) rfl ?_;exact⟨rfl,HX.out⟩
end
def dR(s:ByteArray->PL)(x:ByteArray):Option ByteArray:=if (s x).alive=true then some (dM (s x).S) else none
def bCf(y:ByteArray)(L:List ByteArray):Decidable (y∈L):=@List.instDecidableMemOfLawfulBEq _ instBEqOfDecidableEq _ y L
def sS(f:ByteArray->Option ByteArray)(s:ByteArray->PL)(L:List ByteArray)(y:ByteArray):Option ByteArray:=@ite _ (y∈L) (bCf y L) (dR s y) (f y)
theorem aJa(f:ByteArray->Option ByteArray)(s:ByteArray->PL):sS f s []=f:=by
 funext y;simp[sS]
theorem aF7(f:ByteArray->Option ByteArray)(s:ByteArray->PL)(L:List ByteArray)(x:ByteArray):(λy=>if y=x then dR s x else sS f s L y)=sS f s (L++[x]):=by
 funext y;unfold sS;by_cases e:y=x
 ·subst e;rw[if_pos rfl,if_pos (List.mem_append_right _ (List.mem_singleton_self _))]
 ·rw[if_neg e];by_cases h:y∈L
  ·rw[if_pos h,if_pos (iU _ h)]
  ·rw[if_neg h,if_neg (by rw[aG,bE];exact λo=>o.elim h e)]
section
variable {B pb rg:Nat} {cap:qR} {gb:Nat} {pv:Value} {Ps:List PM} {fb fn:Nat} {f:ByteArray->Option ByteArray} {G:List cL}
theorem aOn{w:World}(h:cF w B pb rg cap gb pv Ps fb fn f G)(I:B<=w.heap.size)(z:fn<=1000)(s:ByteArray->PL)(x:ByteArray)(J:x.size<=1000):
  Calls Tryz.prog 190 #[.pointer (some ⟨rg,cap.r * 2,none⟩),nZ s x] w λe w'=>e=.returned (.tuple #[])/\cF w' B pb rg cap gb pv Ps fb (fn+1) (λy=>if y=x then dR s x else f y) G/\Below B w w'/\bU (λ_=>True) w w'/\∀k,k<w.heap.size->k≠fb->w'.heap[k]?=w.heap[k]?:=by
 unfold nZ dR;by_cases E:(s x).alive=true
 ·rw[if_pos E,if_pos E];exact aLh h I z x _ J
 ·rw[if_neg E,if_neg E];refine(aOm h I z x J).mono ?_;rintro e w' ⟨h1,h2,U⟩;refine⟨h1,⟨h2.lo,h2.wb,h2.row,h2.given,h2.own,h2.chs,?_,h2.ne,h2.cap1,h2.oths⟩,U⟩;obtain⟨D,⟨K,c,V,W,k3,Y⟩,Z⟩:=h2.files;exact⟨D,⟨K,c,V,W,by omega,Y⟩,Z⟩
theorem aI9{s:ByteArray->PL}{L:List ByteArray}(z:∀x,x∈L↔(f x).isSome=true\/(s x).alive=true):sS f s L=dR s:=by
 funext y;unfold sS;by_cases h:y∈L
 ·rw[if_pos h]
 ·rw[if_neg h];have h1:¬ (f y).isSome=true:=λe=>h ((z y).2 (.inl e));have h2:¬ (s y).alive=true:=λe=>h ((z y).2 (.inr e));unfold dR;rw[if_neg h2]
  cases E:f y
  ·rfl
  ·rw[E] at h1;simp at h1
end
theorem rG(i:cL):(dT i).size=4:=rfl
def aOb(i:cL):List UInt8:=(dT i).data.toList++[10]
def sB(ids:List cL):List UInt8:=ids.flatMap aOb
theorem aW9(i:cL):(aOb i).length=5:=rfl
theorem aOz:∀ids:List cL,(sB ids).length=5 * ids.length
 | []=>rfl
 | i::ids=>by
  show (aOb i++sB ids).length=_;rw[aJ,aOz ids,aW9,aY];omega
theorem aUk(Ps:List PM){k:Nat}(z:k<Ps.length):sB ((Ps.take (k+1)).map (·.id))=sB ((Ps.take k).map (·.id))++aOb Ps[k].id:=by
 rw[aF z,bF];simp[sB]
theorem aUd(Ps:List PM)(pv:Value)(w:World)(hp:PV w pv Ps)(hl:Ps.length<=1000):
  Calls Tryz.prog 67 #[pv] w λe w'=>e=.returned (.string ⟨(sB (Ps.map (·.id))).toArray⟩)/\Below w.heap.size w w':=by
 have b3:=aO hp;obtain⟨pa,pc,rfl,b7⟩:=hp;clear b7;obtain⟨K,z⟩:∃K,K=w.alloc (.cells #[.pointer none,.slice none 0 0] 158):=⟨_,rfl⟩;have b4:Below w.heap.size w K:=by rw[z];exact(Below.refl _ _).alloc (aA _) _
 have hR:K.heap[w.heap.size]?=some (.cells #[.pointer none,.slice none 0 0] 158 (0,0)):=by rw[z];exact(aH w _).1
 have c0:w.heap.size<K.heap.size:=by rw[z];simp
 have a0:Hid (Lib.IsBuilderF 158 5 w.heap.size w.heap.size (Lib.byteCells []) K):=.inl ⟨aA _,.slice none 0 0,hR,aTl (aK _ _ _ _),by simp[Value.ownBlock]⟩;clear hR;go_enter Tryz.func67,Tryz.ntmps67;go_wp2;rw[<- z];clear z
 go_loopw [8] (λx wr=>∃k:Nat,k<=Ps.length/\x=.int .i64 k/\Hid (Lib.IsBuilderF 158 5 w.heap.size w.heap.size (Lib.byteCells (sB ((Ps.take k).map (·.id)))) wr)/\Below w.heap.size K wr) (λx _=>Ps.length - (intOf x).toNat)
 case atStart=>exact⟨0,aE _,rfl,by show Lib.IsBuilderF _ _ _ _ _ _;rw[zE];exact a0.out,Below.refl _ _⟩
 case round=>
  clear a0;obtain⟨k,c2,rfl,HB,W⟩:=hrel;have c1:=W.size;have J:Below w.heap.size w wr:=b4.trans W;have Y:(sB ((Ps.take k).map (·.id))).length<=5000:=by rw[aOz];simp;omega
  by_cases b0:k<Ps.length
  ·obtain⟨P,hP⟩:∃P,Ps[k]=P:=⟨_,rfl⟩;have a8:Ps[k]?=some P:=by rw[aC b0,hP]
   have HG:Hid (sB ((Ps.take (k+1)).map (·.id))=sB ((Ps.take k).map (·.id))++aOb P.id):=by show _=_;rw[aUk Ps b0,hP]
   obtain⟨_,_,e1,a7⟩:=b3.out.below J (aA _)
   cases e1
   obtain⟨b,o,rfl,hb,d0,d1,d2,d3,d4,a9⟩:=a7 k P a8;obtain⟨qa,qn,qc,b1⟩:=a9.cvS;rw[b1] at d4;obtain⟨A,hA⟩:∃A,sB ((Ps.take k).map (·.id))=A:=⟨_,rfl⟩;rw[hA] at HG HB Y;obtain⟨w4,E⟩:∃w4,w4=wr.alloc (.cells #[.int .u8 P.id.a,.int .u8 P.id.b,.int .u8 P.id.c,.int .u8 P.id.d,.slice qa qn qc] 149):=⟨_,rfl⟩;have V:Below wr.heap.size wr w4:=by rw[E];exact(Below.refl _ _).alloc (aA _) _
   have Z:=(aH wr (.cells #[.int .u8 P.id.a,.int .u8 P.id.b,.int .u8 P.id.c,.int .u8 P.id.d,.slice qa qn qc] 149)).1;rw[<- E] at Z;have c3:wr.heap.size<w4.heap.size:=by rw[E];simp
   obtain⟨q0,q1,q2,q3,q4⟩:=sJ Z;have a1:=aO (aBr HB.out V);have U:=aO (yT P.id w4);obtain⟨T,hT⟩:∃T,dT P.id=T:=⟨_,rfl⟩;have a4:T.size=4:=by rw[<- hT];rfl
   rw[hT] at U;have b2:Hid (aOb P.id=(T++(⟨#[10]⟩:ByteArray)).data.toList):=by show _=_;unfold aOb;rw[hT];simp
   have b8:(T++(⟨#[10]⟩:ByteArray)).size<=5:=by rw[aN,a4];decide
   have b9:T.size+1<=5:=by omega
   clear hA a7 a9 b1 a8 hb hT a4
   go_wp2_with fail
   rw[<- E];clear E
   go_wp2_with fail
   refine U.out.mono ?_;rintro e w5 ⟨rfl,I⟩;have a2:=aBr a1.out I;have c4:=I.size;have a5:Below w.heap.size K w5:=(W.trans (V.mono (by omega))).trans (I.mono (by omega));have HW:Hid (Calls Tryz.prog 114 #[.pointer (some ⟨w.heap.size,0,none⟩),.string (T++(⟨#[10]⟩:ByteArray))] w5 λe w'=>e=.returned (.tuple #[.int .i64 (T++(⟨#[10]⟩:ByteArray)).size,.nilIface])/\(Lib.BuilderAtF 158 5 w.heap.size w.heap.size (.pointer (some ⟨w.heap.size,0,none⟩)) (Lib.byteCells A++Lib.strCells (T++(⟨#[10]⟩:ByteArray))) w'/\Below w.heap.size w5 w'/\Lib.OthersKept 5 (some w.heap.size) w5 w')):=Tryz.Builder_WriteString_k _ _ (Lib.byteCells A) (T++(⟨#[10]⟩:ByteArray)) w5 a2 (by rw[Lib.byteCells_length];omega) (by omega);clear U a1 a2 I V Z d0 d1 d2 d3 d4 q0 q1 q2 q3 q4
   go_wp2_with fail
   refine HW.out.mono ?_;rintro e w6 ⟨rfl,a3,b5,_⟩;clear HW;rw[Lib.strCells_eq,<- oD] at a3;have a6:=a5.trans b5;go_wp2
   go_roundw
   case rel=>exact⟨k+1,by omega,by go_num,.inr (by rw[HG.out,b2.out];exact a3),a6⟩
   case measure=>simp[intOf];omega
  ·have e:k=Ps.length:=by omega
   subst e;rw[bD] at HB Y;obtain⟨A,hA⟩:∃A,sB (Ps.map (·.id))=A:=⟨_,rfl⟩;rw[hA] at HB Y;have HA:=aO hA;have HS:Hid (Calls Tryz.prog 116 #[.pointer (some ⟨w.heap.size,0,none⟩)] wr λe w'=>e=.returned (.string ⟨A.toArray⟩)/\(Lib.IsBuilderF 158 5 w.heap.size w.heap.size (Lib.byteCells A) w'/\Below w.heap.size wr w'/\Lib.OthersKept 5 (some w.heap.size) wr w')):=Tryz.Builder_String_any_k _ _ A wr HB.out (by omega);clear HB hA
   go_wp2_with fail
   refine HS.out.mono ?_;rintro e w4 ⟨rfl,_,b6,_⟩;clear HS;go_wp2;go_ret;exact⟨by rw[HA.out];rfl,J.trans b6⟩
abbrev aYn:ByteArray:=⟨#[108,111,103]⟩
abbrev aHn:ByteArray:=⟨#[114,101,118,101,114,116]⟩
theorem aNa(pb rg J wb wo z V:Nat)(pv:Value)(w:World)(Q:ByteArray->World->Prop)(Z:w.cell? ⟨wb,wo,none⟩=some (.string aYn))(U:1<=z)(Y:w.cell? ⟨rg,J,none⟩=some pv)
  (I:Calls Tryz.prog 67 #[pv] w λe w'=>∃x,e=.returned (.string x)/\Q x w') :
  Calls Tryz.prog 45 #[.pointer (some ⟨pb,0,none⟩),.pointer (some ⟨rg,J,none⟩),.slice (some ⟨wb,wo,none⟩) z V] w λe w'=>∃x,e=.returned (.tuple #[.string x,.int .i64 0])/\Q x w':=by
 have E:=aO I;clear I;have W:(0:Int)<(z:Int):=by omega
 go_enter Tryz.func45,Tryz.ntmps45
 go_wp2_with fail
 refine E.out.mono ?_;rintro e w' ⟨x,rfl,K⟩;clear E;go_wp2;go_ret2;exact⟨x,rfl,K⟩
theorem aFi(pb rg J wb wo z V:Nat)(w:World)(Q:World->Prop)(Y:w.cell? ⟨wb,wo,none⟩=some (.string aHn))(U:1<=z)
  (I:Calls Tryz.prog 71 #[.pointer (some ⟨rg,J,none⟩)] w λe w'=>e=.returned (.tuple #[])/\Q w') :
  Calls Tryz.prog 45 #[.pointer (some ⟨pb,0,none⟩),.pointer (some ⟨rg,J,none⟩),.slice (some ⟨wb,wo,none⟩) z V] w λe w'=>e=.returned (.tuple #[.string ⟨#[]⟩,.int .i64 0])/\Q w':=by
 have E:=aO I;clear I;have W:(0:Int)<(z:Int):=by omega
 go_enter Tryz.func45,Tryz.ntmps45
 go_wp2_with fail
 refine E.out.mono ?_;rintro e w' ⟨rfl,K⟩;clear E;go_wp2;go_ret2;exact⟨rfl,K⟩
structure aV9 (N rg ro g o T mb:Nat) (i:cL) (pv cv:Value) (w:World):Prop where
 i0:w.cell? ⟨N,0,none⟩=some (.int .u8 i.a)
 i1:w.cell? ⟨N,1,none⟩=some (.int .u8 i.b)
 i2:w.cell? ⟨N,2,none⟩=some (.int .u8 i.c)
 i3:w.cell? ⟨N,3,none⟩=some (.int .u8 i.d)
 r0:w.cell? ⟨rg,ro,none⟩=some pv
 p0:w.cell? ⟨g,o,none⟩=some (.int .u8 i.a)
 p1:w.cell? ⟨g,o+1,none⟩=some (.int .u8 i.b)
 p2:w.cell? ⟨g,o+2,none⟩=some (.int .u8 i.c)
 p3:w.cell? ⟨g,o+3,none⟩=some (.int .u8 i.d)
 p4:w.cell? ⟨g,o+4,none⟩=some cv
 tr:w.cell? ⟨T,0,none⟩=some (.map (some mb))
theorem aT4{Ps:List PM}(z:(Ps.map (·.id)).Nodup){k:Nat}{P:PM}(J:Ps[k]?=some P):(Ps.findIdx? λR=>decide (R.id=P.id))=some k:=by
 obtain⟨I,E⟩:=aB.1 J;rw[cQ];refine⟨I,by rw[E];simp,λj K=>?_⟩;simp only[decide_eq_true_eq];intro e;have h1:(Ps.map (·.id))[j]'(by simp;omega)=(Ps.map (·.id))[k]'(by simpa using I):=by
  rw[aV4,aV4,E,e]
 have:=(List.getElem_inj z).1 h1;omega
theorem hU.pre9{A C:List PM}{U:Nat->Nat->ByteArray->PL}{E:Nat->Nat}(h:hU (A++C) U E):hU A U E:=by
 have I:∀{p:Nat} {P:PM},A[p]?=some P->(A++C)[p]?=some P:=λ{p P} K=>by
  rw[aZ (aB.1 K).1];exact K
 exact⟨h.start,λp P z=>h.next p P (I z),λp P k c z J=>h.other p P k c (I z) J,λp P k c z J=>h.app p P k c (I z) J,λP z=>h.names P (aG.2 (.inl z)),λP z=>h.few P (aG.2 (.inl z)),λp P z=>h.count p P (I z),h.small⟩
theorem CV.slice_{w:World}{v:Value}{Cs:List (ByteArray×fM)}(h:CV w v Cs):∃a n c,v=.slice a n c:=by
 obtain⟨a,c,e,_⟩:=h;exact⟨a,_,c,e⟩
section
variable {w:World} {B pb rg:Nat} {cap:qR} {gb:Nat} {pv:Value} {Ps:List PM} {fb fn:Nat} {f:ByteArray->Option ByteArray} {G:List cL}
def aG6(i:cL)(T:ByteArray):ByteArray:=(dT i++⟨#[10]⟩)++T
theorem cF.show_(h:cF w B pb rg cap gb pv Ps fb fn f G){st:Nat->Nat->ByteArray->PL}{c3:Nat->Nat}(hS:hU Ps st c3){k:Nat}{P:PM}(hk:Ps[k]?=some P)(e3:(Ps.map (·.id)).Nodup)(hl:Ps.length<=1000)(t:Nat->ByteArray)(ht:∀j c,P.Cs[j]?=some c->fU c.2 c.1 (st k 0 c.1) (t j))(c7:∀j,(t j).size<=1000000)(c4:P.Cs.length<=300):
  Calls Tryz.prog 69 #[.pointer (some ⟨rg,cap.r * 2,none⟩),.agg #[.int .u8 P.id.a,.int .u8 P.id.b,.int .u8 P.id.c,.int .u8 P.id.d]] w λe w'=>e=.returned (.tuple #[.string (aG6 P.id ⟨(dK t P.Cs.length).toArray⟩),.int .i64 0])/\Below w.heap.size w w':=by
 obtain⟨E,a9⟩:∃E,E=w.alloc (.cells #[.int .u8 P.id.a,.int .u8 P.id.b,.int .u8 P.id.c,.int .u8 P.id.d] 113):=⟨_,rfl⟩;have c5:Below w.heap.size w E:=by rw[a9];exact(Below.refl _ _).alloc (aA _) _
 have b6:=(aH w (.cells #[.int .u8 P.id.a,.int .u8 P.id.b,.int .u8 P.id.c,.int .u8 P.id.d] 113)).1;rw[<- a9] at b6;have f5:w.heap.size<E.heap.size:=by rw[a9];simp
 obtain⟨i0,i1,i2,i3⟩:=iV b6;have h1:=h.below c5;have f3:=(aB.1 hk).1;have b3:=aD hk;have HC:Hid (Calls Tryz.prog 122 #[.pointer (some ⟨rg,cap.r * 2,none⟩),.agg #[.int .u8 P.id.a,.int .u8 P.id.b,.int .u8 P.id.c,.int .u8 P.id.d]] E λe w'=>e=.returned (.int .i64 (k:Nat))/\Below E.heap.size E w'):=by
  have:=aA8 Ps pv P.id rg (cap.r * 2) E h1.view (by omega) h1.r0 h1.lts.2.1;rw[aT4 e3 hk] at this;exact this
 obtain⟨g,cp,f4,e8⟩:∃g cp,pv=.slice (some ⟨g,0,none⟩) Ps.length cp/\Ps.length<=cp:=by
  obtain⟨ao,cc,hv⟩:=bC h.own;subst hv;obtain⟨g,rfl,k1,_⟩:=qM h.own (by omega);exact⟨g,cc,rfl,aA5 h.own⟩
 subst f4;obtain⟨pa,pn,pc,c6⟩:=(h1.chs P b3).slice_;have f7:(⟨(dK t P.Cs.length).toArray⟩:ByteArray).size<=300000000:=by
  have h9:=qQ t 1000000 c7 P.Cs.length;have e9:(⟨(dK t P.Cs.length).toArray⟩:ByteArray).size=(dK t P.Cs.length).length:=jC;have:P.Cs.length * 1000000<=300 * 1000000:=dV _ c4;omega
 obtain⟨TT,b4⟩:∃TT:ByteArray,(⟨(dK t P.Cs.length).toArray⟩:ByteArray)=TT:=⟨_,rfl⟩;have b8:hU (Ps.take k) st c3:=by
  have e:=bV k Ps;rw[<- e] at hS;exact hS.pre9
 have b7:(Ps.take k).length=k:=by rw[bR];omega
 have Y:∀u,Below E.heap.size E u->PV u (.slice (some ⟨g,0,none⟩) k cp) (Ps.take k):=λu V=>by
  obtain⟨ao,cc,e,e7⟩:=(h1.below V).view;simp only[lC,true_and] at e;obtain⟨rfl,rfl⟩:=e;refine⟨_,cp,by rw[b7],λj R hj=>e7 j R ?_⟩;have e1:=(aB.1 hj).1;rw[b7] at e1;rw[dN e1] at hj;exact hj
 have HG:Hid (∀u,Below E.heap.size E u->Calls Tryz.prog 123 #[.slice (some ⟨g,0,none⟩) k cp] u λe w'=>∃J n,e=.returned (.agg #[.map (some J)])/\cK w' J (st k 0) n/\n<=100000/\Below u.heap.size u w'):=λu V=>by
  have:=aF3 (Ps.take k) _ st c3 u (Y u V) (b8.grows (Y u V)) (by omega);rw[b7] at this;refine this.mono ?_;rintro e w' ⟨J,n,k1,k2,k3,_,k5⟩;exact⟨J,n,k1,k2,k3,k5⟩
 have HT:Hid (∀u J n,Below E.heap.size E u->cK u J (st k 0) n->n<=100000->Calls Tryz.prog 113 #[.agg #[.int .u8 P.id.a,.int .u8 P.id.b,.int .u8 P.id.c,.int .u8 P.id.d,.slice pa pn pc],.agg #[.map (some J)]] u λe w'=>e=.returned (.string TT)/\Below u.heap.size u w'):=λu J n V hT hn=>by
  have hc:=(h1.below V).chs P b3;rw[c6] at hc;have:=aHj P.id hc hT (by omega) c4 (λc e6=>hS.names P b3 c e6) t ht c7;rw[b4] at this;exact this
 have c1:Hid (∀u T J,Below E.heap.size E u->u.cell? ⟨T,0,none⟩=some (.map (some J))->aV9 w.heap.size rg (cap.r * 2) g (k * 5) T J P.id (.slice (some ⟨g,0,none⟩) Ps.length cp) (.slice pa pn pc) u):=λu T J V hT=>by
  have e4:=h1.below V;obtain⟨a0,a1,a2,a3,a4⟩:=bB2 e4.own hk;rw[c6] at a4;obtain⟨j0,j1,j2,j3⟩:=iV ((V.block _ f5).trans b6);exact⟨j0,j1,j2,j3,e4.r0,a0,a1,a2,a3,a4,hT⟩
 have c0:Hid (∀u,Below E.heap.size E u->u.cell? ⟨rg,cap.r * 2,none⟩=some (.slice (some ⟨g,0,none⟩) Ps.length cp)):=λu V=>(h1.below V).r0;have c8:=aO c5;have e0:=rG P.id;have z1:¬ 9223372036854775807<(dT P.id).size+1:=by omega
 have z2:¬ 9223372036854775807<(dT P.id).size+1+TT.size:=by rw[<- b4];omega
 obtain⟨IT,b2⟩:∃IT,dT P.id=IT:=⟨_,rfl⟩;have d3:Hid (∀u,Calls Tryz.prog 115 #[.agg #[.int .u8 P.id.a,.int .u8 P.id.b,.int .u8 P.id.c,.int .u8 P.id.d]] u λe w'=>e=.returned (.string IT)/\Below u.heap.size u w'):=λu=>by
  have:=yT P.id u;rw[b2] at this;exact this
 obtain⟨n,hn⟩:∃n,Ps.length=n:=⟨_,rfl⟩;rw[hn] at c1 c0 f3 e8;rw[b2] at z1 z2;have d0:Hid (aG6 P.id ⟨(dK t P.Cs.length).toArray⟩=(IT++⟨#[10]⟩)++TT):=by show _=_;unfold aG6;rw[b2,b4]
 have kc:(k:Int)<=(cp:Int):=by omega
 have kn:(k:Int)<(n:Int):=by omega
 clear h h1 c5 b6 hS e3 hl ht c7 c4 Y b8 b7 c6 f7 b4 e0 b2 hn b3 hk;go_enter Tryz.func69,Tryz.ntmps69
 go_wp2_with fail
 rw[<- a9];clear a9
 go_wp2_with fail
 refine HC.out.mono ?_;rintro e w2 ⟨rfl,b5⟩;clear HC i0 i1 i2 i3;have r2:=c0.out w2 b5;have b9:=aO b5;have d1:=HG.out w2 b5;have d2:=aO d1;clear b5 d1 HG
 go_wp2_with fail
 refine d2.out.mono ?_;rintro e w3 ⟨J,m,rfl,d5,hm,d6⟩;clear d2;obtain⟨K,b0⟩:∃K,K=w3.alloc (.cells #[.map (some J)] 121):=⟨_,rfl⟩;have a6:Below w3.heap.size w3 K:=by rw[b0];exact(Below.refl _ _).alloc (aA _) _
 have e2:K.heap[w3.heap.size]?=some (.cells #[.map (some J)] 121 (0,0)):=by rw[b0];exact(aH w3 _).1
 have f6:w3.heap.size<K.heap.size:=by rw[b0];simp
 have a5:Below E.heap.size E w3:=b9.out.trans (d6.mono b9.out.size);have U:Below E.heap.size E K:=a5.trans (a6.mono a5.size);have d9:Below K.heap.size K K.drew:=(Below.refl _ _).drew;have a8:∀u,Below K.heap.size K u->u.cell? ⟨w3.heap.size,0,none⟩=some (.map (some J)):=λu V=>by
  have:=(V.block _ f6).trans e2;simp[World.cell?,this]
 have b1:Hid (∀u,Below K.heap.size K u->aV9 w.heap.size rg (cap.r * 2) g (k * 5) w3.heap.size J P.id (.slice (some ⟨g,0,none⟩) n cp) (.slice pa pn pc) u):=λu V=>c1.out u _ J (U.trans (V.mono U.size)) (a8 u V);have I:=aO (b1.out _ d9);have d4:Hid (∀u,Below K.heap.size K u->Calls Tryz.prog 113 #[.agg #[.int .u8 P.id.a,.int .u8 P.id.b,.int .u8 P.id.c,.int .u8 P.id.d,.slice pa pn pc],.agg #[.map (some J)]] u λe w'=>e=.returned (.string TT)/\Below u.heap.size u w'):=λu V=>HT.out u J m (U.trans (V.mono U.size)) ((d5.below a6 (aA _)).below V (aA _)) hm;have c9:Hid (Below w.heap.size w K):=c8.out.trans (U.mono (by omega));clear d5 hm d6 a6 e2 a5 U a8 c1 HT c0 r2 b9 c8 d9
 go_wp2_with fail
 rw[<- b0];clear b0;refine dF (aV9 w.heap.size rg (cap.r * 2) g (k * 5) w3.heap.size J P.id (.slice (some ⟨g,0,none⟩) n cp) (.slice pa pn pc)) 99 (by kernel_rfl) ?_;refine zt 0 (v:=?z0) I.out (λw0 z=>?hy) ?_
 case hy=>obtain⟨s0,s1,s2,s3,s4,t0,t1,t2,t3,t4,u0⟩:=z;go_simp;with_reducible rfl
 simp only[Act.put,aW];refine zt 3 (v:=?z3) I.out (λw0 z=>?hy) ?_
 case hy=>obtain⟨s0,s1,s2,s3,s4,t0,t1,t2,t3,t4,u0⟩:=z;go_simp;with_reducible rfl
 simp only[Act.put];refine zt 4 (v:=?z4) I.out (λw0 z=>?hy) ?_
 case hy=>obtain⟨s0,s1,s2,s3,s4,t0,t1,t2,t3,t4,u0⟩:=z;go_simp;with_reducible rfl
 simp only[Act.put];refine zt 5 (v:=?z5) I.out (λw0 z=>?hy) ?_
 case hy=>obtain⟨s0,s1,s2,s3,s4,t0,t1,t2,t3,t4,u0⟩:=z;go_simp;with_reducible rfl
 simp only[Act.put];refine zt 6 (v:=?z6) I.out (λw0 z=>?hy) ?_
 case hy=>obtain⟨s0,s1,s2,s3,s4,t0,t1,t2,t3,t4,u0⟩:=z;go_simp;with_reducible rfl
 simp only[Act.put];refine zt 7 (v:=?z7) I.out (λw0 z=>?hy) ?_
 case hy=>obtain⟨s0,s1,s2,s3,s4,t0,t1,t2,t3,t4,u0⟩:=z;go_simp;with_reducible rfl
 simp only[Act.put];refine zt 8 (v:=?z8) I.out (λw0 z=>?hy) ?_
 case hy=>obtain⟨s0,s1,s2,s3,s4,t0,t1,t2,t3,t4,u0⟩:=z;go_simp;with_reducible rfl
 simp only[Act.put];refine zt 9 (v:=?z9) I.out (λw0 z=>?hy) ?_
 case hy=>obtain⟨s0,s1,s2,s3,s4,t0,t1,t2,t3,t4,u0⟩:=z;go_simp;with_reducible rfl
 simp only[Act.put];refine zt 10 (v:=?z10) I.out (λw0 z=>?hy) ?_
 case hy=>obtain⟨s0,s1,s2,s3,s4,t0,t1,t2,t3,t4,u0⟩:=z;go_simp;with_reducible rfl
 simp only[Act.put];refine bT 1 _ rfl (by kernel_rfl) (λKK hK=>?_);go_simp;refine(d3.out _).mono ?_;rintro e w5 ⟨rfl,d7⟩;dsimp only;have W:Below K.heap.size K w5:=(Below.refl _ K).drew.trans d7;have c2:=aO (b1.out w5 W);refine hK.out _ _ (λ_=>c2.out) ?_;clear hK;refine zt 2 (v:=?z2) c2.out (λw0 z=>?hy) ?_
 case hy=>obtain⟨s0,s1,s2,s3,s4,t0,t1,t2,t3,t4,u0⟩:=z;go_simp;with_reducible rfl
 simp only[Act.put,aW];refine bT 11 _ rfl (by kernel_rfl) (λKK hK=>?_);go_simp;refine(d4.out w5 W).mono ?_;rintro e w6 ⟨rfl,d8⟩;dsimp only;have a7:Below K.heap.size K w6:=W.trans (d8.mono W.size);have Z:=aO (b1.out w6 a7);refine hK.out _ _ (λ_=>Z.out) ?_;clear hK;refine zt 12 (v:=?z12) Z.out (λw0 z=>?hy) ?_
 case hy=>obtain⟨s0,s1,s2,s3,s4,t0,t1,t2,t3,t4,u0⟩:=z;go_simp;with_reducible rfl
 simp only[Act.put,aW];refine bT 13 _ rfl (by kernel_rfl) (λKK hK=>?_);go_simp;refine hK.out _ _ (λ_=>Z.out) ?_;clear hK;refine bT 14 _ rfl (by kernel_rfl) (λKK hK=>?_);go_simp;refine hK.out _ _ (λ_=>Z.out) ?_;clear hK;refine fJ (by kernel_rfl) ?_ _;have e5:Hid (Below w.heap.size w w6):=c9.out.trans (a7.mono c9.out.size);clear d7 W d8 a7 c2 Z b1 d4 d3 I
 go_wp2_with fail
 go_ret2;rw[d0.out];exact⟨rfl,e5.out⟩
end
section
variable {B pb rg:Nat} {cap:qR} {gb:Nat} {pv:Value} {Ps:List PM} {fb fn:Nat} {f:ByteArray->Option ByteArray} {G:List cL}
theorem aEf{w:World}(h:cF w B pb rg cap gb pv Ps fb fn f G){E:Nat->Nat->ByteArray->PL}{a0:Nat->Nat}(hs:hU Ps E a0)(a4:Ps.length<=1000)(x:ByteArray)(hx:x.size<=1000)(Y:dJ x=true)(K:(E Ps.length 0 x).alive=false)(hS:(E Ps.length 0 x).S.length<=1000000)(hT:(dM (E Ps.length 0 x).S).size<=1000000000):
  Calls Tryz.prog 46 #[.pointer (some ⟨rg,cap.r * 2,none⟩),.string x] w λe w'=>e=.returned (.tuple #[.string ⟨#[]⟩,.int .i64 5])/\Below w.heap.size w w':=by
 have HN:Hid (Calls Tryz.prog 61 #[.string x] w λe w'=>e=.returned (.bool true)/\Below w.heap.size w w'):=by
  have:=iF x w;rw[Y] at this;exact this
 have W:nZ (E Ps.length 0) x=.agg #[.string x,.bool false,.string ⟨#[]⟩]:=by unfold nZ;rw[if_neg (by rw[K];simp)];rfl
 have HF:Hid (∀w' z n,n<=100000->cK w' z (E Ps.length 0) n->Calls Tryz.prog 78 #[.agg #[.map (some z)],.string x] w' λe a3=>e=.returned (.agg #[.string x,.bool false,.string ⟨#[]⟩])/\Below w'.heap.size w' a3):=λw' z n hn Z=>by
  have:=qI (E Ps.length 0) z n x (by omega) w' Z (by omega) hS hT;rw[W] at this;exact this
 have HK:Hid (∀u,Below w.heap.size w u->Calls Tryz.prog 77 #[.pointer (some ⟨rg,cap.r * 2,none⟩)] u λe w'=>∃z n,e=.returned (.agg #[.map (some z)])/\cK w' z (E Ps.length 0) n/\n<=100000/\u.heap.size<=z/\Below u.heap.size u w'):=λu hu=>by
  have h1:=h.below hu;exact wE hs h1.view (by omega) h1.r0 h1.lts.2.1
 clear h hs W hT hS K Y;go_enter Tryz.func46,Tryz.ntmps46
 go_wp2_with fail
 refine HN.out.mono ?_;rintro e w1 ⟨rfl,I⟩;clear HN
 go_wp2_with fail
 refine(HK.out w1 I).mono ?_;rintro e w2 ⟨z,n,rfl,Z,hn,_,U⟩;have J:=aO (HF.out w2 z n hn Z);have a2:=I.size;have a5:=U.size;clear HK HF Z
 go_wp2_with fail
 refine J.out.mono ?_;rintro e w3 ⟨rfl,a1⟩;clear J;have V:Below w.heap.size w w3:=(I.trans (U.mono a2)).trans (a1.mono (by omega));go_wp2;go_ret2;exact⟨rfl,V.alloc V.size _⟩
theorem aRd{w:World}(h:cF w B pb rg cap gb pv Ps fb fn f G){E:Nat->Nat->ByteArray->PL}{K:Nat->Nat}(hs:hU Ps E K)(I:Ps.length<=1000)(x:ByteArray)(hx:x.size<=1000)(J:dJ x=true)(U:(E Ps.length 0 x).S.length<=1000000)(V:(dM (E Ps.length 0 x).S).size<=1000000000):
  Calls Tryz.prog 18 #[.pointer (some ⟨pb,0,none⟩),.int .i64 cap.r,.string x] w λe w'=>e=.returned (.tuple #[.string (if (E Ps.length 0 x).alive=true then dM (E Ps.length 0 x).S else ⟨#[]⟩),.int .i64 (if (E Ps.length 0 x).alive=true then 0 else 5)])/\Below w.heap.size w w':=by
 cases z:(E Ps.length 0 x).alive
 ·have Y:Hid (Calls Tryz.prog 42 #[.pointer (some ⟨pb,0,none⟩),.int .i64 cap.r] w λe w'=>e=.returned (.bool true)/\w'=w):=kF h;have Z:=aO (aEf h hs I x hx J z U V);have c0:=h.c0;have a0:=h.cap1.1;have W:=h.cap1.2.1;have g1:(cap.r:Int)<(cap.nr:Int):=by omega
  clear h hs z U V;go_enter Tryz.func18,Tryz.ntmps18
  go_wp2_with fail
  refine Y.out.mono ?_;rintro e w0 ⟨rfl,rfl⟩;clear Y
  go_wp2_with fail
  refine Z.out.mono ?_;rintro e w1 ⟨rfl,h2⟩;clear Z;go_wp2;go_ret2;exact⟨rfl,h2⟩
 ·exact aLb h hs I x hx J z U V
end
def aKc(f:ByteArray->Option ByteArray)(s:ByteArray->PL)(x:ByteArray):Prop:=x.size<=1000/\(s x).S.length<=9000/\(dM (s x).S).size<=1000000000/\aVx s (oN f x)
end Go.Proofs.YtgdfipmdmgkidaaGreatDoor

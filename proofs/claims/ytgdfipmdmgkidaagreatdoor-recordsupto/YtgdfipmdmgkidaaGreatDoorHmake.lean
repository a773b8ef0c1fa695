import Derived.Test.YtgdfipmdmgkidaaGreatDoorHsim
import Derived.Deep.DeepCutAuto
import Derived.Test.YtgdfipmdmgkidaaGreatDoorHfil
import Derived.Test.YtgdfipmdmgkidaaGreatDoorHsto
import Derived.Test.YtgdfipmdmgkidaaGreatDoorHcom
import Derived.Test.YtgdfipmdmgkidaaGreatDoorAl
set_option linter.all false
set_option maxHeartbeats 25600000
set_option maxRecDepth 100000
namespace Go.Proofs.YtgdfipmdmgkidaaGreatDoor
open Go.RowKit
theorem Tryz.info4:(Tryz.prog.info? 4).map (λi=>(i.zero,i.size,i.bytes))=some (some (.bool false),1,1):=by kernel_rfl
theorem aGi(n:Nat)(J:n<=1000000)(u:World):(Instr.makeSlice 256 (.int .i64 (n:Int)) (.int .i64 (n:Int))).run Tryz.prog u=.ok (.slice (some ⟨u.heap.size,0,none⟩) n n) (u.alloc (.cells (tU n (λ_=>.bool false)) 4)):=by
 obtain⟨i0,hi,z,E,I⟩:=info_parts Tryz.info4;have h:=run_make (P:=Tryz.prog) u 256 4 i0 (.bool false) Tryz.underlying256 hi z .i64 .i64 (n:Int) (n:Int) (by omega) (aBg _) (by rw[I];omega) (by omega);rw[<- aEw];simpa[E,Value.cells] using h
theorem aUp(n:Nat)(J:n<=1000000)(u:World):(Instr.makeSlice 257 (.int .i64 (n:Int)) (.int .i64 (n:Int))).run Tryz.prog u=.ok (.slice (some ⟨u.heap.size,0,none⟩) n n) (u.alloc (.cells (tU n (λ_=>.slice none 0 0)) 25)):=by
 obtain⟨i0,hi,z,E,I⟩:=info_parts Tryz.info25;have h:=run_make (P:=Tryz.prog) u 257 25 i0 (.slice none 0 0) Tryz.underlying257 hi z .i64 .i64 (n:Int) (n:Int) (by omega) (aBg _) (by rw[I];omega) (by omega);rw[<- aEw];simpa[E,Value.cells] using h
theorem aLx{w:World}{B g n:Nat}{t:TypeId}{z:Value}(E:B<=g)(I:n<=1000000)(h:w.heap[g]?=some (.cells (tU n (λ_=>z)) t (0,0))):w.ownsRow B t 1 (.slice (some ⟨g,0,none⟩) n n) n (List.replicate n z):=by
 refine⟨by simp,.inr ⟨g,n,_,rfl,E,h,aA _,by unfold maxLen;omega,by rw[aW2];omega,?_⟩⟩;rw[jW,mU (by simp[tU])];apply aD3
 ·simp[tU]
 ·intro i h1 h2;simp[tU]
theorem eW(w:World)(a b c d e:Obj)(k:Nat)(o:Obj)(h:[a,b,c,d,e][k]?=some o):(((((w.alloc a).alloc b).alloc c).alloc d).alloc e).heap[w.heap.size+k]?=some o:=by
 have s1:(w.alloc a).heap.size=w.heap.size+1:=by simp
 have z:((w.alloc a).alloc b).heap.size=w.heap.size+2:=by simp
 have E:(((w.alloc a).alloc b).alloc c).heap.size=w.heap.size+3:=by simp
 have I:((((w.alloc a).alloc b).alloc c).alloc d).heap.size=w.heap.size+4:=by simp
 match k,h with
 | 0,h=>cases h;rw[Below.heap_alloc _ _ _ (by omega),Below.heap_alloc _ _ _ (by omega),Below.heap_alloc _ _ _ (by omega),Below.heap_alloc _ _ _ (by omega)];exact(aH w a).1
 | 1,h=>cases h;rw[Below.heap_alloc _ _ _ (by omega),Below.heap_alloc _ _ _ (by omega),Below.heap_alloc _ _ _ (by omega),<- s1];exact(aH _ b).1
 | 2,h=>cases h;rw[Below.heap_alloc _ _ _ (by omega),Below.heap_alloc _ _ _ (by omega),<- z];exact(aH _ c).1
 | 3,h=>cases h;rw[Below.heap_alloc _ _ _ (by omega),<- E];exact(aH _ d).1
 | 4,h=>cases h;rw[<- I];exact(aH _ e).1
def st0(nf nc:Nat):RS:=⟨List.replicate nf false,List.replicate nf false,List.replicate nf (.slice none 0 0,[]),List.replicate nc false⟩
theorem wC{α:Type}(f:α->List Value)(a:α)(z:Value)(h:f a=[z]):∀n,(List.replicate n a).flatMap f=List.replicate n z
 | 0=>rfl
 | n+1=>by rw[List.replicate_succ,bL,wC f a z h n,h];rfl
theorem zK.made{w:World}{B g1 g2 g3 z J nf E:Nat}(I:nf<=1000000)(hc:E<=1000000)(K:B<=g1)(U:B<=g2)(V:B<=g3)(W:B<=z)(Y:B<=J)
  (h:w.heap[J]?=some (.cells #[.slice (some ⟨g1,0,none⟩) nf nf,.slice (some ⟨g2,0,none⟩) nf nf,.slice (some ⟨g3,0,none⟩) nf nf,.slice (some ⟨z,0,none⟩) E E] 259 (0,0)))
  (h1:w.heap[g1]?=some (.cells (tU nf (λ_=>.bool false)) 4 (0,0))) (h2:w.heap[g2]?=some (.cells (tU nf (λ_=>.bool false)) 4 (0,0))) (h3:w.heap[g3]?=some (.cells (tU nf (λ_=>.slice none 0 0)) 25 (0,0))) (h4:w.heap[z]?=some (.cells (tU E (λ_=>.bool false)) 4 (0,0)))
  (Z:g1≠g2) (d2:g1≠z) (d3:g2≠z):zK w B J (st0 nf E):=by
 refine⟨Y,⟨_,_,_,_,h,?_,?_,?_,?_,?_,?_,?_⟩,?_⟩
 ·have:=aLx K I h1;simpa[st0,wC eB false (.bool false) rfl] using this
 ·have:=aLx U I h2;simpa[st0,wC eB false (.bool false) rfl] using this
 ·have:=aLx V I h3;simpa[st0,wC eV (.slice none 0 0,[]) (.slice none 0 0) rfl] using this
 ·have:=aLx W hc h4;simpa[st0,wC eB false (.bool false) rfl] using this
 ·simpa[Value.ownBlock] using Z
 ·simpa[Value.ownBlock] using d2
 ·simpa[Value.ownBlock] using d3
 ·intro r hr;obtain⟨_,rfl⟩:=List.mem_replicate.1 hr;exact⟨rfl,none,0,rfl,aA _,.inl ⟨rfl,rfl,rfl⟩⟩
theorem aDm(e:iA)(own:List ByteArray)(Pa:List PM)(Ps:List PM)(s:ByteArray->PL)(J:Nat->Nat->ByteArray->PL)(rb:Nat)(D:RD)(N:List Nat)(v:Value)(n:Nat)(w:World)(h:WV w rb D)(hW:qS e own Pa D)(hv:RI w v N)(W:pF Pa N Ps)(hn:n<=N.length)(hH:HSl Ps s)(h1:∀p,p<=Ps.length->HSl (Ps.take p) (J p 0))(h2:∀p P,Ps[p]?=some P->aBp P (J p 0) (J (p+1) 0))(h0:J 0 0=λ_=>pl0)(hf:D.files.length<=1000000)(hc:D.cells.length<=1000000):
  Calls Tryz.prog 161 #[.pointer (some ⟨rb,0,none⟩),v,.int .i64 n] w λr w'=>∃I z,r=.returned (.pointer (some ⟨I,0,none⟩))/\zK w' w.heap.size I z/\iE e own Pa D (λ_ i=>i∈(Ps.take n).map (·.id)) (J n 0) z.abs/\Below w.heap.size w w':=by
 have a8:=aO h;have HV:=aO hv;have a7:Hid (∀(j k:Nat),N[j]?=some k->k<D.pts.length/\∀q a,D.pts[k]?=some q->iE e own Pa D (λ_ i=>i∈(Ps.take j).map (·.id)) (J j 0) a->∃a',aY1 q a a'/\iE e own Pa D (λ_ i=>i∈(Ps.take (j+1)).map (·.id)) (J (j+1) 0) a'):=λj k hj=>by
  refine⟨?_,λq a hq hS=>hH.sims hW W h1 h2 j k hj q hq a hS⟩;have b2:j<Ps.length:=by rw[<- W.1];exact(aB.1 hj).1
  rw[hW.len];exact(aB.1 (W.2 j k _ hj (aC b2))).1
 have V:Hid (iE e own Pa D (λ_ i=>i∈(Ps.take 0).map (·.id)) (J 0 0) (st0 D.files.length D.cells.length).abs):=by
  show iE _ _ _ _ _ _ _;rw[h0];have:=iE.nil e own Pa D;simpa[st0,RS.abs] using this
 have b7:=hn;obtain⟨vo,vc,rfl,-,-⟩:=hv.each;obtain⟨ca,cc,K,-⟩:=h.cells_;obtain⟨fa,fc,U,-⟩:=h.files_;have hr:=h.lt;have b4:N.length<=40:=by rw[W.1];exact hH.len
 obtain⟨nf,a1⟩:∃n,D.files.length=n:=⟨_,rfl⟩;obtain⟨nc,a0⟩:∃n,D.cells.length=n:=⟨_,rfl⟩;rw[a1] at U hf V;rw[a0] at K hc V;have m1:=aGi nf hf;have m2:=aGi nc hc;have m3:=aUp nf hf;clear h a1 a0 hv hW W hH h1 h2 h0;generalize hM:N.length=M at *;have HM:=aO hM;clear hM;go_enter Tryz.func161,Tryz.ntmps161
 go_upto_region 1 with fail
 go_cut [7] (λs7 wx=>∃I,s7=.pointer (some ⟨I,0,none⟩)/\zK wx w.heap.size I (st0 nf nc)/\Below w.heap.size w wx)
 case first=>
  go_wp2_with fail
  go_region_held3 (λw'=>w'.cell? ⟨rb,1,none⟩=some (.slice ca nc cc)/\w'.cell? ⟨rb,2,none⟩=some (.slice fa nf fc))
   (first|exact⟨K,U⟩|exact⟨bP _ (K),bP _ (U)⟩|exact⟨bP _ (bP _ (K)),bP _ (bP _ (U))⟩|exact⟨bP _ (bP _ (bP _ (K))),bP _ (bP _ (bP _ (U)))⟩|exact⟨bP _ (bP _ (bP _ (bP _ (K)))),bP _ (bP _ (bP _ (bP _ (U))))⟩|exact⟨bP _ (bP _ (bP _ (bP _ (bP _ (K))))),bP _ (bP _ (bP _ (bP _ (bP _ (U)))))⟩)
   (fail)
  all_goals
   go_wp2
   go_meet
   refine⟨_,rfl,zK.made hf hc ?_ ?_ ?_ ?_ ?_ (by first|exact eW _ _ _ _ _ _ 0 _ rfl|exact eW _ _ _ _ _ _ 1 _ rfl|exact eW _ _ _ _ _ _ 2 _ rfl|exact eW _ _ _ _ _ _ 3 _ rfl|exact eW _ _ _ _ _ _ 4 _ rfl) (by first|exact eW _ _ _ _ _ _ 0 _ rfl|exact eW _ _ _ _ _ _ 1 _ rfl|exact eW _ _ _ _ _ _ 2 _ rfl|exact eW _ _ _ _ _ _ 3 _ rfl|exact eW _ _ _ _ _ _ 4 _ rfl) (by first|exact eW _ _ _ _ _ _ 0 _ rfl|exact eW _ _ _ _ _ _ 1 _ rfl|exact eW _ _ _ _ _ _ 2 _ rfl|exact eW _ _ _ _ _ _ 3 _ rfl|exact eW _ _ _ _ _ _ 4 _ rfl) (by first|exact eW _ _ _ _ _ _ 0 _ rfl|exact eW _ _ _ _ _ _ 1 _ rfl|exact eW _ _ _ _ _ _ 2 _ rfl|exact eW _ _ _ _ _ _ 3 _ rfl|exact eW _ _ _ _ _ _ 4 _ rfl) (by first|exact eW _ _ _ _ _ _ 0 _ rfl|exact eW _ _ _ _ _ _ 1 _ rfl|exact eW _ _ _ _ _ _ 2 _ rfl|exact eW _ _ _ _ _ _ 3 _ rfl|exact eW _ _ _ _ _ _ 4 _ rfl) ?_ ?_ ?_,?_⟩
   ·omega
   ·omega
   ·omega
   ·omega
   ·omega
   ·omega
   ·omega
   ·omega
   ·exact(((((Below.refl _ _).alloc (aA _) _).alloc (by simp) _).alloc (by simp;omega) _).alloc (by simp;omega) _).alloc (by simp;omega) _ |>.drew
 case rest=>
 obtain⟨I,rfl,E,Y⟩:=hcut;have a6:=aO E;clear E K U m1 m2 m3;go_wp2
 go_loopw [8] (λi wr=>∃k:Nat,k<=n/\i=.int .i64 k/\(∃z,Hid (zK wr w.heap.size I z)/\Hid (iE e own Pa D (λ_ i=>i∈(Ps.take k).map (·.id)) (J k 0) z.abs))/\Below w.heap.size w wr) (λi _=>n - (intOf i).toNat)
 case atStart=>exact⟨0,aE _,rfl,⟨_,a6,V⟩,Y⟩
 case round=>
  clear Y;obtain⟨k,hk,rfl,⟨z,HO,HZ⟩,hb⟩:=hrel;by_cases b6:k<n
  ·obtain⟨m,hm⟩:∃m,N[k]?=some m:=⟨_,aC (by rw[HM.out];omega)⟩;obtain⟨b3,E⟩:=a7.out k m hm;obtain⟨q,hq⟩:∃q,D.pts[m]?=some q:=⟨_,aC b3⟩;obtain⟨a',l1,l2⟩:=E q _ hq HZ.out;obtain⟨_,_,e1,-,Z⟩:=RI.each (eJ.below HV.out hb);rw[HM.out] at e1
   cases e1
   obtain⟨b,o,rfl,-,b5⟩:=Z k _ hm;have a5:=aO (aRh m q rb I D z a' w wr a8.out hq hb HO.out l1);have a4:=aO l2;clear Z E l1 l2 hq hm HO HZ
   go_wp2_with (go_at_call 159;refine a5.out.mono ?_;rintro e w2 ⟨rfl,⟨z',a2,a3⟩,b1⟩;have a9:=aO a2;have b0:=aO a3;clear a2 a3)
   go_roundw
   case rel=>exact⟨k+1,by omega,by go_num,⟨z',a9,by rw[b0.out];exact a4⟩,b1⟩
   case measure=>simp[intOf];omega
  ·obtain rfl:k=n:=by omega
   go_wp2;go_ret;exact⟨I,z,rfl,HO.out,HZ.out,hb⟩
section
variable {e:iA} {own:List ByteArray} {Pa:List PM} {D:RD} {s:ByteArray->PL}
structure Rpo (Pa:List PM) (D:RD) (r:Nat) (R:iD) (Ps:List PM) (s:ByteArray->PL):Prop where
 at_:D.repos[r]?=some R
 pk:pF Pa R.L Ps
 hs:HSl Ps s
theorem oP(r:Nat)(R:iD)(Ps:List PM)(rb:Nat)(w:World)(I:kC w rb D e own Pa D)(E:Rpo Pa D r R Ps s)(hc:D.cells.length<=1000000):
  Calls Tryz.prog 140 #[.pointer (some ⟨rb,0,none⟩),.int .i64 r] w λq w'=>∃K z,q=.returned (.pointer (some ⟨K,0,none⟩))/\zK w' w.heap.size K z/\iE e own Pa D (λ_ i=>i∈Ps.map (·.id)) s z.abs/\Below w.heap.size w w':=by
 obtain⟨st,a0,h1,h2,-,U,h4⟩:=E.hs.stands;obtain⟨ra,rc,c3,J⟩:=I.wv.repos_;obtain⟨K,so,rfl,-,-,c2,-,-,W⟩:=J r R E.at_;have V:=aDm e own Pa Ps s st rb D R.L R.lv R.L.length w I.wv I.rel W E.pk (aA _) E.hs U h4 h1.start I.few hc;rw[E.pk.1,bD,h2,<- E.pk.1] at V;have Y:=aO V;have hr:=(aB.1 E.at_).1;have a1:=I.rps.1;obtain⟨la,lc,Z,-,-⟩:=eJ.at_ W;rw[Z] at c2 Y;clear V J W Z h1 h2 U h4 I E;generalize D.repos.length=nr at *;generalize R.L.length=n at *;go_enter Tryz.func140,Tryz.ntmps140
 go_wp2_with (go_at_call 161;refine Y.out.mono ?_;rintro q w1 ⟨K,z,rfl,h1,h2,U⟩)
 go_ret;exact⟨K,z,rfl,h1,h2,U⟩
def uA(o:Option ByteArray)(c:Int):ByteArray×Int:=if c=0 then (match o with|some t=>(t,0)|none=>(⟨#[]⟩,5)) else (⟨#[]⟩,c)
theorem aOh(r:Int)(x:ByteArray)(hx:x.size<=10000000)(rb:Nat)(w:World)(hK:kC w rb D e own Pa D)(o:Option ByteArray)(hR:jK r D.repos.length x=0->∃(k:Nat) (R:iD) (Ps:List PM) (s:ByteArray->PL),r=k/\Rpo Pa D k R Ps s/\o=dR s x)(hc:D.cells.length<=1000000):
  Calls Tryz.prog 170 #[.pointer (some ⟨rb,0,none⟩),.int .i64 r,.string x] w λq w'=>q=.returned (.tuple #[.string (uA o (jK r D.repos.length x)).1,.int .i64 (uA o (jK r D.repos.length x)).2])/\Below w.heap.size w w':=by
 have HN:=aO (pQ r x hx rb w hK.wv);have Z:=aO hK;by_cases W:jK r D.repos.length x=0
 ·obtain⟨k,R,Ps,s,rfl,K,rfl⟩:=hR W;rw[W] at HN ⊢;have HC:Hid (∀V,Below w.heap.size w V->Calls Tryz.prog 140 #[.pointer (some ⟨rb,0,none⟩),.int .i64 k] V λq w'=>∃U,q=.returned (.pointer (some ⟨U,0,none⟩))/\Below w.heap.size w w'/\Calls Tryz.prog 142 #[.pointer (some ⟨rb,0,none⟩),.pointer (some ⟨U,0,none⟩),.string x] w' λr a0=>r=.returned (.tuple #[.string ((dR s x).getD ⟨#[]⟩),.bool (dR s x).isSome])/\Below w.heap.size w a0):=λV E=>by
   refine(oP k R Ps rb V (Z.out.below E) K hc).mono ?_;rintro q w2 ⟨U,z,rfl,h1,h2,h3⟩;have I:=E.trans (h3.mono E.size);refine⟨U,rfl,I,(lL x rb U z w2 (Z.out.below I) h1.view h2 (K.hs.rows x)).mono ?_⟩;rintro r w3 ⟨rfl,J⟩;exact⟨rfl,I.trans (J.mono I.size)⟩
  clear W hR K Z hK;generalize dR s x=o at *
  cases o with
  | none=>
   go_enter Tryz.func170,Tryz.ntmps170
   go_wp2_with (first|(go_at_call 167;refine HN.out.mono ?_;rintro q V ⟨rfl,E⟩)|(go_at_call 140;refine(HC.out _ E).mono ?_;rintro q w2 ⟨U,rfl,I,Y⟩;have HT:=aO Y;clear Y)|(go_at_call 142;refine HT.out.mono ?_;rintro q w3 ⟨rfl,J⟩))
   go_ret2;exact⟨rfl,J⟩
  | some t=>
   go_enter Tryz.func170,Tryz.ntmps170
   go_wp2_with (first|(go_at_call 167;refine HN.out.mono ?_;rintro q V ⟨rfl,E⟩)|(go_at_call 140;refine(HC.out _ E).mono ?_;rintro q w2 ⟨U,rfl,I,Y⟩;have HT:=aO Y;clear Y)|(go_at_call 142;refine HT.out.mono ?_;rintro q w3 ⟨rfl,J⟩))
   go_ret2;exact⟨rfl,J⟩
 ·have a1:(jK r D.repos.length x != 0)=true:=by rw[bne_iff_ne];exact W
  have HA:Hid (uA o (jK r D.repos.length x)=(⟨#[]⟩,jK r D.repos.length x)):=by unfold uA Hid;rw[if_neg W]
  rw[HA.out];clear HA hR Z hK W;generalize jK r D.repos.length x=c at *;go_enter Tryz.func170,Tryz.ntmps170
  go_wp2_with (go_at_call 167;refine HN.out.mono ?_;rintro q V ⟨rfl,E⟩)
  go_ret2;exact⟨rfl,E⟩
theorem aPu(r:Int)(x:ByteArray)(hx:x.size<=10000000)(rb:Nat)(w:World)(J:kC w rb D e own Pa D)(o:Option ByteArray)(V:jK r D.repos.length x=0->∃(k:Nat) (R:iD),r=k/\D.repos[k]?=some R/\o=aX R.F x):
  Calls Tryz.prog 169 #[.pointer (some ⟨rb,0,none⟩),.int .i64 r,.string x] w λq w'=>q=.returned (.tuple #[.string (uA o (jK r D.repos.length x)).1,.int .i64 (uA o (jK r D.repos.length x)).2])/\Below w.heap.size w w':=by
 have U:=aO (pQ r x hx rb w J.wv);by_cases K:jK r D.repos.length x=0
 ·obtain⟨k,R,rfl,E,rfl⟩:=V K;rw[K] at U ⊢;have Y:Hid (∀I,Below w.heap.size w I->Calls Tryz.prog 141 #[.pointer (some ⟨rb,0,none⟩),.int .i64 k,.string x] I λe w'=>e=.returned (.tuple #[.string ((aX R.F x).getD ⟨#[]⟩),.bool (aX R.F x).isSome])/\w'=I):=λI z=>nA k R x rb I (J.wv.below z) E J.rps.1 (J.rps.2 R (aD E)).1;clear K V E J;generalize aX R.F x=o at *
  cases o <;>
  ·go_enter Tryz.func169,Tryz.ntmps169
   go_wp2_with (first|(go_at_call 167;refine U.out.mono ?_;rintro q I ⟨rfl,z⟩)|(go_at_call 141;refine(Y.out _ z).mono ?_;rintro q w2 ⟨rfl,rfl⟩))
   go_ret2;exact⟨rfl,z⟩
 ·have Z:(jK r D.repos.length x != 0)=true:=by rw[bne_iff_ne];exact K
  have W:Hid (uA o (jK r D.repos.length x)=(⟨#[]⟩,jK r D.repos.length x)):=by unfold uA Hid;rw[if_neg K]
  rw[W.out];clear W V J K;generalize jK r D.repos.length x=c at *;go_enter Tryz.func169,Tryz.ntmps169
  go_wp2_with (go_at_call 167;refine U.out.mono ?_;rintro q I ⟨rfl,z⟩)
  go_ret2;exact⟨rfl,z⟩
end
def LnS(e:iA)(D:RD)(S:List aU):Prop:=∀u∈S,∃k,D.cells[fI e u]?=some (u.line,k)
section
variable {e:iA} {own:List ByteArray} {Pa:List PM} {D D':RD} {L:ByteArray->cL->Prop} {s:ByteArray->PL}
theorem LnS.ln{S:List aU}(h:LnS e D S){u:aU}(E:u∈S):D.ln (fI e u)=u.line:=by
 obtain⟨k,z⟩:=h u E;unfold RD.ln;rw[z];rfl
theorem LnS.map{S:List aU}(h:LnS e D S):(S.map (fI e)).map D.ln=S.map (·.line):=by
 rw[fG];exact fQ λu z=>h.ln z
theorem LnS.run{S:List aU}(h:LnS e D S):D.run (S.map (sC e))=aL S:=by
 rw[nE];unfold RD.run cA;rw[List.filter_map,fG];have:(λn:Nat×Bool=>!n.2) ∘ sC e=λt:aU=>t.alive:=by funext t;simp[sC]
 rw[this];exact fQ λu z=>h.ln (cT.1 z).1
theorem LnS.alive{S:List aU}(h:LnS e D S)(z:∀u∈S,u.alive=true):(S.map (fI e)).map D.ln=aL S:=by
 rw[h.map,nE];unfold cA;rw[List.filter_eq_self.2 z]
theorem LnS.ok{S:List aU}(h:LnS e D' S){w:World}{rb:Nat}(I:kC w rb D' e own Pa D):∀u∈S,aTh D' (fI e u):=λu E=>by
 obtain⟨k,z⟩:=h u E;have h2:=I.ln _ _ _ z;rw[<- h.ln E] at h2;exact⟨(aB.1 z).1,h2.1,h2.2⟩
def TlC(e:iA)(D:RD)(s:ByteArray->PL)(c:ByteArray×fM):Prop:=match c.2 with
 | .add _ _ _ S=>LnS e D S/\∀u∈S,u.alive=true
 | .remove _ _ S=>LnS e D S
 | .alter i _ Hs=>i=(s c.1).by_/\(s c.1).alive=true/\Hs.length<=100000/\∀h∈Hs,LnS e D (cV h.N)/\LnS e D h.Br/\(∀u∈h.Br,u.alive=true)/\h.Br.length<=100000/\∃F',gS (aM (s c.1).S) h.N h.Br F'
theorem aPv(t:Nat->ByteArray)(k:Nat):(⟨(dK t (k+1)).toArray⟩:ByteArray)=⟨(dK t k).toArray⟩++t k:=by
 apply gL;simp[dK,kK]
theorem aXn(a b:aU)(M:List aU):cV (a::(M++[b]))=M:=aCc a b M
theorem aZ5{S N Br F':List aU}(h:gS (aM S) N Br F')(hn:(aM S).Nodup){t:aU}{p:Nat}(h0:N[0]?=some t)(U:rY (aM S) t=some p):∃X M Z a b,S=X++(M++Z)/\N=a::(M++[b])/\((a=jR/\X=[])\/∃X',X=X'++[a])/\((b=lD/\Z=[])\/∃Z',Z=b::Z')/\a.alive=true/\b.alive=true/\(living ((aM S).take (p+1))).length=(cA X).length+1:=by
 obtain⟨X,M,Z,a,b,E,W,-,Y,e4,e5,e6⟩:=h.split;refine⟨X,M,Z,a,b,E,W,Y,e4,e5,e6,?_⟩;rw[W] at h0
 cases h0
 have V:p=X.length:=by
  unfold rY at U;rw[cQ] at U;obtain⟨hl,h1,h2⟩:=U;have h1:t=(aM S)[p]:=of_decide_eq_true h1;have hx:(aM S)[X.length]?=some t:=by
   rw[E];unfold aM;rcases Y with ⟨rfl,rfl⟩|⟨X',rfl⟩
   ·rfl
   ·simp
  obtain⟨J,z⟩:=aB.1 hx;by_cases K:p<X.length
  ·exact absurd (h1.symm.trans z.symm) (cW.1 hn p X.length hl J K)
  ·by_cases I:X.length<p
   ·exact absurd (decide_eq_true z.symm) (h2 X.length I)
   ·omega
 rw[zW,V,E];have:(aM (X++(M++Z))).take (X.length+1)=jR::X:=by unfold aM;simp
 rw[this];rfl
theorem aX9{S N Br V:List aU}{dead:List Bool}(h:gS (aM S) N Br V)(hn:(aM S).Nodup)(z:∀t∈S,0<=t.num)(U:∀t∈S,dead[fI e t]?=some (!t.alive)){t:aU}{p:Nat}(h0:N[0]?=some t)(hp:rY (aM S) t=some p){a b:aU}{M:List aU}(K:N=a::(M++[b])):
  ∃X Z,S=X++(M++Z)/\aYw dead (X.map (fI e)) (edg e a)/\aYx dead (Z.map (fI e)) (edg e b)/\(living ((aM S).take (p+1))).length=(cA X).length+1/\cV N=M:=by
 obtain⟨X,M',Z,a',b',I,J,Y,e4,e5,e6,e7⟩:=aZ5 h hn h0 hp;rw[K] at J;obtain⟨rfl,e8⟩:=nG J;obtain⟨rfl,e9⟩:=jY e8 rfl;obtain⟨rfl,-⟩:=nG e9;refine⟨X,Z,I,?_,?_,e7,by rw[K];exact aXn _ _ _⟩
 ·rcases Y with ⟨rfl,rfl⟩|⟨X',rfl⟩
  ·exact .inl ⟨rfl,rfl⟩
  ·have E:a∈S:=by rw[I];simp
   exact .inr ⟨X'.map (fI e),fI e a,by simp,qZ (z a E),by rw[U a E,e5];rfl⟩
 ·rcases e4 with ⟨rfl,rfl⟩|⟨W,rfl⟩
  ·exact .inl ⟨rfl,rfl⟩
  ·have E:b∈S:=by rw[I];simp
   exact .inr ⟨fI e b,W.map (fI e),by simp,qZ (z b E),by rw[U b E,e6];rfl⟩
theorem uN(a b:ByteArray)(h1:a.size<=10000000000)(h2:b.size<=10000000000):Op.stringOp .add a b=pure (.string (a++b)):=by
 unfold Op.stringOp;simp only;rw[if_neg];have:IntKind.i64.max=9223372036854775807:=by decide
 rw[this];omega
theorem wR(Cs:List (ByteArray×fM))(t:Nat->ByteArray)(p:Nat)(P:RPt)(rb sb:Nat)(z:RS)(w:World)(hK:kC w rb D' e own Pa D)(hs:sE w sb z)(hS:iE e own Pa D L s z.abs)(hp:D'.pts[p]?=some P)(hlen:P.chs.length=Cs.length)(hrel:∀(j:Nat) (c:ByteArray×fM) (r:vH),Cs[j]?=some c->P.chs[j]?=some r->tN e c r)
  (ht:∀k c,Cs[k]?=some c->fU c.2 c.1 (s c.1) (t k)) (hts:∀k,(t k).size<=1000000) (htl:∀c∈Cs,TlC e D' s c) (hnm:∀c∈Cs,c.1.size<=1000) (hCs:Cs.length<=1000) (hnd:∀x,(aM (s x).S).Nodup) (hrow:∀x,(s x).S.length<=40000/\((s x).S.map (fI e)).Nodup) :
  Calls Tryz.prog 148 #[.pointer (some ⟨rb,0,none⟩),.pointer (some ⟨sb,0,none⟩),.int .i64 p] w λr w'=>r=.returned (.string ⟨(dK t Cs.length).toArray⟩)/\Below w.heap.size w w':=by
 have HK:=aO hK;have HS:=aO hs;have HI:=aO hS;have HP:=aO hp;have HRL:=aO hrel;have HT:=aO ht;have HTS:=aO hts;have HTL:=aO htl;have HNM:=aO hnm;have HND:=aO hnd;have HRW:=aO hrow;have hpl:=(aB.1 hp).1;have HLE:=aO hlen;clear hK hs hS hp hrel ht hts htl hnm hnd hrow hlen;obtain⟨np,hnp⟩:∃n,D'.pts.length=n:=⟨_,rfl⟩;rw[hnp] at hpl;have HNP:=aO hnp;clear hnp;obtain⟨n,hn⟩:∃n,Cs.length=n:=⟨_,rfl⟩;rw[hn] at hCs HLE;rw[hn];have HN:=aO hn;clear hn;have HSZ:Hid (∀k,k<=1000->(⟨(dK t k).toArray⟩:ByteArray).size<=1000000000):=λk hk=>by
  have:=qQ t 1000000 HTS.out k;simp only[ByteArray.size,jC];have h2:k * 1000000<=1000 * 1000000:=dV _ hk;omega
 go_enter Tryz.func148,Tryz.ntmps148;go_wp2
 go_loopw [7,8] (λtv x wr=>∃k:Nat,k<=n/\x=.int .i64 k/\tv=.string ⟨(dK t k).toArray⟩/\Below w.heap.size w wr) (λ_ x _=>n - (intOf x).toNat)
 case atStart=>exact⟨0,aE _,rfl,rfl,Below.refl _ _⟩
 case round=>
  obtain⟨k,hk,rfl,rfl,hb⟩:=hrel;obtain⟨pa,pc,c0,hpp⟩:=(HK.out.below hb).wv.pts_;rw[HNP.out] at c0;obtain⟨pb,po,rfl,-,c1,hok⟩:=hpp p P HP.out;obtain⟨ca,cc,e1,-,hch⟩:=eJ.each hok.1 (λ_=>rfl);rw[e1,HLE.out] at c1;have hsz:=hb.size;have hTk:=HSZ.out k (by omega);by_cases hlt:k<n
  ·obtain⟨r,hr⟩:∃r,P.chs[k]?=some r:=⟨_,aC (by rw[HLE.out];exact hlt)⟩;obtain⟨c,hc⟩:∃c,Cs[k]?=some c:=⟨_,aC (by rw[HN.out];exact hlt)⟩;obtain⟨hb9,ho9,rfl,-,hcj⟩:=hch k r hr;have hokc:=hok.2 r (aD hr);have HOK:=aO hokc;have HC:Hid (tN e c r):=HRL.out k c r hc hr;have HTC:=aO (HTL.out c (aD hc));have HTP:=aO (HT.out k c hc);have hnl:=HNM.out c (aD hc);have hTn:=aPv t k;have HTN:=aO hTn;have htk:=HTS.out k;obtain⟨nm,kd,fl,nw,cv,cl,rv,rn,hv,hk9⟩:=r;have hrn:nm=c.1:=HC.out.1;subst hrn;obtain⟨va,vc,e2,-,-⟩:=RI.each hokc.1;obtain⟨ra,rc,e3,-,-⟩:=eJ.at_ hokc.2.1;obtain⟨ha,hc2,e4,-,-⟩:=eJ.at_ hokc.2.2.1;simp only at e2 e3 e4;subst e2 e3 e4;have d0:wr.cell? ⟨hb9,ho9+k * 7,none⟩=some (.string c.1):=hcj 0 _ rfl;have d1:wr.cell? ⟨hb9,ho9+k * 7+1,none⟩=some (.int .i64 kd):=by rw[dB];exact hcj 1 _ rfl
   have d2:wr.cell? ⟨hb9,ho9+k * 7+2,none⟩=some (.int .i64 fl):=by rw[dB];exact hcj 2 _ rfl
   have d3:wr.cell? ⟨hb9,ho9+k * 7+3,none⟩=some (.int .i64 nw):=by rw[dB];exact hcj 3 _ rfl
   have d4:wr.cell? ⟨hb9,ho9+k * 7+4,none⟩=some (.slice va cl.length vc):=by rw[dB];exact hcj 4 _ rfl
   have d5:wr.cell? ⟨hb9,ho9+k * 7+5,none⟩=some (.slice ra rn.length rc):=by rw[dB];exact hcj 5 _ rfl
   have d6:wr.cell? ⟨hb9,ho9+k * 7+6,none⟩=some (.slice ha hk9.length hc2):=by rw[dB];exact hcj 6 _ rfl
   clear hcj hch hokc hok hpp hr hc hTn e1;have hTn2:=HTN.out;generalize (⟨(dK t k).toArray⟩:ByteArray)=T at *;have HTN2:=aO hTn2;clear hTn2 HTN;obtain⟨x,cm⟩:=c;simp only at d0 hnl;have hba:∀o,Below w.heap.size w (wr.alloc o):=λo=>hb.alloc hsz o
   cases cm with
   | add ci cl9 crv S=>
    obtain⟨-,rfl,-,-,e5,-,-⟩:=HC.out;simp only at e5;subst e5;obtain⟨l1,l2⟩:=HTC.out;have HLN:Hid (LnS e D' S):=l1;obtain⟨s1,s2⟩:=HTP.out;have hlS:=s1.len;have HBR:Hid (∀o q,Calls Tryz.prog 205 #[.pointer (some ⟨rb,0,none⟩),.slice va (S.map (fI e)).length vc] ((wr.alloc o).drewN q) λr w'=>r=.returned (.string (gI ⟨#[43]⟩ S))/\w'=(wr.alloc o).drewN q):=λo q=>by
     have hbo:Below wr.heap.size wr ((wr.alloc o).drewN q):=below_drewN ((Below.refl _ _).alloc (aA _) o) q;have:=vV (S.map (fI e)) (.slice va (S.map (fI e)).length vc) rb D' ((wr.alloc o).drewN q) ((HK.out.below hb).below hbo).wv (eJ.below HOK.out.1 hbo) (λc9 hc9=>by obtain⟨u,hu,rfl⟩:=aI.1 hc9;exact l1.ok HK.out u hu) (by rw[aT];exact hlS);rw[l1.alive l2] at this;exact this
    have hbr:(gI ⟨#[43]⟩ S).size<=1000000:=by
     rw[s2,aN] at htk;omega
    have HF:Hid (⟨(dK t (k+1)).toArray⟩=(((T++⟨#[97,100,100,32]⟩)++x)++⟨#[10]⟩)++gI ⟨#[43]⟩ S):=by
     unfold Hid;rw[HTN2.out,s2];unfold pM;simp only[rS]
    generalize gI ⟨#[43]⟩ S=BR at *;generalize (S.map (fI e)).length=ln at *;clear s1 s2 l1 l2 HTN2 HTP
    go_wp2_with fail
    go_quiet ((go_at_call 205;exact Calls.quiet_of_same (HBR.out _ _)))
    have hb9:=λo=>below_drewN (hba o) nq;go_wp2
    go_roundw
    case rel=>exact⟨k+1,by omega,by go_num,by rw[HF.out],hb9 _⟩
    case measure=>simp[intOf];omega
   | remove ci crv S=>
    obtain⟨-,rfl,-,e5,-⟩:=HC.out;simp only at e5;subst e5;have l1:LnS e D' S:=HTC.out;obtain⟨s1,s2⟩:=HTP.out;have hlS:=s1.len;have HBR:Hid (∀o q,Calls Tryz.prog 206 #[.pointer (some ⟨rb,0,none⟩),.slice ra (S.map (sC e)).length rc] ((wr.alloc o).drewN q) λr w'=>r=.returned (.string (gI ⟨#[45]⟩ S))/\w'=(wr.alloc o).drewN q):=λo q=>by
     have hbo:Below wr.heap.size wr ((wr.alloc o).drewN q):=below_drewN ((Below.refl _ _).alloc (aA _) o) q;have:=yQ (S.map (sC e)) (.slice ra (S.map (sC e)).length rc) rb D' ((wr.alloc o).drewN q) ((HK.out.below hb).below hbo).wv (eJ.below HOK.out.2.1 hbo) (λc9 hc9=>by obtain⟨u,hu,rfl⟩:=aI.1 hc9;exact l1.ok HK.out u hu) (by rw[aT];exact hlS);rw[l1.run] at this;exact this
    have hbr:(gI ⟨#[45]⟩ S).size<=1000000:=by
     rw[s2,aN] at htk;omega
    have HF:Hid (⟨(dK t (k+1)).toArray⟩=(((T++⟨#[114,101,109,111,118,101,32]⟩)++x)++⟨#[10]⟩)++gI ⟨#[45]⟩ S):=by
     unfold Hid;rw[HTN2.out,s2];unfold oC;simp only[rS]
    generalize gI ⟨#[45]⟩ S=BR at *;generalize (S.map (sC e)).length=ln at *;clear s1 s2 l1 HTN2 HTP
    go_wp2_with fail
    go_quiet ((go_at_call 206;exact Calls.quiet_of_same (HBR.out _ _)))
    have hb9:=λo=>below_drewN (hba o) nq;go_wp2
    go_roundw
    case rel=>exact⟨k+1,by omega,by go_num,by rw[HF.out],hb9 _⟩
    case measure=>simp[intOf];omega
   | alter ci chv Hs=>
    obtain⟨-,rfl,rfl,-,hhl,hrh⟩:=HC.out;have hhl:hk9.length=Hs.length:=hhl;have HRH:Hid (∀(k:Nat) (h:Hk) (q:zH),Hs[k]?=some h->hk9[k]?=some q->zI e h q):=hrh;obtain⟨hci,al,hHl,hcs⟩:=HTC.out;have hci:ci=(s x).by_:=hci;have al:(s x).alive=true:=al;have hcs:∀h∈Hs,LnS e D' (cV h.N)/\LnS e D' h.Br/\(∀u∈h.Br,u.alive=true)/\h.Br.length<=100000/\∃F',gS (aM (s x).S) h.N h.Br F':=hcs;subst hci;have HCS:=aO hcs;obtain⟨g,g0,g1,g2,g3,-⟩:=HTP.out;have HG:=aO g1;have hby:(s x).by_≠lF:=λh=>by rw[HI.out.zr x h] at al;cases al
    obtain⟨⟨kf,hkf⟩,-,-,hrw⟩:=HI.out.yes x hby
    obtain⟨S,hS⟩:∃S,(s x).S=S:=⟨_,rfl⟩;have hndF:=HND.out x;obtain⟨hSl,hndS⟩:=HRW.out x;have HCE:Hid (∀t∈S,z.abs.dead[fI e t]?=some (!t.alive)):=λt ht=>(HI.out.cell x t (by rw[hS];exact ht)).2.2;have HNU:Hid (∀t∈S,0<=t.num):=λt ht=>(HI.out.cell x t (by rw[hS];exact ht)).1.1;rw[hS] at hrw hndF hSl hndS;have HG1:Hid (aSp (aM S) Hs g):=by have:=g1;rw[hS] at this;exact this
    have HCS1:Hid (∀h∈Hs,LnS e D' (cV h.N)/\LnS e D' h.Br/\(∀u∈h.Br,u.alive=true)/\h.Br.length<=100000/\∃F',gS (aM S) h.N h.Br F'):=by have:=hcs;rw[hS] at this;exact this
    have HNF:=aO hndF;have HNS:=aO hndS;clear g1 hcs HG HCS hkf hndF hndS hS;generalize e.fi x (s x).by_=fx at *;have HROW:Hid (z.abs.rows[fx]?=some (S.map (fI e))):=hrw;have HF0:Hid ((((T++⟨#[97,108,116,101,114,32]⟩)++x)++⟨#[10]⟩)=T++g 0):=by
     unfold Hid;rw[g0];unfold kO;simp only[rS]
    have HF1:Hid (⟨(dK t (k+1)).toArray⟩=T++g Hs.length):=by
     unfold Hid;rw[HTN2.out,g2]
    rw[hhl] at d6;clear g0 g2 g3 hrw HTN2 HTP HC hrh al;have h7:(#[.string x,.int .i64 ((2:Nat):Int),.int .i64 (fx:Int),.int .i64 (nw:Int),.slice va cl.length vc,.slice ra rn.length rc,.slice ha Hs.length hc2]:Array Value).size=7:=rfl;have HBA:=aO hba;clear hba h7
    go_wp2_with fail
    have hk1:=(aH wr (.cells #[.string x,.int .i64 2,.int .i64 (fx:Int),.int .i64 (nw:Int),.slice va cl.length vc,.slice ra rn.length rc,.slice ha Hs.length hc2] 265)).1;have hb1:Below wr.heap.size wr (wr.alloc (.cells #[.string x,.int .i64 2,.int .i64 (fx:Int),.int .i64 (nw:Int),.slice va cl.length vc,.slice ra rn.length rc,.slice ha Hs.length hc2] 265)):=(Below.refl _ _).alloc (aA _) _;have hs1:(wr.alloc (.cells #[.string x,.int .i64 2,.int .i64 (fx:Int),.int .i64 (nw:Int),.slice va cl.length vc,.slice ra rn.length rc,.slice ha Hs.length hc2] 265)).heap.size=wr.heap.size+1:=by simp
    generalize wr.alloc (.cells #[.string x,.int .i64 2,.int .i64 (fx:Int),.int .i64 (nw:Int),.slice va cl.length vc,.slice ra rn.length rc,.slice ha Hs.length hc2] 265)=w1 at *;obtain⟨cb9,hcb9⟩:∃b,b=wr.heap.size:=⟨_,rfl⟩;rw[<- hcb9];have HCB9:=aO hcb9;have HK1:Hid (w1.heap[cb9]?=some (.cells #[.string x,.int .i64 2,.int .i64 (fx:Int),.int .i64 (nw:Int),.slice va cl.length vc,.slice ra rn.length rc,.slice ha Hs.length hc2] 265)):=by unfold Hid;rw[hcb9];exact hk1
    have hc1:cb9<w1.heap.size:=by omega
    have HB1:=aO hb1;have HBR1:Hid (∀u,Below w1.heap.size w1 u->Below wr.heap.size wr u):=λu hu=>hb1.trans (hu.mono (by omega));have HBW1:Hid (∀u,Below w1.heap.size w1 u->Below w.heap.size w u):=λu hu=>hb.trans ((hb1.trans (hu.mono (by omega))).mono hsz);have HOKU:Hid (∀u,Below w1.heap.size w1 u->OkC u ⟨x,2,(fx:Int),nw,.slice va cl.length vc,cl,.slice ra rn.length rc,rn,.slice ha hk9.length hc2,hk9⟩):=λu hu=>HOK.out.below (HBR1.out u hu);clear hk1 hb1 hs1 hcb9;obtain⟨hN9,hn9⟩:∃m,Hs.length=m:=⟨_,rfl⟩;rw[hn9] at HF1 HK1 hHl hhl d6;have HN9:=aO hn9;clear hn9
    go_loopw [7,10] (λtv jx wu=>∃j:Nat,j<=hN9/\jx=.int .i64 j/\tv=.string (T++g j)/\Below w1.heap.size w1 wu) (λ_ jx _=>hN9 - (intOf jx).toNat)
    case atStart=>exact⟨0,aE _,rfl,by rw[HF0.out],Below.refl _ _⟩
    case round=>
     obtain⟨j,hj,rfl,rfl,hbu⟩:=hrel;obtain⟨wu,hwu⟩:∃u,u=wr:=⟨_,rfl⟩;have hbk:=(hbu.block _ hc1).trans HK1.out;have b6:wr.cell? ⟨cb9,6,none⟩=some (.slice ha hN9 hc2):=by simp[World.cell?,hbk]
     have hgs:=HG1.out.small j (by rw[HN9.out];exact hj);have hsu:=hbu.size;by_cases hlt:j<hN9
     ·obtain⟨h,hh⟩:∃h,Hs[j]?=some h:=⟨_,aC (by rw[HN9.out];exact hlt)⟩;obtain⟨q,hq⟩:∃q,hk9[j]?=some q:=⟨_,aC (by rw[hhl];exact hlt)⟩;have hRH:=HRH.out j h q hh hq;obtain⟨l1,l2,l3,hBl,F',hst⟩:=HCS1.out h (aD hh);obtain⟨t9,p9,g3,g4,-,-,sm1,sm2,-,g5,g6⟩:=HG1.out.step j h hh;have hgs1:=HG1.out.small (j+1) (by rw[HN9.out];exact hlt);obtain⟨a,M,b,eN,eA,eB,er,en⟩:=hRH;obtain⟨X,Z,eS,hEA,hEB,hcnt,hmid⟩:=aX9 (e:=e) hst HNF.out HNU.out HCE.out g3 g4 eN;obtain⟨qA,qB,qrv,qrun,qnv,qnew⟩:=q;simp only at eA eB er en;subst eA eB er en;rw[hmid] at l1 sm1;have hOu:=HOKU.out wr hbu;obtain⟨ha',hc',e6,-,hea⟩:=eJ.each hOu.2.2.1 (λ_=>rfl);simp only[lC] at e6;obtain⟨rfl,-,rfl⟩:=e6;obtain⟨b9,o9,rfl,-,hq9⟩:=hea j _ hq;have hOH:=hOu.2.2.2 _ (aD hq);obtain⟨r2,c2,e7,-,-⟩:=eJ.at_ hOH.1;obtain⟨r3,c3,e8,-,-⟩:=RI.each hOH.2;simp only at e7 e8;subst e7 e8;have y0:wr.cell? ⟨b9,o9+j * 4,none⟩=some (.int .i64 (edg e a)):=hq9 0 _ rfl;have y1:wr.cell? ⟨b9,o9+j * 4+1,none⟩=some (.int .i64 (edg e b)):=by rw[dB];exact hq9 1 _ rfl
      have y2:wr.cell? ⟨b9,o9+j * 4+2,none⟩=some (.slice r2 (M.map (sC e)).length c2):=by rw[dB];exact hq9 2 _ rfl
      have y3:wr.cell? ⟨b9,o9+j * 4+3,none⟩=some (.slice r3 (h.Br.map (fI e)).length c3):=by rw[dB];exact hq9 3 _ rfl
      have HEA:=aO hEA;have HEB:=aO hEB;have HES:=aO eS;have HOH:=aO hOH;have HL1:=aO l1;have HL2:=aO l2;have HL3:=aO l3;have HCN:=aO hcnt;have hml:=sm1.len;have HG6:Hid (T++g (j+1)=((((T++g j++⟨#[64]⟩)++⟨(Lib.decDigits ((cA X).length+1)).toArray⟩)++⟨#[10]⟩)++gI ⟨#[45]⟩ M)++gI ⟨#[43]⟩ h.Br):=by
       unfold Hid;rw[g6];unfold aDc;rw[hcnt,hmid];simp only[rS]
      rw[g6] at hgs1;unfold aDc at hgs1;rw[hcnt,hmid] at hgs1;simp only[aN] at hgs1;have hG9:(T++g j).size<=2000000000:=by rw[aN];omega
      have hz1:(⟨(Lib.decDigits ((cA X).length+1)).toArray⟩:ByteArray).size<=1000000000:=by omega
      have hz2:(gI ⟨#[45]⟩ M).size<=1000000000:=by omega
      have hz3:(gI ⟨#[43]⟩ h.Br).size<=1000000000:=by omega
      clear g3 g4 g5 g6 hgs hgs1 hst eN eS hEA hEB hcnt hmid l1 l2 l3 sm1 sm2 hea hq9 hOu hOH hq hbk hwu;generalize (M.map (sC e)).length=lm at *;generalize (h.Br.map (fI e)).length=lb at *
      go_wp2_with fail
      have hk2:=(aH wr (.cells #[.int .i64 (edg e a),.int .i64 (edg e b),.slice r2 lm c2,.slice r3 lb c3] 269)).1;have hb2:Below wr.heap.size wr (wr.alloc (.cells #[.int .i64 (edg e a),.int .i64 (edg e b),.slice r2 lm c2,.slice r3 lb c3] 269)):=(Below.refl _ _).alloc (aA _) _;have hs2:(wr.alloc (.cells #[.int .i64 (edg e a),.int .i64 (edg e b),.slice r2 lm c2,.slice r3 lb c3] 269)).heap.size=wr.heap.size+1:=by simp
      generalize wr.alloc (.cells #[.int .i64 (edg e a),.int .i64 (edg e b),.slice r2 lm c2,.slice r3 lb c3] 269)=w2 at *;obtain⟨cb8,hcb8⟩:∃b,b=wr.heap.size:=⟨_,rfl⟩;rw[<- hcb8];rw[<- hcb8] at hk2;have hb12:Below w1.heap.size w1 w2:=hbu.trans (hb2.mono hsu);have hs12:=hb12.size;have hSt:sE w2 sb z:=HS.out.below (HBW1.out w2 hb12);have HKU:Hid (∀u,Below w2.heap.size w2 u->kC u rb D' e own Pa D):=λu hu=>HK.out.below (HBW1.out u (hb12.trans (hu.mono hs12)));have HOU:Hid (∀u,Below w2.heap.size w2 u->OkH u ⟨edg e a,edg e b,.slice r2 lm c2,M.map (sC e),.slice r3 lb c3,h.Br.map (fI e)⟩):=λu hu=>⟨eJ.below HOH.out.1 (hb2.trans (hu.mono (by omega))),eJ.below HOH.out.2 (hb2.trans (hu.mono (by omega)))⟩;have HBB:Hid (∀u,Below w2.heap.size w2 u->Below w1.heap.size w1 u):=λu hu=>hb12.trans (hu.mono hs12);obtain⟨rva,hrva⟩:∃v,z.rows[fx]?=some (v,S.map (fI e)):=by
       have:=HROW.out;simp only[RS.abs,aP] at this
       cases h9:z.rows[fx]? with
       | none=>rw[h9] at this;cases this
       | some v=>rw[h9] at this;obtain⟨v1,v2⟩:=v;simp only[jH,cJ] at this;exact⟨v1,by rw[this]⟩
      have hfx:=(aB.1 hrva).1;obtain⟨ra9,rc9,q0,hrr⟩:=hSt.rows_;obtain⟨b1',o1',rfl,q1,hri⟩:=hrr _ _ _ hrva;obtain⟨ia,ic,e0,-,hii⟩:=RI.each hri;rw[aT] at e0;subst e0;obtain⟨da,dc,q3,hdd⟩:=hSt.dead_;have hmap:S.map (fI e)=X.map (fI e)++(M.map (fI e)++Z.map (fI e)):=by rw[HES.out];simp
      have hSX:X.length<=S.length:=by rw[HES.out];simp
      have HXM:Hid (S.length=X.length+(M.length+Z.length)):=by unfold Hid;rw[HES.out];simp
      have hXl:(cA X).length<=X.length:=dZ _ _;have HII:=aO hii;have HDD:=aO hdd;have HBT:Hid (∀u,Below w2.heap.size w2 u->Calls Tryz.prog 207 #[.pointer (some ⟨sb,0,none⟩),.slice ia S.length ic,.agg #[.int .i64 (edg e a),.int .i64 (edg e b),.slice r2 lm c2,.slice r3 lb c3]] u λr w'=>r=.returned (.tuple #[.int .i64 (X.length:Nat),.int .i64 ((X.length+M.length:Nat):Nat),.bool true])/\Below w2.heap.size w2 w'):=λu hu=>by
       have hXM:=HXM.out;have hri2:=hri;have hnd2:=HNS.out;rw[hmap] at hri2 hnd2;have:=qH (X.map (fI e)) (M.map (fI e)) (Z.map (fI e)) (edg e a) (edg e b) r2 r3 lm c2 lb c3 (.slice ia S.length ic) sb z u (hSt.below hu) (eJ.below hri2 hu) hnd2 HEA.out HEB.out (by simp;omega);refine this.mono ?_;rintro r w' ⟨rfl,hb'⟩;refine⟨by simp,hu.trans (hb'.mono hu.size)⟩
      have hsbl:sb<w2.heap.size:=hSt.lt;have hb1l:b1'<w2.heap.size:=by
       by_cases h:b1'<w2.heap.size
       ·exact h
       ·simp[World.cell?,eI (show w2.heap.size<=b1' by omega)] at q1
      have hb8l:cb8<w2.heap.size:=lt_of_block hk2;have hc9l:cb9<w2.heap.size:=by omega
      have b2:w2.cell? ⟨cb9,2,none⟩=some (.int .i64 (fx:Int)):=by
       have:=(hb12.block _ hc1).trans HK1.out;simp[World.cell?,this]
      generalize edg e a=A9 at *;generalize edg e b=B9 at *;generalize hzr:z.rows.length=zr at *;have hSall:∀u,Below w2.heap.size w2 u->u.cell? ⟨sb,2,none⟩=some (.slice (some ⟨b1',o1',none⟩) zr rc9)/\u.cell? ⟨b1',o1'+fx,none⟩=some (.slice ia S.length ic)/\u.cell? ⟨cb8,0,none⟩=some (.int .i64 A9)/\u.cell? ⟨cb8,1,none⟩=some (.int .i64 B9)/\u.cell? ⟨cb8,2,none⟩=some (.slice r2 lm c2)/\u.cell? ⟨cb8,3,none⟩=some (.slice r3 lb c3)/\u.cell? ⟨cb9,2,none⟩=some (.int .i64 (fx:Int)):=λu hu=>
       ⟨(bN (hu.block sb hsbl) _).trans q0,(bN (hu.block b1' hb1l) _).trans q1,(bN (hu.block cb8 hb8l) _).trans (by simp[World.cell?,hk2]),(bN (hu.block cb8 hb8l) _).trans (by simp[World.cell?,hk2]),(bN (hu.block cb8 hb8l) _).trans (by simp[World.cell?,hk2]),(bN (hu.block cb8 hb8l) _).trans (by simp[World.cell?,hk2]),(bN (hu.block cb9 hc9l) _).trans b2⟩
      have HSALL:=aO hSall;obtain⟨zd,hzd⟩:∃n,z.dead.length=n:=⟨_,rfl⟩;rw[hzd] at q3;have HZD:=aO hzd;have HQ3:=aO q3;clear hzd;have HST:=aO hSt;have HC8:=aO hcb8;have HZR:=aO hzr;clear hSall hrr q0 q1 q3 hmap b2 hk2 hrva hri hii hdd hSt hcb8 y0 y1 y2 y3 b6 hzr;obtain⟨s1,s2,s3,s4,s5,s6,s7⟩:=HSALL.out w2 (Below.refl _ _)
      go_region_held3 (λw'=>w'.cell? ⟨sb,2,none⟩=some (.slice (some ⟨b1',o1',none⟩) zr rc9)/\w'.cell? ⟨b1',o1'+fx,none⟩=some (.slice ia S.length ic)/\w'.cell? ⟨cb8,0,none⟩=some (.int .i64 A9)/\w'.cell? ⟨cb8,1,none⟩=some (.int .i64 B9)/\w'.cell? ⟨cb8,2,none⟩=some (.slice r2 lm c2)/\w'.cell? ⟨cb8,3,none⟩=some (.slice r3 lb c3)/\w'.cell? ⟨cb9,2,none⟩=some (.int .i64 (fx:Int)))
       (first|exact KP.out|exact⟨s1,s2,s3,s4,s5,s6,s7⟩)
       (first|(go_at_call 207;refine(HBT.out _ (Below.refl _ _).drew).mono ?_;rintro r w6 ⟨rfl,hb6⟩;have KP:=aO (HSALL.out w6 hb6)))
      clear s1 s2 s3 s4 s5 s6 s7 HBT;obtain⟨k1,k2,k3,k4,k5,k6,k7⟩:=KP.out
      go_wp2_with fail
      clear k1 k2 k3 k4 k5 k6 k7 KP;generalize hGj:T++g j=G at *;clear hGj
      go_loopw [15,16] (λcv ix wv=>∃i c:Nat,i<=X.length/\ix=.int .i64 i/\cv=.int .i64 c/\Hid (c=(cA (X.take i)).length+1)/\c<=i+1/\Below w2.heap.size w2 wv) (λ_ ix _=>X.length - (intOf ix).toNat)
      case atStart=>exact⟨0,1,aE _,rfl,rfl,rfl,aA _,hb6⟩
      case round=>
       obtain⟨i,c,hi,rfl,rfl,HCc,hci,hbv⟩:=hrel;obtain⟨s1,s2,s3,s4,s5,s6,s7⟩:=HSALL.out wr hbv;by_cases hlt2:i<X.length
       ·obtain⟨u,hu⟩:∃u,X[i]?=some u:=⟨_,aC hlt2⟩;have huS:S[i]?=some u:=by rw[HES.out,aZ hlt2];exact hu
        obtain⟨b2,o2,rfl,p2,q2⟩:=HII.out i (fI e u) (by rw[aP,huS];rfl);have d1:=HCE.out u (aD huS);obtain⟨b3,o3,rfl,q4⟩:=HDD.out _ _ d1;have d2:fI e u<zd:=by have:=(aB.1 d1).1;rw[<- HZD.out];exact this
        have q2:=(bN (hbv.block b2 p2) _).trans q2;have p3:b3<w2.heap.size:=by
         by_cases h:b3<w2.heap.size
         ·exact h
         ·simp[World.cell?,eI (show w2.heap.size<=b3 by omega)] at q4
        have q4:=(bN (hbv.block b3 p3) _).trans q4;have q3:=(bN (hbv.block sb hsbl) _).trans HQ3.out;have hax:cA (X.take (i+1))=cA (X.take i)++(if u.alive=true then [u] else []):=by
         unfold cA;rw[jD,hu,iM]
         cases h9:u.alive<;>simp[h9]
        have HAX:=aO hax;have hiS:i<S.length:=by omega
        generalize fI e u=c9 at *;clear hax hu huS d1
        cases hua:u.alive with
        | true=>
         rw[hua] at q4;have HCN2:Hid (c+1=(cA (X.take (i+1))).length+1):=by unfold Hid;rw[HAX.out,hua,HCc.out];simp
         have q4:wr.cell? ⟨b3,o3+c9,none⟩=some (.bool false):=q4;clear HAX HCc hua
         go_wp2_with fail
         go_quiet (fail)
         have hb9:=below_drewN hbv nq;go_wp2
         go_roundw
         case rel=>exact⟨i+1,c+1,by omega,by go_num,by go_num,HCN2,by omega,hb9⟩
         case measure=>simp[intOf];omega
        | false=>
         rw[hua] at q4;have HCN2:Hid (c=(cA (X.take (i+1))).length+1):=by unfold Hid;rw[HAX.out,hua,HCc.out];simp
         have q4:wr.cell? ⟨b3,o3+c9,none⟩=some (.bool true):=q4;clear HAX HCc hua
         go_wp2_with fail
         go_quiet (fail)
         have hb9:=below_drewN hbv nq;go_wp2
         go_roundw
         case rel=>exact⟨i+1,c,by omega,by go_num,rfl,HCN2,by omega,hb9⟩
         case measure=>simp[intOf];omega
       ·have HC2:Hid (c=(cA X).length+1):=by
         unfold Hid;rw[HCc.out,mU (by omega)]
        rw[<- HC2.out] at HG6 hz1;have H8:Hid (∀u,Below w2.heap.size w2 u->Calls Tryz.prog 208 #[.int .i64 c] u λr w'=>r=.returned (.string ⟨(Lib.decDigits c).toArray⟩)/\Below w2.heap.size w2 w'):=λu hu=>by
         refine(aFu c u (by omega)).mono ?_;rintro r w' ⟨rfl,hb'⟩;exact⟨rfl,hu.trans (hb'.mono hu.size)⟩
        have H6:Hid (∀u,Below w2.heap.size w2 u->Calls Tryz.prog 206 #[.pointer (some ⟨rb,0,none⟩),.slice r2 lm c2] u λr w'=>r=.returned (.string (gI ⟨#[45]⟩ M))/\w'=u):=λu hu=>by
         have:=yQ (M.map (sC e)) (.slice r2 lm c2) rb D' u (HKU.out u hu).wv (HOU.out u hu).1 (λc9 hc9=>by obtain⟨v,hv,rfl⟩:=aI.1 hc9;exact HL1.out.ok HK.out v hv) (by rw[aT];exact hml);rw[HL1.out.run] at this;exact this
        have H5:Hid (∀u,Below w2.heap.size w2 u->Calls Tryz.prog 205 #[.pointer (some ⟨rb,0,none⟩),.slice r3 lb c3] u λr w'=>r=.returned (.string (gI ⟨#[43]⟩ h.Br))/\w'=u):=λu hu=>by
         have:=vV (h.Br.map (fI e)) (.slice r3 lb c3) rb D' u (HKU.out u hu).wv (HOU.out u hu).2 (λc9 hc9=>by obtain⟨v,hv,rfl⟩:=aI.1 hc9;exact HL2.out.ok HK.out v hv) (by rw[aT];exact hBl);rw[HL2.out.alive HL3.out] at this;exact this
        have HS2:Hid (∀u,Below w2.heap.size w2 u->u.cell? ⟨cb8,2,none⟩=some (.slice r2 lm c2)/\u.cell? ⟨cb8,3,none⟩=some (.slice r3 lb c3)):=λu hu=>by
         obtain⟨-,-,-,-,z5,z6,-⟩:=HSALL.out u hu;exact⟨z5,z6⟩
        generalize gI ⟨#[45]⟩ M=BA at *;generalize gI ⟨#[43]⟩ h.Br=BB at *;generalize (⟨(Lib.decDigits c).toArray⟩:ByteArray)=DZ at *;have f1:=uN G ⟨#[64]⟩ (by omega) (by decide);have z1:(G++⟨#[64]⟩).size<=2000000001:=by rw[aN];show _+1<=_;omega
        have f2:=uN (G++⟨#[64]⟩) DZ (by omega) (by omega);have z2:(G++⟨#[64]⟩++DZ).size<=3000000001:=by rw[aN];omega
        have f3:=uN (G++⟨#[64]⟩++DZ) ⟨#[10]⟩ (by omega) (by decide);have z3:(G++⟨#[64]⟩++DZ++⟨#[10]⟩).size<=3000000002:=by rw[aN];show _+1<=_;omega
        have f4:=uN (G++⟨#[64]⟩++DZ++⟨#[10]⟩) BA (by omega) (by omega);have z4:(G++⟨#[64]⟩++DZ++⟨#[10]⟩++BA).size<=4000000002:=by rw[aN];omega
        have f5:=uN (G++⟨#[64]⟩++DZ++⟨#[10]⟩++BA) BB (by omega) (by omega);clear z1 z2 z3 z4;clear HCc HC2 s1 s2 s3 s4 s7
        go_wp2_with fail
        go_region_held3 (λw'=>w'.cell? ⟨cb8,2,none⟩=some (.slice r2 lm c2)/\w'.cell? ⟨cb8,3,none⟩=some (.slice r3 lb c3))
         (first|exact KP.out|exact⟨s5,s6⟩)
         (first
          | (go_at_call 208;refine(H8.out _ hbv.drew).mono ?_;rintro r w7 ⟨rfl,hb7⟩;have KP:=aO (HS2.out w7 hb7))
          | (go_at_call 206;refine(H6.out _ hb7).mono ?_;rintro r w8 ⟨rfl,rfl⟩)
          | (go_at_call 205;refine(H5.out _ hb7).mono ?_;rintro r w8 ⟨rfl,rfl⟩))
        all_goals
         go_wp2
         go_roundw
         case rel=>exact⟨j+1,by omega,by go_num,by rw[HG6.out],HBB.out _ hb7⟩
         case measure=>simp[intOf];omega
     ·obtain rfl:j=hN9:=by omega
      clear hbk hwu;go_wp2
      go_roundw
      case rel=>exact⟨k+1,by omega,by go_num,by rw[HF1.out],HBW1.out _ hbu⟩
      case measure=>simp[intOf];omega
  ·obtain rfl:k=n:=by omega
   generalize hT9:(⟨(dK t k).toArray⟩:ByteArray)=T at *;have H9:=aO hT9;clear hch hok hpp e1 hT9;go_wp2;go_ret;exact⟨by rw[H9.out];rfl,hb⟩
end
theorem fR.split:∀{A B:List Hk} {F z:List aU},fR F (A++B) z->∃G,fR F A G/\fR G B z
 | [],_,F,_,h=>⟨F,rfl,h⟩
 | _::_,_,_,_,⟨F1,h1,h2⟩=>by
  obtain⟨G,g1,g2⟩:=h2.split;exact⟨G,⟨F1,h1,g1⟩,g2⟩
theorem aOa{i j:cL}{v:Value}{z:List Hk}{F W:List aU}(h:fR F z W)(wf:aD1 i (.alter j v z))(self:¬ xK (pR (.alter j v z)) i (rH (.alter j v z))){k:Hk}(K:k∈z):∃G,gS F k.N k.Br G:=by
 obtain⟨A,B,e⟩:=List.append_of_mem K;rw[e] at h;obtain⟨G,g1,F2,g2,-⟩:=h.split
 obtain⟨Y,g3,-⟩:=aDd g1 g2 (λE J t Z=>by
  have U:E∈z:=by rw[e];exact aG.2 (.inl J)
  have V:t∈pR (.alter j v z):=dP _ (dD.2 ⟨k,K,Z⟩)
  exact⟨λI=>self ⟨t,V,.inl (wf.own t (dD.2 ⟨E,U,I⟩)).1⟩,λI=>self ⟨t,V,.inr (dD.2 ⟨E,U,I⟩)⟩⟩)
 exact⟨Y,g3⟩
section
variable {e:iA} {own:List ByteArray} {Pa:List PM} {D D':RD} {L:ByteArray->cL->Prop} {s:ByteArray->PL} {a:AS}
theorem LnS.ext{S:List aU}(h:LnS e D S)(J:D.Ext D'):LnS e D' S:=λu I=>by
 obtain⟨k,E⟩:=h u I;obtain⟨X,z⟩:=J.cells;exact⟨k,by rw[z];exact kV E⟩
theorem iE.lns(z:iE e own Pa D L s a)(x:ByteArray):LnS e D (s x).S:=λu E=>by
 obtain⟨-,-,k,P,h1,-⟩:=(z.cell x u E).1;exact⟨k,h1⟩
theorem LnS.sub{S T:List aU}(h:LnS e D S)(hs:∀u∈T,u∈S):LnS e D T:=λu z=>h u (hs u z)
theorem aYd(hS:iE e own Pa D L s a)(hx:D.Ext D'){i:cL}{c:ByteArray×fM}(J:LnS e D' (jS c.2))(I:∀u∈jS c.2,u.alive=true){p':PL}(Y:aE3 i c.2 (s c.1) p')(wf:aD1 i c.2)(self:¬ xK (pR c.2) i (rH c.2))(sm:qU c.2)(hb:(jS c.2).length<=1000):TlC e D' s c:=by
 obtain⟨x,c⟩:=c;simp only at *;have K:=(hS.lns x).ext hx;unfold TlC
 cases c with
 | add i' l v S=>exact⟨J,I⟩
 | remove i' v S=>
  obtain⟨-,-,W,-⟩:=Y;simp only;rw[W];exact K
 | alter i' v Hs=>
  obtain⟨h1,h2,W,h4,h5,h6⟩:=Y;refine⟨h2,h1,by have:=sm.1;omega,λh V=>?_⟩;obtain⟨G,hG⟩:=aOa h6 wf self V;obtain⟨X,M,Z,a0,b0,q1,q2,-⟩:=hG.split;have U:cV h.N=M:=by rw[q2];exact aCc a0 b0 M
  have z:∀u∈h.Br,u∈jS (.alter i' v Hs):=λu E=>dD.2 ⟨h,V,E⟩;refine⟨K.sub λu E=>?_,J.sub z,λu E=>I u (z u E),?_,G,hG⟩
  ·rw[U] at E;rw[q1];simp[E]
  ·obtain⟨A,B,e9⟩:=List.append_of_mem V;have:h.Br.length<=(jS (.alter i' v Hs)).length:=by
    show _<=(Hs.flatMap (·.Br)).length;rw[e9];simp;omega
   omega
end
end Go.Proofs.YtgdfipmdmgkidaaGreatDoor

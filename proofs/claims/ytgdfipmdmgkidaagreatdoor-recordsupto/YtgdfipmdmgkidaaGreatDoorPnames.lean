import Derived.Test.YtgdfipmdmgkidaaGreatDoorPvals
import Derived.Test.YtgdfipmdmgkidaaGreatDoorDelf
import Derived.Test.YtgdfipmdmgkidaaGreatDoorQcell
import Derived.Test.YtgdfipmdmgkidaaGreatDoorPchange
import Derived.Test.YtgdfipmdmgkidaaGreatDoorPtell
import Derived.Lib.SlicesCompact
import Derived.Test.YtgdfipmdmgkidaaGreatDoorAl
set_option linter.all false
set_option maxHeartbeats 6400000
set_option maxRecDepth 100000
namespace Go.Proofs.YtgdfipmdmgkidaaGreatDoor
open Go.RowKit Go.Shelf Go.Sort Go.Lib
theorem aKn{s t:ByteArray}(h:mI s=mI t):s=t:=aBs h
def pG(K:List ByteArray):Prop:=K.Pairwise λa b=>mI a<mI b
theorem pG.ext:∀{K z:List ByteArray},pG K->pG z->(∀x,x∈K↔x∈z)->K=z:=by
 intro K z h I U;have nd:∀{L:List ByteArray},pG L->L.Nodup:=λJ=>J.imp λE e=>by subst e;exact List.lt_irrefl _ E
 refine List.Perm.eq_of_pairwise (le:=λa b=>mI a<=mI b) (λa b _ _ h1 h2=>aKn (aV5 h1 h2)) (h.imp List.le_of_lt) (I.imp List.le_of_lt) ?_;exact(List.perm_ext_iff_of_nodup (nd h) (nd I)).2 U
theorem pG.filter{K:List ByteArray}(h:pG K)(p:ByteArray->Bool):pG (K.filter p):=List.Pairwise.filter p h
theorem zS{H:Type}{R:Value->Option (DataW H×List MemPlace)}{w:World}{mb n:Nat}{D:DataW H}(z:w.ownsMap Tryz.prog 9 R mb n D):(strKeys D).Nodup/\∀x:List UInt8,x∈strKeys D↔Maps.has D (.string x)=true:=by
 obtain⟨J,hD,a2⟩:=z.tidy (fT Tryz.underlying9);obtain⟨V,I,W⟩:=z.keysOf;obtain rfl:J=V:=by rw[hD] at I;simpa using I
 have K:∀p∈J,∃x,p.1=Lit.string x:=λp E=>by
  obtain⟨v,hv⟩:=W p E;obtain⟨x,_,hx,_⟩:=Maps.keyOf_str Tryz.underlying9 hv;exact⟨x,hx⟩
 have Y:(J.map λp=>strOf p.1).Nodup:=by
  refine jB.2 (a2.imp_of_mem λ{p q} a1 a3 a0 e=>a0 ?_);obtain⟨a,ha⟩:=K p a1;obtain⟨b,hb⟩:=K q a3;rw[ha,hb] at e ⊢;exact congrArg _ e
 subst hD;refine⟨Y,λx=>?_⟩;show x∈J.map (λp=>strOf p.1)↔_;rw[aI,Maps.has_eq,aV3];constructor
 ·rintro⟨p,E,rfl⟩;obtain⟨y,U⟩:=K p E;exact⟨p,E,by rw[U];simp[strOf,Lit.sameKey]⟩
 ·rintro⟨p,E,he⟩;obtain⟨y,U⟩:=K p E;rw[U] at he;exact⟨p,E,by rw[U];simpa[strOf,Lit.sameKey] using he⟩
theorem wM(x:List UInt8):mI ⟨x.toArray⟩=x:=by simp[mI]
theorem aDe{H:Type}{R:Value->Option (DataW H×List MemPlace)}{w:World}{mb n:Nat}{D:DataW H}(z:w.ownsMap Tryz.prog 9 R mb n D){ss:List (List UInt8)}(hp:ss.Perm (strKeys D)):
  ∃K:List ByteArray,pG K/\(∀x,x∈K↔Maps.has D (kl x)=true)/\(ss.mergeSort (λx y=>decide (x<=y))).map encStr=bW K/\K.length=ss.length/\∀x∈K,x.size<=maxLen:=by
 obtain⟨h1,h2⟩:=zS z;have U:=strKeys_le z Tryz.underlying9;have tr:∀a b c:List UInt8,decide (a<=b)=true->decide (b<=c)=true->decide (a<=c)=true:=λa b c h1 h2=>by simp only[decide_eq_true_eq] at *;exact List.le_trans h1 h2
 have to:∀a b:List UInt8,(decide (a<=b) || decide (b<=a))=true:=λa b=>by simp only[vI,decide_eq_true_eq];exact List.le_total a b
 have E:=(List.mergeSort_perm ss (λx y=>decide (x<=y))).trans hp;have W:=List.pairwise_mergeSort tr to ss;have V:(ss.mergeSort (λx y=>decide (x<=y))).Nodup:=E.nodup_iff.2 h1;have J:((ss.mergeSort (λx y=>decide (x<=y))).map λb=>(⟨b.toArray⟩:ByteArray)).map mI=ss.mergeSort (λx y=>decide (x<=y)):=by
  rw[fG]
  conv=>rhs;rw[<- List.map_id (ss.mergeSort _)]
  exact fQ λa _=>wM a
 refine⟨(ss.mergeSort (λx y=>decide (x<=y))).map λb=>⟨b.toArray⟩,?_,λx=>?_,?_,by simp,λx Y=>?_⟩
 ·refine jB.2 ?_;refine(W.and V).imp λ{a b} h=>?_;rw[wM,wM];have h1:=h.1;rw[decide_eq_true_eq] at h1;exact List.not_le.1 λh3=>h.2 (aV5 h1 h3)
 ·rw[aI];have e:kl x=.string (mI x):=rfl;rw[e,<- h2 (mI x),<- E.mem_iff];constructor
  ·rintro⟨b,I,rfl⟩;rw[wM];exact I
  ·intro h;exact⟨mI x,h,by simp[mI]⟩
 ·rw[<- aNu,J]
 ·rw[aI] at Y;obtain⟨b,I,rfl⟩:=Y;have:=U b (E.mem_iff.1 I);simpa[ByteArray.size] using this
theorem FK.size{w:World}{z n:Nat}{f:ByteArray->Option ByteArray}(h:FK w z f n):∃D,w.ownsMap Tryz.prog 9 gU z n D/\∀x,Maps.has D (kl x)=(f x).isSome:=by
 obtain⟨D,h1,_,E⟩:=h;exact⟨D,h1,E⟩
theorem aA2(f:ByteArray->Option ByteArray)(I n rb ro:Nat)(w:World)(h:FK w I f n)(hn:n<=1000000)(hr:w.cell? ⟨rb,ro+1,none⟩=some (.map (some I))):
  Calls Tryz.prog 168 #[.pointer (some ⟨rb,ro,none⟩)] w λe w'=>∃v K,e=.returned v/\w'.ownsRow w.heap.size 9 1 v K.length (bW K)/\pG K/\(∀x,x∈K↔(f x).isSome=true)/\K.length<=n/\Below w.heap.size w w':=by
 obtain⟨D,z,hh⟩:=h.size;have J:=z.size_le;have Y:Hid (Calls Tryz.prog 214 #[.map (some I)] w λe w'=>e=.returned (.func (.func 246) #[] #[.pointer (some ⟨w.heap.size,0,none⟩)])/\w'=w.alloc (.cells #[.map (some I)] 85)):=callsIn_wide.1 (Tryz.maps_Keys_214 _ _);have HS:Hid (Calls Tryz.prog 177 #[.func (.func 246) #[] #[.pointer (some ⟨w.heap.size,0,none⟩)]] (w.alloc (.cells #[.map (some I)] 85)) λe w'=>∃U W V K,e=.returned (.slice U W V)/\w'.ownsRow w.heap.size 9 1 (.slice U W V) K.length (bW K)/\pG K/\(∀x,x∈K↔(f x).isSome=true)/\K.length<=n/\Below w.heap.size w w'):=by
  refine(callsIn_wide.1 (Tryz.slices_Sorted_keys_177_214 I n D gU w z (by unfold maxLen;omega) (by omega))).mono ?_;rintro e w' ⟨v,ss,rfl,hp,E,a0,hb⟩;obtain⟨K,k1,k2,k3,k4,_⟩:=aDe z hp;have hl:ss.length<=n:=by rw[hp.length_eq];exact aR (Nat.le_of_eq (by obtain⟨es,hD,_⟩:=z.keysOf;rw[hD];simp[strKeys,Maps.size])) J
  rw[k3,<- k4] at E;obtain⟨U,V,rfl⟩:=bC E;exact⟨U,_,V,K,rfl,bK E (by simp),k1,λx=>by rw[k2,hh],by omega,((Below.refl _ w).alloc (aA _) _).trans (hb.mono (by simp))⟩
 clear hh z h J;go_enter Tryz.func168,Tryz.ntmps168
 go_wp2_with fail
 refine Y.out.mono ?_;rintro e w1 ⟨rfl,rfl⟩;clear Y
 go_wp2_with fail
 refine HS.out.mono ?_;rintro e w2 ⟨U,W,V,K,rfl,h1,h2,h3,h4,h5⟩;clear HS;go_wp2;go_ret;exact⟨_,K,rfl,h1,h2,h3,h4,h5⟩
abbrev Nm:={x:ByteArray // x.size<=maxLen}
instance:Inhabited Nm:=⟨⟨⟨#[]⟩,by decide⟩⟩
def aFw(x:Nm):Value:=.string x.1
theorem aWx:OneCell aFw:=λ_=>rfl
theorem cK.lookM{w W:World}{E n:Nat}{J:ByteArray->PL}(h:cK w E J n)(Y:W.heap[E]?=w.heap[E]?)(a:ByteArray)(V:a.size<=maxLen):∃l,(Instr.lookup 119 (.map (some E)) (.string a) false).run Tryz.prog W=.ok (kT l) W/\qV l (J a):=by
 obtain⟨f,has,D,⟨K,z,he,I⟩,h2,h3,h4,U,h6⟩:=h;have h1:W.ownsMap Tryz.prog 9 gU E n D:=⟨K,z,Y.trans he,I⟩;obtain⟨v,ps,I,hv⟩:=h1.lookup (fT Tryz.underlying9) Tryz.underlying119 (aMp W) (uB zU) (aDg (s:=a) V);rw[h2 a] at hv;exact⟨f a,by rw[I,oR hv],U a⟩
theorem aW0(a b c d:Int)(al:Bool)(rv:Value)(W:World):(Instr.field 185 (.agg #[.int .u8 a,.int .u8 b,.int .u8 c,.int .u8 d,.bool al,rv]) 1).run Tryz.prog W=.ok (.bool al) W:=by kernel_rfl
theorem yP{w W:World}{I n B:Nat}{K:ByteArray->PL}(h:cK w I K n)(J:W.heap[I]?=w.heap[I]?)(hc:W.cell? ⟨B,0,none⟩=some (.map (some I)))(x:Nm):
  FnGives Tryz.prog 223 #[.pointer (some ⟨B,0,none⟩)] #[aFw x] (.bool (!(K x.1).alive)) W:=by
 show Calls Tryz.prog 223 #[.string x.1,.pointer (some ⟨B,0,none⟩)] W _;obtain⟨l,E,_,z,_⟩:=h.lookM J x.1 x.2;rw[<- z];obtain⟨⟨U,V,Y,bd⟩,al,rv,S⟩:=l;unfold kT at E;simp only at E;clear z h J;generalize x.1=y at *;have a0:=aW0 U V Y bd al rv W;go_enter Tryz.func223,Tryz.ntmps223;go_wp2;go_ret;exact⟨rfl,0,rfl⟩
theorem aK6(g:Nat)(lb:Array Value)(w:World):Calls Tryz.prog 171 #[.slice none 0 0,.func (.func g) #[] lb] w λe w'=>e=.returned (.int .i64 (-1))/\w'=w:=by
 go_enter Tryz.func171,Tryz.ntmps171;go_wp2
 go_loopw [8] (λi wr=>i=.int .i64 0/\wr=w) (λ_ _=>0)
 case atStart=>exact⟨rfl,rfl⟩
 case round=>
  obtain⟨rfl,rfl⟩:=hrel;go_wp2;go_ret;exact⟨rfl,rfl⟩
theorem aQy(g:Nat)(lb:Array Value)(w:World):Calls Tryz.prog 222 #[.slice none 0 0,.func (.func g) #[] lb] w λe w'=>e=.returned (.slice none 0 0)/\w'=w:=by
 have z:=aO (aK6 g lb w);go_enter Tryz.func222,Tryz.ntmps222
 go_wp2_with fail
 refine z.out.mono ?_;rintro e E ⟨rfl,rfl⟩;clear z;go_wp2;go_ret;exact⟨rfl,rfl⟩
theorem aW6 {α:Type} [Inhabited α] (enc:α->Value) {w:World} {g n:Nat} {z:Array Value} {e:TypeId} {fr:Nat×Nat} (d:Array α) (E:w.heap[g]?=some (.cells z e fr)) :
  (putRow enc (Sort.ahead w n) g 0 d).heap[g]?=some (.cells (putCells enc 0 d z) e fr):=by
 simp[putRow,mapBlock,Sort.ahead,Array.getElem?_modify,E,onCells]
theorem aI7 {α:Type} [Inhabited α] (enc:α->Value) {w:World} {g n:Nat} (d:Array α):w.grownBy (putRow enc (Sort.ahead w n) g 0 d) (some g):=by
 refine⟨rfl,rfl,rfl,by simp[Sort.ahead],λk E z=>?_⟩;have:g≠k:=λe=>z (by rw[e]);simp[putRow,mapBlock,Sort.ahead,Array.getElem?_modify,this]
theorem aX8 {α:Type} [Inhabited α] (enc:α->Value) (z:Array Value) (ts E:List α) (h:ts.length+E.length<=z.size):(putCells enc 0 (ts++E).toArray z).toList.take ts.length=ts.map enc:=by
 apply rV;intro j;by_cases I:j<ts.length
 ·rw[dN I,tE];simp[putCells,I,show j<z.size by omega,show j<ts.length+E.length by omega]
 ·rw[List.getElem?_take_eq_none (by omega),gK (by simp;omega)]
def zN:List ByteArray->List Nm
 | []=>[]
 | x::K=>if h:x.size<=maxLen then ⟨x,h⟩::zN K else zN K
theorem aAn:∀{K:List ByteArray},(∀x∈K,x.size<=maxLen)->(zN K).map (·.1)=K
 | [],_=>rfl
 | x::K,h=>by
  have h1:=h x (by simp);unfold zN;rw[dif_pos h1,cU,aAn (λy z=>h y (by simp[z]))]
theorem aTq{K:List ByteArray}(h:∀x∈K,x.size<=maxLen):(zN K).map aFw=bW K:=by
 conv=>rhs;rw[<- aAn h]
 unfold bW;rw[fG];rfl
theorem aM3{K:List ByteArray}(h:∀x∈K,x.size<=maxLen)(p:ByteArray->Bool):((zN K).filter λx=>p x.1).map aFw=bW (K.filter p):=by
 conv=>rhs;rw[<- aAn h]
 unfold bW;rw[List.filter_map,fG];rfl
theorem aWh{K:List ByteArray}(h:∀x∈K,x.size<=maxLen):(zN K).length=K.length:=by
 conv=>rhs;rw[<- aAn h]
 simp
theorem aQx{w:World}{Y n B E:Nat}{z:ByteArray->PL}{v:Value}{K:List ByteArray}(h:cK w Y z n)(hB:B<w.heap.size)(hc:w.heap[B]?=some (.cells #[.map (some Y)] 121 (0,0)))(hv:w.ownsRow E 9 1 v K.length (bW K))(hK:∀x∈K,x.size<=maxLen)(hl:K.length<=1000000):
  Calls Tryz.prog 222 #[v,.func (.func 223) #[] #[.pointer (some ⟨B,0,none⟩)]] w λe w'=>∃va vn vc,e=.returned (.slice va vn vc)/\w'.ownsRow E 9 1 (.slice va vn vc) (K.filter λx=>(z x).alive).length (bW (K.filter λx=>(z x).alive))/\w.grownBy w' v.ownBlock:=by
 have a0:w.cell? ⟨B,0,none⟩=some (.map (some Y)):=by simp[World.cell?,hc]
 have U:=h.lt;obtain⟨b1,b0,a8⟩:∃es c,w.heap[Y]?=some (.map es c):=by obtain⟨_,_,_,⟨es,c,he,_⟩,_⟩:=h;exact⟨es,c,he⟩
 rcases hv.2 with ⟨rfl,h0⟩|⟨g,cap,a2,rfl,I,J,a9,a3,a4,V⟩
 ·have:K=[]:=aS h0;subst this;refine(aQy 223 _ w).mono ?_;rintro e w' ⟨rfl,rfl⟩;exact⟨none,0,0,rfl,aK _ _ _ _,qG _ _⟩
 ·have a5:B≠g:=λe=>by subst e;rw[hc] at J;simp at J
  have a6:Y≠g:=λe=>by subst e;rw[a8] at J;cases J
  have a1:=aWh hK;have hH:Holds aFw w g 0 (zN K).toArray:=by
   intro j hj;have a7:j<(zN K).length:=by simpa using hj
   refine⟨?_,by simp[World.frozen?,J]⟩;have h1:(a2.toList.take (K.length * 1))[j]?=((zN K).map aFw)[j]?:=by rw[V,aTq hK]
   rw[dN (by omega),tE] at h1;simp only[World.cell?,J,dC];rw[h1];simp[a7]
  have hD:=AnyE.slices_DeleteFunc Tryz.l222 aFw aWx (λx:Nm=>!(z x.1).alive) 223 #[.pointer (some ⟨B,0,none⟩)] (enters_of Tryz.func223 (by kernel_rfl) rfl) ⟨⟨#[]⟩,by decide⟩ (λw=>by kernel_rfl) g 0 cap (zN K).toArray w
   (λW x hb=>yP h (hb.block Y U) ((hb.cell (p:=⟨B,0,none⟩) hB).trans a0) x)
   (λm os dk x _=>by
    refine yP h ?_ ?_ x
    ·unfold sortWorld;rw[heap_grow_old _ _ (by simpa[Sort.ahead] using U)];exact(aI7 aFw (w:=w) dk).block Y U (by simpa using a6)
    ·unfold sortWorld;rw[cell?_grow _ _ _ (by show B<(putRow _ _ _ _ _).heap.size;rw[size_putRow];exact hB),cell?_putRow_other _ _ g 0 _ _ (Or.inl a5)]
     exact a0)
   hH (by simp;omega) (by simp;omega)
  have e1:(zN K).toArray.size=K.length:=by simp[a1]
  rw[e1] at hD;refine hD.mono ?_;rintro e w' ⟨rfl,q,rfl⟩;have e2:((zN K).toArray.toList.filter λx:Nm=>!!(z x.1).alive)=(zN K).filter λx=>(z x.1).alive:=by simp
  rw[e2];have e3:=aM3 hK (λx=>(z x).alive);have e4:((zN K).filter λx=>(z x.1).alive).length=(K.filter λx=>(z x).alive).length:=by
   have:=congrArg List.length e3;simpa[bW] using this
  have e5:(K.filter λx=>(z x).alive).length<=K.length:=dZ _ _;refine⟨some ⟨g,0,none⟩,_,cap,rfl,?_,aI7 aFw _⟩;rw[e4];refine⟨by simp[bW],.inr ⟨g,cap,_,rfl,I,aW6 aFw _ J,by omega,a3,by simp[putCells,a4],?_⟩⟩;rw[jW,<- e4,aX8 aFw _ _ _ (by simp;omega),e3]
theorem aLu(st:ByteArray->PL)(U n:Nat)(w:World)(h:cK w U st n)(hn:n<=100000):
  Calls Tryz.prog 180 #[.agg #[.map (some U)]] w λe w'=>∃v K,e=.returned v/\w'.ownsRow w.heap.size 9 1 v K.length (bW K)/\pG K/\(∀x,x∈K↔(st x).alive=true)/\K.length<=n/\Below w.heap.size w w':=by
 obtain⟨z,J⟩:∃z,z=w.alloc (.cells #[.map (some U)] 121):=⟨_,rfl⟩;have a1:Below w.heap.size w z:=by rw[J];exact(Below.refl _ _).alloc (aA _) _
 have Y:z.heap[w.heap.size]?=some (.cells #[.map (some U)] 121 (0,0)):=by rw[J];exact(aH w _).1
 have a0:w.heap.size<z.heap.size:=by rw[J];simp
 have h1:=h.below a1 (aA _);have a7:z.cell? ⟨w.heap.size,0,none⟩=some (.map (some U)):=by simp[World.cell?,Y]
 have HK:Hid (Calls Tryz.prog 221 #[.map (some U)] z λe w'=>e=.returned (.func (.func 254) #[] #[.pointer (some ⟨z.heap.size,0,none⟩)])/\w'=z.alloc (.cells #[.map (some U)] 119)):=callsIn_wide.1 (Tryz.maps_Keys_221 _ _);have HS:Hid (Calls Tryz.prog 177 #[.func (.func 254) #[] #[.pointer (some ⟨z.heap.size,0,none⟩)]] (z.alloc (.cells #[.map (some U)] 119)) λe w2=>∃V vn W K,e=.returned (.slice V vn W)/\w2.ownsRow z.heap.size 9 1 (.slice V vn W) K.length (bW K)/\pG K/\(∀x,x∉K->(st x).alive=false)/\K.length<=n/\(∀x∈K,x.size<=maxLen)/\Below z.heap.size z w2):=by
  obtain⟨f,has,D,E,h2,h3,h4,h5,h6⟩:=h1;have a4:=E.size_le;refine(callsIn_wide.1 (Tryz.slices_Sorted_keys_177_221 U n D gU z E (by unfold maxLen;omega) (by omega))).mono ?_;rintro e w' ⟨v,ss,rfl,hp,I,a6,hb⟩;obtain⟨K,k1,k2,k3,k4,k5⟩:=aDe E hp;have hl:ss.length<=n:=by rw[hp.length_eq];exact aR (Nat.le_of_eq (by obtain⟨es,hD,_⟩:=E.keysOf;rw[hD];simp[strKeys,Maps.size])) a4
  rw[k3,<- k4] at I;obtain⟨V,W,rfl⟩:=bC I;refine⟨V,_,W,K,rfl,bK I (by simp),k1,λx hx=>?_,by omega,k5,((Below.refl _ z).alloc (aA _) _).trans (hb.mono (by simp))⟩;have a5:has x=false:=by
   rw[<- h3 x]
   cases e:Maps.has D (kl x)
   ·rfl
   ·exact absurd ((k2 x).2 e) hx
  have:=(h5 x).2.1;rw[h4 x a5] at this;exact this.symm
 have HT:=aO h1;have a3:=aO Y;clear h h1 Y;go_enter Tryz.func180,Tryz.ntmps180
 go_wp2_with fail
 rw[<- J];clear J;refine HK.out.mono ?_;rintro e w2 ⟨rfl,rfl⟩;clear HK
 go_wp2_with fail
 refine HS.out.mono ?_;rintro e w2 ⟨V,vn,W,K,rfl,g1,g2,g3,g4,g5,g6⟩;have HD:Hid (Calls Tryz.prog 222 #[.slice V vn W,.func (.func 223) #[] #[.pointer (some ⟨w.heap.size,0,none⟩)]] w2 λe w'=>∃ua un uc,e=.returned (.slice ua un uc)/\w'.ownsRow z.heap.size 9 1 (.slice ua un uc) (K.filter λx=>(st x).alive).length (bW (K.filter λx=>(st x).alive))/\w2.grownBy w' (Value.slice V vn W).ownBlock):=
  aQx (HT.out.below g6 (aA _)) (bJ a0 g6.size) ((g6.block _ a0).trans a3.out) g1 g5 (by omega)
 have a2:Hid (∀w',w2.grownBy w' (Value.slice V vn W).ownBlock->Below w.heap.size w w'):=λw' hg=>(a1.trans (g6.mono (iT a0))).grown hg (by have:=g6.size;omega) (λj hj=>by have:=(g1.lt j hj).1;omega);clear HS g1 HT g5
 go_wp2_with fail
 refine HD.out.mono ?_;rintro e w3 ⟨ua,un,uc,rfl,k1,k2⟩;clear HD;go_wp2;go_ret;refine⟨_,K.filter λx=>(st x).alive,rfl,bK k1 (by omega),g2.filter _,λx=>?_,aR (dZ _ _) g4,a2.out _ k2⟩;rw[cT];constructor
 ·exact λhx=>hx.2
 ·intro hx;refine⟨Classical.byContradiction λhn=>?_,hx⟩;rw[g3 x hn] at hx
  cases hx
theorem vA{P:Program}{w:World}{a7:Array Oper}{o:Oper}{a:Act}{K:Act->World->Prop}{Q:Exit->Act->World->Prop}{E:Prop}(a2:o.guard=none)(s x:Operand)(t:TypeId)
  (ho:o.op=.call { callee:=.builtin .append,args:=#[s,x],argTypes:=#[t,t] })
  (J:Nat) (e:TypeId) (i:TypeInfo) (z:Value) (size bytes:Nat) (ht:P.underlying t=some (.slice e)) (hi:P.info? e=some i) (hz:i.zero=some z)
  (a1:i.size=size) (a4:i.bytes=bytes) (a6:z.cells.size=size) (a5:0<size)
  (v:Value) (n:Nat) (xs:List Value) (hs:a.eval s=v) (U:w.ownsRow J e size v n xs)
  (xa:Option Addr) (m c:Nat) (I:List Value) (hx:a.eval x=.slice xa m c) (hl:I.length=m * size) (Y:m=0\/∃ad,xa=some ad/\∀j u,I[j]?=some u->w.cell? (ad.add j)=some u) (h1:∀u∈I,u.oneCell'=true)
  (a3:n+m<=maxLen) (V:(n+m) * bytes<=140737488355328) (W:J<=w.heap.size)
  (h:∀va vn vc w',w'.ownsRow J e size (.slice va vn vc) (n+m) (xs++I)->w.grownBy w' v.ownBlock->K (a.put o.dst (.slice va vn vc)) w') :
  if Region.wanted o (yielded a7 a.tmps)=true then Oper.wp P o a w K Q else E:=by
 rcases aQd m with rfl|hm
 ·have hn:I=[]:=aS (by simpa using hl);subst hn;have a0:=U;obtain⟨va,vc,rfl⟩:∃va vc,v=.slice va n vc:=by
   rcases U.2 with ⟨rfl,rfl⟩|⟨g,cap,a8,rfl,_⟩
   ·exact⟨_,_,rfl⟩
   ·exact⟨_,_,rfl⟩
  exact aCn a2 s x t ho J e i size ht hi _ n xs hs U ⟨xa,c,hx⟩ (h va n vc w (by simpa using a0) (qG _ _))
 ·obtain⟨ad,rfl,hc⟩:=Y.resolve_left (by omega);exact step_append_lies w a2 s x t ho J e i z size bytes ht hi hz a1 a4 a6 a5 v n xs hs U ad m c I hx hl hc h1 hm a3 V W _ rfl (λg cap w' k1 k2 _ _=>h _ _ _ w' k1 k2)
theorem aU2{w:World}{B n c:Nat}{I:Option Addr}{L:List ByteArray}(h:w.ownsRow B 9 1 (.slice I n c) L.length (bW L)):n=L.length/\(L.length=0\/∃z,I=some z/\∀j u,(bW L)[j]?=some u->w.cell? (z.add j)=some u):=by
 have K:=λg=>eZ h (g:=g);rcases h.2 with ⟨h1,E⟩|⟨g,cp,J,h1,_⟩
 ·cases h1
  exact⟨E.symm,.inl E⟩
 ·cases h1
  exact⟨rfl,.inr ⟨_,rfl,λj u U=>K g rfl j u U⟩⟩
theorem aFc(f:ByteArray->Option ByteArray)(fb fn rb ro:Nat)(st:ByteArray->PL)(mb n:Nat)(w:World)(hF:FK w fb f fn)(b5:fn<=1000000)(hr:w.cell? ⟨rb,ro+1,none⟩=some (.map (some fb)))(b6:rb<w.heap.size)(hT:cK w mb st n)(hn:n<=100000):
  Calls Tryz.prog 112 #[.pointer (some ⟨rb,ro,none⟩),.agg #[.map (some mb)]] w λe w'=>∃v L,e=.returned v/\w'.ownsRow w.heap.size 9 1 v L.length (bW L)/\(∀x,x∈L↔(f x).isSome=true\/(st x).alive=true)/\L.length<=fn+n/\Below w.heap.size w w':=by
 obtain⟨i0,hi,b8,b9,c0⟩:=info_parts Tryz.info9;obtain⟨z,Y⟩:∃z,z=w.alloc (.cells #[.map (some mb)] 121):=⟨_,rfl⟩;have U:Below w.heap.size w z:=by rw[Y];exact(Below.refl _ _).alloc (aA _) _
 have a8:z.heap[w.heap.size]?=some (.cells #[.map (some mb)] 121 (0,0)):=by rw[Y];exact(aH w _).1
 have a3:w.heap.size<z.heap.size:=by rw[Y];simp
 have b4:=hF.lt;have a6:∀u,Below z.heap.size z u->FK u fb f fn:=λu hu=>hF.same ((hu.block fb (by omega)).trans (U.block fb b4));have H1:Hid (∀u,Below z.heap.size z u->Calls Tryz.prog 168 #[.pointer (some ⟨rb,ro,none⟩)] u λe w'=>∃va vn vc K,e=.returned (.slice va vn vc)/\w'.ownsRow u.heap.size 9 1 (.slice va vn vc) K.length (bW K)/\(∀x,x∈K↔(f x).isSome=true)/\K.length<=fn/\Below u.heap.size u w'):=λu hu=>by
  refine(aA2 f fb fn rb ro u (a6 u hu) b5 ((hu.cell (p:=⟨rb,ro+1,none⟩) (by show rb<_;omega)).trans ((U.cell (p:=⟨rb,ro+1,none⟩) b6).trans hr))).mono ?_;rintro e w' ⟨v,K,rfl,g1,_,g3,g4,g5⟩;obtain⟨va,vc,rfl⟩:=bC g1;exact⟨va,_,vc,K,rfl,g1,g3,g4,g5⟩
 have H2:Hid (∀u,Below z.heap.size z u->Calls Tryz.prog 180 #[.agg #[.map (some mb)]] u λe w'=>∃va vn vc K,e=.returned (.slice va vn vc)/\w'.ownsRow u.heap.size 9 1 (.slice va vn vc) K.length (bW K)/\(∀x,x∈K↔(st x).alive=true)/\K.length<=n/\Below u.heap.size u w'):=λu hu=>by
  refine(aLu st mb n u ((hT.below U (aA _)).below hu (aA _)) hn).mono ?_;rintro e w' ⟨v,K,rfl,g1,_,g3,g4,g5⟩;obtain⟨va,vc,rfl⟩:=bC g1;exact⟨va,_,vc,K,rfl,g1,g3,g4,g5⟩
 have c1:z.cell? ⟨w.heap.size,0,none⟩=some (.map (some mb)):=by simp[World.cell?,a8]
 have b0:=aO U;have H0:Hid (Below z.heap.size z z.drew):=(Below.refl _ _).drew;clear hF hT a6 hr a8 U;go_enter Tryz.func112,Tryz.ntmps112
 go_wp2_with fail
 rw[<- Y];clear Y;refine dF (λw'=>w'.cell? ⟨w.heap.size,0,none⟩=some (.map (some mb))/\Below z.heap.size z w') 5 (by kernel_rfl) ?_;refine aHq 0 _ (v:=?v0) rfl (by kernel_rfl) (by kernel_rfl) (by kernel_rfl) (λ_ _ _ h=>h) (by kernel_rfl) (by decide) ⟨c1,H0.out⟩ rfl (λw0 a2=>?hy) ?_
 case hy=>
  have s1:=a2.1;go_simp
  with_reducible rfl
 simp only[Act.put,aW];refine aHq 2 _ (v:=?v2) rfl (by kernel_rfl) (by kernel_rfl) (by kernel_rfl) (λ_ _ _ h=>h) (by kernel_rfl) (by decide) ⟨c1,H0.out⟩ rfl (λw0 a2=>?hy) ?_
 case hy=>
  have s1:=a2.1;go_simp
  with_reducible rfl
 simp only[Act.put];refine bT 1 _ rfl (by kernel_rfl) (λK J=>?_);go_simp;refine(H1.out _ H0.out).mono ?_;rintro e w2 ⟨va,vn,vc,K1,rfl,g1,g2,g3,g4⟩;have I:Below z.heap.size z w2:=H0.out.trans g4;have c2:w2.cell? ⟨w.heap.size,0,none⟩=some (.map (some mb)):=(I.cell (p:=⟨w.heap.size,0,none⟩) a3).trans c1;dsimp only;refine J.out _ _ (λ_=>⟨c2,I⟩) ?_;clear J;have a5:=aO g1;have b2:=aO g2;clear g1 g2;refine bT 3 _ rfl (by kernel_rfl) (λK J=>?_);go_simp;refine(H2.out _ I).mono ?_;rintro e w3 ⟨ua,un,uc,K2,rfl,k1,k2,k3,k4⟩;have V:Below z.heap.size z w3:=I.trans (k4.mono I.size);have c3:w3.cell? ⟨w.heap.size,0,none⟩=some (.map (some mb)):=(V.cell (p:=⟨w.heap.size,0,none⟩) a3).trans c1;dsimp only;refine J.out _ _ (λ_=>⟨c3,V⟩) ?_;clear J;have a1:Hid (w3.ownsRow z.heap.size 9 1 (.slice va vn vc) K1.length (bW K1)):=bQ a5.out k4 (aA _);obtain⟨b7,E⟩:=aU2 k1;have a4:=aO E;have b3:=aO k2;have a9:=V.size;clear E k1 k2 k4 g4 a5;refine bT 4 _ rfl (by kernel_rfl) (λK J=>?_);refine vA (by rfl) _ _ _ (by rfl) z.heap.size 9 i0 _ 1 16 Tryz.underlying35 hi b8 b9 c0 rfl (by omega) _ K1.length (bW K1) (by rfl) a1.out ua K2.length uc (bW K2) (by rw[<- b7];rfl) (by simp[bW]) a4.out (eX _) (by unfold maxLen;omega) (by omega) a9 ?_;intro xa xn xc w4 W a7;have a0:Below z.heap.size z w4:=V.grown a7 a9 (λj hj=>(a1.out.lt j hj).1);have c4:w4.cell? ⟨w.heap.size,0,none⟩=some (.map (some mb)):=(a0.cell (p:=⟨w.heap.size,0,none⟩) a3).trans c1;refine J.out _ _ (λ_=>⟨c4,a0⟩) ?_;clear J;have HO:Hid (w4.ownsRow w.heap.size 9 1 (.slice xa xn xc) (K1++K2).length (bW (K1++K2))):=by
  show World.ownsRow _ _ _ _ _ _ _;have e:bW (K1++K2)=bW K1++bW K2:=by simp
  rw[e,aJ];exact bK W (by omega)
 have b1:Hid (Below w.heap.size w w4):=b0.out.trans (a0.mono (by omega));clear W a7 a0 V I a1 a4 c1 c2 c3;simp only[Act.put,aW];refine bT 5 _ rfl (by kernel_rfl) (λK J=>?_);go_simp;refine J.out _ _ (λh=>absurd rfl h) ?_;clear J;refine fJ (by kernel_rfl) ?_ _;go_wp2;go_ret;refine⟨_,K1++K2,rfl,HO.out,λx=>by rw[aG,b2.out,b3.out],by rw[aJ];omega,b1.out⟩
def flV(f:Fl):Value:=.agg #[.string f.name,.bool f.there,.string f.text]
section
variable {Z:List (List UInt8)}
theorem aNk(x:List UInt8):x∈compact Z↔x∈Z:=by
 unfold compact compactUpTo;rw[aI];constructor
 ·rintro⟨j,J,rfl⟩;rw[cT,fL] at J;simp[J.1]
 ·intro h;have U:∃j:Nat,Z[j]?=some x:=bI.1 h;obtain⟨j,J,K⟩:∃j:Nat,Z[j]?=some x/\∀i:Nat,i<j->Z[i]?≠some x:=by
   obtain⟨Y,V⟩:=U;have:∀n:Nat,∀j:Nat,j<=n->Z[j]?=some x->∃j:Nat,Z[j]?=some x/\∀i:Nat,i<j->Z[i]?≠some x:=by
    intro n
    induction n with
    | zero=>intro j J I;exact⟨j,I,λi hi=>by omega⟩
    | succ n ih=>
     intro j J I;by_cases W:∃i,i<j/\Z[i]?=some x
     ·obtain⟨i,hi,z⟩:=W;exact ih i (by omega) z
     ·exact⟨j,I,λi hi z=>W ⟨i,hi,z⟩⟩
   exact this Y Y (aA _) V
  obtain⟨E,I⟩:=aB.1 J;refine⟨j,cT.2 ⟨fL.2 E,?_⟩,by simp[E,I]⟩;unfold keeps;rw[decide_eq_true_eq];rcases aQd j with h0|h0
  ·exact .inl h0
  ·refine .inr λe=>K (j - 1) (by omega) ?_;have h2:j - 1<Z.length:=by omega
   simp[E,h2,I] at e;rw[aC h2,e]
theorem aNl(h:Z.Pairwise (·<=·)):(compact Z).Pairwise (·<·):=by
 unfold compact compactUpTo;refine jB.2 ?_;refine(List.Pairwise.filter (p:=keeps Z.toArray) List.pairwise_lt_range).imp_of_mem ?_;intro i j hi I W;rw[cT,fL] at hi I;have J:=I.2;unfold keeps at J;rw[decide_eq_true_eq] at J;have K:=J.resolve_left (by omega);have le:∀a b,a<=b->(E:b<Z.length)->Z.toArray[a]!<=Z.toArray[b]!:=λa b z E=>by
  have U:a<Z.length:=by omega
  rcases Nat.lt_or_eq_of_le z with h1|h1
  ·simpa[U,E] using cW.1 h a b U E h1
  ·subst h1;exact List.le_refl _
 have h1:=le i (j - 1) (by omega) (by omega);have h2:=le (j - 1) j (by omega) I.1;refine List.not_le.1 λV=>K ?_;exact aV5 (List.le_trans V h1) h2
end
theorem aFf{B b:Nat}{a:World}(E:B<=b):∀(z:List Value) (o:Nat) (w:World),Below B a w->Below B a (w.setCells b o z)
 | [],_,_,h=>h
 | v::z,o,_w,h=>aFf E z (o+1) _ (h.setCell (p:=(⟨b,o,none⟩:Addr)) E v)
theorem aJz(b:Nat):∀(z:List Value) (o:Nat) (w:World),(w.setCells b o z).heap.size=w.heap.size
 | [],_,_=>rfl
 | v::z,o,w=>by
  rw[World.setCells,aJz b z (o+1)];simp[World.setCell]
theorem aFq{B:Nat}{v:Value}{Z:List (List UInt8)}{w:World}(h:w.ownsRow B 9 1 v Z.length (Z.map encStr))(hZ:Z.Pairwise (·<=·))(hl:Z.length<=1000000):
  Calls Tryz.prog 176 #[v] w λe w'=>∃va vc K,e=.returned (.slice va K.length vc)/\gD w' va K/\pG K/\(∀x,x∈K↔mI x∈Z)/\K.length<=Z.length/\Below B w w':=by
 rcases h.2 with ⟨rfl,h0⟩|⟨g,cap,U,rfl,E,W,J,a5,a6,I⟩
 ·have:Z=[]:=aS h0;subst this;refine(Tryz.slices_Compact_string_empty none 0 w).mono ?_;rintro e w' ⟨rfl,rfl⟩;exact⟨none,0,[],rfl,.inl rfl,List.Pairwise.nil,λx=>by simp,aA _,Below.refl _ _⟩
 ·have z:∀i,i<Z.length->w.cell? ⟨g,0+i,none⟩=some (.string ⟨(Z.getD i []).toArray⟩):=λi hi=>by
   have h1:(U.toList.take (Z.length * 1))[i]?=(Z.map encStr)[i]?:=by rw[I]
   rw[dN (by omega),tE,aP,aC hi] at h1;simp only[World.cell?,W,dC];simp only[Option.isSome_none,kB,if_false];rw[h1];simp[encStr,hi]
  have a2:strsOf (λi=>(⟨(Z.getD i []).toArray⟩:ByteArray)) Z.length=Z:=by
   unfold strsOf;apply aD3
   ·simp
   ·intro i h1 h2;simp at h1;simp[h1]
  have hC:=Tryz.slices_Compact_string_cells g 0 Z.length cap (λi=>⟨(Z.getD i []).toArray⟩) w (by omega) J z (λj _=>by simp[World.frozen?,W]);rw[a2] at hC;refine hC.mono ?_;rintro e w' ⟨rfl,q,rfl⟩;have a1:=compact_length_le Z;have a4:((compact Z).map λb=>(⟨b.toArray⟩:ByteArray)).map mI=compact Z:=by
   rw[fG]
   conv=>rhs;rw[<- List.map_id (compact Z)]
   exact fQ λa _=>wM a
  refine⟨some ⟨g,0,none⟩,cap,(compact Z).map λb=>⟨b.toArray⟩,by simp,.inr ⟨g,0,rfl,?_,λk hk=>?_⟩,?_,λx=>?_,by simpa using a1,aFf E _ _ _ (below_drewN (Below.refl _ _) q)⟩
  ·rw[aJz];exact(aV.1 W).1
  ·have a0:k<(compact Z).length:=by simpa using hk
   have a3:((compact Z++List.replicate (Z.length - (compact Z).length) []).map encStr).length=Z.length:=by simp;omega
   have Y:=World.cell?_setCells_in g ((compact Z++List.replicate (Z.length - (compact Z).length) []).map encStr) 0 (w.drewN q) (λj hj=>by
    have:=z j (by omega);show (w.cell? ⟨g,0+j,none⟩).isSome=true
    rw[this];rfl) k (by omega)
   rw[Y];simp[encStr,a0]
  ·refine jB.2 ((aNl hZ).imp λ{a b} V=>?_);rw[wM,wM];exact V
  ·rw[<- aNk,aI];constructor
   ·rintro⟨b,hb,rfl⟩;rw[wM];exact hb
   ·intro hx;exact⟨mI x,hx,by simp[mI]⟩
def oN(f:ByteArray->Option ByteArray)(x:ByteArray):Fl:=⟨x,(f x).isSome,(f x).getD ⟨#[]⟩⟩
def jJ(st:ByteArray->PL)(x:ByteArray):Fl:=if (st x).alive=true then ⟨x,true,dM (st x).S⟩ else ⟨x,false,⟨#[]⟩⟩
def cZ(f:ByteArray->Option ByteArray)(st:ByteArray->PL)(x:ByteArray):Bool:=!decide ((oN f x).name=(jJ st x).name/\(oN f x).there=(jJ st x).there/\(oN f x).text=(jJ st x).text)
theorem aJc(z:ByteArray->PL)(x:ByteArray):nZ z x=flV (jJ z x):=by
 unfold nZ jJ;split<;>rfl
theorem aSa(s t:ByteArray):s.toList=t.toList↔s=t:=by
 have h:=aI5 s t;by_cases e:s=t
 ·simp[e]
 ·rw[decide_eq_false e] at h;simp only[beq_eq_false_iff_ne] at h;exact⟨λz=>absurd z h,λz=>absurd z e⟩
theorem bA5(x I:ByteArray)(z:Fl)(E:Bool)(u:World):(if x.toList=z.name.toList then if E=z.there then if I.toList=z.text.toList then Result.ok (Next.value (Value.bool false)) u else Result.ok (Next.value (Value.bool true)) u else Result.ok (Next.value (Value.bool true)) u else Result.ok (Next.value (Value.bool true)) u)=Result.ok (Next.value (Value.bool (!decide ((Fl.mk x E I).name=z.name/\(Fl.mk x E I).there=z.there/\(Fl.mk x E I).text=z.text)))) u:=by
 simp only[aSa];by_cases h1:x=z.name
 ·by_cases h2:E=z.there
  ·by_cases J:I=z.text
   ·simp[h1,h2,J]
   ·simp[h1,h2,J]
  ·simp[h1,h2]
 ·simp[h1]
abbrev nI(Fs:List Fl):List Value:=Fs.flatMap λf=>[.string f.name,.bool f.there,.string f.text]
theorem aEr:∀(z:List Fl) (k:Nat) (r:Fl),z[k]?=some r->(nI z)[k * 3]?=some (.string r.name)/\(nI z)[k * 3+1]?=some (.bool r.there)/\(nI z)[k * 3+2]?=some (.string r.text)
 | [],k,r,h=>by simp at h
 | x::Cs,0,r,h=>by simp at h;subst h;simp
 | x::Cs,k+1,r,h=>by
  have E:=aEr Cs k r (by simpa using h);have e:(k+1) * 3=k * 3+3:=by omega
  rw[e];simp only[nI,bL,cI,cY,fB];exact E
theorem aZd{w:World}{B:Nat}{v:Value}{z:List Fl}(h:w.ownsRow B 118 3 v z.length (nI z)):FV w v z:=by
 have I:=λg=>eZ h (g:=g);have J:=h.lt;rcases h.2 with ⟨rfl,U⟩|⟨g,cp,K,rfl,_,W,V,_⟩
 ·have:z=[]:=aS U;subst this;exact⟨none,0,rfl,λk r E=>by simp at E⟩
 ·refine⟨some ⟨g,0,none⟩,cp,rfl,λk r E=>⟨g,0,rfl,(J g rfl).2,?_,?_,?_⟩⟩
  ·have:=I g rfl (k * 3) _ (aEr z k r E).1;rw[dC,<- this]
   cases k<;>simp[Addr.add]
  ·have:=I g rfl (k * 3+1) _ (aEr z k r E).2.1;rw[dC,<- this];simp[Addr.add]
  ·have:=I g rfl (k * 3+2) _ (aEr z k r E).2.2;rw[dC,<- this];simp[Addr.add]
theorem Tryz.info118:(Tryz.prog.info? 118).map (λi=>(i.zero,i.size,i.bytes))=some (some (.agg #[.string ⟨#[]⟩,.bool false,.string ⟨#[]⟩]),3,40):=by kernel_rfl
theorem yL(f:ByteArray->Option ByteArray)(fb fn rb ro:Nat)(E:ByteArray->PL)(mb n:Nat)(na:Option Addr)(nn nc:Nat)(L:List ByteArray)(w:World)(hF:FK w fb f fn)(hr:w.cell? ⟨rb,ro+1,none⟩=some (.map (some fb)))(i5:rb<w.heap.size)(hT:cK w mb E n)(hn:n<=100000)
  (hN:lN w.heap.size w (.slice na nn nc) L) (hL:L.length<=200000) (hx:∀x∈L,x.size<=1000/\(E x).S.length<=1000000/\(dM (E x).S).size<=1000000000) :
  Calls Tryz.prog 111 #[.pointer (some ⟨rb,ro,none⟩),.agg #[.map (some mb)],.slice na nn nc] w λe w'=>∃v K,e=.returned v/\FV w' v ((K.filter (cZ f E)).map (oN f))/\pG K/\(∀x,x∈K↔x∈L)/\Below w.heap.size w w':=by
 obtain⟨i0,hi,j3,j4,j5⟩:=info_parts Tryz.info118;obtain⟨z,a7⟩:∃z,z=w.alloc (.cells #[.map (some mb)] 121):=⟨_,rfl⟩;have a2:Below w.heap.size w z:=by rw[a7];exact(Below.refl _ _).alloc (aA _) _
 have e7:z.heap[w.heap.size]?=some (.cells #[.map (some mb)] 121 (0,0)):=by rw[a7];exact(aH w _).1
 have d1:w.heap.size<z.heap.size:=by rw[a7];simp
 have HV:Hid (Calls Tryz.prog 178 #[.slice na nn nc] z λe w'=>e=.returned (.func (.func 220) #[] #[.pointer (some ⟨z.heap.size,0,none⟩)])/\w'=z.alloc (.cells #[.slice na nn nc] 35)):=callsIn_wide.1 (aMj 5 na nn nc z);have d8:Hid (Calls Tryz.prog 177 #[.func (.func 220) #[] #[.pointer (some ⟨z.heap.size,0,none⟩)]] (z.alloc (.cells #[.slice na nn nc] 35)) λe w3=>∃va vn vc,e=.returned (.slice va vn vc)/\w3.ownsRow z.heap.size 9 1 (.slice va vn vc) ((L.map mI).mergeSort leB).length (((L.map mI).mergeSort leB).map encStr)/\Below z.heap.size z w3):=by
  have h8:lN (z.alloc (.cells #[.slice na nn nc] 35)).heap.size (z.alloc (.cells #[.slice na nn nc] 35)) (.slice na nn nc) L:=by
   have e2:Below w.heap.size w (z.alloc (.cells #[.slice na nn nc] 35)):=a2.alloc (by omega) _;rcases lN.below e2 hN with h|⟨b,j6,cap,e,hb,hc⟩
   ·exact .inl h
   ·exact .inr ⟨b,j6,cap,e,by have:=e2.size;omega,hc⟩
  refine(callsIn_wide.1 (aG8 5 (by omega) z.heap.size (.slice na nn nc) L (by omega) _ (by simp) (by have:=(aH z (.cells #[.slice na nn nc] 35)).1;unfold World.cell?;rw[this];rfl) h8)).mono ?_;rintro e w3 ⟨v,rfl,h1,h2⟩;have hl:L.length=((L.map mI).mergeSort leB).length:=by simp
  rw[hl] at h1;obtain⟨va,vc,rfl⟩:=bC h1;exact⟨va,_,vc,rfl,bK h1 (by simp),((Below.refl _ z).alloc (aA _) _).trans (h2.mono (by simp))⟩
 have d3:Hid (∀w3 va vn vc,w3.ownsRow z.heap.size 9 1 (.slice va vn vc) ((L.map mI).mergeSort leB).length (((L.map mI).mergeSort leB).map encStr)->Calls Tryz.prog 176 #[.slice va vn vc] w3 λe I=>∃va vc K,e=.returned (.slice va K.length vc)/\gD I va K/\pG K/\(∀x,x∈K↔x∈L)/\K.length<=L.length/\Below z.heap.size w3 I):=λw3 va vn vc ho=>by
  have tr:∀a b c:List UInt8,leB a b=true->leB b c=true->leB a c=true:=λa b c h1 h2=>by simp only[leB,decide_eq_true_eq] at *;exact List.le_trans h1 h2
  have to:∀a b:List UInt8,(leB a b || leB b a)=true:=λa b=>by simp only[leB,vI,decide_eq_true_eq];exact List.le_total a b
  refine(aFq ho ((List.pairwise_mergeSort tr to (L.map mI)).imp λh=>by simpa[leB] using h) (by simp;omega)).mono ?_;rintro e I ⟨xa,xc,K,rfl,h1,h2,h3,h4,h5⟩;refine⟨xa,xc,K,rfl,h1,h2,λx=>?_,by simpa using h4,h5⟩;rw[h3,(List.mergeSort_perm _ _).mem_iff,aI];exact⟨λ⟨a,ha,h9⟩=>aKn h9▸ha,λh=>⟨x,h,rfl⟩⟩
 have i4:=hF.lt;have g7:Hid (∀u x,Below z.heap.size z u->x.size<=1000->Calls Tryz.prog 179 #[.pointer (some ⟨rb,ro,none⟩),.string x] u λe w'=>e=.returned (.agg #[.string x,.bool (f x).isSome,.string ((f x).getD ⟨#[]⟩)])/\Below u.heap.size u w'):=λu x hu b4=>
  aC8 f fb fn rb ro x (by omega) u (hF.same ((hu.block fb (by omega)).trans (a2.block fb i4))) ((hu.cell (p:=⟨rb,ro+1,none⟩) (by show rb<_;omega)).trans ((a2.cell (p:=⟨rb,ro+1,none⟩) i5).trans hr)) (by have:=hu.size;omega)
 have g9:Hid (∀u x,Below z.heap.size z u->x∈L->Calls Tryz.prog 78 #[.agg #[.map (some mb)],.string x] u λe w'=>e=.returned (.agg #[.string (jJ E x).name,.bool (jJ E x).there,.string (jJ E x).text])/\Below u.heap.size u w'):=λu x hu b4=>by
  have:=qI E mb n x (by have:=(hx x b4).1;omega) u ((hT.below a2 (aA _)).below hu (aA _)) (by omega) (hx x b4).2.1 (hx x b4).2.2;rw[aJc] at this;exact this
 have h0:Hid (∀x∈L,x.size<=1000):=λx h=>(hx x h).1;have g5:=aO a2;have c2:=aO e7;clear hF hT hr hN hx a2 e7;go_enter Tryz.func111,Tryz.ntmps111
 go_wp2_with fail
 rw[<- a7];clear a7;refine HV.out.mono ?_;rintro e w2 ⟨rfl,rfl⟩;clear HV
 go_wp2_with fail
 refine d8.out.mono ?_;rintro e w3 ⟨va,vn,vc,rfl,e9,e0⟩;clear d8;have b6:=d3.out w3 va vn vc e9;have d2:=aO b6;clear d3 b6 e9
 go_wp2_with fail
 refine d2.out.mono ?_;rintro e I ⟨xa,xc,K,rfl,f7,f4,b7,j7,e1⟩;clear d2;have a4:Below z.heap.size z I:=e0.trans e1;have h7:=aO f7;have h6:=aO f4;have d6:=aO b7;have a1:=aO a4;have f3:z.heap.size<=I.heap.size:=a4.size;clear f7 f4 b7 e0 e1 a4;go_wp2
 go_loopw [7,16] (λv x wr=>∃(k:Nat),k<=K.length/\x=.int .i64 k/\Hid (wr.ownsRow I.heap.size 118 3 v (((K.take k).filter (cZ f E)).map (oN f)).length (nI (((K.take k).filter (cZ f E)).map (oN f))))/\Below I.heap.size I wr) (λ_ x _=>K.length - (intOf x).toNat)
 case atStart=>exact⟨0,aE _,rfl,aK _ _ _ _,Below.refl _ _⟩
 case round=>
  obtain⟨k,hk,rfl,HO,U⟩:=hrel;have i7:=U.size;by_cases e8:k<K.length
  ·obtain⟨x,b5⟩:∃x,K[k]?=some x:=⟨_,aC e8⟩;have i9:x∈K:=aD b5;have e6:K.getD k ByteArray.empty=x:=by rw[aQ,b5];rfl
   have g4:x∈L:=(d6.out x).1 i9;have j0:=h0.out x g4;obtain⟨b,o,rfl,hb,e4⟩:=h7.out.resolve_left (by omega);have c0:wr.cell? ⟨b,o+k,none⟩=some (.string x):=by rw[<- e6];exact(U.cell (p:=⟨b,o+k,none⟩) hb).trans (e4 k e8)
   have d9:Below z.heap.size z wr:=a1.out.trans (U.mono f3);have c1:=aO (g7.out wr x d9 j0);have b2:Hid (K.take (k+1)=K.take k++[x]):=by show _=_;rw[jD,b5];rfl
   have HD:Hid ((oN f x)=⟨x,(f x).isSome,(f x).getD ⟨#[]⟩⟩):=rfl;obtain⟨th,f5⟩:∃th,(f x).isSome=th:=⟨_,rfl⟩;obtain⟨tx,f6⟩:∃tx,(f x).getD ⟨#[]⟩=tx:=⟨_,rfl⟩;rw[f5,f6] at c1 HD;clear e4 e6 b5 f5 f6
   go_wp2_with fail
   refine c1.out.mono ?_;rintro e w5 ⟨rfl,b3⟩;clear c1;obtain⟨J,a8⟩:∃J,J=w5.alloc (.cells #[.string x,.bool th,.string tx] 118):=⟨_,rfl⟩;have c6:Below w5.heap.size w5 J:=by rw[a8];exact(Below.refl _ _).alloc (aA _) _
   have c8:J.heap[w5.heap.size]?=some (.cells #[.string x,.bool th,.string tx] 118 (0,0)):=by rw[a8];exact(aH w5 _).1
   have i6:w5.heap.size<J.heap.size:=by rw[a8];simp
   have j9:=b3.size;have V:Below I.heap.size I J:=(U.trans (b3.mono i7)).trans (c6.mono (by omega));have f8:J.heap[w.heap.size]?=some (.cells #[.map (some mb)] 121 (0,0)):=(V.block _ (by omega)).trans ((a1.out.block _ d1).trans c2.out);have s0:J.cell? ⟨w.heap.size,0,none⟩=some (.map (some mb)):=by simp[World.cell?,f8]
   obtain⟨f0,f1,f2⟩:=dW c8;have b1:Hid ((J.drew.cell? ⟨w.heap.size,0,none⟩=some (.map (some mb))/\J.drew.cell? ⟨w5.heap.size,0,none⟩=some (.string x))/\J.drew.cell? ⟨w5.heap.size,1,none⟩=some (.bool th)/\J.drew.cell? ⟨w5.heap.size,2,none⟩=some (.string tx)):=⟨⟨s0,f0⟩,f1,f2⟩;have c3:Hid (Calls Tryz.prog 78 #[.agg #[.map (some mb)],.string x] J.drew λe w'=>e=.returned (.agg #[.string (jJ E x).name,.bool (jJ E x).there,.string (jJ E x).text])/\Below J.heap.size J w'):=(g9.out J.drew x ((a1.out.trans (V.mono f3)).drew) g4).mono λe w' h=>⟨h.1,(Below.refl _ J).drew.trans h.2⟩;obtain⟨kf,d0⟩:∃kf,jJ E x=kf:=⟨_,rfl⟩;rw[d0] at c3;have c4:Hid (∀u:World,(if x.toList=kf.name.toList then if th=kf.there then if tx.toList=kf.text.toList then Result.ok (Next.value (Value.bool false)) u else Result.ok (Next.value (Value.bool true)) u else Result.ok (Next.value (Value.bool true)) u else Result.ok (Next.value (Value.bool true)) u)=Result.ok (Next.value (Value.bool (cZ f E x))) u):=λu=>by
    unfold cZ;rw[HD.out,d0];exact bA5 x tx kf th u
   have d4:=aO c8;have d7:Hid (J.ownsRow I.heap.size 118 3 u7 (((K.take k).filter (cZ f E)).map (oN f)).length (nI (((K.take k).filter (cZ f E)).map (oN f)))):=bQ (bQ HO.out b3 (aA _)) c6 (aA _);obtain⟨df,c7⟩:∃df,cZ f E x=df:=⟨_,rfl⟩;rw[c7] at c4;have a9:=aO c7;clear HO c6 c8 f8 s0 f0 f1 f2 b3 d0 c7 c0
   go_wp2_with fail
   rw[<- a8];clear a8;refine dF (λw'=>(w'.cell? ⟨w.heap.size,0,none⟩=some (.map (some mb))/\w'.cell? ⟨w5.heap.size,0,none⟩=some (.string x))/\w'.cell? ⟨w5.heap.size,1,none⟩=some (.bool th)/\w'.cell? ⟨w5.heap.size,2,none⟩=some (.string tx)) 99 (by kernel_rfl) ?_;refine zt 0 (v:=?v0) b1.out (λw0 a3=>?hy) ?_
   case hy=>obtain⟨⟨s1,s2⟩,s3,s4⟩:=a3;go_simp;with_reducible rfl
   simp only[Act.put,aW];refine zt 1 (v:=?v1) b1.out (λw0 a3=>?hy) ?_
   case hy=>obtain⟨⟨s1,s2⟩,s3,s4⟩:=a3;go_simp;with_reducible rfl
   simp only[Act.put];refine zt 2 (v:=?v2) b1.out (λw0 a3=>?hy) ?_
   case hy=>obtain⟨⟨s1,s2⟩,s3,s4⟩:=a3;go_simp;with_reducible rfl
   simp only[Act.put];refine bT 3 _ rfl (by kernel_rfl) (λKK hK=>?_);go_simp;refine c3.out.mono ?_;rintro e w7 ⟨rfl,a5⟩;have c9:=(a5.block _ i6).trans d4.out;obtain⟨g0,g1,g2⟩:=dW c9;have d5:=aO c9;have W:Below I.heap.size I w7:=V.trans (a5.mono (by omega));have b0:Hid (w7.ownsRow I.heap.size 118 3 u7 (((K.take k).filter (cZ f E)).map (oN f)).length (nI (((K.take k).filter (cZ f E)).map (oN f)))):=bQ d7.out a5 (aA _);have f9:w7.heap[w.heap.size]?=some (.cells #[.map (some mb)] 121 (0,0)):=(W.block _ (by omega)).trans ((a1.out.block _ d1).trans c2.out);dsimp only;refine hK.out _ _ (λ_=>⟨⟨by simp[World.cell?,f9],g0⟩,g1,g2⟩) ?_;clear hK c9 f9 d7 d4 b1 c3;refine bT 4 _ rfl (by kernel_rfl) (λKK hK=>?_);go_simp;rw[c4.out w7];go_simp;refine hK.out _ _ (λ_=>⟨⟨by have:=(W.block _ (by omega:w.heap.size<I.heap.size)).trans ((a1.out.block _ d1).trans c2.out);simp[World.cell?,this],g0⟩,g1,g2⟩) ?_;clear hK c4;refine fJ (by kernel_rfl) ?_ _;have k0:=W.size
   cases df
   ·have c5:Hid (w7.ownsRow I.heap.size 118 3 u7 (((K.take (k+1)).filter (cZ f E)).map (oN f)).length (nI (((K.take (k+1)).filter (cZ f E)).map (oN f)))):=by
     show World.ownsRow _ _ _ _ _ _ _;rw[b2.out,iM,List.filter_cons_of_neg (by rw[a9.out];simp),aY2,cR];exact b0.out
    clear b0 d5 b2 a9 HD V U a5;go_wp2
    go_roundw
    case rel=>exact⟨k+1,by omega,by go_num,c5,W⟩
    case measure=>simp[intOf];omega
   ·have Y:=b0.out;have b9:∀u∈[Value.string x,.bool th,.string tx],u.oneCell'=true:=by
     intro u hu;simp only[cC,fN,or_false] at hu;rcases hu with rfl|rfl|rfl<;>rfl
    obtain⟨m,hm⟩:∃m,(((K.take k).filter (cZ f E)).map (oN f)).length=m:=⟨_,rfl⟩;have j8:m<=200000:=by
     rw[<- hm,aT];have:=dZ (cZ f E) (K.take k);have:=aMv k K;omega
    rw[hm] at Y;have HM:=aO hm;have b8:=uF w7 (.string x) (.bool th) (.string tx) 118;have a0:=Y.alloc (.cells #[.string x,.bool th,.string tx] 118);clear hm Y
    go_wp2_with (at_builtin;refine wpList_append_own _ rfl _ _ 151 rfl I.heap.size 118 i0 _ 3 40 Tryz.underlying151 hi j3 j4 j5 rfl (by decide) _ _ _ rfl a0 ⟨w7.heap.size,0,none⟩ 1 1 [.string x,.bool th,.string tx] rfl rfl b8 b9 (by unfold maxLen;omega) (by omega) (by simp;omega) ?_)
    intro v' w8 a6 e5 _;have c5:Hid (w8.ownsRow I.heap.size 118 3 v' (((K.take (k+1)).filter (cZ f E)).map (oN f)).length (nI (((K.take (k+1)).filter (cZ f E)).map (oN f)))):=by
     show World.ownsRow _ _ _ _ _ _ _;rw[b2.out,iM,aD4 a9.out,aY2,bF,cU,lA,HD.out,nI,eE,aJ,eY,HM.out];exact a6
    have e3:Below I.heap.size I w8:=(W.alloc (by omega) _).grown e5 (by simp;omega) (λj hj=>(a0.lt j hj).1);clear b0 d5 b2 a9 HD V U a5 a6 e5 a0 b8 b9 HM;go_wp2
    go_roundw
    case rel=>exact⟨k+1,by omega,by go_num,c5,e3⟩
    case measure=>simp[intOf];omega
  ·obtain rfl:k=K.length:=by omega
   rw[bD] at HO;have g8:=aO (aZd HO.out);obtain⟨ua,uc,i8⟩:=bC HO.out;have g6:Hid (Below w.heap.size w wr):=g5.out.trans ((a1.out.mono (by omega)).trans (U.mono (by omega)));clear HO U;subst i8;go_wp2;go_ret;exact⟨_,K,rfl,g8.out,h6.out,d6.out,g6.out⟩
end Go.Proofs.YtgdfipmdmgkidaaGreatDoor

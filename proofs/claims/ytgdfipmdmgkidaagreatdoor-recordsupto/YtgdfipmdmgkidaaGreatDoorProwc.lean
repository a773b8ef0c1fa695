import Derived.Test.YtgdfipmdmgkidaaGreatDoorProw
import Derived.Test.YtgdfipmdmgkidaaGreatDoorShelf
import Derived.Laws.OwnMore
import Derived.Laws.StructEq
import Derived.ChangeKeysEq
import Derived.Deep.QuietTactic
import Derived.BigQuiet
import Derived.Test.YtgdfipmdmgkidaaGreatDoorPgapw
import Derived.Test.YtgdfipmdmgkidaaGreatDoorAl
set_option linter.all false
set_option maxHeartbeats 3200000
set_option maxRecDepth 100000
namespace Go.Proofs.YtgdfipmdmgkidaaGreatDoor
open Go.RowKit
def rW(S:List aU)(k:Nat):List aU:=(S.take k).map lY++S.drop k
theorem aNn{S:List aU}{k:Nat}{s:aU}(hs:S[k]?=some s):rW S (k+1)=(rW S k).set k (lY s):=by
 obtain⟨z,rfl⟩:=aB.1 hs;unfold rW;have E:((S.take k).map lY).length=k:=by simp;omega
 rw[tG _ _ (by omega),E,jQ,bO z,List.set_cons_zero,aF z,bF];simp
theorem aFs{S:List aU}{k:Nat}{s:aU}(hs:S[k]?=some s):(rW S k)[k]?=some s:=by
 obtain⟨z,rfl⟩:=aB.1 hs;unfold rW;have E:((S.take k).map lY).length=k:=by simp;omega
 rw[bH (by omega),E,jQ,bO z];rfl
theorem aXz(S:List aU)(k:Nat)(s:aU)(h:S[k]?=some s):gN (S.set k (lY s))=(gN S).set (k * 7+6) (.bool false):=by
 induction S generalizing k with
 | nil=>simp at h
 | cons q S ih=>
  cases k with
  | zero=>
   simp at h;subst h;simp[gN,lY]
  | succ k=>
   simp only[fB] at h;simp only[gN,bL,List.set_cons_succ] at *;rw[tG _ _ (by simp;omega)];have e:(k+1) * 7+6 - (spC q).length=k * 7+6:=by simp;omega
   rw[e,ih k h]
theorem aC6(S:List aU)(v0:Value)(w:World)(hv:SV w v0 S)(U:S.length<=1000000):
  Calls Tryz.prog 345 #[v0] w λe w'=>∃v,e=.returned v/\w'.ownsRow w.heap.size 313 7 v (cD S).length (gN (cD S))/\Below w.heap.size w w':=by
 have HL:=aAs S v0 w hv U;obtain⟨ao,cap,rfl⟩:=hv.shape;have HH:Hid (Calls Tryz.prog 250 #[.slice ao S.length cap] w λe w'=>∃v,e=.returned v/\w'.ownsRow w.heap.size 313 7 v S.length (gN S)/\Below w.heap.size w w'):=HL;clear HL hv;go_enter Tryz.func345,Tryz.ntmps345
 go_wp2_with fail
 refine HH.out.mono ?_;rintro e w1 ⟨lv,rfl,ho,E⟩;clear HH;have a1:w.heap.size<=w1.heap.size:=E.size;rcases ho.2 with ⟨rfl,h0⟩|⟨g,cp,a2,rfl,W,Y,_⟩
 ·have hS:S=[]:=aS h0;subst hS;go_wp2;refine wp_loop_rounds 1 ?_;rw[rounds_succ];go_wp2;go_ret;exact⟨_,rfl,ho,E⟩
 ·clear Y;go_wp2
  go_loopw [9] (λi wr=>∃k:Nat,k<=S.length/\i=.int .i64 k/\wr.ownsRow w.heap.size 313 7 (.slice (some ⟨g,0,none⟩) S.length cp) S.length (gN (rW S k))/\Below w.heap.size w wr) (λi _=>S.length - (intOf i).toNat)
  case atStart=>exact⟨0,aE _,rfl,by simpa[rW] using ho,E⟩
  case round=>
   obtain⟨k,hk,rfl,z,K⟩:=hrel;by_cases Z:k<S.length
   ·obtain⟨s,hs⟩:∃s,S[k]?=some s:=⟨_,aC Z⟩;have J:=World.ownsRow.stored z (k * 7+6) (.bool false);have a3:=World.ownsRow.frozenAt z (k * 7+6);have I:=dQ z (k * 7+6) (by omega);rw[aPm _ _ _ (aFs hs) 6 (by omega)] at I;have a0:wr.cell? ⟨g,k * 7+6,none⟩=some (.bool s.alive):=I;rw[<- aXz _ _ _ (aFs hs),<- aNn hs] at J;have V:Below w.heap.size w (wr.setCell ⟨g,k * 7+6,none⟩ (.bool false)):=K.setCell (p:=⟨g,k * 7+6,none⟩) W _;have HO:Hid ((wr.setCell ⟨g,k * 7+6,none⟩ (.bool false)).ownsRow w.heap.size 313 7 (.slice (some ⟨g,0,none⟩) S.length cp) S.length (gN (rW S (k+1)))):=J.1;clear J hs z I;go_wp2
    go_roundw
    case rel=>exact⟨k+1,by omega,by go_num,HO.out,V⟩
    case measure=>simp[intOf];omega
   ·have e:k=S.length:=by omega
    have HE:Hid (rW S k=cD S):=by show _=_;rw[e];simp[rW,cD]
    clear e;go_wp2;go_ret;rw[HE.out] at z;exact⟨_,rfl,by simpa[cD] using z,K⟩
theorem aCk(w:World)(P:Program)(t u ty e:TypeId)(i:TypeInfo)(z:Value)(Z:P.underlying t=some (.slice e))(hu:P.underlying u=some (.int .i64))(hi:P.info? e=some i)(hz:i.zero=some z)(hs:0<i.size)
  (n:Nat) (U:0<n) (W:(n:Int)<=9223372036854775807) (V:n * i.bytes<=281474976710656) :
  (Builtin.append_ #[t,u] ty #[.slice none 0 0,.int .i64 n]).run P w =
   .ok (.slice (some ⟨w.heap.size,0,none⟩) n (grownCap w n 0 e)) (w.drew.alloc (.cells (Builtin.zeroCells z.cells n++Builtin.zeroCells z.cells (grownCap w n 0 e - n)) e)):=by
 have Y:n≠0:=by omega
 have J:¬ (9223372036854775807<(n:Int)):=by omega
 have I:¬ (281474976710656<Builtin.nextslicecap n 0 * i.bytes):=by rw[nextslicecap_zero U];omega
 have hw:IntKind.i64.wrap (n:Int)=n:=by simp[IntKind.wrap,IntKind.signed,IntKind.bits];omega
 have E:¬ (281474976710656<(n:Int) * (i.bytes:Int)):=by
  rw[<- Int.natCast_mul];omega
 have K:¬ ((n:Int)<0):=by omega
 simp[Builtin.append_,run_underlying Z,run_underlying hu,sizeOf,typeInfo,zeroValue,hi,hz,Builtin.lenOf,Y,J,I,Question.forced,newRow,grownCap,hw,E,K,asInt,asIntOf,run_firstCells_none];intro h;have:=Nat.mul_pos U hs;omega
def aJ6:Array Value:=#[.int .u8 0,.int .u8 0,.int .u8 0,.int .u8 0,.int .i64 0,.string ⟨#[]⟩,.bool false]
theorem aAh(w:World){E:Array Oper}{z:List Oper}{o:Oper}{a:Act}{Q:Exit->Act->World->Prop}(I:o.guard=none)(s x:Operand)
  (Z:o.op=.call { callee:=.builtin .append,args:=#[s,x],argTypes:=#[183,3] }) (n:Nat) (hs:a.eval s=.slice none 0 0) (hx:a.eval x=.int .i64 n) (W:0<n) (hn:n<=1000000)
  (h:wpList Tryz.prog E Q z (a.put o.dst (.slice (some ⟨w.heap.size,0,none⟩) n (grownCap w n 0 313))) (w.drew.alloc (.cells (Builtin.zeroCells aJ6 n++Builtin.zeroCells aJ6 (grownCap w n 0 313 - n)) 313))):wpList Tryz.prog E Q (o::z) a w:=by
 obtain⟨i0,hi,J,U,V⟩:=info_parts Tryz.info313;refine wpList_plain I λK Y=>?_;have hr:=aCk w Tryz.prog 183 3 o.type 313 i0 _ Tryz.underlying183 Tryz.underlying3 hi J (by rw[U];decide) n W (by omega) (by rw[V];omega);unfold Oper.wp execOp;simp only[Z,resolve,invoke,builtin,Sem.run_bind,Sem.run_pure,Result.andThen_ok,List.map_toArray,cU,lA,hs,hx,hr];exact Y _ _ h
theorem aN8(n:Nat)(w:World)(V:n<=1000000):
  Calls Tryz.prog 290 #[.slice none 0 0,.int .i64 n] w λe w'=>∃v,e=.returned v/\w'.ownsRow w.heap.size 313 7 v 0 []/\Below w.heap.size w w':=by
 by_cases J:n=0
 ·subst J;go_enter Tryz.func290,Tryz.ntmps290;go_wp2;go_ret;exact⟨_,rfl,aK _ _ _ _,Below.refl _ _⟩
 ·have K:(0:Int)<(n:Int):=by omega
  have U:n<=grownCap w n 0 313:=grownCap_ge _ _ _ _;have z:grownCap w n 0 313<=maxLen:=grownCap_le_maxLen _ _ _ _ (by unfold maxLen;omega);have I:(Builtin.zeroCells aJ6 n++Builtin.zeroCells aJ6 (grownCap w n 0 313 - n)).size=grownCap w n 0 313 * 7:=by
   rw[Array.size_append,size_zeroCells,size_zeroCells];show n * 7+(grownCap w n 0 313 - n) * 7=_;omega
  have E:0<n:=by omega
  clear J;go_enter Tryz.func290,Tryz.ntmps290
  go_wp2_with (at_builtin;refine aAh _ rfl _ _ rfl n rfl rfl E V ?_)
  generalize grownCap w n 0 313=G at *;generalize Builtin.zeroCells aJ6 n++Builtin.zeroCells aJ6 (G - n)=Z at *;go_wp2;go_ret;exact⟨_,rfl,⟨rfl,.inr ⟨w.heap.size,G,Z,rfl,aA _,(aH w.drew _).1,aE _,z,I,by simp⟩⟩,((Below.refl _ _).drew).alloc (aA _) _⟩
def RV(w:World)(v:Value)(R:List (Value×List aU)):Prop:=∃ao cap,v=.slice ao R.length cap/\∀(k:Nat) (r:Value×List aU),R[k]?=some r->∃b o,ao=some ⟨b,o,none⟩/\b<w.heap.size/\w.cell? ⟨b,o+k,none⟩=some r.1
theorem RV.below{w w':World}{v:Value}{R:List (Value×List aU)}(h:RV w v R){B:Nat}(z:Below B w w')(K:w.heap.size<=B):RV w' v R:=by
 obtain⟨E,cap,rfl,I⟩:=h;refine⟨E,cap,rfl,λk r J=>?_⟩;obtain⟨b,o,e,h1,h2⟩:=I k r J;exact⟨b,o,e,bJ h1 z.size,(z.cell (p:=⟨b,o+k,none⟩) (by simp;omega)).trans h2⟩
def jM(R:List (Value×List aU))(k:Nat):List aU:=(R.take k).flatMap (·.2)
theorem aFk{R:List (Value×List aU)}{k:Nat}{r:Value×List aU}(h:R[k]?=some r):jM R (k+1)=jM R k++r.2:=by
 obtain⟨z,rfl⟩:=aB.1 h;unfold jM;rw[aF z,eE];simp
theorem aIy(R:List (Value×List aU)):jM R R.length=R.flatMap (·.2):=by unfold jM;rw[bD]
theorem aFj(R:List (Value×List aU))(k:Nat):(jM R k).length<=(R.flatMap (·.2)).length:=by
 unfold jM
 conv=>rhs;rw[<- bV k R,eE,aJ]
 omega
theorem yO(R:List (Value×List aU))(v0:Value)(w:World)(hR:RV w v0 R)(hv:∀r∈R,SV w r.1 r.2)(hn:R.length<=100)(W:(R.flatMap (·.2)).length<=1000000):
  Calls Tryz.prog 267 #[v0] w λe w'=>∃v,e=.returned v/\w'.ownsRow w.heap.size 313 7 v (R.flatMap (·.2)).length (gN (R.flatMap (·.2)))/\Below w.heap.size w w':=by
 have HV:Hid (∀r∈R,SV w r.1 r.2):=hv;have HR:Hid (RV w v0 R):=hR;have HL:Hid ((R.flatMap (·.2)).length<=1000000):=W;obtain⟨ao,cap,rfl,hc⟩:=hR;clear hv hc W;go_enter Tryz.func267,Tryz.ntmps267;go_wp2
 go_loop [3,11] (λs i=>∃k:Nat,k<=R.length/\i=.int .i64 k/\s=.int .i64 ((jM R k).length:Nat)) (λ_ i=>R.length - (intOf i).toNat)
 case atStart=>exact⟨0,aE _,rfl,by simp[jM]⟩
 case round=>
  obtain⟨k,hk,rfl,rfl⟩:=hrel;have a2:(jM R k).length<=1000000:=aR (aFj R k) HL.out;by_cases U:k<R.length
  ·obtain⟨r,V⟩:∃r,R[k]?=some r:=⟨_,aC U⟩;obtain⟨_,_,e1,I⟩:=HR.out
   cases e1
   obtain⟨b,o,rfl,hb,c1⟩:=I k r V;obtain⟨ra,rc,K⟩:=(HV.out r (aD V)).shape;rw[K] at c1;have J:(jM R (k+1)).length<=1000000:=aR (aFj R (k+1)) HL.out;have Y:(jM R (k+1)).length=(jM R k).length+r.2.length:=by rw[aFk V,aJ]
   rw[Y] at J;have Z:Hid ((jM R (k+1)).length=(jM R k).length+r.2.length):=Y;clear Y V K I;generalize (jM R k).length=A at *;generalize r.2.length=D at *;go_wp2
   go_round
   case rel=>exact⟨k+1,by omega,by go_num,by rw[Z.out];go_num⟩
   case measure=>simp[intOf];omega
  ·have e:k=R.length:=by omega
   have HE:Hid ((jM R k).length=(R.flatMap (·.2)).length):=by show _=_;rw[e,aIy]
   clear e;generalize (jM R k).length=A at *;have hA:A<=1000000:=a2
   go_wp2_with fail
   refine(aN8 A w hA).mono ?_;rintro e w1 ⟨gv,rfl,a6,a1⟩;have a7:w.heap.size<=w1.heap.size:=a1.size;clear a2 hA U hk;go_wp2
   go_loopw [6,27] (λv i wr=>∃k:Nat,k<=R.length/\i=.int .i64 k/\wr.ownsRow w.heap.size 313 7 v (jM R k).length (gN (jM R k))/\Below w.heap.size w wr) (λ_ i _=>R.length - (intOf i).toNat)
   case atStart=>exact⟨0,aE _,rfl,by simpa[jM] using a6,a1⟩
   case round=>
    obtain⟨k,hk,rfl,z,E⟩:=hrel;have a3:w.heap.size<=wr.heap.size:=E.size;by_cases U:k<R.length
    ·obtain⟨r,V⟩:∃r,R[k]?=some r:=⟨_,aC U⟩;obtain⟨_,_,e1,I⟩:=HR.out.below E (aA _)
     cases e1
     obtain⟨b,o,rfl,hb,c1⟩:=I k r V;have a0:=(HV.out r (aD V)).below E (aA _);obtain⟨ra,rc,K⟩:=a0.shape;rw[K] at c1 a0;have J:(jM R (k+1)).length<=1000000:=aR (aFj R (k+1)) HL.out;have Y:jM R (k+1)=jM R k++r.2:=aFk V;rw[Y,aJ] at J;have Z:Hid (jM R (k+1)=jM R k++r.2):=Y;clear Y V K I;generalize jM R k=A at *;generalize r.2=D at *
     go_wp2_with (at_builtin;refine rR _ rfl _ _ rfl w.heap.size _ A D _ rfl z rfl a0 (by omega) a3 ?_)
     intro v' w2 h1 h2;have a5:=qP (aA _) z E a3 h2;clear h2 z E;go_wp2
     go_roundw
     case rel=>exact⟨k+1,by omega,by go_num,by rw[Z.out,wN,aJ];exact h1,a5⟩
     case measure=>simp[intOf];omega
    ·have e:k=R.length:=by omega
     have a4:Hid (jM R k=R.flatMap (·.2)):=by show _=_;rw[e,aIy]
     clear e;go_wp2;go_ret;rw[a4.out] at z;exact⟨_,rfl,z,E⟩
theorem aTx{w:World}{g:Nat}{x y z:Value}{t:TypeId}{f:Nat×Nat}(h:w.heap[g]?=some (.cells #[x,y,z] t f)):w.cell? ⟨g,0+0,none⟩=some x/\w.cell? ⟨g,0+1,none⟩=some y/\w.cell? ⟨g,0+2,none⟩=some z:=by
 simp[World.cell?,h]
theorem aU9(w:World)(x y z:Value)(t:TypeId):(w.alloc (.cells #[x,y,z] t)).cell? ⟨w.heap.size,0+0,none⟩=some x/\(w.alloc (.cells #[x,y,z] t)).cell? ⟨w.heap.size,0+1,none⟩=some y/\(w.alloc (.cells #[x,y,z] t)).cell? ⟨w.heap.size,0+2,none⟩=some z:=
 aTx (aH w (.cells #[x,y,z] t)).1
def aM(S:List aU):List aU:=jR::(S++[lD])
theorem rX(S:List aU)(v0:Value)(w:World)(hv:SV w v0 S)(c4:S.length<=900000):
  Calls Tryz.prog 248 #[v0] w λe w'=>∃v,e=.returned v/\w'.ownsRow w.heap.size 313 7 v (aM S).length (gN (aM S))/\Below w.heap.size w w':=by
 go_enter Tryz.func248,Tryz.ntmps248
 go_wp2_with fail
 refine(aC7 (-1) w).mono ?_;rintro e w1 ⟨v1,rfl,b1,a6⟩;have b5:=hv.below a6 (aA _);have b9:=a6.size
 go_wp2_with fail
 refine(aC7 (-2) w1).mono ?_;rintro e E ⟨v2,rfl,b2,Y⟩;have b6:=b5.below Y (aA _);have c5:=Y.size;have a5:=bQ b1 Y (aA _);have a7:=SV.own (S:=[gE (-1)]) a5;have a8:=SV.own (S:=[gE (-2)]) b2;obtain⟨I,U,rfl⟩:=hv.shape;obtain⟨J,V,rfl⟩:=a7.shape;obtain⟨K,W,rfl⟩:=a8.shape;have Z:Below E.heap.size E (E.alloc (.cells #[.slice J [gE (-1)].length V,.slice I S.length U,.slice K [gE (-2)].length W] 183)):=(Below.refl _ _).alloc (aA _) _;have z:=aU9 E (.slice J [gE (-1)].length V) (.slice I S.length U) (.slice K [gE (-2)].length W) 183;have b8:w.heap.size<=E.heap.size:=by omega
 have a9:Below w.heap.size w (E.alloc (.cells #[.slice J [gE (-1)].length V,.slice I S.length U,.slice K [gE (-2)].length W] 183)):=(a6.trans (Y.mono b9)).alloc b8 _;have x0:=b6.below Z (aA _);have x1:=a7.below Z (aA _);have x2:=a8.below Z (aA _);have hR:RV (E.alloc (.cells #[.slice J [gE (-1)].length V,.slice I S.length U,.slice K [gE (-2)].length W] 183)) (.slice (some ⟨E.heap.size,0,none⟩) 3 3) [(.slice J [gE (-1)].length V,[gE (-1)]),(.slice I S.length U,S),(.slice K [gE (-2)].length W,[gE (-2)])]:=by
  refine⟨_,_,rfl,λk r hk=>⟨E.heap.size,0,rfl,by simp,?_⟩⟩
  match k,hk with
  | 0,hk=>cases hk;exact z.1
  | 1,hk=>cases hk;exact z.2.1
  | 2,hk=>cases hk;exact z.2.2
  | k+3,hk=>simp at hk
 have a4:∀r∈[(Value.slice J [gE (-1)].length V,[gE (-1)]),(.slice I S.length U,S),(.slice K [gE (-2)].length W,[gE (-2)])],SV (E.alloc (.cells #[.slice J [gE (-1)].length V,.slice I S.length U,.slice K [gE (-2)].length W] 183)) r.1 r.2:=by
  intro r hr;simp only[cC,fN,or_false] at hr;rcases hr with rfl|rfl|rfl
  ·exact x1
  ·exact x0
  ·exact x2
 have HC:=yO _ _ _ hR a4 (by simp) (by simp;omega);clear hR a4 x0 x1 x2 z a7 a8 b5 b6 hv b1 b2 a5 Z;have e1:[gE (-1)].length=1:=rfl;have e2:[gE (-2)].length=1:=rfl;rw[e1,e2] at *;have HH:Hid (Calls Tryz.prog 267 #[.slice (some ⟨E.heap.size,0,none⟩) 3 3] (E.alloc (.cells #[.slice J 1 V,.slice I S.length U,.slice K 1 W] 183)) λe w'=>∃v,e=.returned v/\w'.ownsRow (E.alloc (.cells #[.slice J 1 V,.slice I S.length U,.slice K 1 W] 183)).heap.size 313 7 v (aM S).length (gN (aM S))/\Below (E.alloc (.cells #[.slice J 1 V,.slice I S.length U,.slice K 1 W] 183)).heap.size (E.alloc (.cells #[.slice J 1 V,.slice I S.length U,.slice K 1 W] 183)) w'):=HC;clear HC
 go_wp2_with fail
 refine HH.out.mono ?_;rintro e w3 ⟨v3,rfl,b3,b0⟩;have b7:Below w.heap.size w w3:=a9.trans (b0.mono (by simp;omega));have b4:=bK b3 (show w.heap.size<=_ by simp;omega);clear HH b3 b0 a9;obtain⟨a3,c3,rfl⟩:=bC b4;go_wp2;go_ret;exact⟨_,rfl,b4,b7⟩
theorem Tryz.info5:(Tryz.prog.info? 5).map (λi=>(i.zero,i.size,i.bytes))=some (some (.int .u8 0),1,1):=by kernel_rfl
theorem Tryz.cells5:Tryz.prog.cellsOf 5=1:=by kernel_rfl
theorem rO(z:Array Value)(i:Nat)(k:IntKind)(n:Int)(h:z[i]?=some (.int k n))(w:World):(part 5 z i).run Tryz.prog w=.ok (.int k n) w:=by
 have E:=Tryz.isAgg5 w;simp[part,E,h]
theorem aJy(d:Nat)(a b c e z E I e':Int)(w:World):
  (Op.equalIn (d+2) 113 (.agg #[.int .u8 a,.int .u8 b,.int .u8 c,.int .u8 e]) (.agg #[.int .u8 z,.int .u8 E,.int .u8 I,.int .u8 e'])).run Tryz.prog w=.ok (decide (a=z/\b=E/\c=I/\e=e')) w:=by
 obtain⟨i0,hi,_⟩:=info_parts Tryz.info5;have U:Tryz.prog.underlying 113=some (.array 4 5):=Tryz.underlying113;rw[run_equalIn_array w (d+1) _ _ U hi,Tryz.cells5];have q:∀(x y:Int),(Op.equalIn (d+1) 5 (.int .u8 x) (.int .u8 y)).run Tryz.prog w=.ok (x == y) w:=λx y=>run_equalIn_int w d 5 .u8 .u8 x y Tryz.underlying5;have V:List.range 4=[0,1,2,3]:=rfl;rw[V];simp only[Op.eqItems,Sem.run_bind,jW];rw[rO _ 0 .u8 a rfl,Result.andThen_ok,rO _ 0 .u8 z rfl,Result.andThen_ok,q,Result.andThen_ok];by_cases h1:a=z
 ·subst h1;simp only[beq_self_eq_true,uV,kB,if_false,Sem.run_bind];rw[rO _ 1 .u8 b rfl,Result.andThen_ok,rO _ 1 .u8 E rfl,Result.andThen_ok,q,Result.andThen_ok];by_cases h2:b=E
  ·subst h2;simp only[beq_self_eq_true,uV,kB,if_false,Sem.run_bind];rw[rO _ 2 .u8 c rfl,Result.andThen_ok,rO _ 2 .u8 I rfl,Result.andThen_ok,q,Result.andThen_ok];by_cases J:c=I
   ·subst J;simp only[beq_self_eq_true,uV,kB,if_false,Sem.run_bind];rw[rO _ 3 .u8 e rfl,Result.andThen_ok,rO _ 3 .u8 e' rfl,Result.andThen_ok,q,Result.andThen_ok];by_cases K:e=e'
    ·subst K;simp
    ·have:(e == e')=false:=by simp[K]
     simp[this,K]
   ·have:(c == I)=false:=by simp[J]
    simp[this,J]
  ·have:(b == E)=false:=by simp[h2]
   simp[this,h2]
 ·have:(a == z)=false:=by simp[h1]
  simp[this,h1]
theorem aI5(t s:ByteArray):(t.toList == s.toList)=decide (t=s):=by
 by_cases h:t=s
 ·subst h;simp
 ·rw[aE2 h];simp[h]
theorem aX2(s t:aU):s=t↔(s.a=t.a/\s.b=t.b/\s.c=t.c/\s.d=t.d)/\s.num=t.num/\s.line=t.line/\s.alive=t.alive:=by
 cases s;cases t;simp[and_assoc]
theorem aPo(d:Nat)(s t:aU)(w:World):
  (Op.equalIn (d+3) 311 (.agg #[.int .u8 s.a,.int .u8 s.b,.int .u8 s.c,.int .u8 s.d,.int .i64 s.num,.string s.line]) (.agg #[.int .u8 t.a,.int .u8 t.b,.int .u8 t.c,.int .u8 t.d,.int .i64 t.num,.string t.line])).run Tryz.prog w =
   .ok (decide ((s.a=t.a/\s.b=t.b/\s.c=t.c/\s.d=t.d)/\s.num=t.num/\s.line=t.line)) w:=by
 have U:Tryz.prog.underlying 311=some (.struct (Tryz.prog.fieldsOf 311)):=by kernel_rfl
 have W:Tryz.prog.stoodInHeld 311=false:=by kernel_rfl
 have V : (Tryz.prog.fieldsOf 311).toList = [{ name := "by", type := 113, offset := 0, embedded := false, tag := "", pkgPath := "stitch/patch", byteOffset := 0 }, { name := "number", type := 3, offset := 4, embedded := false, tag := "", pkgPath := "stitch/patch", byteOffset := 8 }, { name := "line", type := 9, offset := 5, embedded := false, tag := "", pkgPath := "stitch/patch", byteOffset := 16 }] := by kernel_rfl
 rw[run_equalIn_struct w (d+2) 311 _ _ U W,V];have q1:=aJy d s.a s.b s.c s.d t.a t.b t.c t.d w;have q2:(Op.equalIn (d+2) 3 (.int .i64 s.num) (.int .i64 t.num)).run Tryz.prog w=.ok (s.num == t.num) w:=run_equalIn_int w (d+1) 3 .i64 .i64 _ _ Tryz.underlying3;have K:(Op.equalIn (d+2) 9 (.string s.line) (.string t.line)).run Tryz.prog w=.ok (s.line.toList == t.line.toList) w:=run_equalIn_string w (d+1) 9 _ _ Tryz.underlying9;rw[aI5] at K;have p1:∀(u:aU),(part 113 #[.int .u8 u.a,.int .u8 u.b,.int .u8 u.c,.int .u8 u.d,.int .i64 u.num,.string u.line] 0).run Tryz.prog w=.ok (.agg #[.int .u8 u.a,.int .u8 u.b,.int .u8 u.c,.int .u8 u.d]) w:=λu=>by
  have z:=Tryz.isAgg113 w;simp[part,z]
 have p2:∀(u:aU),(part 3 #[.int .u8 u.a,.int .u8 u.b,.int .u8 u.c,.int .u8 u.d,.int .i64 u.num,.string u.line] 4).run Tryz.prog w=.ok (.int .i64 u.num) w:=λu=>by
  have z:=Tryz.isAgg3 w;simp[part,z]
 have p3:∀(u:aU),(part 9 #[.int .u8 u.a,.int .u8 u.b,.int .u8 u.c,.int .u8 u.d,.int .i64 u.num,.string u.line] 5).run Tryz.prog w=.ok (.string u.line) w:=λu=>by
  have z:=Tryz.isAgg9 w;simp[part,z]
 have Y : ("by" : String) ≠ "_" := by decide
 have Z : ("number" : String) ≠ "_" := by decide
 have n3 : ("line" : String) ≠ "_" := by decide
 simp only[Op.eqFields,if_pos Y,if_pos Z,if_pos n3,Sem.run_bind,p1,q1,Result.andThen_ok];by_cases h1:s.a=t.a/\s.b=t.b/\s.c=t.c/\s.d=t.d
 ·have E:decide (s.a=t.a/\s.b=t.b/\s.c=t.c/\s.d=t.d)=true:=decide_eq_true h1;rw[E];simp only[uV,kB,if_false,Sem.run_bind,p2,q2,Result.andThen_ok];by_cases h2:s.num=t.num
  ·have I:(s.num == t.num)=true:=by simp[h2]
   rw[I];simp only[uV,kB,if_false,Sem.run_bind,p3,K,Result.andThen_ok];by_cases J:s.line=t.line
   ·simp[h1,h2,J]
   ·simp[J]
  ·have I:(s.num == t.num)=false:=by simp[h2]
   rw[I];simp[h2]
 ·have E:decide (s.a=t.a/\s.b=t.b/\s.c=t.c/\s.d=t.d)=false:=decide_eq_false h1;rw[E];simp[h1]
theorem aDq(s t:aU)(w:World):(binOp .eql 313 (spV s) (spV t)).run Tryz.prog w=.ok (.bool (decide (s=t))) w:=by
 have I:Tryz.prog.underlying 313=some (.struct (Tryz.prog.fieldsOf 313)):=by kernel_rfl
 have K:Tryz.prog.stoodInHeld 313=false:=by kernel_rfl
 have J : (Tryz.prog.fieldsOf 313).toList = [{ name := "cell", type := 311, offset := 0, embedded := true, tag := "", pkgPath := "stitch/patch", byteOffset := 0 }, { name := "alive", type := 4, offset := 6, embedded := false, tag := "", pkgPath := "stitch/patch", byteOffset := 32 }] := by kernel_rfl
 unfold spV;rw[run_eql_struct,run_equalIn_struct w 9999 313 _ _ I K,J];have W:=aPo 9996 s t w;have Y:(Op.equalIn 9999 4 (.bool s.alive) (.bool t.alive)).run Tryz.prog w=.ok (s.alive == t.alive) w:=run_equalIn_bool' w 9998 4 _ _ Tryz.underlying4;have p1:∀(u:aU),(part 311 #[.int .u8 u.a,.int .u8 u.b,.int .u8 u.c,.int .u8 u.d,.int .i64 u.num,.string u.line,.bool u.alive] 0).run Tryz.prog w=.ok (.agg #[.int .u8 u.a,.int .u8 u.b,.int .u8 u.c,.int .u8 u.d,.int .i64 u.num,.string u.line]) w:=λu=>by
  have E:=Tryz.isAgg311 w;simp[part,E]
 have p2:∀(u:aU),(part 4 #[.int .u8 u.a,.int .u8 u.b,.int .u8 u.c,.int .u8 u.d,.int .i64 u.num,.string u.line,.bool u.alive] 6).run Tryz.prog w=.ok (.bool u.alive) w:=λu=>by
  have E:=Tryz.isAgg4 w;simp[part,E]
 have U : ("cell" : String) ≠ "_" := by decide
 have V : ("alive" : String) ≠ "_" := by decide
 simp only[Op.eqFields,if_pos U,if_pos V,Sem.run_bind,p1,W,Result.andThen_ok];by_cases h1:(s.a=t.a/\s.b=t.b/\s.c=t.c/\s.d=t.d)/\s.num=t.num/\s.line=t.line
 ·rw[decide_eq_true h1];simp only[uV,kB,if_false,Sem.run_bind,p2,Y,Result.andThen_ok];by_cases z:s.alive=t.alive
  ·have e:s=t:=(aX2 s t).2 ⟨h1.1,h1.2.1,h1.2.2,z⟩;simp[e]
  ·have e:s≠t:=λe=>z (by rw[e]);simp[z,e]
 ·have e:s≠t:=λe=>h1 (by rw[e];simp);rw[decide_eq_false h1];simp[e]
def rY(S:List aU)(t:aU):Option Nat:=S.findIdx? λs=>decide (t=s)
def aB3:Option Nat->Int
 | some k=>k
 | none=>-1
theorem aS4{S:List aU}{t:aU}{k:Nat}(I:k<S.length)(h:t=S[k])(z:∀i (hi:i<k),t≠S[i]'(by omega)):rY S t=some k:=by
 unfold rY;rw[cQ];exact⟨I,by simpa using h,λj E=>by simpa using z j E⟩
theorem aXc{S:List aU}{t:aU}(z:∀i (hi:i<S.length),t≠S[i]):rY S t=none:=by
 unfold rY;rw[fE];intro x E;obtain⟨i,hi,rfl⟩:=lB.1 E;simpa using z i hi
theorem aK7(S:List aU)(t:aU)(v0:Value)(w:World)(hv:SV w v0 S)(a2:S.length<=1000000):
  Calls Tryz.prog 284 #[v0,spV t] w λe w'=>e=.returned (.int .i64 (aB3 (rY S t)))/\Below w.heap.size w w':=by
 obtain⟨ao,cap,rfl⟩:=hv.shape;have I:Below w.heap.size w (w.alloc (.cells #[.int .u8 t.a,.int .u8 t.b,.int .u8 t.c,.int .u8 t.d,.int .i64 t.num,.string t.line,.bool t.alive] 313)):=(Below.refl _ _).alloc (aA _) _;have J:=(aH w (.cells #[.int .u8 t.a,.int .u8 t.b,.int .u8 t.c,.int .u8 t.d,.int .i64 t.num,.string t.line,.bool t.alive] 313)).1;unfold spV;go_enter Tryz.func284,Tryz.ntmps284;go_wp2;generalize w.alloc (.cells #[.int .u8 t.a,.int .u8 t.b,.int .u8 t.c,.int .u8 t.d,.int .i64 t.num,.string t.line,.bool t.alive] 313)=w1 at *;have a1:=hv.below I (aA _);have W:=I.size
 go_loopw [8] (λi wr=>∃k:Nat,k<=S.length/\i=.int .i64 k/\Hid (∀i (hi:i<S.length),i<k->t≠S[i])/\Below w1.heap.size w1 wr) (λi _=>S.length - (intOf i).toNat)
 case atStart=>exact⟨0,aE _,rfl,(λi _ h=>by omega),Below.refl _ _⟩
 case round=>
  obtain⟨k,hk,rfl,Z,E⟩:=hrel;by_cases V:k<S.length
  ·have hs:S[k]?=some S[k]:=aC V;obtain⟨b,o,rfl,hb,c0,c1,c2,c3,c4,c5,c6⟩:=(a1.below E (aA _)).at hs;have a0:w.heap.size<w1.heap.size:=by
    rcases yA w.heap.size w1.heap.size with h|h
    ·exact h
    ·rw[eI h] at J;cases J
   have z:wr.heap[w.heap.size]?=some (.cells #[.int .u8 t.a,.int .u8 t.b,.int .u8 t.c,.int .u8 t.d,.int .i64 t.num,.string t.line,.bool t.alive] 313 (0,0)):=(E.block _ a0).trans J;have d0:wr.cell? ⟨w.heap.size,0,none⟩=some (.int .u8 t.a):=by simp[World.cell?,z]
   have d1:wr.cell? ⟨w.heap.size,1,none⟩=some (.int .u8 t.b):=by simp[World.cell?,z]
   have d2:wr.cell? ⟨w.heap.size,2,none⟩=some (.int .u8 t.c):=by simp[World.cell?,z]
   have d3:wr.cell? ⟨w.heap.size,3,none⟩=some (.int .u8 t.d):=by simp[World.cell?,z]
   have d4:wr.cell? ⟨w.heap.size,4,none⟩=some (.int .i64 t.num):=by simp[World.cell?,z]
   have d5:wr.cell? ⟨w.heap.size,5,none⟩=some (.string t.line):=by simp[World.cell?,z]
   have d6:wr.cell? ⟨w.heap.size,6,none⟩=some (.bool t.alive):=by simp[World.cell?,z]
   obtain⟨s,K⟩:∃s,S[k]=s:=⟨_,rfl⟩;rw[K] at c0 c1 c2 c3 c4 c5 c6;have HT:=aO K;clear K hs z
   cases U:decide (t=s)
   ·have hq:∀u:World,(binOp .eql 313 (.agg #[.int .u8 t.a,.int .u8 t.b,.int .u8 t.c,.int .u8 t.d,.int .i64 t.num,.string t.line,.bool t.alive]) (.agg #[.int .u8 s.a,.int .u8 s.b,.int .u8 s.c,.int .u8 s.d,.int .i64 s.num,.string s.line,.bool s.alive])).run Tryz.prog u=.ok (.bool false) u:=λu=>by
     have:=aDq t s u;rw[U] at this;exact this
    have Y:Hid (t≠s):=by show _≠_;simpa using U
    clear U
    go_wp2_with fail
    go_quiet (fail)
    go_wp2
    go_roundw
    case rel=>
     refine⟨k+1,by omega,by go_num,λi hi h=>?_,below_drewN E _⟩;by_cases e:i=k
     ·subst e;rw[HT.out];exact Y.out
     ·exact Z.out i hi (by omega)
    case measure=>simp[intOf];omega
   ·have hq:∀u:World,(binOp .eql 313 (.agg #[.int .u8 t.a,.int .u8 t.b,.int .u8 t.c,.int .u8 t.d,.int .i64 t.num,.string t.line,.bool t.alive]) (.agg #[.int .u8 s.a,.int .u8 s.b,.int .u8 s.c,.int .u8 s.d,.int .i64 s.num,.string s.line,.bool s.alive])).run Tryz.prog u=.ok (.bool true) u:=λu=>by
     have:=aDq t s u;rw[U] at this;exact this
    have Y:Hid (t=s):=by show _=_;simpa using U
    clear U
    go_wp2_with fail
    go_quiet (fail)
    go_wp2;go_ret;exact⟨fW (by rw[aS4 V (by rw[HT.out];exact Y.out) (λi hi=>Z.out i (by omega) hi)];rfl),I.trans ((below_drewN E _).mono W)⟩
  ·go_wp2;go_ret;exact⟨fW (by rw[aXc (λi hi=>Z.out i hi (by omega))];rfl),I.trans (E.mono W)⟩
theorem iJ{w:World}{g:Nat}{x y:Value}{t:TypeId}{f:Nat×Nat}(h:w.heap[g]?=some (.cells #[x,y] t f)):w.cell? ⟨g,0,none⟩=some x/\w.cell? ⟨g,1,none⟩=some y:=by
 simp[World.cell?,h]
theorem aA9(N S:List aU)(t:aU)(J:N[0]?=some t)(nv bv Y:Value)(ba:Option Addr)(bn bc:Nat)(U:bv=.slice ba bn bc)(w:World)(V:SV w nv N)(hv:SV w Y S)(E:S.length<=1000000):
  Calls Tryz.prog 362 #[.agg #[nv,bv],Y] w λe w'=>e=.returned (.int .i64 (aB3 (rY S t)))/\Below w.heap.size w w':=by
 subst U;obtain⟨na,nc,rfl⟩:=V.shape;have z:Below w.heap.size w (w.alloc (.cells #[.slice na N.length nc,.slice ba bn bc] 327)):=(Below.refl _ _).alloc (aA _) _;have W:=z.size;have I:=hv.below z (aA _);obtain⟨b,o,rfl,hb,c0,c1,c2,c3,c4,c5,c6⟩:=(V.below z (aA _)).at J;simp only[Nat.zero_mul,oK] at c0 c1 c2 c3 c4 c5 c6;have a0:(0:Int)<(N.length:Int):=by have:=(aB.1 J).1;omega
 have Z:=aO (aK7 S t Y _ I E);clear I hv V J;go_enter Tryz.func362,Tryz.ntmps362
 go_wp2_with fail
 refine Z.out.mono ?_;rintro e w2 ⟨rfl,K⟩;clear Z;go_wp2;go_ret;exact⟨rfl,z.trans (K.mono W)⟩
theorem vS(N:List aU)(nv bv:Value)(E:Option Addr)(J I:Nat)(a0:bv=.slice E J I)(w:World)(Z:SV w nv N)(U:N.length<=1000000)(h2:2<=N.length):
  Calls Tryz.prog 360 #[.agg #[nv,bv]] w λe w'=>∃v,e=.returned v/\SV w' v ((N.take (N.length - 1)).drop 1)/\Below w.heap.size w w':=by
 subst a0;have a1:=Z;obtain⟨W,Y,rfl⟩:=Z.shape;have K:Below w.heap.size w (w.alloc (.cells #[.slice W N.length Y,.slice E J I] 327)):=(Below.refl _ _).alloc (aA _) _;have HU:Hid (Calls Tryz.prog 356 #[.slice W N.length Y] (w.alloc (.cells #[.slice W N.length Y,.slice E J I] 327)) λe w'=>∃v,e=.returned v/\SV (w.alloc (.cells #[.slice W N.length Y,.slice E J I] 327)) v ((N.take (N.length - 1)).drop 1)/\w'=(w.alloc (.cells #[.slice W N.length Y,.slice E J I] 327))):=vB N _ _ (Z.below K (aA _)) U h2;clear Z a1;go_enter Tryz.func360,Tryz.ntmps360
 go_wp2_with fail
 refine HU.out.mono ?_;rintro e w2 ⟨v,rfl,z,rfl⟩;clear HU;obtain⟨M,hM⟩:∃M,(N.take (N.length - 1)).drop 1=M:=⟨_,rfl⟩;rw[hM] at z;have HM:=aO hM;clear hM;have V:=z;obtain⟨va,vc,rfl⟩:=z.shape;go_wp2;go_ret;exact⟨_,rfl,by rw[HM.out];exact V,K⟩
def jI(L:List ByteArray):ByteArray:=⟨(L.flatMap (·.data.toList)).toArray⟩
theorem aIx(L:List ByteArray):(⟨(Lib.join (L.map (·.data.toList)) (ByteArray.empty).data.toList).toArray⟩:ByteArray)=jI L:=by
 unfold jI Lib.join;congr 2;have:∀M:List (List UInt8),List.intercalate [] M=M.flatten:=by
  intro M;unfold List.intercalate
  induction M with
  | nil=>rfl
  | cons a M ih=>
   cases M with
   | nil=>rfl
   | cons b M=>simp only[List.intersperse,List.flatten_cons,cY] at *;rw[ih]
 show List.intercalate [] _=_;rw[this,tK]
theorem aOg(L:List ByteArray)(J:Value)(B:Nat)(w:World)(hv:w.ownsRow B 9 1 J L.length (bW L))(I:L.length<=1000000)(a0:(jI L).size<=1000000000):
  Calls Tryz.prog 199 #[J,.string ⟨#[]⟩] w λe w'=>e=.returned (.string (jI L))/\Below w.heap.size w w':=by
 have E:=hv.lt;have Y:=λg=>eZ hv (g:=g);rcases hv.2 with ⟨rfl,U⟩|⟨g,cp,K,rfl,_,hg,z,_⟩
 ·have V:L=[]:=aS U;subst V;refine(Tryz.strings_Join_none none 0 ⟨#[]⟩ w).mono ?_;rintro e w' ⟨rfl,rfl⟩;exact⟨rfl,Below.refl _ _⟩
 ·refine(Tryz.strings_Join g 0 cp L ⟨#[]⟩ w (λj x Z=>?_) (E g rfl).2 (by omega) z ?_).mono ?_
  ·have:=Y g rfl j (.string x) (by simp[Z]);rw[dC,<- this]
   cases j<;>simp[Addr.add]
  ·have:=congrArg (λb:ByteArray=>b.data.toList.length) (aIx L);simp only at this;rw[show (⟨#[]⟩:ByteArray).data.toList=(ByteArray.empty).data.toList from rfl];have h2:(jI L).data.toList.length=(jI L).size:=by rw[fP];rfl
   rw[h2] at this;omega
  ·rintro e w' ⟨rfl,W⟩;refine⟨?_,W⟩;rw[show (⟨#[]⟩:ByteArray).data.toList=(ByteArray.empty).data.toList from rfl,aIx]
def dM(S:List aU):ByteArray:=jI (aL S)
theorem lV(S:List aU):(aL S).length<=S.length:=by
 unfold aL living;rw[aT];exact aB9 S _
theorem aR8(S:List aU)(U:Value)(w:World)(hv:SV w U S)(z:S.length<=1000000)(K:(dM S).size<=1000000000):
  Calls Tryz.prog 135 #[U] w λe w'=>e=.returned (.string (dM S))/\Below w.heap.size w w':=by
 have W:=aO (uC S U w hv z);have hl:=lV S;obtain⟨Z,cap,rfl⟩:=hv.shape;clear hv;go_enter Tryz.func135,Tryz.ntmps135
 go_wp2_with fail
 refine W.out.mono ?_;rintro e E ⟨v,rfl,J,Y⟩;have V:Hid (Calls Tryz.prog 199 #[v,.string ⟨#[]⟩] E λe w'=>e=.returned (.string (dM S))/\Below E.heap.size E w'):=aOg (aL S) v _ E J (by omega) K;clear W;obtain⟨va,vc,rfl⟩:=bC J;clear J
 go_wp2_with fail
 refine V.out.mono ?_;rintro e w2 ⟨rfl,I⟩;clear V;go_wp2;go_ret;exact⟨rfl,Y.trans (I.mono Y.size)⟩
def bA3(L:List ByteArray):Nat->ByteArray
 | 0=>⟨#[]⟩
 | k+1=>bA3 L k++L.getD k ByteArray.empty
def bBw(s:ByteArray):Nat->Nat
 | 0=>0
 | k+1=>10 * bBw s k+(gb s k - 48)
theorem aNb:jI []=⟨#[]⟩:=rfl
theorem vW(A B:List ByteArray):jI (A++B)=jI A++jI B:=by
 apply gL;apply aVr.1;simp[jI,kK]
theorem aWk(l:ByteArray):jI [l]=l:=by
 apply gL;apply aVr.1;simp[jI]
theorem aIw(l:ByteArray)(B:List ByteArray):jI (l::B)=l++jI B:=by
 rw[show l::B=[l]++B from rfl,vW,aWk]
theorem aIt(a b c:ByteArray):a++b++c=a++(b++c):=by
 apply gL;simp[kK,Array.append_assoc]
theorem aNc(L:List ByteArray)(m:Nat)(h:∀l∈L,l.size<=m):(jI L).size<=L.length * m:=by
 induction L with
 | nil=>simp[jI,ByteArray.size]
 | cons l L ih=>
  rw[aIw,aN,aY,aBk];have:=h l (by simp);have:=ih (λx z=>h x (by simp[z]));omega
theorem aK0(O:List ByteArray)(hO:O.length<=10000)(oa:Option Addr)(oc:Nat)(w:World)(d7:gD w oa O)
  (hc:Calls Tryz.prog 269 #[.slice oa O.length oc,.slice none 0 0] w λe w'=>∃v,e=.returned v/\TV w' v O.length 0 (CC O [])/\Below w.heap.size w w') :
  Calls Tryz.prog 249 #[.slice oa O.length oc,.slice none 0 0] w λe w'=>∃v,e=.returned v/\pJ O [] w w' v/\Below w.heap.size w w':=by
 obtain⟨i0,hi,e2,e3,e4⟩:=info_parts Tryz.info324;have HC:=aO hc;clear hc;go_enter Tryz.func249,Tryz.ntmps249
 go_wp2_with fail
 refine HC.out.mono ?_;rintro e w1 ⟨cv,rfl,c0,a3⟩;clear HC;obtain⟨tb,to,tc,rfl⟩:∃tb to tc,cv=.slice (some ⟨tb,to,none⟩) (O.length+1) tc:=by
  obtain⟨tb,to,tc,rfl,_⟩:=c0;exact⟨tb,to,tc,rfl⟩
 have b1:=d7.below a3;have d5:=a3.size;obtain⟨I,a0⟩:∃I,I=w1.alloc (.cells #[.slice oa O.length oc,.slice none 0 0,.slice (some ⟨tb,to,none⟩) (O.length+1) tc] 349):=⟨_,rfl⟩;have a4:Below w1.heap.size w1 I:=by rw[a0];exact(Below.refl _ _).alloc (aA _) _
 have e0:I.heap[w1.heap.size]?=some (.cells #[.slice oa O.length oc,.slice none 0 0,.slice (some ⟨tb,to,none⟩) (O.length+1) tc] 349 (0,0)):=by rw[a0];exact(aH w1 _).1
 have e6:w1.heap.size<I.heap.size/\I.heap.size<=w1.heap.size+1:=by rw[a0];simp
 have HT:Hid (TV I (.slice (some ⟨tb,to,none⟩) (O.length+1) tc) O.length 0 (CC O [])):=c0.below a4 (aA _);have d8:=aO (b1.below a4);clear c0 d7 b1;go_wp2;rw[<- a0];clear a0
 go_loopw [6,7,8] (λv x y wr=>∃(i j:Nat) (G:List Gp),i<=O.length/\j<=0/\x=.int .i64 i/\y=.int .i64 j/\Hid (GV wr I.heap.size v [] G)/\G.length<=i/\Hid (∀z,dS O [] i j z->dS O [] 0 0 (G.map (λg:Gp=>g.q)++z))/\Below I.heap.size I wr) (λ_ x _ _=>O.length+1 - (intOf x).toNat)
 case atStart=>exact⟨0,0,[],aE _,aE _,rfl,rfl,⟨aK _ _ _ _,λg hg=>by cases hg⟩,aA _,λz h=>h,Below.refl _ _⟩
 case round=>
  obtain⟨i,j,G,c8,c9,rfl,rfl,HG,e5,J,V⟩:=hrel;have d6:=V.size;have e1:=(V.block _ (by omega)).trans e0;obtain⟨d0,d1,d2⟩:=dW e1;obtain⟨p1,p2,p3,p4,p5⟩:=oB O [] i j c8 (by simpa using c9);simp only[cX] at p4 p5;obtain⟨k,l,a6⟩:∃k l,tJ O [] i j=(k,l):=⟨_,_,rfl⟩;rw[a6] at p1 p2 p3 p4 p5;simp only at p1 p2 p3 p4 p5;have c4:Hid (Calls Tryz.prog 270 #[.agg #[.slice oa O.length oc,.slice none 0 0,.slice (some ⟨tb,to,none⟩) (O.length+1) tc],.int .i64 i,.int .i64 j] wr λe w'=>e=.returned (.tuple #[.int .i64 (k:Nat),.int .i64 (l:Nat)])/\Below wr.heap.size wr w'):=by
   have h:=aDo O [] i j c8 (by simpa using c9) (by omega) (by simp) oa none oc 0 _ wr (HT.out.below V (aA _)) (d8.out.below V) (.inl rfl);rw[a6] at h;exact h
  have a2:=aO a6;clear a6
  go_wp2_with fail
  refine c4.out.mono ?_;rintro e w3 ⟨rfl,a5⟩;clear c4;have a1:=aO (HG.out.below a5);have a7:Below I.heap.size I w3:=V.trans (a5.mono d6);have e7:=a5.size;clear HG a5 d0 d1 d2;have b5:Below w.heap.size w w3:=(a3.trans (a4.mono d5)).trans (a7.mono (by omega));by_cases W:i<k\/j<l
  ·have U:Hid (fA i k j l=[⟨i,k,j,l⟩]):=by show _=_;unfold fA;rw[if_pos W]
   obtain rfl:j=0:=by omega
   obtain rfl:l=0:=by omega
   have q1:i<k:=by omega
   have q2:decide (i<k)=true:=by simpa using q1
   have c1:Hid (Calls Tryz.prog 271 #[.slice none 0 0] w3 λe w'=>∃v,e=.returned v/\w'.ownsRow w3.heap.size 9 1 v ([]:List ByteArray).length (bW [])/\Below w3.heap.size w3 w'):=by
    refine(Tryz.slices_Clone_string_nil 0 0 w3).mono ?_;rintro e w' ⟨rfl,rfl⟩;exact⟨_,rfl,aK _ _ _ _,Below.refl _ _⟩
   clear W
   go_wp2_with fail
   refine c1.out.mono ?_;rintro e w4 ⟨lv,rfl,b9,b4⟩;clear c1;have e8:=b4.size;obtain⟨la,lc,b8⟩:=bC b9;have c5:=a1.out.below b4;have b3:GV (w4.alloc (.cells #[.int .i64 (i:Nat),.int .i64 (k:Nat),lv] 324)) I.heap.size u6 [] G:=c5.below ((Below.refl _ _).alloc (aA _) _);have d4:(w4.alloc (.cells #[.int .i64 (i:Nat),.int .i64 (k:Nat),lv] 324)).ownsRow I.heap.size 9 1 lv (bX [] ⟨i,k,0,0⟩).length (bW (bX [] ⟨i,k,0,0⟩)):=bK (b9.alloc _) (by omega);have c3:=aO d4;have c2:=aO b3;have K:=b3.row;have a9:=uF w4 (.int .i64 (i:Nat)) (.int .i64 (k:Nat)) lv 324;have d9:Below I.heap.size I w4:=a7.trans (b4.mono (by omega));have b0:∀u∈[Value.int .i64 (i:Nat),.int .i64 (k:Nat),lv],u.oneCell'=true:=by
    intro u hu;simp only[cC,fN,or_false] at hu;rcases hu with rfl|rfl|rfl
    ·rfl
    ·rfl
    ·rw[b8];rfl
   obtain⟨ln,a8⟩:∃n,([]:List ByteArray).length=n:=⟨_,rfl⟩;rw[a8] at b8;subst b8;clear d4 b3 c5 b9 a8 a1
   go_wp2_with (at_builtin;refine wpList_append_own _ rfl _ _ 321 rfl I.heap.size 324 i0 _ 3 40 Tryz.underlying321 hi e2 e3 e4 rfl (by decide) _ _ _ rfl K ⟨w4.heap.size,0,none⟩ 1 1 [.int .i64 (i:Nat),.int .i64 (k:Nat),.slice la ln lc] rfl rfl a9 b0 (by unfold maxLen;omega) (by omega) (by simp;omega) ?_)
   intro v' w6 Z hg _;have b2:Hid (GV w6 I.heap.size v' [] (G++[(⟨⟨i,k,0,0⟩,.slice la ln lc⟩:Gp)])):=c2.out.step hg Z c3.out;have c7:Below I.heap.size I w6:=qP (B:=I.heap.size) (aA _) K (d9.alloc (by omega) _) (by simp;omega) hg;have c6:Below w.heap.size w w6:=(a3.trans (a4.mono d5)).trans (c7.mono (by omega));clear Z hg K a9 b0 c2 c3;by_cases E:k=O.length
   ·have b7:((k:Int) == (O.length:Int))=true:=by simp;omega
    have Y:decide (k=O.length)=true:=by simpa using E
    have HF:Hid (pJ O [] w w6 v'):=⟨_,b2.out.mono (by omega),by rw[bF];exact J.out _ (by have:=dS.stop a2.out E;rw[U.out] at this;exact this)⟩;clear b2 J;go_wp2;go_ret;exact⟨_,rfl,HF.out,c6⟩
   ·have b7:((k:Int) == (O.length:Int))=false:=by rw[beq_eq_false_iff_ne];omega
    have Y:decide (k=O.length)=false:=by simpa using E
    have b6:k<O.length:=by omega
    have d3:0<0:=by
     rcases p5 with h|h
     ·exact h.2.1
     ·omega
    have HF:Hid (∀z,dS O [] (k+1) (0+1) z->dS O [] 0 0 ((G++[(⟨⟨i,k,0,0⟩,.slice la ln lc⟩:Gp)]).map (λg:Gp=>g.q)++z)):=λz hr=>by
     have h1:=dS.go a2.out b6 hr;rw[U.out] at h1;have h2:=J.out _ h1;simpa using h2
    clear J p5;go_wp2
    go_roundw
    case rel=>exact⟨k+1,0+1,_,by omega,by omega,by go_num,by go_num,b2,by simp;omega,HF,c7⟩
    case measure=>simp[intOf];omega
  ·have U:Hid (fA i k j l=[]):=by show _=_;unfold fA;rw[if_neg W]
   have q1:decide (i<k)=false:=by simp;omega
   have q2:decide (j<l)=false:=by simp;omega
   by_cases E:k=O.length
   ·have b7:((k:Int) == (O.length:Int))=true:=by simp;omega
    have Y:decide (k=O.length)=true:=by simpa using E
    have HF:Hid (pJ O [] w w3 u6):=⟨_,a1.out.mono (by omega),by have h1:=dS.stop a2.out E;rw[U.out] at h1;simpa using J.out _ h1⟩;clear a1 J;go_wp2;go_ret;exact⟨_,rfl,HF.out,b5⟩
   ·have b7:((k:Int) == (O.length:Int))=false:=by rw[beq_eq_false_iff_ne];omega
    have Y:decide (k=O.length)=false:=by simpa using E
    have b6:k<O.length:=by omega
    have d3:l<0:=by
     rcases p5 with h|h
     ·exact h.2.1
     ·omega
    have HF:Hid (∀z,dS O [] (k+1) (l+1) z->dS O [] 0 0 (G.map (λg:Gp=>g.q)++z)):=λz hr=>by
     have h1:=dS.go a2.out b6 hr;rw[U.out] at h1;exact J.out _ h1
    clear J p5;go_wp2
    go_roundw
    case rel=>exact absurd d3 (by omega)
    case measure=>simp[intOf];omega
end Go.Proofs.YtgdfipmdmgkidaaGreatDoor

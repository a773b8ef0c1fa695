import Derived.Test.YtgdfipmdmgkidaaGreatDoorWcomm
import Derived.Test.YtgdfipmdmgkidaaGreatDoorAl
set_option linter.all false
set_option maxHeartbeats 1600000
set_option maxRecDepth 100000
namespace Go.Proofs.YtgdfipmdmgkidaaGreatDoor
open Go.RowKit
theorem Tryz.info142:(Tryz.prog.info? 142).map (λi=>(i.zero,i.size,i.bytes))=some (some (.agg #[.slice none 0 0,.slice none 0 0,.slice none 0 0,.slice none 0 0,.int .i64 0,.string ⟨#[]⟩]),6,120):=by kernel_rfl
theorem aRr(L:List ByteArray)(k:Nat)(m:ByteArray)(z:k<L.length):(bW (eU k m++L.drop k)).set k (.string m)=bW (eU (k+1) m++L.drop (k+1)):=by
 rw[bO z];simp only[bW,bF,cU,eU,List.replicate_succ',List.map_replicate];rw[tG _ _ (by simp)];simp
theorem aUq(L:List ByteArray)(m:ByteArray):bW (eU L.length m++L.drop L.length)=bW (eU L.length m):=by simp
theorem aXq(w:World)(m:ByteArray):∀j u,(bW (eU 2 m))[j]?=some u->(w.alloc (.cells #[.string m,.string m] 9)).cell? ((⟨w.heap.size,0,none⟩:Addr).add j)=some u:=by
 intro j u z
 match j,z with
 | 0,z=>simp[eU] at z;subst z;simp[Addr.add]
 | 1,z=>simp[eU] at z;subst z;simp[Addr.add]
 | j+2,z=>simp[eU] at z
theorem aUy(w:World)(m:ByteArray):∀j u,(bW (eU 3 m))[j]?=some u->(w.alloc (.cells #[.string m,.string m,.string m] 9)).cell? ((⟨w.heap.size,0,none⟩:Addr).add j)=some u:=by
 intro j u z
 match j,z with
 | 0,z=>simp[eU] at z;subst z;simp[Addr.add]
 | 1,z=>simp[eU] at z;subst z;simp[Addr.add]
 | 2,z=>simp[eU] at z;subst z;simp[Addr.add]
 | j+3,z=>simp[eU] at z
theorem lO{a b c:World}{row:Option Nat}(h:a.grownBy b row)(k:b.grownBy c row):a.grownBy c row:=
 ⟨k.os.trans h.os,k.tape.trans h.tape,k.output.trans h.output,aR h.size k.size,λi hi z=>(k.block i (bJ hi h.size) z).trans (h.block i hi z)⟩
theorem aN9{a b:World}{row:Option Nat}(h:Below a.heap.size a b):a.grownBy b row:=⟨h.os,h.tape,h.output,h.size,λi hi _=>h.block i hi⟩
theorem wI{w w':World}{o:Obj}{A n:Nat}{v:Value}{m:ByteArray}(h:w.ownsRow A 9 1 v n (bW (eU n m)))(z:(w.alloc o).grownBy w' v.ownBlock)(E:qF m (w.alloc o) w'):
  w'.ownsRow A 9 1 v n (bW (eU n m))/\w.grownBy w' v.ownBlock:=
 ⟨E A v n (h.alloc o),lO (World.grownBy_alloc w o _) z⟩
theorem eF.kept{w w':World}{o:Obj}{B n:Nat}{v K:Value}{m:ByteArray}(h:eF w B (zG w) v n m)(J:qF m (w.alloc o) w')(I:(w.alloc o).grownBy w' K.ownBlock):eF w' B (zG w') v n m:=by
 have E:=I.size;simp at E;exact⟨J B v n (h.1.alloc o),λg z=>by have:=h.2 g z;unfold zG at *;omega⟩
theorem eF.lower{w:World}{B z n:Nat}{S:Nat->Prop}{v:Value}{m:ByteArray}(h:eF w z S v n m)(E:B<=z):eF w B S v n m:=⟨bK h.1 E,h.2⟩
theorem aZr(w:World)(a b c d e f:Value):∀j u,[a,b,c,d,e,f][j]?=some u->(w.alloc (.cells #[a,b,c,d,e,f] 142)).cell? ((⟨w.heap.size,0,none⟩:Addr).add j)=some u:=by
 intro j u z
 match j,z with
 | 0,z=>simp at z;subst z;simp[Addr.add]
 | 1,z=>simp at z;subst z;simp[Addr.add]
 | 2,z=>simp at z;subst z;simp[Addr.add]
 | 3,z=>simp at z;subst z;simp[Addr.add]
 | 4,z=>simp at z;subst z;simp[Addr.add]
 | 5,z=>simp at z;subst z;simp[Addr.add]
 | j+6,z=>simp at z
theorem aZ2(a b c d:Option Addr)(n p1 p2 p3 p4:Nat)(m:ByteArray):∀u∈[Value.slice a n p1,.slice b (n+1) p2,.slice c (n+2) p3,.slice d (n+3) p4,.int .i64 n,.string m],u.oneCell'=true:=by
 intro u z;simp at z;rcases z with rfl|rfl|rfl|rfl|rfl|rfl<;>rfl
theorem aCo(L:List ByteArray)(v:Value)(A B bb:Nat)(S:Nat->Prop)(K:List mX)(lv kv:Value)(w:World)(a9:gG w B S bb K lv kv)(hS:∀g,S g->g<w.heap.size)(E:w.ownsRow A 9 1 v L.length (bW L))(hA:B<=A)(g5:A<=w.heap.size)
  (c1:∀g,v.ownBlock=some g->¬ S g) (hL:L.length<=1000000) (hK:K.length+1<=10000000) :
  Calls Tryz.prog 94 #[.pointer (some ⟨bb,1,none⟩),v] w λe w'=>e=.returned (.tuple #[])/\∃x e2,gG w' B (zG w') bb (K++[x]) lv e2/\Below B w w'/\(∀g,g<w.heap.size->g≠bb->some g≠kv.ownBlock->some g≠v.ownBlock->w'.heap[g]?=w.heap[g]?):=by
 obtain⟨i0,hi,f3,f4,f5⟩:=info_parts Tryz.info142;obtain⟨ao,cap,rfl⟩:=bC E;obtain⟨ko,kc,e8⟩:=bC a9.row;subst e8;have c0:w.cell? ⟨bb,1,none⟩=some (.slice ko K.length kc):=(gW a9.cell).2;go_enter Tryz.func94,Tryz.ntmps94
 go_wp2_with fail
 refine(aH5 K.length w (by omega)).mono ?_;rintro e w1 ⟨s,rfl,hs,a8⟩;have a5:=bQ E a8 (aA _);have f6:=a8.size;go_wp2;generalize (({ data:=#[109,97,114,107,32] }:ByteArray)++s)=m
 go_loopw [5] (λi wr=>∃k:Nat,k<=L.length/\i=.int .i64 k/\wr.ownsRow A 9 1 (.slice ao L.length cap) L.length (bW (eU k m++L.drop k))/\w1.grownBy wr (Value.slice ao L.length cap).ownBlock) (λi _=>L.length - (intOf i).toNat)
 case atStart=>exact⟨0,aE _,rfl,by simpa[eU] using a5,World.grownBy.refl _ _⟩
 case round=>
  clear a5 c0;obtain⟨k,hk,rfl,z,W⟩:=hrel;by_cases e9:k<L.length
  ·obtain⟨g,e5,g7,g8⟩:=qM z (by omega);subst e5;have e7:=z.cellAt k (by omega);have c8:(bW (eU k m++L.drop k)).length=L.length:=by simp[eU];omega
   obtain⟨u,hu⟩:∃u,(bW (eU k m++L.drop k))[k]?=some u:=⟨_,aC (by omega)⟩;rw[hu] at e7;have g6:=z.frozenAt k;have b1:=z.stored k (.string m);rw[aRr L k m e9] at b1;have Y:=lO W b1.2;have d9:=b1.1;clear hu c8 z W b1 E;go_wp2
   go_roundw
   case rel=>exact⟨k+1,by omega,by go_num,d9,Y⟩
   case measure=>simp[intOf];omega
  ·have d6:k=L.length:=by omega
   rw[d6,aUq] at z;clear d6;have HG:Hid (w.grownBy wr (Value.slice ao L.length cap).ownBlock):=lO (aN9 a8) W;have f7:=W.size;have g4:A<=wr.heap.size:=by omega
   clear a8 W
   go_wp2_with (at_builtin;refine mH _ rfl (.tmp 26) (.tmp 28) rfl A _ _ m rfl (z.alloc _) ⟨wr.heap.size,0,none⟩ 1 1 rfl (iY _ _ _) (by omega) (by simp;omega) ?_)
   intro v1 w3 c2 b4 e1;obtain⟨c5,Y⟩:=wI z b4 e1;have V:eF w3 A (zG w3) v1 (L.length+1) m:=⟨c2,λg hg=>(c2.lt g hg).2⟩;have f8:A<=w3.heap.size:=by have:=Y.size;omega
   have d1:Hid (w.grownBy w3 (Value.slice ao L.length cap).ownBlock):=lO HG.out Y;clear c2 b4 e1 Y HG
   go_wp2_with (at_builtin;refine mH _ rfl (.tmp 30) (.tmp 33) rfl A _ _ m rfl (c5.alloc _) ⟨w3.heap.size,0,none⟩ 2 2 rfl (aXq _ _) (by omega) (by simp;omega) ?_)
   intro v2 w4 c3 a4 d0;obtain⟨c6,b8⟩:=wI c5 a4 d0;have b6:eF w4 A (zG w4) v1 (L.length+1) m:=V.kept d0 a4;have d8:eF w4 A (zG w4) v2 (L.length+2) m:=⟨c3,λg hg=>(c3.lt g hg).2⟩;have f9:A<=w4.heap.size:=by have:=b8.size;omega
   have d2:Hid (w.grownBy w4 (Value.slice ao L.length cap).ownBlock):=lO d1.out b8;clear c3 a4 d0 V c5 b8 d1
   go_wp2_with (at_builtin;refine mH _ rfl (.tmp 35) (.tmp 39) rfl A _ _ m rfl (c6.alloc _) ⟨w4.heap.size,0,none⟩ 3 3 rfl (aUy _ _) (by omega) (by simp;omega) ?_)
   intro v3 I c4 U b2;obtain⟨c7,b9⟩:=wI c6 U b2;have V:eF I A (zG I) v1 (L.length+1) m:=b6.kept b2 U;have a6:eF I A (zG I) v2 (L.length+2) m:=d8.kept b2 U;have c9:eF I A (zG I) v3 (L.length+3) m:=⟨c4,λg hg=>(c4.lt g hg).2⟩;have d7:eF I A (zG I) (.slice ao L.length cap) L.length m:=⟨c7,λg hg=>(c7.lt g hg).2⟩;have a7:w.grownBy I (Value.slice ao L.length cap).ownBlock:=lO d2.out b9;have d3:Hid (w.grownBy I (Value.slice ao L.length cap).ownBlock):=a7;have g0:A<=I.heap.size:=by have:=b9.size;omega
   clear c4 U b2 b6 d8 c6 c7 b9 z d2;obtain⟨a1,p1,rfl⟩:=bC V.1;obtain⟨a2,p2,rfl⟩:=bC a6.1;obtain⟨a3,p3,rfl⟩:=bC c9.1;have e0:Below B w I:=(Below.refl B w).grown a7 (by omega) (λg hg=>by have:=(E.lt g hg).1;omega);have b7:zJ S w I:=zJ.of_grown a7 hS c1;have a0:=a9.same b7;have b0:I.cell? ⟨bb,1,none⟩=some (.slice ko K.length kc):=(gW a0.cell).2;have b3:mX.ok I B (zG I) ⟨.slice ao L.length cap,.slice a1 (L.length+1) p1,.slice a2 (L.length+2) p2,.slice a3 (L.length+3) p3,L.length,m⟩:=⟨d7.lower hA,V.lower hA,a6.lower hA,c9.lower hA,hL⟩;clear d7 V a6 c9 a7 E
   go_wp2_with (at_builtin;refine wpList_append_own _ rfl (.tmp 45) (.tmp 54) 69 rfl B 142 i0 _ 6 120 Tryz.underlying69 hi f3 f4 f5 rfl (by decide) _ _ _ rfl (a0.row.alloc _) ⟨I.heap.size,0,none⟩ 1 1 (mX.cells ⟨.slice ao L.length cap,.slice a1 (L.length+1) p1,.slice a2 (L.length+2) p2,.slice a3 (L.length+3) p3,L.length,m⟩) rfl rfl (aZr _ _ _ _ _ _ _) (aZ2 _ _ _ _ _ _ _ _ _ _) (by unfold maxLen;omega) (by omega) (by simp;omega) ?_)
   intro e2 w6 J b5 _;obtain⟨h0,g9,rfl⟩:=bC J;obtain⟨Z,d4,e6,d5⟩:=bAx a9 hS b7 e0 b5 J rfl hK b3 (by omega);have e3:w6.cell? ⟨bb,1,none⟩=some (.slice ko K.length kc):=(gW Z).2;have e4:w6.frozen? ⟨bb,1,none⟩=false:=aDa Z;clear J b5 b3 a0 b0 Z b7 e0;go_wp2
   go_end0
   refine⟨rfl,_,_,d4,e6,λg h1 h2 h3 h4=>?_⟩;rw[d5 g (by have:=d3.out.size;omega) h2 h3];exact d3.out.block g h1 h4
theorem kN(z:Int)(w:World)(E:0<=z)(I:z<=1000):Calls Tryz.prog 53 #[.int .i64 z] w λe w'=>e=.returned (.int .i64 z)/\w'=w:=by
 go_enter Tryz.func53,Tryz.ntmps53;go_wp2;go_ret;exact⟨rfl,rfl⟩
theorem aOs(s:ByteArray):0<=iW s/\iW s<=1000:=by unfold iW;split<;>omega
theorem aOt(s:ByteArray):(lQ s).length<=16:=by
 unfold lQ dH;split
 ·rename_i h
  simp at h;exact h.1.2
 ·simp
theorem aRj(s:ByteArray)(B bb:Nat)(S:Nat->Prop)(K:List mX)(lv kv:Value)(w:World)(a5:gG w B S bb K lv kv)(hS:∀g,S g->g<w.heap.size)(hB:B<=w.heap.size)(hK:K.length+1<=10000000):
  Calls Tryz.prog 56 #[.pointer (some ⟨bb,1,none⟩),.string s] w λe w'=>e=.returned (.bool true)/\∃x a2,gG w' B (zG w') bb (K++[x]) lv a2/\Below B w w'/\(∀g,g<w.heap.size->g≠bb->some g≠kv.ownBlock->w'.heap[g]?=w.heap[g]?):=by
 have b3:=aOs s;have b7:=aOt s;have h5:=aRl s w;have a4:=λZ=>aDl s Z;generalize iW s=z at *;generalize lQ s=L at *;obtain⟨b5,b6⟩:=b3;have c1:(z == z)=true:=by simp
 have a8:Hid (∀Z,Calls Tryz.prog 92 #[.string s] Z λe w'=>∃v,e=.returned (.tuple #[v,.int .i64 z])/\w'.ownsRow Z.heap.size 9 1 v L.length (bW L)/\Below Z.heap.size Z w'):=a4;have H5:Hid (Calls Tryz.prog 91 #[.string s] w λe w'=>∃v,e=.returned (.tuple #[v,.int .i64 z])/\w'.ownsRow w.heap.size 9 1 v L.length (bW L)/\Below w.heap.size w w'):=h5;clear a4 h5;go_enter Tryz.func56,Tryz.ntmps56
 go_wp2_with fail
 refine H5.out.mono ?_;rintro e Z ⟨v,rfl,I,a0⟩;obtain⟨ao,ca,rfl⟩:=bC I
 go_wp2_with fail
 refine(a8.out Z).mono ?_;rintro e w2 ⟨v2,rfl,J,V⟩;obtain⟨bo,cb,rfl⟩:=bC J;have E:=bQ I V (aA _)
 go_wp2_with fail
 refine(aAd L ao bo ca cb _ _ w2 E J (by omega)).mono ?_;rintro e w3 ⟨rfl,q,rfl⟩;have W:Below w2.heap.size w2 (w2.drewN q):=below_drewN (Below.refl _ _) q;have b8:=a0.size;have b9:=V.size;have c0:=W.size;have Y:Below w.heap.size w (w2.drewN q):=a0.trans ((V.mono (by omega)).trans (W.mono (by omega)));have a3:Hid (Below w.heap.size w (w2.drewN q)):=Y;have a6:=a5.same (zJ.of_below Y hS);have U:=bQ E W (aA _);have a9:Hid (∀g,(Value.slice ao L.length ca).ownBlock=some g->w.heap.size<=g):=λg hg=>(U.lt g hg).1;have b2:Below B w (w2.drewN q):=Y.mono hB;have b0:∀g,S g->g<(w2.drewN q).heap.size:=λg hg=>by have:=hS g hg;have:=Y.size;omega
 have a1:∀g,(Value.slice ao L.length ca).ownBlock=some g->¬ S g:=λg hg hs=>by have:=(U.lt g hg).1;have:=hS g hs;omega
 clear I J E a0 V W a5
 go_wp2_with fail
 refine(aCo L _ w.heap.size B bb S K lv kv _ a6 b0 U hB (by omega) a1 (by omega) hK).mono ?_;rintro e w4 ⟨rfl,x,a2,a7,b1,b4⟩
 go_wp2_with (go_at_call 53;refine(kN _ _ b5 b6).mono ?_;rintro e w' ⟨rfl,rfl⟩)
 go_ret;refine⟨rfl,x,a2,a7,b2.trans b1,λg h1 h2 h3=>?_⟩;rw[b4 g (by have:=a3.out.size;omega) h2 h3 (λe=>by have:=a9.out g e.symm;omega)];exact a3.out.block g h1
end Go.Proofs.YtgdfipmdmgkidaaGreatDoor

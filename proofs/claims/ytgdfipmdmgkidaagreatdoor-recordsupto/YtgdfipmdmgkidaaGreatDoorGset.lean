import Derived.Test.YtgdfipmdmgkidaaGreatDoorWcomm
import Derived.Laws.AppendOwnNone
import Derived.BigRegion
import Derived.Test.YtgdfipmdmgkidaaGreatDoorAl
set_option linter.all false
set_option maxHeartbeats 1600000
set_option maxRecDepth 100000
namespace Go.Proofs.YtgdfipmdmgkidaaGreatDoor
open Go.RowKit
def gA(F:jN)(name:ByteArray):jN:=match pI (fO F) name with|some k=>F.eraseIdx k|none=>F
def yF(F:jN)(name text:ByteArray)(there:Bool):jN:=if there=true then gA F name++[(name,text)] else gA F name
theorem aCa{α β:Type}(f:α->β):∀(l:List α) (k:Nat),(l.eraseIdx k).map f=(l.map f).eraseIdx k
 | [],k=>by simp
 | a::l,0=>rfl
 | a::l,k+1=>by simp[aCa f l k]
theorem aUz(F:jN)(k:Nat):fO (F.eraseIdx k)=(fO F).eraseIdx k:=aCa _ F k
theorem aVe(F:jN)(k:Nat):txs (F.eraseIdx k)=(txs F).eraseIdx k:=aCa _ F k
theorem fH{w:World}{b:Nat}{x y z:Value}{t:TypeId}(h:w.heap[b]?=some (.cells #[x,y,z] t (0,0))):w.cell? ⟨b,0,none⟩=some x/\w.cell? ⟨b,1,none⟩=some y/\w.cell? ⟨b,2,none⟩=some z:=by simp[World.cell?,h]
theorem oE{w:World}{b o:Nat}{c:Array Value}{t:TypeId}(h:w.heap[b]?=some (.cells c t (0,0))):w.frozen? ⟨b,o,none⟩=false:=by simp[World.frozen?,h]
theorem aHg{w:World}{b:Nat}{x y z u:Value}{t:TypeId}(h:w.heap[b]?=some (.cells #[x,y,z] t (0,0))):(w.setCell ⟨b,0,none⟩ u).heap[b]?=some (.cells #[u,y,z] t (0,0)):=heap_setCell_same w b 0 _ t u h
theorem aHh{w:World}{b:Nat}{x y z u:Value}{t:TypeId}(h:w.heap[b]?=some (.cells #[x,y,z] t (0,0))):(w.setCell ⟨b,1,none⟩ u).heap[b]?=some (.cells #[x,u,z] t (0,0)):=heap_setCell_same w b 1 _ t u h
theorem aI6{F:jN}{name:ByteArray}{k:Nat}(h:pI (fO F) name=some k):gA F name=F.eraseIdx k:=by unfold gA;rw[h]
theorem aT9{F:jN}{name:ByteArray}(h:pI (fO F) name=none):gA F name=F:=by unfold gA;rw[h]
theorem aO7(F:jN)(a b:ByteArray):fO (F++[(a,b)])=fO F++[a]:=by simp[fO]
theorem aYj(F:jN)(a b:ByteArray):txs (F++[(a,b)])=txs F++[b]:=by simp[txs]
theorem aP0(a:ByteArray)(L:List ByteArray)(s:ByteArray):pI (a::L) s=if a=s then some 0 else (pI L s).map (·+1):=by
 unfold pI;rw[zB];by_cases h:a=s
 ·simp[h]
 ·simp[h]
theorem nB(p:ByteArray×ByteArray)(F:jN)(x:ByteArray):aX (p::F) x=if p.1=x then some p.2 else aX F x:=by
 unfold aX;show (pI (p.1::fO F) x).bind (λk=>(p.2::txs F)[k]?)=_;rw[aP0];by_cases h:p.1=x
 ·simp[h]
 ·simp only[if_neg h]
  cases pI (fO F) x<;>simp
theorem aT8(p:ByteArray×ByteArray)(F:jN)(x:ByteArray):gA (p::F) x=if p.1=x then F else p::gA F x:=by
 unfold gA;show (match pI (p.1::fO F) x with|some k=>(p::F).eraseIdx k|none=>p::F)=_;rw[aP0];by_cases h:p.1=x
 ·simp[h]
 ·simp only[if_neg h]
  cases pI (fO F) x<;>simp
theorem iQ{F:jN}{x:ByteArray}:(aX F x).isSome=true↔x∈fO F:=by
 induction F with
 | nil=>simp[aX,pI,fO]
 | cons p F ih=>
  rw[nB];show _↔x∈p.1::fO F;rw[cC];by_cases h:p.1=x
  ·simp[h]
  ·rw[if_neg h,ih];exact⟨Or.inr,λo=>o.resolve_left (λe=>h e.symm)⟩
theorem aN0(F:jN)(a t x:ByteArray):aX (F++[(a,t)]) x=(aX F x).or (if a=x then some t else none):=by
 induction F with
 | nil=>
  show aX [(a,t)] x=_;rw[nB];rfl
 | cons p F ih=>
  show aX (p::(F++[(a,t)])) x=_;rw[nB,nB,ih];by_cases h:p.1=x<;>simp[h]
theorem rB{F:jN}(E:(fO F).Nodup)(a x:ByteArray):aX (gA F a) x=if a=x then none else aX F x:=by
 induction F with
 | nil=>simp[gA,aX,pI,fO]
 | cons p F ih=>
  have z:(p.1::fO F).Nodup:=E;rw[iC] at z;rw[aT8,nB];by_cases h:p.1=a
  ·rw[if_pos h];by_cases h2:a=x
   ·rw[if_pos h2]
    cases e:aX F x with
    | none=>rfl
    | some t=>exact absurd (iQ.1 (by rw[e];rfl)) (by rw[<- h2,<- h];exact z.1)
   ·rw[if_neg h2,if_neg (by rw[h];exact h2)]
  ·rw[if_neg h,nB,ih z.2];by_cases h2:a=x
   ·rw[if_pos h2,if_neg (by rw[<- h2];exact h)];simp[h2]
   ·simp[h2]
theorem aF2(F:jN)(a:ByteArray):(gA F a).Sublist F:=by
 unfold gA;split
 ·exact List.eraseIdx_sublist _ _
 ·exact List.Sublist.refl _
theorem aF1{F:jN}(z:(fO F).Nodup)(a:ByteArray):(fO (gA F a)).Nodup:=z.sublist ((aF2 F a).map _)
theorem aCm{F:jN}(z:(fO F).Nodup)(a t:ByteArray)(b:Bool):(fO (yF F a t b)).Nodup:=by
 unfold yF;split
 ·rw[aO7,cP];refine⟨aF1 z a,by simp,λx I y E e=>?_⟩;rw[bE] at E;subst E e;have:=iQ.2 I;rw[rB z,if_pos rfl] at this
  cases this
 ·exact aF1 z a
theorem aFx{F:jN}(z:(fO F).Nodup)(a t x:ByteArray):aX (yF F a t true) x=if a=x then some t else aX F x:=by
 show aX (gA F a++[(a,t)]) x=_;rw[aN0,rB z];by_cases h:a=x<;>simp[h]
theorem uS{F:jN}{name:ByteArray}:(pI (fO F) name).isNone=!(aX F name).isSome:=by
 cases z:pI (fO F) name with
 | none=>rw[rC z];rfl
 | some k=>
  obtain⟨t,_,e⟩:=rD z;rw[e];rfl
def gZ(F:jN)(name text:ByteArray):Int:=if dJ name=true then (if dH text=true then (if (pI (fO F) name).isNone=true/\5<=F.length then 4 else 0) else 3) else 2
theorem aXp(n:Int)(z:n<1\/3<n)(w:World):
  Calls Tryz.prog 81 #[.int .i64 n] w λe w'=>e=.returned (.tuple #[.pointer none,.int .i64 14])/\w'=w:=by
 go_enter Tryz.func81,Tryz.ntmps81;rcases z with h|h
 ·go_wp2;go_ret2;exact⟨rfl,rfl⟩
 ·have h1:¬ (n<1):=by omega
  go_wp2;go_ret2;exact⟨rfl,rfl⟩
def aRw:Value×Value:=(.slice none 0 0,.slice none 0 0)
theorem RAt.fresh(Z:World)(n:Nat)(K:n<=3)(w':World)(rb sg B:Nat)(U:B<=rb)(z:B<=sg)
  (V:w'.heap[rb]?=some (.cells #[.slice none 0 0,.slice none 0 0,.slice none 0 0,.slice (some ⟨sg,0,none⟩) n n] 192 (0,0)))
  (Y:w'.heap[sg]?=some (.cells ((List.replicate n aRw).flatMap uH).toArray 205 (0,0))):RAt w' B rb sg (List.replicate n aRw) (List.replicate n []) where
 lo:=U
 lo2:=z
 cell:=by rw[tF];exact V
 row:=Y
 len:=by simp
 names:=by
  intro j p F W E;have I:=pL (aD W);have J:=pL (aD E);subst I J;exact⟨World.ownsRow_nil _ _ _ _,World.ownsRow_nil _ _ _ _⟩
 few:=by intro F E;rw[pL E];simp
 n3:=by simpa using K
theorem aGq(w:World)(n:Nat)(z:n<=3)(A:Array Value)(E:A=((List.replicate n aRw).flatMap uH).toArray)(w':World)
  (I:w'=(w.alloc (.cells A 205)).alloc (.cells #[.slice none 0 0,.slice none 0 0,.slice none 0 0,.slice (some ⟨w.heap.size,0,none⟩) n n] 192)) :
  RAt w' w.heap.size (w.heap.size+1) w.heap.size (List.replicate n aRw) (List.replicate n [])/\Below w.heap.size w w':=by
 subst I E;refine⟨RAt.fresh w n z _ _ _ _ (by omega) (aA _) ?_ ?_,?_⟩
 ·show ((w.heap.push _).push _)[w.heap.size+1]?=_;rw[gF,if_pos (by simp)]
 ·show ((w.heap.push _).push _)[w.heap.size]?=_;rw[gF,if_neg (by simp),gF,if_pos rfl]
 ·exact((Below.refl _ _).alloc (aA _) _).alloc (by simp) _
theorem aZn(w:World):
  Calls Tryz.prog 81 #[.int .i64 1] w λe w'=>∃rb sg I,e=.returned (.tuple #[.pointer (some ⟨rb,0,none⟩),.int .i64 0])/\RAt w' w.heap.size rb sg I (List.replicate 1 [])/\Below w.heap.size w w':=by
 obtain⟨A,z,E⟩:∃A:Array Value,Hid (A=((List.replicate 1 aRw).flatMap uH).toArray)/\∀w,(Instr.makeSlice 187 (.int .i64 1) (.int .i64 1)).run Tryz.prog w=.ok (.slice (some ⟨w.heap.size,0,none⟩) 1 1) (w.alloc (.cells A 205)):=⟨_,rfl,λ_=>by kernel_rfl⟩;go_enter Tryz.func81,Tryz.ntmps81;go_wp2;go_ret2;have R:=aGq w 1 (by omega) A z.out _ rfl;exact⟨_,_,_,rfl,R.1,R.2⟩
theorem aZo(w:World):
  Calls Tryz.prog 81 #[.int .i64 2] w λe w'=>∃rb sg I,e=.returned (.tuple #[.pointer (some ⟨rb,0,none⟩),.int .i64 0])/\RAt w' w.heap.size rb sg I (List.replicate 2 [])/\Below w.heap.size w w':=by
 obtain⟨A,z,E⟩:∃A:Array Value,Hid (A=((List.replicate 2 aRw).flatMap uH).toArray)/\∀w,(Instr.makeSlice 187 (.int .i64 2) (.int .i64 2)).run Tryz.prog w=.ok (.slice (some ⟨w.heap.size,0,none⟩) 2 2) (w.alloc (.cells A 205)):=⟨_,rfl,λ_=>by kernel_rfl⟩;go_enter Tryz.func81,Tryz.ntmps81;go_wp2;go_ret2;have R:=aGq w 2 (by omega) A z.out _ rfl;exact⟨_,_,_,rfl,R.1,R.2⟩
theorem aZp(w:World):
  Calls Tryz.prog 81 #[.int .i64 3] w λe w'=>∃rb sg I,e=.returned (.tuple #[.pointer (some ⟨rb,0,none⟩),.int .i64 0])/\RAt w' w.heap.size rb sg I (List.replicate 3 [])/\Below w.heap.size w w':=by
 obtain⟨A,z,E⟩:∃A:Array Value,Hid (A=((List.replicate 3 aRw).flatMap uH).toArray)/\∀w,(Instr.makeSlice 187 (.int .i64 3) (.int .i64 3)).run Tryz.prog w=.ok (.slice (some ⟨w.heap.size,0,none⟩) 3 3) (w.alloc (.cells A 205)):=⟨_,rfl,λ_=>by kernel_rfl⟩;go_enter Tryz.func81,Tryz.ntmps81;go_wp2;go_ret2;have R:=aGq w 3 (by omega) A z.out _ rfl;exact⟨_,_,_,rfl,R.1,R.2⟩
end Go.Proofs.YtgdfipmdmgkidaaGreatDoor

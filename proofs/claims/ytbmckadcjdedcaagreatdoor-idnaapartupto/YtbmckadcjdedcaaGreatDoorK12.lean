/- Lemmas. -/
import Derived.Test.YtbmckadcjdedcaaGreatDoorK11
import Derived.Test.YtbmckadcjdedcaaGreatDoorK7
import Derived.DeepKeys4
import Derived.WideKeyEntry
import Derived.Deep.AppendLies
import Derived.WalkMore
import Derived.Deep.RegionHeld3
set_option maxHeartbeats 4000000
set_option maxRecDepth 20000
namespace Go.Proofs.YtbmckadcjdedcaaGreatDoor
open Go.Proofs.Tryz
open Go.RowKit
section
variable{p:Prop}
theorem v3l(h:p:=by simp[Instr.entryStore,MapKept.run_getObj_map U,MapKept.run_setObj_map _ U,T,Result.andThen,setBlock,goInt,asInt,asIntOf]):p:=h
theorem U3Y(h:p:=by
 refine rd9 11 fun K hK=>?_;go_simp;refine hK.out _ _ ?_ (fun hHeld=>?_)
 ·exact m
 clear hK K
 try simp only[Act.put,sa9,sb9,sc9]
 refine wpAnyH_done f4y ?_ _;go_wp2;go_ret;exact Y):p:=h
theorem P2K(h:p:=by unfold incr;rw[if_pos ⟨rfl,rfl⟩]):p:=h
theorem T4x(h:p:=by simpa[Value.ownBlock]using G):p:=h
theorem v8Z(h:p:=by obtain⟨y,s,k⟩:=List.mem_map.1 this;exact hn y s k):p:=h
theorem i9u(h:p:=by simpa using ab):p:=h
theorem w8f(h:p:=by simp[List.getD,G]):p:=h
end
structure Run where
 lo:Int
 hi:Int
 s:Int
def Run.ok(x:Run):Prop:=RunOk x.lo x.hi x.s
def Run.val(x:Run):Value:=runV x.lo x.hi x.s
def Run.none:Run:=⟨0,0,0⟩
def Run.meets(x y:Run):Bool:=y3S x.lo x.hi x.s y.lo y.hi y.s
theorem z3O(s hi:Int)(X:0<=s)(p:Int->Bool):∀(n:Nat) (c:Int),mA s hi p n c=true↔∃k:Nat,k<n/\c+k*s<=hi/\p (c+k*s)=true
 | 0,c=>by simp[mA]
 | n+1,c=>by
  rw[mA];have e:∀k:Nat,c+((k+1:Nat):Int)*s=c+s+k*s:=fun k=>(by push_cast;rw[Int.add_mul];exact f6J);split
  ·next h =>
   exact E0A
  ·next h =>
   split
   ·next hp=>exact⟨fun _=>⟨0,f6J,P8P,by simpa using hp⟩,fun _=>rfl⟩
   ·next hp =>
    rw[z3O s hi X p n];constructor
    ·rintro⟨k,Z,D,R⟩;exact⟨k+1,f6J,by rw[e];exact D,by rw[e];exact R⟩
    ·rintro⟨k,Z,D,R⟩
     cases k with
     | zero=>exact absurd (by simpa using R) hp
     | succ k=>rw[e]at D R;exact⟨k,f6J,D,R⟩
theorem z1R{lo hi s c c0}(h:RunOk lo hi s)(T:c0=fromI lo s c):lo<=c0/\c<=c0/\s∣c0-lo/\∀x,lo<=x->c<=x->s∣x-lo->c0<=x:=by
 obtain⟨_,_,_,H,_⟩:=h;unfold fromI at T;split at T
 ·simp_all
 ·next hle =>
  have e:=Int.emod_add_mul_ediv (c-lo) s;have p:=Int.emod_nonneg (c-lo) (f6J:s≠0);have y:=Int.emod_lt_of_pos (c-lo) (f6J:0<s);by_cases A:(c-lo)%s=0
  ·have f:(s-(c-lo)%s)%s=0:=(by rw[A];exact M7L);rw[f]at T;subst T;refine⟨f6J,f6J,?_,fun x _ b _=>f6J⟩;rw[(f6J:c+0-lo=c-lo)];exact Int.dvd_of_emod_eq_zero A
  ·have f:(s-(c-lo)%s)%s=s-(c-lo)%s:=Int.emod_eq_of_lt f6J f6J;rw[f]at T;subst T
   have hd:s∣c+(s-(c-lo)%s)-lo:=by
    rw[(f6J:c+(s-(c-lo)%s)-lo=s*((c-lo) / s)+s*1),<- Int.mul_add];exact Int.dvd_mul_right _ _
   refine⟨f6J,f6J,hd,fun x a b d=>?_⟩;obtain⟨j,B⟩:=Int.dvd_sub hd d;exact s2a
theorem y9c{x y:Run}(J:x.ok)(hy:y.ok):x.meets y=true↔∃c,Cn.x8V x.lo x.hi x.s c/\Cn.x8V y.lo y.hi y.s c:=by
 have G:∀{a b:Run},a.ok->b.ok->(mA a.s a.hi (hasB b.lo b.hi b.s) b.s.toNat (fromI a.lo a.s b.lo)=true↔∃c,Cn.x8V a.lo a.hi a.s c/\Cn.x8V b.lo b.hi b.s c):=by
  intro a b H B;obtain⟨t,S,g,j⟩:=z1R (c:=b.lo) H rfl;obtain⟨M,I,T,d,W⟩:=H;obtain⟨F,b1,m,L,X⟩:=B;rw[z3O a.s a.hi f6J];generalize fromI a.lo a.s b.lo=c0 at *;rw[Cn.y4c (N:=b.s.toNat) (c0:=c0) f6J f6J f6J t S g j];constructor
  ·rintro⟨k,Z,D,R⟩;unfold hasB at R;obtain⟨_,_,_,A,_,Y⟩:=o0d R;exact⟨k,Z,D,A,Int.dvd_of_emod_eq_zero Y⟩
  ·rintro⟨k,Z,D,R,z⟩;have:=Int.mul_nonneg (f6J:(0:Int)<=k) (f6J:0<=a.s);exact⟨k,Z,D,d0t ⟨f6J,f6J,f6J,R,f6J,Int.emod_eq_zero_of_dvd z⟩⟩
 unfold Run.meets y3S;split
 ·next h =>
  constructor
  ·intro h;cases h
  ·rintro⟨c,⟨C,U,_⟩,f,u,_⟩;omega
 ·grind
def runR(r:Rec):Run:=⟨r.lo,r.hi,stepP r⟩
theorem x9E{r}(h:Cn.right r=0)(G:r.kind≠15):(runR r).ok:=by
 have Z:=Cn.x0o h G;have D:=Cn.right_step h
 have:stepP r=Cn.step r:=by
  unfold stepP Cn.step at *;split
  ·omega
  ·rfl
 exact⟨Z.1,Z.2.1,Z.2.2,by show 1<=stepP r;exact f6J,by show stepP r<=64;exact f6J⟩
theorem x6g{r}(h:Cn.right r=0):stepP r=Cn.step r:=by
 have D:=Cn.right_step h;unfold stepP Cn.step at *;split
 ·omega
 ·rfl
theorem x6q{a b}(H:Cn.right a=0)(B:Cn.right b=0)(U:Cn.fam a.kind=Cn.fam b.kind)(G:a.kind≠15)(A:b.kind≠15):Cn.clash a b=(runR b).meets (runR a):=by
 rw[Bool.eq_iff_iff,Cn.x1T H B U G A,y9c (x9E B A) (x9E H G)];constructor
 ·rintro⟨c,Z,D⟩;refine⟨c,?_,?_⟩
  ·have:=(Cn.x0J B A c).1 D;rw[<- x6g B]at this;exact this
  ·have:=(Cn.x0J H G c).1 Z;rw[<- x6g H]at this;exact this
 ·rintro⟨c,Z,D⟩;refine⟨c,(Cn.x0J H G c).2 ?_,(Cn.x0J B A c).2 ?_⟩
  ·rw[<- x6g H];exact D
  ·rw[<- x6g B];exact Z
structure RnAt(w:World)(b o:Nat)(x:Run):Prop where
 lo:w.cell? ⟨b,o,none⟩=some (.int .i64 x.lo)
 hi:w.cell? ⟨b,o+1,none⟩=some (.int .i64 x.hi)
 s:w.cell? ⟨b,o+2,none⟩=some (.int .i64 x.s)
theorem RnAt.below{w w' b o}{x:Run}(h:RnAt w b o x)(A:Bw w w'):RnAt w' b o x :=
 ⟨by rw[A.cell (x0a h.lo)];exact h.lo,by rw[A.cell (x0a h.hi)];exact h.hi,by rw[A.cell (x0a h.s)];exact h.s⟩
def Rns(w:World)(v:Value)(xs:List Run):Prop:=xs.length<=1000000000 /\
 ((xs=[]/\∃ao cap,v=.slice ao 0 cap/\cap<=9223372036854775807) \/
  ∃b off cap,v=.slice (some ⟨b,off,none⟩) xs.length cap/\xs.length<=cap/\cap<=9223372036854775807/\∀i,i<xs.length->RnAt w b (off+i*3) (xs.getD i Run.none))
theorem Rns.below{w w' v}{xs:List Run}(h:Rns w v xs)(B:Bw w w'):Rns w' v xs:=by
 obtain⟨Z,R⟩:=h;refine⟨Z,?_⟩;rcases R with R | ⟨b,A,M,N,S,y,T⟩
 ·exact .inl R
 ·exact .inr ⟨b,A,M,N,S,y,fun i hi=>(T i hi).below B⟩
theorem Rns.shape{w v}{xs:List Run}(h:Rns w v xs):∃ao cap,v=.slice ao xs.length cap/\xs.length<=cap/\cap<=9223372036854775807:=by
 rcases h.2 with⟨rfl,ao,cap,N,y⟩ | ⟨b,A,cap,N,S,y,_⟩
 ·exact V1q
 ·exact N7B
theorem Rns.place{w v}{xs:List Run}(h:Rns w v xs)(F:0<xs.length):∃b off cap,v=.slice (some ⟨b,off,none⟩) xs.length cap/\xs.length<=cap/\cap<=9223372036854775807/\∀i,i<xs.length->RnAt w b (off+i*3) (xs.getD i Run.none):=by
 rcases h.2 with⟨rfl,_⟩ | h
 ·simp at F
 ·exact h
def fbN(p:Run->Bool):Nat->List Run->Int
 | _,[]=>-1
 | i,r::l=>if p r then(i:Int)else fbN p (i+1) l
theorem z5o{p:Run->Bool}{rs:List Run}{k x}(G:k<rs.length)(h:x=fbN p k (rs.drop k))(L:p (rs.getD k Run.none)=true):x=(k:Int):=by
 rw[h,List.drop_eq_getElem_cons G,fbN,if_pos];exact F4o
theorem z1J{p:Run->Bool}{rs:List Run}{k x}(G:k<rs.length)(h:x=fbN p k (rs.drop k))(L:p (rs.getD k Run.none)=false):x=fbN p (k+1) (rs.drop (k+1)):=by
 rw[h,List.drop_eq_getElem_cons G,fbN,if_neg];have:p rs[k]=false:=F4o;simp[this]
theorem z5n{p:Run->Bool}{rs:List Run}{x}(h:x=fbN p rs.length (rs.drop rs.length)):x=-1:=by
 rw[h,List.drop_length,fbN]
theorem y7Y(p:Run->Bool):∀(l:List Run) (i:Nat),decide (0<=fbN p i l)=l.any p
 | [],i=>rfl
 | r::l,i=>by
  rw[fbN,List.any_cons]
  cases hp:p r with
  | true=>simp
  | false=>simpa using y7Y p l (i+1)
theorem x5t:∀args w,(callFunc 217 args).run prog w=.ok (.enter 217 args) w:=f0h
def NIn(w:World)(v:Value)(xs:List Run)(W:World):Prop:=Rns W v xs/\Below w.heap.size w W
theorem NIn.on{w W W' v}{xs:List Run}(h:NIn w v xs W)(A:Bw W W'):NIn w v xs W':=⟨h.1.below A,h.2.trans (A.mono h.2.size)⟩
theorem x8X(x:Run) v(xs:List Run) w(N:Rns w v xs)(n:x.ok)(g:∀y∈xs,y.ok) :
  Calls prog 257 #[v,.func (.func 217) #[x.val] #[]] w (IntB w (fbN (fun y=>x.meets y) 0 xs)):=by
 have Z:=x5t;have m:Hid (NIn w v xs w):=⟨N,b0r⟩;have U:Hid (∀k W,k<xs.length->Calls prog 217 #[x.val,(xs.getD k Run.none).val] W (x0c W (x.meets (xs.getD k Run.none)))):=fun k W G=>y9b _ _ _ _ _ _ W n (g _ w8f);have L:Hid (fbN (fun y=>x.meets y) 0 xs=fbN (fun y=>x.meets y) 0 (xs.drop 0)):=R6O;have l:=N.1;obtain⟨R,M,rfl,p,D⟩:=N.shape;unfold Run.val runV at *;generalize hq:fbN (fun y=>x.meets y) 0 xs=z at *;go_enter func257,ntmps257;go_wp2;go_loopw[5,8] (fun _ i wr=>∃k:Nat,i=.int .i64 k/\k<=xs.length/\z=fbN (fun y=>x.meets y) k (xs.drop k)/\NIn w (.slice R xs.length M) xs wr) (fun _ i _=>xs.length-(intOf i).toNat)
 case atStart=>exact⟨0,rfl,f6J,V L,V m⟩
 case round =>
  obtain⟨k,rfl,G,u,A⟩:=hrel;by_cases H:k<xs.length
  ·obtain⟨b,j,J,d,q,F,T⟩:=A.1.place f6J;obtain⟨rfl,rfl⟩:R=some ⟨b,j,none⟩/\M=J:=V6s;obtain⟨x0,x1,X⟩:=T k H;have r:=O (V U k wr H);have t:Hid (x.meets (xs.getD k Run.none)=true->z=(k:Int)):=fun h=>z5o H u h;have f:Hid (x.meets (xs.getD k Run.none)=false->z=fbN (fun y=>x.meets y) (k+1) (xs.drop (k+1))):=fun h=>z1J H u h;have S:=O A;clear u A T d U;generalize x.meets (xs.getD k Run.none)=y at r t f;generalize(xs.getD k Run.none).lo=lo,(xs.getD k Run.none).hi=hi,(xs.getD k Run.none).s=st at *
   cases y with
   | true =>
    obtain rfl:=V t rfl;go_wp2_with(go_at_fn 217;refine(V r).mono ?_;rintro e I ⟨rfl,C⟩);have Y:=O ((V S).on C).2;go_ret;exact M8S
   | false =>
    have c:=O (V f rfl);go_wp2_with(go_at_fn 217;refine(V r).mono ?_;rintro e I ⟨rfl,C⟩);have Y:=O ((V S).on C);go_round
    case rel=>exact W2V
    case measure=>exact g7T
  ·obtain rfl:k=xs.length:=f6J;obtain rfl:=z5n u;have Y:=O A.2;go_wp2;go_ret;exact M8S
theorem x5F(x:Run) v(xs:List Run) w(N:Rns w v xs)(J:x.ok)(g:∀y∈xs,y.ok) :
  Calls prog 216 #[v,.func (.func 217) #[x.val] #[]] w (x0c w (xs.any fun y=>x.meets y)):=by
 have K:=O (x8X x v xs w N J g);rw[<- y7Y _ xs 0];obtain⟨R,M,rfl,Z,D⟩:=N.shape;unfold Run.val runV at *;go_enter func216,ntmps216;go_wp2_with fail;refine c0m K fun I B=>?_;go_wp2;go_ret;exact⟨rfl,B⟩
open Go.RowKit Go.MapKept Go.WideMaps
open Go.ChangeMaps (setBlock)
open Go.WideElems (findIdx_arr findIdx_born)
theorem x5Z:laidOutB prog=true:=f4x
theorem pairLaw:KeyLaw prog 338:=deep_law_laid x5Z (m:=3) e8N (o0d f4x) f4x f4x
def pk(a b:ByteArray):Value:=.agg #[.string a,.string b]
theorem y7d:prog.cellsOf 338=2:=f4x
theorem y7f:prog.cellsOf 9=1:=f4x
theorem y8K:prog.keyType 338=true:=f4x
def Sh(a:ByteArray):Prop:=a.size<=1000
theorem x2B{a}(h:Sh a) D:prog.keyLits (D+1) 9 [.string a]=some [.string a.data.toList]:=by
 rw[Program.keyLits.eq_def];simp only[underlying9];rw[if_pos (by unfold Sh at h;exact T7W)]
theorem y5o{a b}(H:Sh a)(A:Sh b) D:prog.keyLits (D+2) 338 [.string a,.string b]=some [.string a.data.toList,.string b.data.toList]:=by
 rw[Program.keyLits.eq_def];simp only[underlying338,y7d,y7f];rw[if_pos (show[Value.string a,Value.string b].length=2 from rfl)];have e:List.range 2=[0,1]:=rfl;rw[e];simp[List.mapM_cons,x2B H D,x2B A D]
theorem y9D{a b}(H:Sh a)(A:Sh b):∃l,keyOf prog 338 (pk a b)=some l:=by
 have U:(pk a b).formed prog 338=true:=by
  simp[pk,Value.formed,underlying338,y7d]
 obtain⟨n,B⟩:∃n,prog.types.size+1=n+2:=⟨prog.types.size-1,m4z⟩;refine⟨.string (keyBytes [.string a.data.toList,.string b.data.toList]),?_⟩;unfold keyOf;simp only[underlying338,y8K,U,Bool.and_self,if_true,B];show(prog.keyLits (n+2) 338 [.string a,.string b]).map _=_;rw[y5o H A n];rfl
theorem z3W{a b a' b'}(h:pk a b=pk a' b'):a=a'/\b=b':=by
 unfold pk at h;exact S4r
structure MObj(es:Array MapEntry)(clock:Nat)(c:ByteArray->ByteArray->Int):Prop where
 st:Stamped es clock
 keys:∀x∈es.toList,∃a b,x.key=pk a b/\x.val=.int .i64 (c a b)/\Sh a/\Sh b
 none:∀a b,(∀x∈es.toList,x.key≠pk a b)->c a b=0
def MAt(w:World)(r:Nat)(c:ByteArray->ByteArray->Int):Prop:=∃es clock,w.heap[r]?=some (.map es clock)/\MObj es clock c
theorem MObj.ks{Y:Array MapEntry}{clock}{c:ByteArray->ByteArray->Int}(h:MObj Y clock c):∀x∈Y.toList,∃l,keyOf prog 338 x.key=some l:=fun x J=>by
 obtain⟨a,b,e,_,H,A⟩:=h.keys x J;rw[e];exact y9D H A
theorem x9F{w r}{Y:Array MapEntry}{clock}{c:ByteArray->ByteArray->Int}(B:w.heap[r]?=some (.map Y clock))(h:MObj Y clock c){a b}(H:Sh a)(A:Sh b) :
  (Instr.lookup 239 (.map (some r)) (pk a b) false).run prog w=.ok (.int .i64 (c a b)) w:=by
 obtain⟨l,S⟩:=y9D H A;rcases pairLaw.find w S Y.toList h.ks with⟨Z,D⟩ | ⟨j,v,Z,D,R⟩
 ·rw[h.none a b D];simp[Instr.lookup,run_underlying underlying239,MapKept.run_getObj_map B,pairLaw.check w _ S,Z,Result.andThen]
 ·obtain⟨L,z,C,f,_,_⟩:=h.keys v (List.mem_of_getElem? D);obtain⟨rfl,rfl⟩:=z3W (C.symm.trans R);simp[Instr.lookup,run_underlying underlying239,MapKept.run_getObj_map B,pairLaw.check w _ S,Z,Result.andThen,f]
theorem x6S{f:MapEntry->MapEntry}:∀(l:List MapEntry) (j:Nat) (v:MapEntry),l[j]?=some v->f v=v->l.modify j f=l
 | [],j,v,h,_=>by simp at h
 | x::l,0,v,h,hf=>by simp at h;subst h;simp[hf]
 | x::l,j+1,v,h,hf=>by simp at h;simp[x6S l j v h hf]
def incr(c:ByteArray->ByteArray->Int)(a b:ByteArray):ByteArray->ByteArray->Int:=fun x y=>if x=a/\y=b then c a b+1 else c x y
theorem z0d{w r}{Y:Array MapEntry}{clock}{c:ByteArray->ByteArray->Int}(hb:w.heap[r]?=some (.map Y clock))(h:MObj Y clock c){a b}(H:Sh a)(A:Sh b) :
  ∃(M:Nat) (ae:Array MapEntry) (F:Nat),(Instr.mapEntry 239 (.map (some r)) (pk a b)).run prog w=.ok (.tuple #[.int .i64 (c a b),goInt M]) (setBlock w r (.map ae F))/\MObj ae F c /\
   ∀W:World,W.heap[r]?=some (.map ae F)->∃B q,(Instr.entryStore 239 (.map (some r)) (goInt M) (.int .i64 (c a b+1))).run prog W=.ok () (setBlock W r (.map B q))/\MObj B q (incr c a b):=by
 obtain⟨l,S⟩:=y9D H A;obtain⟨N,s2,C⟩:=h.st;rcases pairLaw.find w S Y.toList h.ks with⟨Z,D⟩ | ⟨j,v,Z,D,R⟩
 ·have hz:=h.none a b D;have T:(Y.push ⟨pk a b,.int .i64 0,clock⟩).findIdx? (fun e=>((e.born:Nat):Int)==((clock:Nat):Int))=some Y.size:=(by grind);refine⟨clock,Y.push ⟨pk a b,.int .i64 0,clock⟩,clock+1,?_,⟨stamped_push h.st D,fun x J=>?_,fun L z hn=>?_⟩,fun W U=>⟨(Y.push ⟨pk a b,.int .i64 0,clock⟩).modify Y.size (fun e=>{ e with val:=.int .i64 (c a b+1) }),clock+1,?_,?_⟩⟩
  ·rw[hz];simp[Instr.mapEntry,run_underlying underlying239,MapKept.run_getObj_map hb,pairLaw.check w false S,Z,MapKept.run_setObj_map _ hb,Result.andThen,setBlock]
  ·simp only[Array.toList_push,List.mem_append,List.mem_singleton]at J;rcases J with J | rfl
   ·exact h.keys x J
   ·exact⟨a,b,rfl,by rw[hz],H,A⟩
  ·exact h.none L z fun x J=>hn x (by simp[J])
  ·exact v3l
  ·have hm:((Y.push ⟨pk a b,.int .i64 0,clock⟩).modify Y.size (fun e=>{ e with val:=.int .i64 (c a b+1) })).toList=Y.toList++[⟨pk a b,.int .i64 (c a b+1),clock⟩]:=by
    rw[Array.toList_modify,Array.toList_push,<- Array.length_toList];exact Go.WideElems.modify_last _ _ _
   refine⟨stamped_modify (stamped_push h.st D) _ _ (fun _ _=>rfl) (fun _ _ _=>rfl),fun x J=>?_,fun L z hn=>?_⟩
   ·rw[hm]at J;simp only[List.mem_append,List.mem_singleton]at J;rcases J with J | rfl
    ·obtain⟨L,z,e1,f,e3,e4⟩:=h.keys x J;refine⟨L,z,e1,?_,e3,e4⟩;unfold incr;rw[if_neg,f];rintro⟨rfl,rfl⟩;exact D x J e1
    ·exact⟨a,b,rfl,P2K,H,A⟩
   ·rw[hm]at hn;unfold incr;rw[if_neg]
    ·exact h.none L z fun x J=>hn x (by simp[J])
    ·rintro⟨rfl,rfl⟩;exact hn ⟨pk L z,.int .i64 (c L z+1),clock⟩ M7K rfl
 ·have X:=List.mem_of_getElem? D;obtain⟨L,z,e1,f,_,_⟩:=h.keys v X;obtain⟨rfl,rfl⟩:=z3W (e1.symm.trans R);have hj:Y[j]?=some v:=by rw[<- Array.getElem?_toList];exact D
  have n:Y.modify j (fun e=>{ e with key:=pk L z })=Y:=by
   apply Array.toList_inj.1;rw[Array.toList_modify];exact x6S Y.toList j v D (by rw[<- R])
  have T:Y.findIdx? (fun e=>((e.born:Nat):Int)==((v.born:Nat):Int))=some j:=by
   rw[findIdx_arr];exact findIdx_born s2 D
  refine⟨v.born,Y,clock,?_,h,fun W U=>⟨Y.modify j (fun e=>{ e with val:=.int .i64 (c L z+1) }),clock,?_,?_⟩⟩
  ·have af:=pairLaw.stays w S;simp[Instr.mapEntry,run_underlying underlying239,MapKept.run_getObj_map hb,pairLaw.check w false S,Z,MapKept.run_setObj_map _ hb,Result.andThen,setBlock,hj,R,af,f,n]
  ·exact v3l
  ·refine⟨stamped_modify h.st _ _ (fun _ _=>rfl) (fun _ _ _=>rfl),fun x J=>?_,fun I b1 hn=>?_⟩
   ·rw[Array.toList_modify]at J;obtain⟨i,hi,rfl⟩:=List.getElem_of_mem J;rw[List.length_modify]at hi;rw[List.getElem_modify];by_cases p:j=i
    ·subst p
     have:Y.toList[j]=v:=by
      have:=List.getElem?_eq_getElem hi;rw[D]at this;exact(Option.some.inj this).symm
     rw[if_pos rfl,this];exact⟨L,z,R,P2K,H,A⟩
    ·rw[if_neg p];obtain⟨u,m,t,f2,g,f4⟩:=h.keys Y.toList[i] (List.getElem_mem hi);refine⟨u,m,t,?_,g,f4⟩;unfold incr;rw[if_neg,f2];rintro⟨rfl,rfl⟩
     have ab:j<Y.toList.length:=by
      rcases Nat.lt_or_ge j Y.toList.length with hh | hh
      ·exact hh
      ·rw[List.getElem?_eq_none hh]at D;cases D
     have:Y.toList[j]=v:=by
      have:=List.getElem?_eq_getElem ab;rw[D]at this;exact(Option.some.inj this).symm
     have G:(Y.toList.map (·.key))[j]'(i9u)=(Y.toList.map (·.key))[i]'(w3z):=by
      simp only[List.getElem_map,this,t,R]
     rcases Nat.lt_or_gt_of_ne p with hlt | hlt
     ·exact(List.pairwise_iff_getElem.1 C j i i9u w3z hlt) G
     ·exact(List.pairwise_iff_getElem.1 C i j w3z i9u hlt) G.symm
   ·unfold incr;rw[if_neg]
    ·refine h.none I b1 fun x J d=>?_
     have:pk I b1∈(Y.modify j (fun e=>{ e with val:=.int .i64 (c L z+1) })).toList.map (·.key):=by
      rw[modify_keys j (fun e=>{ e with val:=.int .i64 (c L z+1) }) (fun _ _=>rfl)];exact List.mem_map.2 ⟨x,J,d⟩
     exact v8Z
    ·rintro⟨rfl,rfl⟩
     have:pk I b1∈(Y.modify j (fun e=>{ e with val:=.int .i64 (c I b1+1) })).toList.map (·.key):=by
      rw[modify_keys j (fun e=>{ e with val:=.int .i64 (c I b1+1) }) (fun _ _=>rfl)];exact List.mem_map.2 ⟨v,X,R⟩
     exact v8Z
open Go.RowKit Go.MapKept Go.WideMaps
open Go.ChangeMaps (setBlock)
theorem x4I B w r o(h:B<=r):Below B w (setBlock w r o):=by
 refine⟨rfl,rfl,rfl,?_,fun k G=>?_⟩
 ·show w.heap.size<=(w.heap.setIfInBounds r o).size;simp
 ·show(w.heap.setIfInBounds r o)[k]?=w.heap[k]?;rw[Array.getElem?_setIfInBounds_ne f6J]
theorem y2O w r o(h:r<w.heap.size):(setBlock w r o).heap[r]?=some o:=by
 show(w.heap.setIfInBounds r o)[r]?=some o;simp[h]
theorem x2d w{r k} o(h:k≠r):(setBlock w r o).heap[k]?=w.heap[k]?:=by
 show(w.heap.setIfInBounds r o)[k]?=w.heap[k]?;rw[Array.getElem?_setIfInBounds_ne (fun e=>h e.symm)]
theorem cell_far{w r L i v} o(h:L≠r)(T:w.cell? ⟨L,i,none⟩=some v):(setBlock w r o).cell? ⟨L,i,none⟩=some v:=by
 unfold World.cell? at *;rw[x2d w o h];exact T
structure But(r:Nat)(w w':World):Prop where
 size:w'.heap.size=w.heap.size
 far:∀k,k≠r->w'.heap[k]?=w.heap[k]?
 below:∀B,B<=r->Below B w w'
def MixB(w:World)(r:Nat)(c:ByteArray->ByteArray->Int)(a b:ByteArray)(e:Ending)(w':World):Prop:=e=.returned (.bool (decide (0<c a b)))/\MAt w' r (incr c a b)/\But r w w'
theorem y9e L r a b(c:ByteArray->ByteArray->Int) w(v:w.cell? ⟨L,11,none⟩=some (.map (some r)))(t:L≠r)(y:MAt w r c)(H:Sh a)(hb:Sh b)(T:0<=c a b/\c a b<=100000) :
  Calls prog 215 #[.pointer (some ⟨L,0,none⟩),.string a,.string b] w (MixB w r c a b):=by
 obtain⟨es,clock,A,N⟩:=y
 have u:r<w.heap.size:=by
  rcases Nat.lt_or_ge r w.heap.size with hh | hh
  ·exact hh
  ·rw[Array.getElem?_eq_none hh]at A;cases A
 have j:w.drew.heap[r]?=some (.map es clock):=A;obtain⟨M,D,F,e1,I,f⟩:=z0d j N H hb;have J:(setBlock w.drew r (.map D F)).heap[r]?=some (.map D F):=y2O _ _ _ u;obtain⟨ab,C,e3,p⟩:=f _ J;have R:(setBlock (setBlock w.drew r (.map D F)) r (.map ab C)).heap[r]?=some (.map ab C):=y2O _ _ _ (by simpa[setBlock]using u);have x:=x9F j N H hb;have i:=x9F J I H hb;have s:=x9F R p H hb;have d:w.drew.cell? ⟨L,11,none⟩=some (.map (some r)):=v;have U:=cell_far (.map D F) t d;have m:=cell_far (.map ab C) t U
 have W:But r w (setBlock (setBlock w.drew r (.map D F)) r (.map ab C)):=⟨by simp[setBlock],fun k G=>by rw[x2d _ _ G,x2d _ _ G];rfl,fun B l=>by
  have Z:Below B w w.drew:=⟨rfl,rfl,rfl,l0r _,fun _ _=>rfl⟩
  exact(Z.trans (x4I B w.drew r _ l)).trans (x4I B _ r _ l)⟩
 have Y:MixB w r c a b (.returned (.bool (decide (0<c a b)))) (setBlock (setBlock w.drew r (.map D F)) r (.map ab C)):=⟨rfl,⟨ab,C,R,p⟩,W⟩;have X:incr c a b a b=c a b+1:=(by unfold incr;rw[if_pos ⟨rfl,rfl⟩]);rw[X]at s;unfold pk goInt at *;generalize hn:c a b=n at *;have hw:IntKind.i64.wrap (n+1)=n+1:=IntWalk.i64_in _ ⟨f6J,f6J⟩;have g:decide (1<n+1)=decide (0<n):=decide_eq_decide.2 f6J;clear A N u j f I p J R W X hn;generalize R:setBlock (setBlock w.drew r (.map D F)) r (.map ab C)=W2,J:setBlock w.drew r (.map D F)=q at *;clear J R;go_enter func215,ntmps215;go_wp2;refine wp_region_held_drew (S:=fun w'=>w'.cell? ⟨L,11,none⟩=some (.map (some r))) f4y (d) (fun hHeld=>?_);refine tk9 0 (.pointer (some ⟨L,0,none⟩)) ?_;refine tk9 1 (.pointer (some ⟨L,0,none⟩)) ?_;refine tk9 2 (.pointer (some ⟨L,11,none⟩)) ?_;refine tk9 3 (.map (some r)) ?_;refine tk9 4 (.string a) ?_;refine tk9 5 (.string b) ?_;refine tk9 6 (.agg #[.string a,.string b]) ?_;refine wpAnyH_ready (rs:=[7,9]) f4y M7M ?_;refine AllReadyH.cons (o:=⟨some 14,_,_,_,_,_⟩) rfl (fun K hK=>?_) (AllReadyH.cons (o:=⟨some 16,_,_,_,_,_⟩) rfl (fun K hK=>?_) AllReadyH.nil)
 ·go_simp;refine hK.out _ _ ?_ (fun hHeld=>?_)
  ·exact d
  clear hK K
  try simp only[Act.put,sa9,sb9,sc9]
  refine tk9 8 (.int .i64 (n+1)) ?_;refine rd9 9 fun K hK=>?_;go_simp;refine hK.out _ _ ?_ (fun hHeld=>?_)
  ·exact U
  clear hK K
  try simp only[Act.put,sa9,sb9,sc9]
  refine tk9 10 (.int .i64 (M:Int)) ?_;exact U3Y
 ·go_simp;refine hK.out _ _ ?_ (fun hHeld=>?_)
  ·exact U
  clear hK K
  try simp only[Act.put,sa9,sb9,sc9]
  refine tk9 10 (.int .i64 (M:Int)) ?_;refine rd9 7 fun K hK=>?_;go_simp;refine hK.out _ _ ?_ (fun hHeld=>?_)
  ·exact U
  clear hK K
  try simp only[Act.put,sa9,sb9,sc9]
  refine tk9 8 (.int .i64 (n+1)) ?_;exact U3Y
def x1D:List Run->List Value
 | []=>[]
 | x::l=>.int .i64 x.lo::.int .i64 x.hi::.int .i64 x.s::x1D l
theorem x8g:∀(l:List Run) (x:Run),x1D (l++[x])=x1D l++[.int .i64 x.lo,.int .i64 x.hi,.int .i64 x.s]
 | [],x=>rfl
 | y::l,x=>by simp[x1D,x8g l x]
theorem y0E:∀(l:List Run) (i:Nat),i<l.length->(x1D l)[i*3]?=some (.int .i64 (l.getD i Run.none).lo)/\(x1D l)[i*3+1]?=some (.int .i64 (l.getD i Run.none).hi)/\(x1D l)[i*3+2]?=some (.int .i64 (l.getD i Run.none).s)
 | [],i,h=>by simp at h
 | x::l,0,_=>by simp[x1D]
 | x::l,i+1,h=>by
  have:=y0E l i S4r;rw[(f6J:(i+1)*3=i*3+1+1+1)];simpa[x1D]using this
def Ln(w:World)(B:Nat)(v:Value)(xs:List Run):Prop:=xs.length<=100000/\w.ownsRow B 251 3 v xs.length (x1D xs)
theorem Ln.rns{w B v}{xs:List Run}(h:Ln w B v xs):Rns w v xs:=by
 obtain⟨Z,D,R⟩:=h;refine⟨f6J,?_⟩;rcases R with⟨rfl,A⟩ | ⟨g,M,t,rfl,_,C,H,T,X,J⟩
 ·grind
 ·refine .inr ⟨g,0,M,rfl,H,by unfold maxLen at T;exact f6J,fun i hi=>?_⟩
  have S:∀j (v:Value),(x1D xs)[j]?=some v->w.cell? ⟨g,j,Option.none⟩=some v:=fun j v N=>by
   rw[<- J]at N;have z:j<xs.length*3:=(by grind);rw[List.getElem?_take_of_lt z,Array.getElem?_toList]at N;have F:j<t.size:=(by rw[X];exact f6J);rw[cell_of (j:=j) C F];simpa[Array.getD,F,Array.getElem?_eq_getElem F]using N
  obtain⟨I,G,d⟩:=y0E xs i hi;exact⟨by rw[Nat.zero_add];exact S _ _ I,by rw[Nat.zero_add];exact S _ _ G,by rw[Nat.zero_add];exact S _ _ d⟩
theorem x5x{w:World}{B e A n:Nat}{v us}(h:w.ownsRow B e A v n us){k}(G:v.ownBlock=some k):k<w.heap.size/\B<=k:=by
 rcases h.2 with⟨rfl,_⟩ | ⟨g,M,t,rfl,D,C,_⟩
 ·cases G
 ·cases G;refine⟨?_,D⟩;rcases Nat.lt_or_ge g w.heap.size with hh | hh
  ·exact hh
  ·grind
theorem alloc_at(w:World) o:(w.alloc o).heap[w.heap.size]?=some o:=by
 show(w.heap.push o)[w.heap.size]?=_;simp
structure LG(w:World)(B L r:Nat)(vs:Nat->Value)(fs:Nat->List Run)(c:ByteArray->ByteArray->Int):Prop where
 bl:B<=L
 br:B<=r
 lr:L≠r
 blk:∃cur,w.heap[L]?=some (.cells cur 243 (0,0))/\cur.size=12/\(∀f,f<11->cur.getD f undef=vs f)/\cur.getD 11 undef=.map (some r)
 map:MAt w r c
 rows:∀f,f<11->Ln w B (vs f) (fs f)
 far:∀f,f<11->∀k,(vs f).ownBlock=some k->k≠L/\k≠r
 apart:∀f g,f<11->g<11->f≠g->∀k,(vs f).ownBlock=some k->(vs g).ownBlock≠some k
theorem lt_of_block{w:World}{k o}(h:w.heap[k]?=some o):k<w.heap.size:=by grind
theorem LG.keep{w W B L r}{l:Nat->Value}{S:Nat->List Run}{c:ByteArray->ByteArray->Int}(h:LG w B L r l S c)(G:∀k,k<w.heap.size->W.heap[k]?=w.heap[k]?):LG W B L r l S c:=by
 obtain⟨t,Z,D,R,z⟩:=h.blk;obtain⟨Y,clock,H,q⟩:=h.map
 exact⟨h.bl,h.br,h.lr,⟨t,by rw[G L (lt_of_block Z)];exact Z,D,R,z⟩,⟨Y,clock,by rw[G r (lt_of_block H)];exact H,q⟩,
  fun f U=>⟨(h.rows f U).1,x0v (h.rows f U).2 fun g C=>G g (x5x (h.rows f U).2 C).1⟩,h.far,h.apart⟩
theorem LG.on{w W B L r}{l:Nat->Value}{S:Nat->List Run}{c:ByteArray->ByteArray->Int}(h:LG w B L r l S c)(A:Bw w W):LG W B L r l S c:=h.keep A.block
theorem LG.cell{w B L r}{l:Nat->Value}{S:Nat->List Run}{c:ByteArray->ByteArray->Int}(h:LG w B L r l S c){f}(U:f<11):w.cell? ⟨L,f,none⟩=some (l f):=by
 obtain⟨t,Z,D,R,z⟩:=h.blk;rw[cell_of (j:=f) Z f6J,R f U]
theorem LG.mcell{w B L r}{l:Nat->Value}{S:Nat->List Run}{c:ByteArray->ByteArray->Int}(h:LG w B L r l S c):w.cell? ⟨L,11,none⟩=some (.map (some r)):=by
 obtain⟨t,Z,D,R,z⟩:=h.blk;rw[cell_of (j:=11) Z f6J,z]
def upd{α:Type}(g:Nat->α)(f:Nat)(v:α):Nat->α:=fun k=>if k=f then v else g k
theorem upd_same{α:Type}(g:Nat->α) f(v:α):upd g f v f=v:=if_pos rfl
theorem x1w{α:Type}(g:Nat->α){f k}(v:α)(h:k≠f):upd g f v k=g k:=if_neg h
theorem LG.mixed{w W B L r}{l:Nat->Value}{S:Nat->List Run}{c c':ByteArray->ByteArray->Int}(h:LG w B L r l S c)(y:MAt W r c')(A:But r w W):LG W B L r l S c':=by
 obtain⟨t,Z,D,R,z⟩:=h.blk
 exact⟨h.bl,h.br,h.lr,⟨t,by rw[A.far L h.lr];exact Z,D,R,z⟩,y,
  fun f U=>⟨(h.rows f U).1,x0v (h.rows f U).2 fun g C=>A.far g (h.far f U g C).2⟩,h.far,h.apart⟩
theorem LG.more{w W y:World}{B L r}{l:Nat->Value}{S:Nat->List Run}{c:ByteArray->ByteArray->Int}{f gg cap}{x:Run}(h:LG w B L r l S c)(U:f<11)(ae:(S f).length<100000)
  (hW:∀k,k<w.heap.size->W.heap[k]?=w.heap[k]?) (af:w.heap.size<=W.heap.size) (C:W.grownBy y (l f).ownBlock) (N:(l f).ownBlock=some gg\/gg=W.heap.size)
  (ab:y.ownsRow B 251 3 (.slice (some ⟨gg,0,none⟩) ((S f).length+1) cap) ((S f).length+1) (x1D (S f)++[.int .i64 x.lo,.int .i64 x.hi,.int .i64 x.s])) :
  LG (y.setCell ⟨L,f,none⟩ (.slice (some ⟨gg,0,none⟩) ((S f).length+1) cap)) B L r (upd l f (.slice (some ⟨gg,0,none⟩) ((S f).length+1) cap)) (upd S f (S f++[x])) c:=by
 obtain⟨t,Z,D,R,z⟩:=h.blk;obtain⟨Y,clock,H,q⟩:=h.map;have v:=lt_of_block Z;have u:=lt_of_block H;have j:some L≠(l f).ownBlock:=fun e=>(h.far f U L e.symm).1 rfl;have d:some r≠(l f).ownBlock:=fun e=>(h.far f U r e.symm).2 rfl;have X:gg≠L:=(by grind);have b:gg≠r:=(by grind);have A:∀k,k<w.heap.size->some k≠(l f).ownBlock->y.heap[k]?=w.heap[k]?:=fun k G hn=>(C.block k f6J hn).trans (hW k G);have i:y.heap[L]?=some (.cells t 243 (0,0)):=(A L v j).trans Z;have J:∀k,k≠L->(y.setCell ⟨L,f,none⟩ (.slice (some ⟨gg,0,none⟩) ((S f).length+1) cap)).heap[k]?=y.heap[k]?:=fun k G=>x0g _ G;refine⟨h.bl,h.br,h.lr,⟨_,x0f i _,by simpa using D,fun g I=>?_,?_⟩,⟨Y,clock,by rw[J r (fun e=>h.lr e.symm),A r u d];exact H,q⟩,fun g I=>?_,fun g I k G=>?_,fun g1 T p M F k G=>?_⟩
 ·by_cases e:g=f
  ·subst e;rw[upd_same];simp[Array.getD,D,(f6J:g<12)]
  ·rw[x1w _ _ e,<- R g I];simp[Array.getD,D,(f6J:g<12),Array.getElem_setIfInBounds_ne _ (fun n=>e n.symm)]
 ·rw[<- z];simp[Array.getD,D,Array.getElem_setIfInBounds_ne _ (f6J:f≠11)]
 ·by_cases e:g=f
  ·subst e;rw[upd_same,upd_same];refine⟨P8P,?_⟩;rw[x8g,(M7M:(S g++[x]).length=(S g).length+1)]
   exact x0v ab fun k G=>by
    have:gg=k:=T4x;subst this;exact J gg X
  ·rw[x1w _ _ e,x1w _ _ e];refine⟨(h.rows g I).1,x0v (h.rows g I).2 fun k G=>?_⟩;rw[J k (h.far g I k G).1];exact A k (x5x (h.rows g I).2 G).1 (fun n=>h.apart g f I U e k G n.symm)
 ·by_cases e:g=f
  ·subst e;rw[upd_same]at G;have:gg=k:=T4x;subst this;exact⟨X,b⟩
  ·rw[x1w _ _ e]at G;exact h.far g I k G
 ·have m:∀g,g<11->g≠f->(l g).ownBlock≠some gg:=fun g I hn e=>by
   rcases N with n | n
   ·exact h.apart g f I U hn gg e n
   ·have:=(x5x (h.rows g I).2 e).1;omega
  by_cases e1:g1=f
  ·subst e1;rw[upd_same]at G;have:gg=k:=T4x;subst this;rw[x1w _ _ (fun e=>F e.symm)];exact m T M (fun e=>F e.symm)
  ·rw[x1w _ _ e1]at G;by_cases e2:T=f
   ·subst e2;rw[upd_same];intro e;have:gg=k:=G5X;subst this;exact m g1 p e1 G
   ·rw[x1w _ _ e2];exact h.apart g1 T p M F k G
abbrev baseS:ByteArray:=⟨#[97,98,99,100,101,102,103,104,105,106,107,108,109,110,111,112,113,114,115,116,117,118,119,120,121,122,48,49,50,51,52,53,54,55,56,57,45,46]⟩
def baseL:List Int:=[97,98,99,100,101,102,103,104,105,106,107,108,109,110,111,112,113,114,115,116,117,118,119,120,121,122,48,49,50,51,52,53,54,55,56,57,45,46]
theorem x7O:nums baseS=baseL:=M3j
theorem x4G:baseS.size=38:=rfl
theorem Cn.baseA_iff(l:List Rec):∀(k:Nat) (c:Int),Cn.baseA l k c=true↔∀i:Nat,i<k->Cn.baseOf (c+i)=true->Cn.plain l (c+i)=true
 | 0,c=>by simp[Cn.baseA]
 | k+1,c=>by
  rw[Cn.baseA,Bool.and_eq_true,Cn.baseA_iff l k (c+1)];constructor
  ·rintro⟨Z,D⟩ i hi A;rcases Nat.eq_zero_or_pos i with rfl | h
   ·have e:c+((0:Nat):Int)=c:=M7L;rw[e]at A ⊢;simpa[A]using Z
   ·have:=D (i-1) f6J;rw[(f6J:c+1+((i-1:Nat):Int)=c+i)]at this;exact this A
  ·intro h;refine⟨?_,fun i hi A=>?_⟩
   ·have:=h 0 f6J;rw[(M7L:c+((0:Nat):Int)=c)]at this;cases A:Cn.baseOf c
    ·rfl
    ·simpa using this A
   ·have:=h (i+1) f6J;rw[(f6J:c+1+(i:Int)=c+((i+1:Nat):Int))]at *;exact this A
theorem z4B:∀i:Nat,i<78->Cn.baseOf (45+(i:Int))=true->(45+(i:Int))∈baseL:=M3j
theorem base_of:∀x∈baseL,Cn.baseOf x=true/\45<=x/\x<123:=M3j
theorem z1i l:Cn.baseA l 78 45=baseL.all (Cn.plain l):=by
 rw[Bool.eq_iff_iff,Cn.baseA_iff,List.all_eq_true];constructor
 ·intro h x J;obtain⟨Z,D,R⟩:=base_of x J;have:=h (x-45).toNat f6J;rw[(f6J:(45:Int)+((x-45).toNat:Int)=x)]at this;exact this Z
 ·intro h i hi A;exact h _ (z4B i hi A)
theorem z7u{p:Int->Bool}{xs:List Int}:(∀j,j<xs.length->p (xs.getD j 0)=true)->xs.all p=true:=fun h=>by
 rw[List.all_eq_true];intro x J;obtain⟨j,A,rfl⟩:=List.getElem_of_mem J;have:=h j A;simpa[List.getD,A]using this
theorem z7v{p:Int->Bool}{xs:List Int}{j}(A:j<xs.length)(h:p (xs.getD j 0)=false):xs.all p=false:=by grind
theorem y6P:∀j,j<38->45<=baseL.getD j 0/\baseL.getD j 0<123:=M3j
def y2Z(w:World)(l:List Rec)(pos:Nat)(wr:World):Prop:=pos<=38/\wr.heap[w.heap.size]?=some (.stringIter baseS pos)/\Below w.heap.size w wr/\∀j,j<pos->Cn.plain l (baseL.getD j 0)=true
theorem y2i v l w(hg:Glob w)(N:Rcs w v l):Calls prog 85 #[v] w (x0c w (Cn.baseA l 78 45)):=by
 rw[z1i];have q:Hid (∀W,Bw w W->Calls prog 134 #[.int .i64 1] W (IntB W 1)):=fun W hb=>x1n 1 W (hg.on hb) w5r;have M:Hid (∀W c,Bw w W->Rune c->Calls prog 133 #[v,.int .i64 1,.int .i32 c] W (IntB W (Cn.find l 1 c))):=fun W c hb T=>x8O v l 1 c W (hg.on hb) (N.below hb) w5r T;have t:=O (fun c=>hit_at N 1 c);have f:Hid (y2Z w l 0 (w.iter baseS 0)):=⟨f6J,World.iter_heap w baseS 0,(b0r).alloc (l0r _) _,fun j hj=>f6J⟩;have aj:Hid ((∀j,j<38->Cn.plain l (baseL.getD j 0)=true)->baseL.all (Cn.plain l)=true):=fun h=>z7u h;have aw:Hid (∀j,j<38->Cn.plain l (baseL.getD j 0)=false->baseL.all (Cn.plain l)=false):=fun j hj h=>z7v hj h;have az:=N.1;obtain⟨ao,aA,rfl,aB,aC⟩:=N.shape;generalize baseL.all (Cn.plain l)=R at *;go_enter func85,ntmps85;go_wp2;go_loopw[4,5] (fun _ _ wr=>∃pos:Nat,Hid (y2Z w l pos wr)) (fun _ _ wr=>38-wr.iterPos w.heap.size)
 case atStart=>exact⟨0,f⟩
 case round =>
  obtain⟨pos,ar⟩:=hrel;obtain⟨aF,hit,ag,S⟩:=V ar;have aG:w.heap.size<wr.heap.size:=(Array.getElem?_eq_some_iff.1 hit).1;by_cases L:pos<38
  ·obtain⟨aH,aI⟩:=y6P pos L;obtain⟨i,p⟩:=y7y baseS pos (by rw[x4G];exact L) (by rw[x7O];exact f6J);rw[x7O]at i;have n:=fun ty=>Lib.run_next_any_at (P:=prog) wr w.heap.size baseS pos ty hit (by rw[x4G];exact L);rw[i,p]at n;have am:=Lib.iterAt_heap wr w.heap.size baseS pos (pos+1) hit;have A:=Lib.below_iterAt ag (k:=w.heap.size) (l0r _) baseS (pos+1)
   have y:38-(pos+1)<38-wr.iterPos w.heap.size:=by
    simp only[World.iterPos,hit];omega
   have aq:w.heap.size<(wr.iterAt w.heap.size baseS (pos+1)).heap.size:=(by grind);have m:=O S;have hR:Rune (baseL.getD pos 0):=(by unfold Rune;exact f6J);have hH:=V t (baseL.getD pos 0);have K1:=O (V q _ A);have ab:Hid (Cn.plain l (baseL.getD pos 0)=match Cn.hit l 1 (baseL.getD pos 0)with | some r=>decide (r.kind=1) | none=>false):=rfl;have af:=O (V aw pos L);have B:=O (fun W U=>V M W (baseL.getD pos 0) U hR)
   have x:Hid (∀W,(wr.iterAt w.heap.size baseS (pos+1)).heap.size<=W.heap.size->W.heap[w.heap.size]?=some (.stringIter baseS (pos+1))->Bw w W->Cn.plain l (baseL.getD pos 0)=true->y2Z w l (pos+1) W):=fun W _ U hb d=>⟨f6J,U,hb,fun j hj=>by
    rcases Nat.lt_or_ge j pos with h | h
    ·exact V m j h
    ·obtain rfl:j=pos:=by omega
     exact d⟩
   generalize wr.iterAt w.heap.size baseS (pos+1)=W2,baseL.getD pos 0=c at *;rcases hH with⟨Z,h2⟩ | ⟨k,b,aJ,ay,Z,aD,h2,z,hl,hm,u,hf⟩
   ·obtain rfl:R=false:=V af (by rw[V ab,h2]);rw[Z]at B;go_wp2_with fail;refine c0m K1 fun W3 s=>?_;have X:=x0b A s;have g:=O (V B W3 X);go_wp2_with fail;refine c0m g fun G ae=>?_;have Y:x0c w false (.returned (.bool false)) G:=⟨rfl,x0b X ae⟩;go_wp2;go_ret;exact Y
   ·simp only[Value.slice.injEq]at z;obtain⟨rfl,_,rfl⟩:=z;have d:Cn.plain l c=decide ((l.getD k Cn.none).kind=1):=(by rw[V ab,h2]);rw[Z]at B;have HR:=O u;generalize l.getD k Cn.none=r at *;have ab:=O d;go_wp2_with fail;refine c0m K1 fun W3 s=>?_;have X:=x0b A s;have g:=O (V B W3 X);go_wp2_with fail;refine c0m g fun G ae=>?_;have I:=x0b X ae;have x0:=((V HR).below I).kind;have C:Bw W2 G:=x0b s ae;have D:G.heap[w.heap.size]?=some (.stringIter baseS (pos+1)):=(by rw[C.block _ aq];exact am);have F:=C.size;have H:=O (V x G F D I)
    have J:38-G.iterPos w.heap.size<38-wr.iterPos w.heap.size:=by
     simp only[World.iterPos,D];simp only[World.iterPos]at y;exact y
    by_cases k1:r.kind=1
    ·have ai:Hid (y2Z w l (pos+1) G):=V H (by rw[V ab,k1];rfl);rw[k1]at x0;go_wp2
     go_roundw
     case rel=>exact⟨pos+1,ai⟩
     case measure=>exact J
    ·obtain rfl:R=false:=V af (by rw[V ab];exact d0f k1);have Y:x0c w false (.returned (.bool false)) G:=⟨rfl,I⟩;have q1:(r.kind != 1)=true:=(by simp[k1]);exact n0L
  ·obtain rfl:pos=38:=f6J;obtain rfl:R=true:=V aj S;have Y:x0c w true (.returned (.bool true)) wr:=⟨rfl,ag⟩;have n:=fun ty=>Lib.run_next_end_at (P:=prog) wr w.heap.size baseS 38 ty hit (by rw[x4G];exact f6J);go_wp2;go_ret;exact Y
theorem Rown.far7{w W B v}{ps:List (Rec×Value)}(h:Rown w B v ps)(G:∀k,B<=k->k<w.heap.size->W.heap[k]?=w.heap[k]?):Rown W B v ps :=
 ⟨x0v h.1 fun g C=>G g (x5x h.1 C).2 (x5x h.1 C).1,fun p L=>(h.2 p L).keep fun g C=>G g (x5x (h.2 p L).2.2 C).2 (x5x (h.2 p L).2.2 C).1⟩
theorem Rown.on7{w W B v}{ps:List (Rec×Value)}(h:Rown w B v ps)(A:Bw w W):Rown W B v ps:=h.far7 fun k _ G=>A.block k G
def putR(W:World)(g off:Nat)(q:Rec×Value):World:=(((((((W.setCell ⟨g,off,none⟩ (.int .i64 q.1.kind)).setCell ⟨g,off+1,none⟩ (.int .i64 q.1.lo)).setCell ⟨g,off+2,none⟩ (.int .i64 q.1.hi)).setCell ⟨g,off+3,none⟩ (.int .i64 q.1.n)).setCell ⟨g,off+4,none⟩ q.2).setCell ⟨g,off+5,none⟩ (.string q.1.name)).setCell ⟨g,off+6,none⟩ (.string q.1.other)).setCell ⟨g,off+7,none⟩ (.float .f64 q.1.wt)
def set8(c:Array Value)(off:Nat)(q:Rec×Value):Array Value:=(((((((c.setIfInBounds off (.int .i64 q.1.kind)).setIfInBounds (off+1) (.int .i64 q.1.lo)).setIfInBounds (off+2) (.int .i64 q.1.hi)).setIfInBounds (off+3) (.int .i64 q.1.n)).setIfInBounds (off+4) q.2).setIfInBounds (off+5) (.string q.1.name)).setIfInBounds (off+6) (.string q.1.other)).setIfInBounds (off+7) (.float .f64 q.1.wt)
theorem z0j c off(q:Rec×Value):(set8 c off q).size=c.size:=by simp[set8]
theorem z0i c off(q:Rec×Value)(h:off+8<=c.size) k:(set8 c off q)[k]?=if off<=k/\k<off+8 then(x0y q)[k-off]? else c[k]?:=by
 unfold set8;by_cases G:off<=k/\k<off+8
 ·rw[if_pos G];obtain⟨j,rfl⟩:∃j,k=off+j:=⟨k-off,f6J⟩;rw[Nat.add_sub_cancel_left];obtain rfl | rfl | rfl | rfl | rfl | rfl | rfl | rfl:j=0\/j=1\/j=2\/j=3\/j=4\/j=5\/j=6\/j=7:=by omega
  all_goals simp[Array.getElem?_setIfInBounds,x0y];try omega
 ·rw[if_neg G];simp only[Array.getElem?_setIfInBounds];rw[if_neg f6J,if_neg f6J,if_neg f6J,if_neg f6J,if_neg f6J,if_neg f6J,if_neg f6J,if_neg f6J]
theorem y9G{W g off cur e}(h:W.heap[g]?=some (.cells cur e (0,0)))(q:Rec×Value):(putR W g off q).heap[g]?=some (.cells (set8 cur off q) e (0,0)):=by
 have F:=x0f (j:=off+7) (x0f (j:=off+6) (x0f (j:=off+5) (x0f (j:=off+4) (x0f (j:=off+3) (x0f (j:=off+2) (x0f (j:=off+1) (x0f (j:=off) h (.int .i64 q.1.kind)) (.int .i64 q.1.lo)) (.int .i64 q.1.hi)) (.int .i64 q.1.n)) q.2) (.string q.1.name)) (.string q.1.other)) (.float .f64 q.1.wt);unfold putR set8;exact F
theorem x9v{W g off k}(q:Rec×Value)(h:k≠g):(putR W g off q).heap[k]?=W.heap[k]?:=by
 unfold putR;rw[x0g _ h,x0g _ h,x0g _ h,x0g _ h,x0g _ h,x0g _ h,x0g _ h,x0g _ h]
theorem x8m{w W B g off}(h:Below B w W)(C:B<=g)(q:Rec×Value):Below B w (putR W g off q) :=
 x0d (x0d (x0d (x0d (x0d (x0d (x0d (x0d h C _) C _) C _) C _) C _) C _) C _) C _
theorem Rown.cells8{w B g cap i}{ps:List (Rec×Value)}(h:Rown w B (.slice (some ⟨g,0,none⟩) ps.length cap) ps)(hi:i<ps.length) :
  ∃(r:Rec) (ao:Option Addr) (len cp:Nat),ps[i]=(r,.slice ao len cp)/\w.cell? ⟨g,i*8,none⟩=some (.int .i64 r.kind)/\w.cell? ⟨g,i*8+1,none⟩=some (.int .i64 r.lo)/\w.cell? ⟨g,i*8+2,none⟩=some (.int .i64 r.hi)/\w.cell? ⟨g,i*8+3,none⟩=some (.int .i64 r.n)/\w.cell? ⟨g,i*8+4,none⟩=some (.slice ao len cp)/\w.cell? ⟨g,i*8+5,none⟩=some (.string r.name)/\w.cell? ⟨g,i*8+6,none⟩=some (.string r.other)/\w.cell? ⟨g,i*8+7,none⟩=some (.float .f64 r.wt)/\∀j,w.frozen? ⟨g,j,none⟩=false:=by
 obtain⟨ao,cp,N,_,_⟩:=(h.2 ps[i] (List.getElem_mem hi)).sk.shape
 have T:∀j u,j<8->(x0y ps[i])[j]?=some u->w.cell? ⟨g,i*8+j,none⟩=some u:=by
  intro j u A W;have e:=h.1.cells (g:=g) rfl (i*8+j) u (by rw[x1v ps i j hi A];simpa[List.getD,hi]using W);rw[addr_add,Nat.zero_add]at e;exact e
 refine⟨ps[i].1,ao,_,cp,Prod.ext rfl N,T 0 _ f6J rfl,T 1 _ f6J rfl,T 2 _ f6J rfl,T 3 _ f6J rfl,N ▸ T 4 _ f6J rfl,T 5 _ f6J rfl,T 6 _ f6J rfl,T 7 _ f6J rfl,fun j=>?_⟩;rcases h.1.2 with⟨e,_⟩ | ⟨S,J,t,e,_,Y,_⟩
 ·cases e
 ·simp only[Value.slice.injEq,Option.some.injEq,Addr.mk.injEq,and_true,true_and]at e;rw[e.1];exact x0e Y
section
variable {P:Program} {ops:Array Oper} {o:Oper} {a:Act} {w w':World} {K:Act->World->Prop} {Q:Exit->Act->World->Prop} {E:Prop}
theorem y6j(I:o.guard=none) ty(x:Operand)(j:o.op=.load ty x) pv v(J:a.eval x=pv)(C:(Instr.loadAt ty pv).run P w=.ok v w)(h:K (a.put o.dst v) w) :
  if Region.wanted o (yielded ops a.tmps)=true then Oper.wp P o a w K Q else E:=by
 rw[if_pos v4b];unfold Oper.wp execOp;simp only[j,J,Sem.run_bind,C,Result.andThen_ok];exact h
theorem x7h(I:o.guard=none) ty(x y:Operand)(j:o.op=.store ty x y) pv v(J:a.eval x=pv)(hy:a.eval y=v)(C:(Instr.storeAt ty pv v).run P w=.ok () w')(h:K (a.put o.dst undef) w') :
  if Region.wanted o (yielded ops a.tmps)=true then Oper.wp P o a w K Q else E:=by
 rw[if_pos v4b];unfold Oper.wp execOp;simp only[j,J,hy,Sem.run_bind,C,Result.andThen_ok];exact h
end
theorem z9E{W g off cur}(h:W.heap[g]?=some (.cells cur 67 (0,0)))(X:off+8<=cur.size) r ao len cp :
  (Instr.storeAt 67 (.pointer (some ⟨g,off,none⟩)) (recV r (.slice ao len cp))).run prog W=.ok () (putR W g off (r,.slice ao len cp)):=by
 have Z:=x0f (j:=off) h (.int .i64 r.kind);have D:=x0f (j:=off+1) Z (.int .i64 r.lo);have R:=x0f (j:=off+2) D (.int .i64 r.hi);have z:=x0f (j:=off+3) R (.int .i64 r.n);have H:=x0f (j:=off+4) z (.slice ao len cp);have q:=x0f (j:=off+5) H (.string r.name);have F:=x0f (j:=off+6) q (.string r.other);have G:=cell_of (j:=off) h f6J;have C:=cell_of (j:=off+1) Z P8P;have U:=cell_of (j:=off+2) D P8P;have s:=cell_of (j:=off+3) R P8P;have u:=cell_of (j:=off+4) z P8P;have b:=cell_of (j:=off+5) H P8P;have A:=cell_of (j:=off+6) q P8P;have J:=cell_of (j:=off+7) F P8P;have y:=x0e (j:=off) h;have t:=x0e (j:=off+1) Z;have S:=x0e (j:=off+2) D;have M:=x0e (j:=off+3) R;have N:=x0e (j:=off+4) z;have p:=x0e (j:=off+5) H;have I:=x0e (j:=off+6) q;have B:=x0e (j:=off+7) F;have L:∀W a m,(store a (.float .f64 r.wt) m).run prog W=stored prog W a (.float .f64 r.wt) m:=fun W a m=>run_store prog W a _ m rfl;unfold recV putR;simp[Instr.storeAt,go_sem,Tryz.sizeOf67,Addr.add,L,stored,G,C,U,s,u,b,A,J,y,t,S,M,N,p,I,B]

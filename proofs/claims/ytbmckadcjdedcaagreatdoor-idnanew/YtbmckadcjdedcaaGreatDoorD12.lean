/- TbR7 TbS7 TbT7 TbU7 TbV7 CcR7 TuA7 TuB7 TuC7 -/
import Derived.Test.YtbmckadcjdedcaaGreatDoorD11
import Derived.Test.YtbmckadcjdedcaaGreatDoorD7
import Derived.DeepKeys4
import Derived.WideKeyEntry
import Derived.Deep.AppendLies
import Derived.WalkMore
import Derived.Deep.RegionHeld3
set_option maxHeartbeats 4000000
set_option maxRecDepth 20000
namespace Go.Proofs.YtbmckadcjdedcaaGreatDoor
open Go.Proofs.Tryz
open Go.RowKit
section
variable{p:Prop}
theorem T2c(h:p:=by simp[Instr.entryStore,MapKept.run_getObj_map t,MapKept.run_setObj_map _ t,T,Result.andThen,setBlock,goInt,asInt,asIntOf]):p:=h
theorem S0H(h:p:=by
 refine rd9 11 fun K hK=>?_;go_simp;refine hK.out _ _ ?_ (fun hHeld=>?_)
 ·exact q
 clear hK K
 try simp only[Act.put,sa9,sb9,sc9]
 refine wpAnyH_done f4y ?_ _;go_wp2;go_ret;exact HF):p:=h
theorem P2K(h:p:=by unfold incr;rw[if_pos ⟨rfl,rfl⟩]):p:=h
theorem T4x(h:p:=by simpa[Value.ownBlock]using G):p:=h
theorem E5S(h:p:=by obtain⟨y,hy,ae⟩:=List.mem_map.1 this;exact hn y hy ae):p:=h
end
structure Run where
 lo:Int
 hi:Int
 s:Int
def Run.ok(x:Run):Prop:=RunOk x.lo x.hi x.s
def Run.val(x:Run):Value:=runV x.lo x.hi x.s
def Run.none:Run:=⟨0,0,0⟩
def Run.meets(x y:Run):Bool:=y3A x.lo x.hi x.s y.lo y.hi y.s
theorem z3o(s hi:Int)(X:0<=s)(p:Int->Bool):∀(n:Nat) (c:Int),mA s hi p n c=true↔∃k:Nat,k<n/\c+k*s<=hi/\p (c+k*s)=true
 | 0,c=>by simp[mA]
 | n+1,c=>by
  rw[mA];have e:∀k:Nat,c+((k+1:Nat):Int)*s=c+s+k*s:=fun k=>(by push_cast;rw[Int.add_mul];exact f6J);split
  ·next h =>
   exact g1k
  ·next h =>
   split
   ·next hp=>exact⟨fun _=>⟨0,f6J,P8P,by simpa using hp⟩,fun _=>rfl⟩
   ·next hp =>
    rw[z3o s hi X p n];constructor
    ·rintro⟨k,D,Z,R⟩;exact⟨k+1,f6J,by rw[e];exact Z,by rw[e];exact R⟩
    ·rintro⟨k,D,Z,R⟩
     cases k with
     | zero=>exact absurd s4Q hp
     | succ k=>rw[e]at Z R;exact⟨k,f6J,Z,R⟩
theorem z1s{lo hi s c c0:Int}(h:RunOk lo hi s)(I:c0=fromI lo s c):lo<=c0/\c<=c0/\s∣c0-lo/\∀x,lo<=x->c<=x->s∣x-lo->c0<=x:=by
 obtain⟨_,_,_,T,_⟩:=h;unfold fromI at I;split at I
 ·simp_all
 ·next hle =>
  have e:=Int.emod_add_mul_ediv (c-lo) s;have F:=Int.emod_nonneg (c-lo) (f6J:s≠0);have S:=Int.emod_lt_of_pos (c-lo) (f6J:0<s);by_cases A:(c-lo)%s=0
  ·have f:(s-(c-lo)%s)%s=0:=(by rw[A];exact M7L);rw[f]at I;subst I;refine⟨f6J,f6J,?_,fun x _ b _=>f6J⟩;rw[(f6J:c+0-lo=c-lo)];exact Int.dvd_of_emod_eq_zero A
  ·have f:(s-(c-lo)%s)%s=s-(c-lo)%s:=Int.emod_eq_of_lt f6J f6J;rw[f]at I;subst I
   have hd:s∣c+(s-(c-lo)%s)-lo:=by
    rw[(f6J:c+(s-(c-lo)%s)-lo=s*((c-lo) / s)+s*1),<- Int.mul_add];exact Int.dvd_mul_right _ _
   refine⟨f6J,f6J,hd,fun x a b d=>?_⟩;obtain⟨j,B⟩:=Int.dvd_sub hd d;exact p3W
theorem y8G{x y:Run}(g:x.ok)(hy:y.ok):x.meets y=true↔∃c,Cn.x8S x.lo x.hi x.s c/\Cn.x8S y.lo y.hi y.s c:=by
 have B:∀{a b:Run},a.ok->b.ok->(mA a.s a.hi (hasB b.lo b.hi b.s) b.s.toNat (fromI a.lo a.s b.lo)=true↔∃c,Cn.x8S a.lo a.hi a.s c/\Cn.x8S b.lo b.hi b.s c):=by
  intro a b L C;obtain⟨m,S,u,U⟩:=z1s (c:=b.lo) L rfl;obtain⟨F,A,J,d,M⟩:=L;obtain⟨i,b1,I,G,z⟩:=C;rw[z3o a.s a.hi f6J];generalize fromI a.lo a.s b.lo=c0 at *;rw[Cn.y3M (N:=b.s.toNat) (c0:=c0) f6J f6J f6J m S u U];constructor
  ·rintro⟨k,D,Z,R⟩;unfold hasB at R;obtain⟨_,_,_,Y,_,q⟩:=o0d R;exact⟨k,D,Z,Y,Int.dvd_of_emod_eq_zero q⟩
  ·rintro⟨k,D,Z,R,H⟩;have:=Int.mul_nonneg (f6J:(0:Int)<=k) (f6J:0<=a.s);exact⟨k,D,Z,d0t ⟨f6J,f6J,f6J,R,f6J,Int.emod_eq_zero_of_dvd H⟩⟩
 unfold Run.meets y3A;split
 ·next h =>
  constructor
  ·intro h;cases h
  ·rintro⟨c,⟨T,W,_⟩,X,f,_⟩;omega
 ·grind
def runR(r:Rec):Run:=⟨r.lo,r.hi,stepP r⟩
theorem x9B{r:Rec}(h:Cn.right r=0)(G:r.kind≠15):(runR r).ok:=by
 have D:=Cn.x0o h G;have Z:=Cn.right_step h
 have:stepP r=Cn.step r:=by
  unfold stepP Cn.step at *;split
  ·omega
  ·rfl
 exact⟨D.1,D.2.1,D.2.2,by show 1<=stepP r;exact f6J,by show stepP r<=64;exact f6J⟩
theorem x5X{r:Rec}(h:Cn.right r=0):stepP r=Cn.step r:=by
 have Z:=Cn.right_step h;unfold stepP Cn.step at *;split
 ·omega
 ·rfl
theorem x6i{a b:Rec}(L:Cn.right a=0)(C:Cn.right b=0)(z:Cn.fam a.kind=Cn.fam b.kind)(G:a.kind≠15)(A:b.kind≠15):Cn.clash a b=(runR b).meets (runR a):=by
 rw[Bool.eq_iff_iff,Cn.x1S L C z G A,y8G (x9B C A) (x9B L G)];constructor
 ·rintro⟨c,D,Z⟩;refine⟨c,?_,?_⟩
  ·have:=(Cn.x0G C A c).1 Z;rw[<- x5X C]at this;exact this
  ·have:=(Cn.x0G L G c).1 D;rw[<- x5X L]at this;exact this
 ·rintro⟨c,D,Z⟩;refine⟨c,(Cn.x0G L G c).2 ?_,(Cn.x0G C A c).2 ?_⟩
  ·rw[<- x5X L];exact Z
  ·rw[<- x5X C];exact D
structure RnAt(w:World)(b o:Nat)(x:Run):Prop where
 lo:w.cell? ⟨b,o,none⟩=some (.int .i64 x.lo)
 hi:w.cell? ⟨b,o+1,none⟩=some (.int .i64 x.hi)
 s:w.cell? ⟨b,o+2,none⟩=some (.int .i64 x.s)
theorem RnAt.below{w w':World}{b o:Nat}{x:Run}(h:RnAt w b o x)(C:Bw w w'):RnAt w' b o x :=
 ⟨by rw[C.cell (x0a h.lo)];exact h.lo,by rw[C.cell (x0a h.hi)];exact h.hi,by rw[C.cell (x0a h.s)];exact h.s⟩
def Rns(w:World)(v:Value)(xs:List Run):Prop:=xs.length<=1000000000 /\
 ((xs=[]/\∃ao cap,v=.slice ao 0 cap/\cap<=9223372036854775807) \/
  ∃b off cap,v=.slice (some ⟨b,off,none⟩) xs.length cap/\xs.length<=cap/\cap<=9223372036854775807/\∀i,i<xs.length->RnAt w b (off+i*3) (xs.getD i Run.none))
theorem Rns.below{w w':World}{v:Value}{xs:List Run}(h:Rns w v xs)(C:Bw w w'):Rns w' v xs:=by
 obtain⟨D,R⟩:=h;refine⟨D,?_⟩;rcases R with R | ⟨b,A,M,N,S,U,I⟩
 ·exact .inl R
 ·exact .inr ⟨b,A,M,N,S,U,fun i hi=>(I i hi).below C⟩
theorem Rns.shape{w:World}{v:Value}{xs:List Run}(h:Rns w v xs):∃ao cap,v=.slice ao xs.length cap/\xs.length<=cap/\cap<=9223372036854775807:=by
 rcases h.2 with⟨rfl,ao,cap,N,U⟩ | ⟨b,A,cap,N,S,U,_⟩
 ·exact R8k
 ·exact f8G
theorem Rns.place{w:World}{v:Value}{xs:List Run}(h:Rns w v xs)(F:0<xs.length):∃b off cap,v=.slice (some ⟨b,off,none⟩) xs.length cap/\xs.length<=cap/\cap<=9223372036854775807/\∀i,i<xs.length->RnAt w b (off+i*3) (xs.getD i Run.none):=by
 rcases h.2 with⟨rfl,_⟩ | h
 ·simp at F
 ·exact h
def fbN(p:Run->Bool):Nat->List Run->Int
 | _,[]=>-1
 | i,r::l=>if p r then(i:Int)else fbN p (i+1) l
theorem z4K{p:Run->Bool}{rs:List Run}{k:Nat}{x:Int}(G:k<rs.length)(h:x=fbN p k (rs.drop k))(A:p (rs.getD k Run.none)=true):x=(k:Int):=by
 rw[h,List.drop_eq_getElem_cons G,fbN,if_pos];exact N7T
theorem z1l{p:Run->Bool}{rs:List Run}{k:Nat}{x:Int}(G:k<rs.length)(h:x=fbN p k (rs.drop k))(A:p (rs.getD k Run.none)=false):x=fbN p (k+1) (rs.drop (k+1)):=by
 rw[h,List.drop_eq_getElem_cons G,fbN,if_neg];have:p rs[k]=false:=N7T;simp[this]
theorem z4J{p:Run->Bool}{rs:List Run}{x:Int}(h:x=fbN p rs.length (rs.drop rs.length)):x=-1:=by
 rw[h,List.drop_length,fbN]
theorem y7B(p:Run->Bool):∀(l:List Run) (i:Nat),decide (0<=fbN p i l)=l.any p
 | [],i=>rfl
 | r::l,i=>by
  rw[fbN,List.any_cons]
  cases hp:p r with
  | true=>simp
  | false=>simpa using y7B p l (i+1)
theorem x5j:∀args w,(callFunc 217 args).run prog w=.ok (.enter 217 args) w:=f0h
def NIn(w:World)(v:Value)(xs:List Run)(W:World):Prop:=Rns W v xs/\Below w.heap.size w W
theorem NIn.on{w W A:World}{v:Value}{xs:List Run}(h:NIn w v xs W)(C:Bw W A):NIn w v xs A:=⟨h.1.below C,h.2.trans (C.mono h.2.size)⟩
theorem x8U(x:Run)(v:Value)(xs:List Run)(w:World)(N:Rns w v xs)(r:x.ok)(n:∀y∈xs,y.ok) :
  Calls prog 257 #[v,.func (.func 217) #[x.val] #[]] w (IntB w (fbN (fun y=>x.meets y) 0 xs)):=by
 have eg:=x5j;have L:Hid (NIn w v xs w):=⟨N,b0r⟩;have l:Hid (∀k W,k<xs.length->Calls prog 217 #[x.val,(xs.getD k Run.none).val] W (x0c W (x.meets (xs.getD k Run.none)))):=fun k W G=>y8F _ _ _ _ _ _ W r (n _ w8c);have F:Hid (fbN (fun y=>x.meets y) 0 xs=fbN (fun y=>x.meets y) 0 (xs.drop 0)):=R6O;have d:=N.1;obtain⟨Y,M,rfl,D,Z⟩:=N.shape;unfold Run.val runV at *;generalize hq:fbN (fun y=>x.meets y) 0 xs=z at *;go_enter func257,ntmps257;go_wp2;go_loopw[5,8] (fun _ i wr=>∃k:Nat,i=.int .i64 k/\k<=xs.length/\z=fbN (fun y=>x.meets y) k (xs.drop k)/\NIn w (.slice Y xs.length M) xs wr) (fun _ i _=>xs.length-(intOf i).toNat)
 case atStart=>exact⟨0,rfl,f6J,V F,V L⟩
 case round =>
  obtain⟨k,rfl,G,u,X⟩:=hrel;by_cases H:k<xs.length
  ·obtain⟨b,R,J,q,f,g,I⟩:=X.1.place f6J;obtain⟨rfl,rfl⟩:Y=some ⟨b,R,none⟩/\M=J:=W3N;obtain⟨x0,x1,p⟩:=I k H;have j:=O (V l k wr H);have c:Hid (x.meets (xs.getD k Run.none)=true->z=(k:Int)):=fun h=>z4K H u h;have B:Hid (x.meets (xs.getD k Run.none)=false->z=fbN (fun y=>x.meets y) (k+1) (xs.drop (k+1))):=fun h=>z1l H u h;have S:=O X;clear u X I q l;generalize x.meets (xs.getD k Run.none)=y at j c B;generalize(xs.getD k Run.none).lo=lo,(xs.getD k Run.none).hi=hi,(xs.getD k Run.none).s=m at *
   cases y with
   | true =>
    obtain rfl:=V c rfl;go_wp2_with(go_at_fn 217;refine(V j).mono ?_;rintro e t ⟨rfl,C⟩);have T:=O ((V S).on C).2;go_ret;exact i5u
   | false =>
    have U:=O (V B rfl);go_wp2_with(go_at_fn 217;refine(V j).mono ?_;rintro e t ⟨rfl,C⟩);have T:=O ((V S).on C);go_round
    case rel=>exact⟨k+1,g2A,f6J,V U,V T⟩
    case measure=>exact g7T
  ·obtain rfl:k=xs.length:=f6J;obtain rfl:=z4J u;have T:=O X.2;go_wp2;go_ret;exact i5u
theorem x5w(x:Run)(v:Value)(xs:List Run)(w:World)(N:Rns w v xs)(J:x.ok)(n:∀y∈xs,y.ok) :
  Calls prog 216 #[v,.func (.func 217) #[x.val] #[]] w (x0c w (xs.any fun y=>x.meets y)):=by
 have K:=O (x8U x v xs w N J n);rw[<- y7B _ xs 0];obtain⟨s,M,rfl,D,Z⟩:=N.shape;unfold Run.val runV at *;go_enter func216,ntmps216;go_wp2_with fail;refine c0m K fun C B=>?_;go_wp2;go_ret;exact⟨rfl,B⟩
open Go.RowKit Go.MapKept Go.WideMaps
open Go.ChangeMaps (setBlock)
open Go.WideElems (findIdx_arr findIdx_born)
theorem x5R:laidOutB prog=true:=f4x
theorem pairLaw:KeyLaw prog 338:=deep_law_laid x5R (m:=3) e8N (o0d f4x) f4x f4x
def pk(a b:ByteArray):Value:=.agg #[.string a,.string b]
theorem y6L:prog.cellsOf 338=2:=f4x
theorem y6N:prog.cellsOf 9=1:=f4x
theorem y8n:prog.keyType 338=true:=f4x
def Sh(a:ByteArray):Prop:=a.size<=1000
theorem x2x{a:ByteArray}(h:Sh a)(D:Nat):prog.keyLits (D+1) 9 [.string a]=some [.string a.data.toList]:=by
 rw[Program.keyLits.eq_def];simp only[underlying9];rw[if_pos (by unfold Sh at h;exact T7W)]
theorem y4Y{a b:ByteArray}(L:Sh a)(C:Sh b)(D:Nat):prog.keyLits (D+2) 338 [.string a,.string b]=some [.string a.data.toList,.string b.data.toList]:=by
 rw[Program.keyLits.eq_def];simp only[underlying338,y6L,y6N];rw[if_pos (show[Value.string a,Value.string b].length=2 from rfl)];have e:List.range 2=[0,1]:=rfl;rw[e];simp[List.mapM_cons,x2x L D,x2x C D]
theorem y9h{a b:ByteArray}(L:Sh a)(C:Sh b):∃l,keyOf prog 338 (pk a b)=some l:=by
 have z:(pk a b).formed prog 338=true:=by
  simp[pk,Value.formed,underlying338,y6L]
 obtain⟨n,A⟩:∃n,prog.types.size+1=n+2:=⟨prog.types.size-1,m4z⟩;refine⟨.string (keyBytes [.string a.data.toList,.string b.data.toList]),?_⟩;unfold keyOf;simp only[underlying338,y8n,z,Bool.and_self,if_true,A];show(prog.keyLits (n+2) 338 [.string a,.string b]).map _=_;rw[y4Y L C n];rfl
theorem z3v{a b M X:ByteArray}(h:pk a b=pk M X):a=M/\b=X:=by
 unfold pk at h;exact S4r
structure MObj(es:Array MapEntry)(clock:Nat)(c:ByteArray->ByteArray->Int):Prop where
 st:Stamped es clock
 keys:∀x∈es.toList,∃a b,x.key=pk a b/\x.val=.int .i64 (c a b)/\Sh a/\Sh b
 none:∀a b,(∀x∈es.toList,x.key≠pk a b)->c a b=0
def MAt(w:World)(r:Nat)(c:ByteArray->ByteArray->Int):Prop:=∃es clock,w.heap[r]?=some (.map es clock)/\MObj es clock c
theorem MObj.ks{A:Array MapEntry}{clock:Nat}{c:ByteArray->ByteArray->Int}(h:MObj A clock c):∀x∈A.toList,∃l,keyOf prog 338 x.key=some l:=fun x J=>by
 obtain⟨a,b,e,_,L,C⟩:=h.keys x J;rw[e];exact y9h L C
theorem x9C{w:World}{r:Nat}{A:Array MapEntry}{clock:Nat}{c:ByteArray->ByteArray->Int}(C:w.heap[r]?=some (.map A clock))(h:MObj A clock c){a b:ByteArray}(L:Sh a)(B:Sh b) :
  (Instr.lookup 239 (.map (some r)) (pk a b) false).run prog w=.ok (.int .i64 (c a b)) w:=by
 obtain⟨l,S⟩:=y9h L B;rcases pairLaw.find w S A.toList h.ks with⟨D,Z⟩ | ⟨j,H,D,Z,R⟩
 ·rw[h.none a b Z];simp[Instr.lookup,run_underlying underlying239,MapKept.run_getObj_map C,pairLaw.check w _ S,D,Result.andThen]
 ·obtain⟨M,X,N,f,_,_⟩:=h.keys H (List.mem_of_getElem? Z);obtain⟨rfl,rfl⟩:=z3v (N.symm.trans R);simp[Instr.lookup,run_underlying underlying239,MapKept.run_getObj_map C,pairLaw.check w _ S,D,Result.andThen,f]
theorem x6M{f:MapEntry->MapEntry}:∀(l:List MapEntry) (j:Nat) (H:MapEntry),l[j]?=some H->f H=H->l.modify j f=l
 | [],j,H,h,_=>by simp at h
 | x::l,0,H,h,hf=>by simp at h;subst h;simp[hf]
 | x::l,j+1,H,h,hf=>by simp at h;simp[x6M l j H h hf]
def incr(c:ByteArray->ByteArray->Int)(a b:ByteArray):ByteArray->ByteArray->Int:=fun x y=>if x=a/\y=b then c a b+1 else c x y
theorem y9I{w:World}{r:Nat}{A:Array MapEntry}{clock:Nat}{c:ByteArray->ByteArray->Int}(C:w.heap[r]?=some (.map A clock))(h:MObj A clock c){a b:ByteArray}(L:Sh a)(v:Sh b) :
  ∃(st:Nat) (ab:Array MapEntry) (F:Nat),(Instr.mapEntry 239 (.map (some r)) (pk a b)).run prog w=.ok (.tuple #[.int .i64 (c a b),goInt st]) (setBlock w r (.map ab F))/\MObj ab F c /\
   ∀W:World,W.heap[r]?=some (.map ab F)->∃s n,(Instr.entryStore 239 (.map (some r)) (goInt st) (.int .i64 (c a b+1))).run prog W=.ok () (setBlock W r (.map s n))/\MObj s n (incr c a b):=by
 obtain⟨l,S⟩:=y9h L v;obtain⟨s1,d,Y⟩:=h.st;rcases pairLaw.find w S A.toList h.ks with⟨D,Z⟩ | ⟨j,H,D,Z,R⟩
 ·have hz:=h.none a b Z;have T:(A.push ⟨pk a b,.int .i64 0,clock⟩).findIdx? (fun e=>((e.born:Nat):Int)==((clock:Nat):Int))=some A.size:=(by grind);refine⟨clock,A.push ⟨pk a b,.int .i64 0,clock⟩,clock+1,?_,⟨stamped_push h.st Z,fun x J=>?_,fun M X hn=>?_⟩,fun W t=>⟨(A.push ⟨pk a b,.int .i64 0,clock⟩).modify A.size (fun e=>{ e with val:=.int .i64 (c a b+1) }),clock+1,?_,?_⟩⟩
  ·rw[hz];simp[Instr.mapEntry,run_underlying underlying239,MapKept.run_getObj_map C,pairLaw.check w false S,D,MapKept.run_setObj_map _ C,Result.andThen,setBlock]
  ·simp only[Array.toList_push,List.mem_append,List.mem_singleton]at J;rcases J with J | rfl
   ·exact h.keys x J
   ·exact⟨a,b,rfl,by rw[hz],L,v⟩
  ·exact h.none M X fun x J=>hn x (by simp[J])
  ·exact T2c
  ·have U:((A.push ⟨pk a b,.int .i64 0,clock⟩).modify A.size (fun e=>{ e with val:=.int .i64 (c a b+1) })).toList=A.toList++[⟨pk a b,.int .i64 (c a b+1),clock⟩]:=by
    rw[Array.toList_modify,Array.toList_push,<- Array.length_toList];exact Go.WideElems.modify_last _ _ _
   refine⟨stamped_modify (stamped_push h.st Z) _ _ (fun _ _=>rfl) (fun _ _ _=>rfl),fun x J=>?_,fun M X hn=>?_⟩
   ·rw[U]at J;simp only[List.mem_append,List.mem_singleton]at J;rcases J with J | rfl
    ·obtain⟨M,X,N,f,e3,I⟩:=h.keys x J;refine⟨M,X,N,?_,e3,I⟩;unfold incr;rw[if_neg,f];rintro⟨rfl,rfl⟩;exact Z x J N
    ·exact⟨a,b,rfl,P2K,L,v⟩
   ·rw[U]at hn;unfold incr;rw[if_neg]
    ·exact h.none M X fun x J=>hn x (by simp[J])
    ·rintro⟨rfl,rfl⟩;exact hn ⟨pk M X,.int .i64 (c M X+1),clock⟩ M7K rfl
 ·have g:=List.mem_of_getElem? Z;obtain⟨M,X,N,f,_,_⟩:=h.keys H g;obtain⟨rfl,rfl⟩:=z3v (N.symm.trans R);have hj:A[j]?=some H:=by rw[<- Array.getElem?_toList];exact Z
  have k:A.modify j (fun e=>{ e with key:=pk M X })=A:=by
   apply Array.toList_inj.1;rw[Array.toList_modify];exact x6M A.toList j H Z (by rw[<- R])
  have T:A.findIdx? (fun e=>((e.born:Nat):Int)==((H.born:Nat):Int))=some j:=by
   rw[findIdx_arr];exact findIdx_born d Z
  refine⟨H.born,A,clock,?_,h,fun W t=>⟨A.modify j (fun e=>{ e with val:=.int .i64 (c M X+1) }),clock,?_,?_⟩⟩
  ·have B:=pairLaw.stays w S;simp[Instr.mapEntry,run_underlying underlying239,MapKept.run_getObj_map C,pairLaw.check w false S,D,MapKept.run_setObj_map _ C,Result.andThen,setBlock,hj,R,B,f,k]
  ·exact T2c
  ·refine⟨stamped_modify h.st _ _ (fun _ _=>rfl) (fun _ _ _=>rfl),fun x J=>?_,fun a1 b1 hn=>?_⟩
   ·rw[Array.toList_modify]at J;obtain⟨i,hi,rfl⟩:=List.getElem_of_mem J;rw[List.length_modify]at hi;rw[List.getElem_modify];by_cases p:j=i
    ·subst p
     have:A.toList[j]=H:=by
      have:=List.getElem?_eq_getElem hi;rw[Z]at this;exact(Option.some.inj this).symm
     rw[if_pos rfl,this];exact⟨M,X,R,P2K,L,v⟩
    ·rw[if_neg p];obtain⟨x1,y1,m,f2,u,f4⟩:=h.keys A.toList[i] (List.getElem_mem hi);refine⟨x1,y1,m,?_,u,f4⟩;unfold incr;rw[if_neg,f2];rintro⟨rfl,rfl⟩
     have z:j<A.toList.length:=by
      rcases Nat.lt_or_ge j A.toList.length with hh | hh
      ·exact hh
      ·rw[List.getElem?_eq_none hh]at Z;cases Z
     have:A.toList[j]=H:=by
      have:=List.getElem?_eq_getElem z;rw[Z]at this;exact(Option.some.inj this).symm
     have G:(A.toList.map (·.key))[j]'(T8N)=(A.toList.map (·.key))[i]'(w3z):=by
      simp only[List.getElem_map,this,m,R]
     rcases Nat.lt_or_gt_of_ne p with hlt | hlt
     ·exact(List.pairwise_iff_getElem.1 Y j i T8N w3z hlt) G
     ·exact(List.pairwise_iff_getElem.1 Y i j w3z T8N hlt) G.symm
   ·unfold incr;rw[if_neg]
    ·refine h.none a1 b1 fun x J q=>?_
     have:pk a1 b1∈(A.modify j (fun e=>{ e with val:=.int .i64 (c M X+1) })).toList.map (·.key):=by
      rw[modify_keys j (fun e=>{ e with val:=.int .i64 (c M X+1) }) (fun _ _=>rfl)];exact List.mem_map.2 ⟨x,J,q⟩
     exact E5S
    ·rintro⟨rfl,rfl⟩
     have:pk a1 b1∈(A.modify j (fun e=>{ e with val:=.int .i64 (c a1 b1+1) })).toList.map (·.key):=by
      rw[modify_keys j (fun e=>{ e with val:=.int .i64 (c a1 b1+1) }) (fun _ _=>rfl)];exact List.mem_map.2 ⟨H,g,R⟩
     exact E5S
open Go.RowKit Go.MapKept Go.WideMaps
open Go.ChangeMaps (setBlock)
theorem x4C(B:Nat)(w:World)(r:Nat)(o:Obj)(h:B<=r):Below B w (setBlock w r o):=by
 refine⟨rfl,rfl,rfl,?_,fun k G=>?_⟩
 ·show w.heap.size<=(w.heap.setIfInBounds r o).size;simp
 ·show(w.heap.setIfInBounds r o)[k]?=w.heap[k]?;rw[Array.getElem?_setIfInBounds_ne f6J]
theorem y2C(w:World)(r:Nat)(o:Obj)(h:r<w.heap.size):(setBlock w r o).heap[r]?=some o:=by
 show(w.heap.setIfInBounds r o)[r]?=some o;simp[h]
theorem x1Z(w:World){r k:Nat}(o:Obj)(h:k≠r):(setBlock w r o).heap[k]?=w.heap[k]?:=by
 show(w.heap.setIfInBounds r o)[k]?=w.heap[k]?;rw[Array.getElem?_setIfInBounds_ne (fun e=>h e.symm)]
theorem cell_far{w:World}{r L i:Nat}{v:Value}(o:Obj)(h:L≠r)(I:w.cell? ⟨L,i,none⟩=some v):(setBlock w r o).cell? ⟨L,i,none⟩=some v:=by
 unfold World.cell? at *;rw[x1Z w o h];exact I
structure But(r:Nat)(w w':World):Prop where
 size:w'.heap.size=w.heap.size
 far:∀k,k≠r->w'.heap[k]?=w.heap[k]?
 below:∀B,B<=r->Below B w w'
def MixB(w:World)(r:Nat)(c:ByteArray->ByteArray->Int)(a b:ByteArray)(e:Ending)(w':World):Prop:=e=.returned (.bool (decide (0<c a b)))/\MAt w' r (incr c a b)/\But r w w'
theorem y8I(L r:Nat)(a b:ByteArray)(c:ByteArray->ByteArray->Int)(w:World)(j:w.cell? ⟨L,11,none⟩=some (.map (some r)))(s:L≠r)(U:MAt w r c)(ha:Sh a)(C:Sh b)(I:0<=c a b/\c a b<=100000) :
  Calls prog 215 #[.pointer (some ⟨L,0,none⟩),.string a,.string b] w (MixB w r c a b):=by
 obtain⟨A,clock,T,R⟩:=U
 have u:r<w.heap.size:=by
  rcases Nat.lt_or_ge r w.heap.size with hh | hh
  ·exact hh
  ·rw[Array.getElem?_eq_none hh]at T;cases T
 have i:w.drew.heap[r]?=some (.map A clock):=T;obtain⟨m,M,F,N,ab,f⟩:=y9I i R ha C;have z:(setBlock w.drew r (.map M F)).heap[r]?=some (.map M F):=y2C _ _ _ u;obtain⟨y,H,e3,p⟩:=f _ z;have X:(setBlock (setBlock w.drew r (.map M F)) r (.map y H)).heap[r]?=some (.map y H):=y2C _ _ _ (by simpa[setBlock]using u);have Z:=x9C i R ha C;have v:=x9C z ab ha C;have l2:=x9C X p ha C;have g:w.drew.cell? ⟨L,11,none⟩=some (.map (some r)):=j;have W:=cell_far (.map M F) s g;have q:=cell_far (.map y H) s W
 have Y:But r w (setBlock (setBlock w.drew r (.map M F)) r (.map y H)):=⟨by simp[setBlock],fun k G=>by rw[x1Z _ _ G,x1Z _ _ G];rfl,fun B l=>by
  have D:Below B w w.drew:=⟨rfl,rfl,rfl,l0r _,fun _ _=>rfl⟩
  exact(D.trans (x4C B w.drew r _ l)).trans (x4C B _ r _ l)⟩
 have HF:MixB w r c a b (.returned (.bool (decide (0<c a b)))) (setBlock (setBlock w.drew r (.map M F)) r (.map y H)):=⟨rfl,⟨y,H,X,p⟩,Y⟩;have d:incr c a b a b=c a b+1:=(by unfold incr;rw[if_pos ⟨rfl,rfl⟩]);rw[d]at l2;unfold pk goInt at *;generalize hn:c a b=n at *;have t:IntKind.i64.wrap (n+1)=n+1:=IntWalk.i64_in _ ⟨f6J,f6J⟩;have J:decide (1<n+1)=decide (0<n):=decide_eq_decide.2 f6J;clear T R u i f ab p z X Y d hn;generalize X:setBlock (setBlock w.drew r (.map M F)) r (.map y H)=W2,z:setBlock w.drew r (.map M F)=W1 at *;clear z X;go_enter func215,ntmps215;go_wp2;refine wp_region_held_drew (S:=fun w'=>w'.cell? ⟨L,11,none⟩=some (.map (some r))) f4y (g) (fun hHeld=>?_);refine tk9 0 (.pointer (some ⟨L,0,none⟩)) ?_;refine tk9 1 (.pointer (some ⟨L,0,none⟩)) ?_;refine tk9 2 (.pointer (some ⟨L,11,none⟩)) ?_;refine tk9 3 (.map (some r)) ?_;refine tk9 4 (.string a) ?_;refine tk9 5 (.string b) ?_;refine tk9 6 (.agg #[.string a,.string b]) ?_;refine wpAnyH_ready (rs:=[7,9]) f4y M7N ?_;refine AllReadyH.cons (o:=⟨some 14,_,_,_,_,_⟩) rfl (fun K hK=>?_) (AllReadyH.cons (o:=⟨some 16,_,_,_,_,_⟩) rfl (fun K hK=>?_) AllReadyH.nil)
 ·go_simp;refine hK.out _ _ ?_ (fun hHeld=>?_)
  ·exact g
  clear hK K
  try simp only[Act.put,sa9,sb9,sc9]
  refine tk9 8 (.int .i64 (n+1)) ?_;refine rd9 9 fun K hK=>?_;go_simp;refine hK.out _ _ ?_ (fun hHeld=>?_)
  ·exact W
  clear hK K
  try simp only[Act.put,sa9,sb9,sc9]
  refine tk9 10 (.int .i64 (m:Int)) ?_;exact S0H
 ·go_simp;refine hK.out _ _ ?_ (fun hHeld=>?_)
  ·exact W
  clear hK K
  try simp only[Act.put,sa9,sb9,sc9]
  refine tk9 10 (.int .i64 (m:Int)) ?_;refine rd9 7 fun K hK=>?_;go_simp;refine hK.out _ _ ?_ (fun hHeld=>?_)
  ·exact W
  clear hK K
  try simp only[Act.put,sa9,sb9,sc9]
  refine tk9 8 (.int .i64 (n+1)) ?_;exact S0H
def x1C:List Run->List Value
 | []=>[]
 | x::l=>.int .i64 x.lo::.int .i64 x.hi::.int .i64 x.s::x1C l
theorem x8b:∀(l:List Run) (x:Run),x1C (l++[x])=x1C l++[.int .i64 x.lo,.int .i64 x.hi,.int .i64 x.s]
 | [],x=>rfl
 | y::l,x=>by simp[x1C,x8b l x]
theorem y0A:∀(l:List Run) (i:Nat),i<l.length->(x1C l)[i*3]?=some (.int .i64 (l.getD i Run.none).lo)/\(x1C l)[i*3+1]?=some (.int .i64 (l.getD i Run.none).hi)/\(x1C l)[i*3+2]?=some (.int .i64 (l.getD i Run.none).s)
 | [],i,h=>by simp at h
 | x::l,0,_=>by simp[x1C]
 | x::l,i+1,h=>by
  have:=y0A l i S4r;rw[(f6J:(i+1)*3=i*3+1+1+1)];simpa[x1C]using this
def Ln(w:World)(B:Nat)(v:Value)(xs:List Run):Prop:=xs.length<=100000/\w.ownsRow B 251 3 v xs.length (x1C xs)
theorem Ln.rns{w:World}{B:Nat}{v:Value}{xs:List Run}(h:Ln w B v xs):Rns w v xs:=by
 obtain⟨D,Z,R⟩:=h;refine⟨f6J,?_⟩;rcases R with⟨rfl,T⟩ | ⟨g,M,C,rfl,_,Y,G,I,X,H⟩
 ·grind
 ·refine .inr ⟨g,0,M,rfl,G,by unfold maxLen at I;exact f6J,fun i hi=>?_⟩
  have S:∀j (v:Value),(x1C xs)[j]?=some v->w.cell? ⟨g,j,Option.none⟩=some v:=fun j v N=>by
   rw[<- H]at N;have z:j<xs.length*3:=(by grind);rw[List.getElem?_take_of_lt z,Array.getElem?_toList]at N;have F:j<C.size:=(by rw[X];exact f6J);rw[cell_of (j:=j) Y F];simpa[Array.getD,F,Array.getElem?_eq_getElem F]using N
  obtain⟨A,J,d⟩:=y0A xs i hi;exact⟨by rw[Nat.zero_add];exact S _ _ A,by rw[Nat.zero_add];exact S _ _ J,by rw[Nat.zero_add];exact S _ _ d⟩
theorem x5o{w:World}{B e D n:Nat}{v:Value}{us:List Value}(h:w.ownsRow B e D v n us){k:Nat}(G:v.ownBlock=some k):k<w.heap.size/\B<=k:=by
 rcases h.2 with⟨rfl,_⟩ | ⟨g,M,A,rfl,C,Y,_⟩
 ·cases G
 ·cases G;refine⟨?_,C⟩;rcases Nat.lt_or_ge g w.heap.size with hh | hh
  ·exact hh
  ·grind
theorem alloc_at(w:World)(o:Obj):(w.alloc o).heap[w.heap.size]?=some o:=by
 show(w.heap.push o)[w.heap.size]?=_;simp
structure LG(w:World)(B L r:Nat)(vs:Nat->Value)(fs:Nat->List Run)(c:ByteArray->ByteArray->Int):Prop where
 bl:B<=L
 br:B<=r
 lr:L≠r
 blk:∃cur,w.heap[L]?=some (.cells cur 243 (0,0))/\cur.size=12/\(∀f,f<11->cur.getD f undef=vs f)/\cur.getD 11 undef=.map (some r)
 map:MAt w r c
 rows:∀f,f<11->Ln w B (vs f) (fs f)
 far:∀f,f<11->∀k,(vs f).ownBlock=some k->k≠L/\k≠r
 apart:∀f g,f<11->g<11->f≠g->∀k,(vs f).ownBlock=some k->(vs g).ownBlock≠some k
theorem lt_of_block{w:World}{k:Nat}{o:Obj}(h:w.heap[k]?=some o):k<w.heap.size:=by grind
theorem LG.keep{w W:World}{B L r:Nat}{l:Nat->Value}{J:Nat->List Run}{c:ByteArray->ByteArray->Int}(h:LG w B L r l J c)(G:∀k,k<w.heap.size->W.heap[k]?=w.heap[k]?):LG W B L r l J c:=by
 obtain⟨C,D,Z,R,H⟩:=h.blk;obtain⟨A,clock,p,F⟩:=h.map
 exact⟨h.bl,h.br,h.lr,⟨C,by rw[G L (lt_of_block D)];exact D,Z,R,H⟩,⟨A,clock,by rw[G r (lt_of_block p)];exact p,F⟩,
  fun f z=>⟨(h.rows f z).1,x0u (h.rows f z).2 fun g Y=>G g (x5o (h.rows f z).2 Y).1⟩,h.far,h.apart⟩
theorem LG.on{w W:World}{B L r:Nat}{l:Nat->Value}{J:Nat->List Run}{c:ByteArray->ByteArray->Int}(h:LG w B L r l J c)(C:Bw w W):LG W B L r l J c:=h.keep C.block
theorem LG.cell{w:World}{B L r:Nat}{l:Nat->Value}{J:Nat->List Run}{c:ByteArray->ByteArray->Int}(h:LG w B L r l J c){f:Nat}(z:f<11):w.cell? ⟨L,f,none⟩=some (l f):=by
 obtain⟨A,D,Z,R,H⟩:=h.blk;rw[cell_of (j:=f) D f6J,R f z]
theorem LG.mcell{w:World}{B L r:Nat}{l:Nat->Value}{J:Nat->List Run}{c:ByteArray->ByteArray->Int}(h:LG w B L r l J c):w.cell? ⟨L,11,none⟩=some (.map (some r)):=by
 obtain⟨A,D,Z,R,H⟩:=h.blk;rw[cell_of (j:=11) D f6J,H]
def upd{α:Type}(g:Nat->α)(f:Nat)(v:α):Nat->α:=fun k=>if k=f then v else g k
theorem upd_same{α:Type}(g:Nat->α)(f:Nat)(v:α):upd g f v f=v:=if_pos rfl
theorem x1w{α:Type}(g:Nat->α){f k:Nat}(v:α)(h:k≠f):upd g f v k=g k:=if_neg h
theorem LG.mixed{w W:World}{B L r:Nat}{l:Nat->Value}{J:Nat->List Run}{c c':ByteArray->ByteArray->Int}(h:LG w B L r l J c)(U:MAt W r c')(C:But r w W):LG W B L r l J c':=by
 obtain⟨A,D,Z,R,H⟩:=h.blk
 exact⟨h.bl,h.br,h.lr,⟨A,by rw[C.far L h.lr];exact D,Z,R,H⟩,U,
  fun f z=>⟨(h.rows f z).1,x0u (h.rows f z).2 fun g Y=>C.far g (h.far f z g Y).2⟩,h.far,h.apart⟩
theorem LG.more{w W y:World}{B L r:Nat}{l:Nat->Value}{J:Nat->List Run}{c:ByteArray->ByteArray->Int}{f gg cap:Nat}{x:Run}(h:LG w B L r l J c)(z:f<11)(d:(J f).length<100000)
  (t:∀k,k<w.heap.size->W.heap[k]?=w.heap[k]?) (I:w.heap.size<=W.heap.size) (Y:W.grownBy y (l f).ownBlock) (q:(l f).ownBlock=some gg\/gg=W.heap.size)
  (af:y.ownsRow B 251 3 (.slice (some ⟨gg,0,none⟩) ((J f).length+1) cap) ((J f).length+1) (x1C (J f)++[.int .i64 x.lo,.int .i64 x.hi,.int .i64 x.s])) :
  LG (y.setCell ⟨L,f,none⟩ (.slice (some ⟨gg,0,none⟩) ((J f).length+1) cap)) B L r (upd l f (.slice (some ⟨gg,0,none⟩) ((J f).length+1) cap)) (upd J f (J f++[x])) c:=by
 obtain⟨ag,D,Z,R,H⟩:=h.blk;obtain⟨A,clock,p,h6⟩:=h.map;have j:=lt_of_block D;have u:=lt_of_block p;have ai:some L≠(l f).ownBlock:=fun e=>(h.far f z L e.symm).1 rfl;have b:some r≠(l f).ownBlock:=fun e=>(h.far f z r e.symm).2 rfl;have T:gg≠L:=(by grind);have X:gg≠r:=(by grind);have C:∀k,k<w.heap.size->some k≠(l f).ownBlock->y.heap[k]?=w.heap[k]?:=fun k G hn=>(Y.block k f6J hn).trans (t k G);have n:y.heap[L]?=some (.cells ag 243 (0,0)):=(C L j ai).trans D;have ab:∀k,k≠L->(y.setCell ⟨L,f,none⟩ (.slice (some ⟨gg,0,none⟩) ((J f).length+1) cap)).heap[k]?=y.heap[k]?:=fun k G=>x0g _ G;refine⟨h.bl,h.br,h.lr,⟨_,x0f n _,by simpa using Z,fun g v=>?_,?_⟩,⟨A,clock,by rw[ab r (fun e=>h.lr e.symm),C r u b];exact p,h6⟩,fun g v=>?_,fun g v k G=>?_,fun i U ae m F k G=>?_⟩
 ·by_cases e:g=f
  ·subst e;rw[upd_same];simp[Array.getD,Z,(f6J:g<12)]
  ·rw[x1w _ _ e,<- R g v];simp[Array.getD,Z,(f6J:g<12),Array.getElem_setIfInBounds_ne _ (fun S=>e S.symm)]
 ·rw[<- H];simp[Array.getD,Z,Array.getElem_setIfInBounds_ne _ (f6J:f≠11)]
 ·by_cases e:g=f
  ·subst e;rw[upd_same,upd_same];refine⟨P8P,?_⟩;rw[x8b,(M7N:(J g++[x]).length=(J g).length+1)]
   exact x0u af fun k G=>by
    have:gg=k:=T4x;subst this;exact ab gg T
  ·rw[x1w _ _ e,x1w _ _ e];refine⟨(h.rows g v).1,x0u (h.rows g v).2 fun k G=>?_⟩;rw[ab k (h.far g v k G).1];exact C k (x5o (h.rows g v).2 G).1 (fun S=>h.apart g f v z e k G S.symm)
 ·by_cases e:g=f
  ·subst e;rw[upd_same]at G;have:gg=k:=T4x;subst this;exact⟨T,X⟩
  ·rw[x1w _ _ e]at G;exact h.far g v k G
 ·have M:∀g,g<11->g≠f->(l g).ownBlock≠some gg:=fun g v hn e=>by
   rcases q with S | S
   ·exact h.apart g f v z hn gg e S
   ·have:=(x5o (h.rows g v).2 e).1;omega
  by_cases N:i=f
  ·subst N;rw[upd_same]at G;have:gg=k:=T4x;subst this;rw[x1w _ _ (fun e=>F e.symm)];exact M U m (fun e=>F e.symm)
  ·rw[x1w _ _ N]at G;by_cases e2:U=f
   ·subst e2;rw[upd_same];intro e;have:gg=k:=G5X;subst this;exact M i ae N G
   ·rw[x1w _ _ e2];exact h.apart i U ae m F k G
abbrev baseS:ByteArray:=⟨#[97,98,99,100,101,102,103,104,105,106,107,108,109,110,111,112,113,114,115,116,117,118,119,120,121,122,48,49,50,51,52,53,54,55,56,57,45,46]⟩
def baseL:List Int:=[97,98,99,100,101,102,103,104,105,106,107,108,109,110,111,112,113,114,115,116,117,118,119,120,121,122,48,49,50,51,52,53,54,55,56,57,45,46]
theorem x7I:nums baseS=baseL:=M3j
theorem x4A:baseS.size=38:=rfl
theorem Cn.baseA_iff(l:List Rec):∀(k:Nat) (c:Int),Cn.baseA l k c=true↔∀i:Nat,i<k->Cn.baseOf (c+i)=true->Cn.plain l (c+i)=true
 | 0,c=>by simp[Cn.baseA]
 | k+1,c=>by
  rw[Cn.baseA,Bool.and_eq_true,Cn.baseA_iff l k (c+1)];constructor
  ·rintro⟨D,Z⟩ i hi C;rcases Nat.eq_zero_or_pos i with rfl | h
   ·have e:c+((0:Nat):Int)=c:=M7L;rw[e]at C ⊢;simpa[C]using D
   ·have:=Z (i-1) f6J;rw[(f6J:c+1+((i-1:Nat):Int)=c+i)]at this;exact this C
  ·intro h;refine⟨?_,fun i hi C=>?_⟩
   ·have:=h 0 f6J;rw[(M7L:c+((0:Nat):Int)=c)]at this;cases C:Cn.baseOf c
    ·rfl
    ·simpa using this C
   ·have:=h (i+1) f6J;rw[(f6J:c+1+(i:Int)=c+((i+1:Nat):Int))]at *;exact this C
theorem z3Y:∀i:Nat,i<78->Cn.baseOf (45+(i:Int))=true->(45+(i:Int))∈baseL:=M3j
theorem base_of:∀x∈baseL,Cn.baseOf x=true/\45<=x/\x<123:=M3j
theorem z0K(l:List Rec):Cn.baseA l 78 45=baseL.all (Cn.plain l):=by
 rw[Bool.eq_iff_iff,Cn.baseA_iff,List.all_eq_true];constructor
 ·intro h x J;obtain⟨D,Z,R⟩:=base_of x J;have:=h (x-45).toNat f6J;rw[(f6J:(45:Int)+((x-45).toNat:Int)=x)]at this;exact this D
 ·intro h i hi C;exact h _ (z3Y i hi C)
theorem z6M{p:Int->Bool}{xs:List Int}:(∀j,j<xs.length->p (xs.getD j 0)=true)->xs.all p=true:=fun h=>by
 rw[List.all_eq_true];intro x J;obtain⟨j,A,rfl⟩:=List.getElem_of_mem J;have:=h j A;simpa[List.getD,A]using this
theorem z6N{p:Int->Bool}{xs:List Int}{j:Nat}(A:j<xs.length)(h:p (xs.getD j 0)=false):xs.all p=false:=by grind
theorem y6x:∀j,j<38->45<=baseL.getD j 0/\baseL.getD j 0<123:=M3j
def y2M(w:World)(l:List Rec)(pos:Nat)(wr:World):Prop:=pos<=38/\wr.heap[w.heap.size]?=some (.stringIter baseS pos)/\Below w.heap.size w wr/\∀j,j<pos->Cn.plain l (baseL.getD j 0)=true
theorem y1Y(v:Value)(l:List Rec)(w:World)(Y:Glob w)(N:Rcs w v l):Calls prog 85 #[v] w (x0c w (Cn.baseA l 78 45)):=by
 rw[z0K];have KF:Hid (∀W,Bw w W->Calls prog 134 #[.int .i64 1] W (IntB W 1)):=fun W hb=>x1n 1 W (Y.on hb) w5p;have s:Hid (∀W c,Bw w W->Rune c->Calls prog 133 #[v,.int .i64 1,.int .i32 c] W (IntB W (Cn.find l 1 c))):=fun W c hb hc=>x8K v l 1 c W (Y.on hb) (N.below hb) w5p hc;have HH:=O (fun c=>hit_at N 1 c);have aw:Hid (y2M w l 0 (w.iter baseS 0)):=⟨f6J,World.iter_heap w baseS 0,(b0r).alloc (l0r _) _,fun j hj=>f6J⟩;have ag:Hid ((∀j,j<38->Cn.plain l (baseL.getD j 0)=true)->baseL.all (Cn.plain l)=true):=fun h=>z6M h;have aq:Hid (∀j,j<38->Cn.plain l (baseL.getD j 0)=false->baseL.all (Cn.plain l)=false):=fun j hj h=>z6N hj h;have d:=N.1;obtain⟨ao,aA,rfl,f,aB⟩:=N.shape;generalize baseL.all (Cn.plain l)=R at *;go_enter func85,ntmps85;go_wp2;go_loopw[4,5] (fun _ _ wr=>∃pos:Nat,Hid (y2M w l pos wr)) (fun _ _ wr=>38-wr.iterPos w.heap.size)
 case atStart=>exact⟨0,aw⟩
 case round =>
  obtain⟨pos,am⟩:=hrel;obtain⟨aD,hit,A,S⟩:=V am;have aF:w.heap.size<wr.heap.size:=(Array.getElem?_eq_some_iff.1 hit).1;by_cases hp:pos<38
  ·obtain⟨aG,aH⟩:=y6x pos hp;obtain⟨g,d2⟩:=y7f baseS pos (by rw[x4A];exact hp) (by rw[x7I];exact f6J);rw[x7I]at g;have n:=fun ty=>Lib.run_next_any_at (P:=prog) wr w.heap.size baseS pos ty hit (by rw[x4A];exact hp);rw[g,d2]at n;have J:=Lib.iterAt_heap wr w.heap.size baseS pos (pos+1) hit;have ab:=Lib.below_iterAt A (k:=w.heap.size) (l0r _) baseS (pos+1)
   have ai:38-(pos+1)<38-wr.iterPos w.heap.size:=by
    simp only[World.iterPos,hit];omega
   have p:w.heap.size<(wr.iterAt w.heap.size baseS (pos+1)).heap.size:=(by grind);have m:=O S;have X:Rune (baseL.getD pos 0):=(by unfold Rune;exact f6J);have u:=V HH (baseL.getD pos 0);have i:=O (V KF _ ab);have ae:Hid (Cn.plain l (baseL.getD pos 0)=match Cn.hit l 1 (baseL.getD pos 0)with | some r=>decide (r.kind=1) | none=>false):=rfl;have G:=O (V aq pos hp);have B:=O (fun W t=>V s W (baseL.getD pos 0) t X)
   have ar:Hid (∀W,(wr.iterAt w.heap.size baseS (pos+1)).heap.size<=W.heap.size->W.heap[w.heap.size]?=some (.stringIter baseS (pos+1))->Bw w W->Cn.plain l (baseL.getD pos 0)=true->y2M w l (pos+1) W):=fun W _ t hb y=>⟨f6J,t,hb,fun j hj=>by
    rcases Nat.lt_or_ge j pos with h | h
    ·exact V m j h
    ·obtain rfl:j=pos:=by omega
     exact y⟩
   generalize wr.iterAt w.heap.size baseS (pos+1)=W2,baseL.getD pos 0=c at *;rcases u with⟨D,h2⟩ | ⟨k,b,aI,az,D,aC,h2,aj,hl,hm,hr,hf⟩
   ·obtain rfl:R=false:=V G (by rw[V ae,h2]);rw[D]at B;go_wp2_with fail;refine c0m i fun q U=>?_;have z:=x0b ab U;have K2:=O (V B q z);go_wp2_with fail;refine c0m K2 fun x af=>?_;have T:x0c w false (.returned (.bool false)) x:=⟨rfl,x0b z af⟩;go_wp2;go_ret;exact T
   ·simp only[Value.slice.injEq]at aj;obtain⟨rfl,_,rfl⟩:=aj;have y:Cn.plain l c=decide ((l.getD k Cn.none).kind=1):=(by rw[V ae,h2]);rw[D]at B;have HR:=O hr;generalize l.getD k Cn.none=r at *;have ae:=O y;go_wp2_with fail;refine c0m i fun q U=>?_;have z:=x0b ab U;have K2:=O (V B q z);go_wp2_with fail;refine c0m K2 fun x af=>?_;have Z:=x0b z af;have x0:=((V HR).below Z).kind;have C:Bw W2 x:=x0b U af;have F:x.heap[w.heap.size]?=some (.stringIter baseS (pos+1)):=(by rw[C.block _ p];exact J);have ay:=C.size;have I:=O (V ar x ay F Z)
    have L:38-x.iterPos w.heap.size<38-wr.iterPos w.heap.size:=by
     simp only[World.iterPos,F];simp only[World.iterPos]at ai;exact ai
    by_cases M:r.kind=1
    ·have H:Hid (y2M w l (pos+1) x):=V I (by rw[V ae,M];rfl);rw[M]at x0;go_wp2
     go_roundw
     case rel=>exact⟨pos+1,H⟩
     case measure=>exact L
    ·obtain rfl:R=false:=V G (by rw[V ae];exact d0f M);have T:x0c w false (.returned (.bool false)) x:=⟨rfl,Z⟩;have q1:(r.kind != 1)=true:=(by simp[M]);exact U7G
  ·obtain rfl:pos=38:=f6J;obtain rfl:R=true:=V ag S;have T:x0c w true (.returned (.bool true)) wr:=⟨rfl,A⟩;have n:=fun ty=>Lib.run_next_end_at (P:=prog) wr w.heap.size baseS 38 ty hit (by rw[x4A];exact f6J);go_wp2;go_ret;exact T
theorem Rown.far7{w W:World}{B:Nat}{v:Value}{ps:List (Rec×Value)}(h:Rown w B v ps)(G:∀k,B<=k->k<w.heap.size->W.heap[k]?=w.heap[k]?):Rown W B v ps :=
 ⟨x0u h.1 fun g Y=>G g (x5o h.1 Y).2 (x5o h.1 Y).1,fun p A=>(h.2 p A).keep fun g Y=>G g (x5o (h.2 p A).2.2 Y).2 (x5o (h.2 p A).2.2 Y).1⟩
theorem Rown.on7{w W:World}{B:Nat}{v:Value}{ps:List (Rec×Value)}(h:Rown w B v ps)(C:Bw w W):Rown W B v ps:=h.far7 fun k _ G=>C.block k G
def putR(W:World)(g off:Nat)(q:Rec×Value):World:=(((((((W.setCell ⟨g,off,none⟩ (.int .i64 q.1.kind)).setCell ⟨g,off+1,none⟩ (.int .i64 q.1.lo)).setCell ⟨g,off+2,none⟩ (.int .i64 q.1.hi)).setCell ⟨g,off+3,none⟩ (.int .i64 q.1.n)).setCell ⟨g,off+4,none⟩ q.2).setCell ⟨g,off+5,none⟩ (.string q.1.name)).setCell ⟨g,off+6,none⟩ (.string q.1.other)).setCell ⟨g,off+7,none⟩ (.float .f64 q.1.wt)
def set8(c:Array Value)(off:Nat)(q:Rec×Value):Array Value:=(((((((c.setIfInBounds off (.int .i64 q.1.kind)).setIfInBounds (off+1) (.int .i64 q.1.lo)).setIfInBounds (off+2) (.int .i64 q.1.hi)).setIfInBounds (off+3) (.int .i64 q.1.n)).setIfInBounds (off+4) q.2).setIfInBounds (off+5) (.string q.1.name)).setIfInBounds (off+6) (.string q.1.other)).setIfInBounds (off+7) (.float .f64 q.1.wt)
theorem y9M(c:Array Value)(off:Nat)(q:Rec×Value):(set8 c off q).size=c.size:=by simp[set8]
theorem y9L(c:Array Value)(off:Nat)(q:Rec×Value)(h:off+8<=c.size)(k:Nat):(set8 c off q)[k]?=if off<=k/\k<off+8 then(x0y q)[k-off]? else c[k]?:=by
 unfold set8;by_cases G:off<=k/\k<off+8
 ·rw[if_pos G];obtain⟨j,rfl⟩:∃j,k=off+j:=⟨k-off,f6J⟩;rw[Nat.add_sub_cancel_left];obtain rfl | rfl | rfl | rfl | rfl | rfl | rfl | rfl:j=0\/j=1\/j=2\/j=3\/j=4\/j=5\/j=6\/j=7:=by omega
  all_goals simp[Array.getElem?_setIfInBounds,x0y];try omega
 ·rw[if_neg G];simp only[Array.getElem?_setIfInBounds];rw[if_neg f6J,if_neg f6J,if_neg f6J,if_neg f6J,if_neg f6J,if_neg f6J,if_neg f6J,if_neg f6J]
theorem y9m{W:World}{g off:Nat}{A:Array Value}{e:TypeId}(h:W.heap[g]?=some (.cells A e (0,0)))(q:Rec×Value):(putR W g off q).heap[g]?=some (.cells (set8 A off q) e (0,0)):=by
 have x:=x0f (j:=off+7) (x0f (j:=off+6) (x0f (j:=off+5) (x0f (j:=off+4) (x0f (j:=off+3) (x0f (j:=off+2) (x0f (j:=off+1) (x0f (j:=off) h (.int .i64 q.1.kind)) (.int .i64 q.1.lo)) (.int .i64 q.1.hi)) (.int .i64 q.1.n)) q.2) (.string q.1.name)) (.string q.1.other)) (.float .f64 q.1.wt);unfold putR set8;exact x
theorem x9r{W:World}{g off k:Nat}(q:Rec×Value)(h:k≠g):(putR W g off q).heap[k]?=W.heap[k]?:=by
 unfold putR;rw[x0g _ h,x0g _ h,x0g _ h,x0g _ h,x0g _ h,x0g _ h,x0g _ h,x0g _ h]
theorem x8g{w W:World}{B g off:Nat}(h:Below B w W)(Y:B<=g)(q:Rec×Value):Below B w (putR W g off q) :=
 x0d (x0d (x0d (x0d (x0d (x0d (x0d (x0d h Y _) Y _) Y _) Y _) Y _) Y _) Y _) Y _
theorem Rown.cells8{w:World}{B g cap i:Nat}{ps:List (Rec×Value)}(h:Rown w B (.slice (some ⟨g,0,none⟩) ps.length cap) ps)(hi:i<ps.length) :
  ∃(r:Rec) (ao:Option Addr) (len cp:Nat),ps[i]=(r,.slice ao len cp)/\w.cell? ⟨g,i*8,none⟩=some (.int .i64 r.kind)/\w.cell? ⟨g,i*8+1,none⟩=some (.int .i64 r.lo)/\w.cell? ⟨g,i*8+2,none⟩=some (.int .i64 r.hi)/\w.cell? ⟨g,i*8+3,none⟩=some (.int .i64 r.n)/\w.cell? ⟨g,i*8+4,none⟩=some (.slice ao len cp)/\w.cell? ⟨g,i*8+5,none⟩=some (.string r.name)/\w.cell? ⟨g,i*8+6,none⟩=some (.string r.other)/\w.cell? ⟨g,i*8+7,none⟩=some (.float .f64 r.wt)/\∀j,w.frozen? ⟨g,j,none⟩=false:=by
 obtain⟨ao,cp,N,_,_⟩:=(h.2 ps[i] (List.getElem_mem hi)).sk.shape
 have I:∀j u,j<8->(x0y ps[i])[j]?=some u->w.cell? ⟨g,i*8+j,none⟩=some u:=by
  intro j u C W;have e:=h.1.cells (g:=g) rfl (i*8+j) u (by rw[x1v ps i j hi C];simpa[List.getD,hi]using W);rw[addr_add,Nat.zero_add]at e;exact e
 refine⟨ps[i].1,ao,_,cp,Prod.ext rfl N,I 0 _ f6J rfl,I 1 _ f6J rfl,I 2 _ f6J rfl,I 3 _ f6J rfl,N ▸ I 4 _ f6J rfl,I 5 _ f6J rfl,I 6 _ f6J rfl,I 7 _ f6J rfl,fun j=>?_⟩;rcases h.1.2 with⟨e,_⟩ | ⟨c,J,A,e,_,t,_⟩
 ·cases e
 ·simp only[Value.slice.injEq,Option.some.injEq,Addr.mk.injEq,and_true,true_and]at e;rw[e.1];exact x0e t
section
variable {P:Program} {ops:Array Oper} {o:Oper} {a:Act} {w w':World} {K:Act->World->Prop} {Q:Exit->Act->World->Prop} {E:Prop}
theorem y5S(C:o.guard=none)(N:TypeId)(x:Operand)(y:o.op=.load N x)(A v:Value)(J:a.eval x=A)(H:(Instr.loadAt N A).run P w=.ok v w)(h:K (a.put o.dst v) w) :
  if Region.wanted o (yielded ops a.tmps)=true then Oper.wp P o a w K Q else E:=by
 rw[if_pos f7d];unfold Oper.wp execOp;simp only[y,J,Sem.run_bind,H,Result.andThen_ok];exact h
theorem x7a(C:o.guard=none)(N:TypeId)(x y:Operand)(B:o.op=.store N x y)(A v:Value)(J:a.eval x=A)(hy:a.eval y=v)(H:(Instr.storeAt N A v).run P w=.ok () w')(h:K (a.put o.dst undef) w') :
  if Region.wanted o (yielded ops a.tmps)=true then Oper.wp P o a w K Q else E:=by
 rw[if_pos f7d];unfold Oper.wp execOp;simp only[B,J,hy,Sem.run_bind,H,Result.andThen_ok];exact h
end
theorem z8U{W:World}{g off:Nat}{B:Array Value}(h:W.heap[g]?=some (.cells B 67 (0,0)))(X:off+8<=B.size)(r:Rec)(ao:Option Addr)(len cp:Nat) :
  (Instr.storeAt 67 (.pointer (some ⟨g,off,none⟩)) (recV r (.slice ao len cp))).run prog W=.ok () (putR W g off (r,.slice ao len cp)):=by
 have D:=x0f (j:=off) h (.int .i64 r.kind);have Z:=x0f (j:=off+1) D (.int .i64 r.lo);have R:=x0f (j:=off+2) Z (.int .i64 r.hi);have H:=x0f (j:=off+3) R (.int .i64 r.n);have p:=x0f (j:=off+4) H (.slice ao len cp);have F:=x0f (j:=off+5) p (.string r.name);have x:=x0f (j:=off+6) F (.string r.other);have Y:=cell_of (j:=off) h f6J;have L:=cell_of (j:=off+1) D P8P;have z:=cell_of (j:=off+2) Z P8P;have s:=cell_of (j:=off+3) R P8P;have M:=cell_of (j:=off+4) H P8P;have c:=cell_of (j:=off+5) p P8P;have C:=cell_of (j:=off+6) F P8P;have G:=cell_of (j:=off+7) x P8P;have b:=x0e (j:=off) h;have N:=x0e (j:=off+1) D;have S:=x0e (j:=off+2) Z;have u:=x0e (j:=off+3) R;have U:=x0e (j:=off+4) H;have I:=x0e (j:=off+5) p;have J:=x0e (j:=off+6) F;have A:=x0e (j:=off+7) x;have l:∀W a m,(store a (.float .f64 r.wt) m).run prog W=stored prog W a (.float .f64 r.wt) m:=fun W a m=>run_store prog W a _ m rfl;unfold recV putR;simp[Instr.storeAt,go_sem,Tryz.sizeOf67,Addr.add,l,stored,Y,L,z,s,M,c,C,G,b,N,S,u,U,I,J,A]

import Derived.Test.YtbmckadcjdedcaaGreatDoorF11
import Derived.Test.YtbmckadcjdedcaaGreatDoorF7
import Derived.DeepKeys4
import Derived.WideKeyEntry
import Derived.Deep.AppendLies
import Derived.WalkMore
import Derived.Deep.RegionHeld3
set_option maxHeartbeats 4000000
set_option maxRecDepth 20000
namespace Go.Proofs.YtbmckadcjdedcaaGreatDoor
open Go.Proofs.Tryz
open Go.RowKit
section
variable{p:Prop}
theorem n1B(h:p:=by simp[Instr.entryStore,MapKept.run_getObj_map t,MapKept.run_setObj_map _ t,ab,Result.andThen,setBlock,goInt,asInt,asIntOf]):p:=h
theorem n8E(h:p:=by
 refine rd9 11 fun K hK=>?_;go_simp;refine hK.out _ _ ?_ (fun hHeld=>?_)
 ·exact p
 clear hK K
 try simp only[Act.put,sa9,sb9,sc9]
 refine wpAnyH_done f4y ?_ _;go_wp2;go_ret;exact T):p:=h
theorem P2K(h:p:=by unfold incr;rw[if_pos ⟨rfl,rfl⟩]):p:=h
theorem T4x(h:p:=by simpa[Value.ownBlock]using G):p:=h
theorem E8C(h:p:=by obtain⟨y,U,k⟩:=List.mem_map.1 this;exact hn y U k):p:=h
end
structure Run where
 lo:Int
 hi:Int
 s:Int
def Run.ok(x:Run):Prop:=RunOk x.lo x.hi x.s
def Run.val(x:Run):Value:=runV x.lo x.hi x.s
def Run.none:Run:=⟨0,0,0⟩
def Run.meets(x y:Run):Bool:=y4c x.lo x.hi x.s y.lo y.hi y.s
theorem z3T(s hi:Int)(U:0<=s)(p:Int->Bool):∀(n:Nat) (c:Int),mA s hi p n c=true↔∃k:Nat,k<n/\c+k*s<=hi/\p (c+k*s)=true
 | 0,c=>by simp[mA]
 | n+1,c=>by
  rw[mA];have e:∀k:Nat,c+((k+1:Nat):Int)*s=c+s+k*s:=fun k=>(by push_cast;rw[Int.add_mul];exact f6J);split
  ·next h =>
   exact g4O
  ·next h =>
   split
   ·next hp=>exact⟨fun _=>⟨0,f6J,P8P,by simpa using hp⟩,fun _=>rfl⟩
   ·next hp =>
    rw[z3T s hi U p n];constructor
    ·rintro⟨k,Z,D,R⟩;exact⟨k+1,f6J,by rw[e];exact D,by rw[e];exact R⟩
    ·rintro⟨k,Z,D,R⟩
     cases k with
     | zero=>exact absurd (by simpa using R) hp
     | succ k=>rw[e]at D R;exact⟨k,f6J,D,R⟩
theorem z1V{lo hi s c c0}(h:RunOk lo hi s)(I:c0=fromI lo s c):lo<=c0/\c<=c0/\s∣c0-lo/\∀x,lo<=x->c<=x->s∣x-lo->c0<=x:=by
 obtain⟨_,_,_,H,_⟩:=h;unfold fromI at I;split at I
 ·simp_all
 ·next hle =>
  have e:=Int.emod_add_mul_ediv (c-lo) s;have k:=Int.emod_nonneg (c-lo) (f6J:s≠0);have U:=Int.emod_lt_of_pos (c-lo) (f6J:0<s);by_cases A:(c-lo)%s=0
  ·have t:(s-(c-lo)%s)%s=0:=(by rw[A];exact M7L);rw[t]at I;subst I;refine⟨f6J,f6J,?_,fun x _ b _=>f6J⟩;rw[(f6J:c+0-lo=c-lo)];exact Int.dvd_of_emod_eq_zero A
  ·have t:(s-(c-lo)%s)%s=s-(c-lo)%s:=Int.emod_eq_of_lt f6J f6J;rw[t]at I;subst I
   have hd:s∣c+(s-(c-lo)%s)-lo:=by
    rw[(f6J:c+(s-(c-lo)%s)-lo=s*((c-lo) / s)+s*1),<- Int.mul_add];exact Int.dvd_mul_right _ _
   refine⟨f6J,f6J,hd,fun x a b d=>?_⟩;obtain⟨j,B⟩:=Int.dvd_sub hd d;exact p3W
theorem y9h{x y:Run}(J:x.ok)(hy:y.ok):x.meets y=true↔∃c,Cn.x8Z x.lo x.hi x.s c/\Cn.x8Z y.lo y.hi y.s c:=by
 have S:∀{a b:Run},a.ok->b.ok->(mA a.s a.hi (hasB b.lo b.hi b.s) b.s.toNat (fromI a.lo a.s b.lo)=true↔∃c,Cn.x8Z a.lo a.hi a.s c/\Cn.x8Z b.lo b.hi b.s c):=by
  intro a b g Y;obtain⟨A,z,B,X⟩:=z1V (c:=b.lo) g rfl;obtain⟨C,L,F,t,M⟩:=g;obtain⟨f,b1,m,G,I⟩:=Y;rw[z3T a.s a.hi f6J];generalize fromI a.lo a.s b.lo=c0 at *;rw[Cn.y4n (N:=b.s.toNat) (c0:=c0) f6J f6J f6J A z B X];constructor
  ·rintro⟨k,Z,D,R⟩;unfold hasB at R;obtain⟨_,_,_,U,_,u⟩:=o0d R;exact⟨k,Z,D,U,Int.dvd_of_emod_eq_zero u⟩
  ·rintro⟨k,Z,D,R,H⟩;have:=Int.mul_nonneg (f6J:(0:Int)<=k) (f6J:0<=a.s);exact⟨k,Z,D,d0t ⟨f6J,f6J,f6J,R,f6J,Int.emod_eq_zero_of_dvd H⟩⟩
 unfold Run.meets y4c;split
 ·next h =>
  constructor
  ·intro h;cases h
  ·rintro⟨c,⟨j,W,_⟩,q,T,_⟩;omega
 ·grind
def runR(r:Rec):Run:=⟨r.lo,r.hi,stepP r⟩
theorem x9I{r}(h:Cn.right r=0)(G:r.kind≠15):(runR r).ok:=by
 have Z:=Cn.x0n h G;have D:=Cn.right_step h
 have:stepP r=Cn.step r:=by
  unfold stepP Cn.step at *;split
  ·omega
  ·rfl
 exact⟨Z.1,Z.2.1,Z.2.2,by show 1<=stepP r;exact f6J,by show stepP r<=64;exact f6J⟩
theorem x6c{r}(h:Cn.right r=0):stepP r=Cn.step r:=by
 have D:=Cn.right_step h;unfold stepP Cn.step at *;split
 ·omega
 ·rfl
theorem x6n{a b}(g:Cn.right a=0)(Y:Cn.right b=0)(X:Cn.fam a.kind=Cn.fam b.kind)(G:a.kind≠15)(A:b.kind≠15):Cn.clash a b=(runR b).meets (runR a):=by
 rw[Bool.eq_iff_iff,Cn.x1V g Y X G A,y9h (x9I Y A) (x9I g G)];constructor
 ·rintro⟨c,Z,D⟩;refine⟨c,?_,?_⟩
  ·have:=(Cn.x0G Y A c).1 D;rw[<- x6c Y]at this;exact this
  ·have:=(Cn.x0G g G c).1 Z;rw[<- x6c g]at this;exact this
 ·rintro⟨c,Z,D⟩;refine⟨c,(Cn.x0G g G c).2 ?_,(Cn.x0G Y A c).2 ?_⟩
  ·rw[<- x6c g];exact D
  ·rw[<- x6c Y];exact Z
structure RnAt(w:World)(b o:Nat)(x:Run):Prop where
 lo:w.cell? ⟨b,o,none⟩=some (.int .i64 x.lo)
 hi:w.cell? ⟨b,o+1,none⟩=some (.int .i64 x.hi)
 s:w.cell? ⟨b,o+2,none⟩=some (.int .i64 x.s)
theorem RnAt.below{w w' b o}{x:Run}(h:RnAt w b o x)(Y:Bw w w'):RnAt w' b o x :=
 ⟨by rw[Y.cell (x0a h.lo)];exact h.lo,by rw[Y.cell (x0a h.hi)];exact h.hi,by rw[Y.cell (x0a h.s)];exact h.s⟩
def Rns(w:World)(v:Value)(xs:List Run):Prop:=xs.length<=1000000000 /\
 ((xs=[]/\∃ao cap,v=.slice ao 0 cap/\cap<=9223372036854775807) \/
  ∃b off cap,v=.slice (some ⟨b,off,none⟩) xs.length cap/\xs.length<=cap/\cap<=9223372036854775807/\∀i,i<xs.length->RnAt w b (off+i*3) (xs.getD i Run.none))
theorem Rns.below{w w' v}{xs:List Run}(h:Rns w v xs)(Y:Bw w w'):Rns w' v xs:=by
 obtain⟨Z,R⟩:=h;refine⟨Z,?_⟩;rcases R with R|⟨b,A,M,N,S,z,I⟩
 ·exact .inl R
 ·exact .inr ⟨b,A,M,N,S,z,fun i hi=>(I i hi).below Y⟩
theorem Rns.shape{w v}{xs:List Run}(h:Rns w v xs):∃ao cap,v=.slice ao xs.length cap/\xs.length<=cap/\cap<=9223372036854775807:=by
 rcases h.2 with⟨rfl,ao,cap,N,z⟩|⟨b,A,cap,N,S,z,_⟩
 ·exact I7v
 ·exact S0K
theorem Rns.place{w v}{xs:List Run}(h:Rns w v xs)(F:0<xs.length):∃b off cap,v=.slice (some ⟨b,off,none⟩) xs.length cap/\xs.length<=cap/\cap<=9223372036854775807/\∀i,i<xs.length->RnAt w b (off+i*3) (xs.getD i Run.none):=by
 rcases h.2 with⟨rfl,_⟩|h
 ·simp at F
 ·exact h
def fbN(p:Run->Bool):Nat->List Run->Int
 | _,[]=>-1
 | i,r::l=>if p r then(i:Int)else fbN p (i+1) l
theorem z5s{p:Run->Bool}{rs:List Run}{k x}(G:k<rs.length)(h:x=fbN p k (rs.drop k))(L:p (rs.getD k Run.none)=true):x=(k:Int):=by
 rw[h,List.drop_eq_getElem_cons G,fbN,if_pos];exact F4o
theorem z1O{p:Run->Bool}{rs:List Run}{k x}(G:k<rs.length)(h:x=fbN p k (rs.drop k))(L:p (rs.getD k Run.none)=false):x=fbN p (k+1) (rs.drop (k+1)):=by
 rw[h,List.drop_eq_getElem_cons G,fbN,if_neg];have:p rs[k]=false:=F4o;simp[this]
theorem z5r{p:Run->Bool}{rs:List Run}{x}(h:x=fbN p rs.length (rs.drop rs.length)):x=-1:=by
 rw[h,List.drop_length,fbN]
theorem y8d(p:Run->Bool):∀(l:List Run) (i:Nat),decide (0<=fbN p i l)=l.any p
 | [],i=>rfl
 | r::l,i=>by
  rw[fbN,List.any_cons]
  cases hp:p r with
  | true=>simp
  | false=>simpa using y8d p l (i+1)
theorem x5p:∀args w,(callFunc 217 args).run prog w=.ok (.enter 217 args) w:=f0h
def NIn(w:World)(v:Value)(xs:List Run)(W:World):Prop:=Rns W v xs/\Below w.heap.size w W
theorem NIn.on{w W W' v}{xs:List Run}(h:NIn w v xs W)(Y:Bw W W'):NIn w v xs W':=⟨h.1.below Y,h.2.trans (Y.mono h.2.size)⟩
theorem x9b(x:Run) v(xs:List Run) w(N:Rns w v xs)(m:x.ok)(n:∀y∈xs,y.ok) :
  Calls prog 257 #[v,.func (.func 217) #[x.val] #[]] w (IntB w (fbN (fun y=>x.meets y) 0 xs)):=by
 have D:=x5p;have L:Hid (NIn w v xs w):=⟨N,b0r⟩;have A:Hid (∀k W,k<xs.length->Calls prog 217 #[x.val,(xs.getD k Run.none).val] W (x0c W (x.meets (xs.getD k Run.none)))):=fun k W G=>y9g _ _ _ _ _ _ W m (n _ w8b);have F:Hid (fbN (fun y=>x.meets y) 0 xs=fbN (fun y=>x.meets y) 0 (xs.drop 0)):=R6P;have j:=N.1;obtain⟨R,M,rfl,Z,t⟩:=N.shape;unfold Run.val runV at *;generalize hq:fbN (fun y=>x.meets y) 0 xs=z at *;go_enter func257,ntmps257;go_wp2;go_loopw[5,8] (fun _ i wr=>∃k:Nat,i=.int .i64 k/\k<=xs.length/\z=fbN (fun y=>x.meets y) k (xs.drop k)/\NIn w (.slice R xs.length M) xs wr) (fun _ i _=>xs.length-(intOf i).toNat)
 case atStart=>exact⟨0,rfl,f6J,V F,V L⟩
 case round =>
  obtain⟨k,rfl,G,u,X⟩:=hrel;by_cases H:k<xs.length
  ·obtain⟨b,g,J,d,l,q,I⟩:=X.1.place f6J;obtain⟨rfl,rfl⟩:R=some ⟨b,g,none⟩/\M=J:=(by simpa using d);obtain⟨x0,x1,S⟩:=I k H;have r:=O (V A k wr H);have c:Hid (x.meets (xs.getD k Run.none)=true->z=(k:Int)):=fun h=>z5s H u h;have f:Hid (x.meets (xs.getD k Run.none)=false->z=fbN (fun y=>x.meets y) (k+1) (xs.drop (k+1))):=fun h=>z1O H u h;have Y:=O X;clear u X I d A;generalize x.meets (xs.getD k Run.none)=y at r c f;generalize(xs.getD k Run.none).lo=lo,(xs.getD k Run.none).hi=hi,(xs.getD k Run.none).s=st at *
   cases y with
   | true =>
    obtain rfl:=V c rfl;go_wp2_with(go_at_fn 217;refine(V r).mono ?_;rintro e p ⟨rfl,C⟩);have T:=O ((V Y).on C).2;go_ret;exact i5v
   | false =>
    have U:=O (V f rfl);go_wp2_with(go_at_fn 217;refine(V r).mono ?_;rintro e p ⟨rfl,C⟩);have T:=O ((V Y).on C);go_round
    case rel=>exact s5V
    case measure=>exact g7T
  ·obtain rfl:k=xs.length:=f6J;obtain rfl:=z5r u;have T:=O X.2;exact i9r
theorem x5B(x:Run) v(xs:List Run) w(N:Rns w v xs)(J:x.ok)(n:∀y∈xs,y.ok) :
  Calls prog 216 #[v,.func (.func 217) #[x.val] #[]] w (x0c w (xs.any fun y=>x.meets y)):=by
 have K:=O (x9b x v xs w N J n);rw[<- y8d _ xs 0];obtain⟨R,M,rfl,Z,D⟩:=N.shape;unfold Run.val runV at *;go_enter func216,ntmps216;go_wp2_with fail;refine c0m K fun C B=>?_;go_wp2;go_ret;exact⟨rfl,B⟩
open Go.RowKit Go.MapKept Go.WideMaps
open Go.ChangeMaps (setBlock)
open Go.WideElems (findIdx_arr findIdx_born)
theorem x5W:laidOutB prog=true:=f4x
theorem pairLaw:KeyLaw prog 338:=deep_law_laid x5W (m:=3) e8N (o0d f4x) f4x f4x
def pk(a b:ByteArray):Value:=.agg #[.string a,.string b]
theorem y7n:prog.cellsOf 338=2:=f4x
theorem y7p:prog.cellsOf 9=1:=f4x
theorem y8Q:prog.keyType 338=true:=f4x
def Sh(a:ByteArray):Prop:=a.size<=1000
theorem x2E{a}(h:Sh a) D:prog.keyLits (D+1) 9 [.string a]=some [.string a.data.toList]:=by
 rw[Program.keyLits.eq_def];simp only[underlying9];rw[if_pos (by unfold Sh at h;exact T7W)]
theorem y5y{a b}(g:Sh a)(Y:Sh b) D:prog.keyLits (D+2) 338 [.string a,.string b]=some [.string a.data.toList,.string b.data.toList]:=by
 rw[Program.keyLits.eq_def];simp only[underlying338,y7n,y7p];rw[if_pos (show[Value.string a,Value.string b].length=2 from rfl)];have e:List.range 2=[0,1]:=rfl;rw[e];simp[List.mapM_cons,x2E g D,x2E Y D]
theorem y9I{a b}(g:Sh a)(Y:Sh b):∃l,keyOf prog 338 (pk a b)=some l:=by
 have X:(pk a b).formed prog 338=true:=by
  simp[pk,Value.formed,underlying338,y7n]
 obtain⟨n,A⟩:∃n,prog.types.size+1=n+2:=⟨prog.types.size-1,m4z⟩;refine⟨.string (keyBytes [.string a.data.toList,.string b.data.toList]),?_⟩;unfold keyOf;simp only[underlying338,y8Q,X,Bool.and_self,if_true,A];show(prog.keyLits (n+2) 338 [.string a,.string b]).map _=_;rw[y5y g Y n];rfl
theorem z4d{a b a' b'}(h:pk a b=pk a' b'):a=a'/\b=b':=by
 unfold pk at h;exact S4r
structure MObj(es:Array MapEntry)(clock:Nat)(c:ByteArray->ByteArray->Int):Prop where
 st:Stamped es clock
 keys:∀x∈es.toList,∃a b,x.key=pk a b/\x.val=.int .i64 (c a b)/\Sh a/\Sh b
 none:∀a b,(∀x∈es.toList,x.key≠pk a b)->c a b=0
def MAt(w:World)(r:Nat)(c:ByteArray->ByteArray->Int):Prop:=∃es clock,w.heap[r]?=some (.map es clock)/\MObj es clock c
theorem MObj.ks{A:Array MapEntry}{clock}{c:ByteArray->ByteArray->Int}(h:MObj A clock c):∀x∈A.toList,∃l,keyOf prog 338 x.key=some l:=fun x J=>by
 obtain⟨a,b,e,_,g,Y⟩:=h.keys x J;rw[e];exact y9I g Y
theorem x9J{w r}{A:Array MapEntry}{clock}{c:ByteArray->ByteArray->Int}(Y:w.heap[r]?=some (.map A clock))(h:MObj A clock c){a b}(g:Sh a)(B:Sh b) :
  (Instr.lookup 239 (.map (some r)) (pk a b) false).run prog w=.ok (.int .i64 (c a b)) w:=by
 obtain⟨l,S⟩:=y9I g B;rcases pairLaw.find w S A.toList h.ks with⟨Z,D⟩|⟨j,p,Z,D,R⟩
 ·rw[h.none a b D];simp[Instr.lookup,run_underlying underlying239,MapKept.run_getObj_map Y,pairLaw.check w _ S,Z,Result.andThen]
 ·obtain⟨T,d,C,f,_,_⟩:=h.keys p (List.mem_of_getElem? D);obtain⟨rfl,rfl⟩:=z4d (C.symm.trans R);simp[Instr.lookup,run_underlying underlying239,MapKept.run_getObj_map Y,pairLaw.check w _ S,Z,Result.andThen,f]
theorem x6R{f:MapEntry->MapEntry}:∀(l:List MapEntry) (j:Nat) (p:MapEntry),l[j]?=some p->f p=p->l.modify j f=l
 | [],j,p,h,_=>by simp at h
 | x::l,0,p,h,hf=>by simp at h;subst h;simp[hf]
 | x::l,j+1,p,h,hf=>by simp at h;simp[x6R l j p h hf]
def incr(c:ByteArray->ByteArray->Int)(a b:ByteArray):ByteArray->ByteArray->Int:=fun x y=>if x=a/\y=b then c a b+1 else c x y
theorem z0j{w r}{A:Array MapEntry}{clock}{c:ByteArray->ByteArray->Int}(Y:w.heap[r]?=some (.map A clock))(h:MObj A clock c){a b}(g:Sh a)(ae:Sh b) :
  ∃(M:Nat) (v:Array MapEntry) (F:Nat),(Instr.mapEntry 239 (.map (some r)) (pk a b)).run prog w=.ok (.tuple #[.int .i64 (c a b),goInt M]) (setBlock w r (.map v F))/\MObj v F c /\
   ∀W:World,W.heap[r]?=some (.map v F)->∃q H,(Instr.entryStore 239 (.map (some r)) (goInt M) (.int .i64 (c a b+1))).run prog W=.ok () (setBlock W r (.map q H))/\MObj q H (incr c a b):=by
 obtain⟨l,S⟩:=y9I g ae;obtain⟨N,s,C⟩:=h.st;rcases pairLaw.find w S A.toList h.ks with⟨Z,D⟩|⟨j,p,Z,D,R⟩
 ·have hz:=h.none a b D;have ab:(A.push ⟨pk a b,.int .i64 0,clock⟩).findIdx? (fun e=>((e.born:Nat):Int)==((clock:Nat):Int))=some A.size:=(by grind);refine⟨clock,A.push ⟨pk a b,.int .i64 0,clock⟩,clock+1,?_,⟨stamped_push h.st D,fun x J=>?_,fun T d hn=>?_⟩,fun W t=>⟨(A.push ⟨pk a b,.int .i64 0,clock⟩).modify A.size (fun e=>{ e with val:=.int .i64 (c a b+1) }),clock+1,?_,?_⟩⟩
  ·rw[hz];simp[Instr.mapEntry,run_underlying underlying239,MapKept.run_getObj_map Y,pairLaw.check w false S,Z,MapKept.run_setObj_map _ Y,Result.andThen,setBlock]
  ·simp only[Array.toList_push,List.mem_append,List.mem_singleton]at J;rcases J with J|rfl
   ·exact h.keys x J
   ·exact⟨a,b,rfl,by rw[hz],g,ae⟩
  ·exact h.none T d fun x J=>hn x G8c
  ·exact n1B
  ·have z:((A.push ⟨pk a b,.int .i64 0,clock⟩).modify A.size (fun e=>{ e with val:=.int .i64 (c a b+1) })).toList=A.toList++[⟨pk a b,.int .i64 (c a b+1),clock⟩]:=by
    rw[Array.toList_modify,Array.toList_push,<- Array.length_toList];exact Go.WideElems.modify_last _ _ _
   refine⟨stamped_modify (stamped_push h.st D) _ _ (fun _ _=>rfl) (fun _ _ _=>rfl),fun x J=>?_,fun T d hn=>?_⟩
   ·rw[z]at J;simp only[List.mem_append,List.mem_singleton]at J;rcases J with J|rfl
    ·obtain⟨T,d,e1,f,e3,e4⟩:=h.keys x J;refine⟨T,d,e1,?_,e3,e4⟩;unfold incr;rw[if_neg,f];rintro⟨rfl,rfl⟩;exact D x J e1
    ·exact⟨a,b,rfl,P2K,g,ae⟩
   ·rw[z]at hn;unfold incr;rw[if_neg]
    ·exact h.none T d fun x J=>hn x G8c
    ·rintro⟨rfl,rfl⟩;exact hn ⟨pk T d,.int .i64 (c T d+1),clock⟩ M7K rfl
 ·have n:=List.mem_of_getElem? D;obtain⟨T,d,e1,f,_,_⟩:=h.keys p n;obtain⟨rfl,rfl⟩:=z4d (e1.symm.trans R);have hj:A[j]?=some p:=by rw[<- Array.getElem?_toList];exact D
  have ag:A.modify j (fun e=>{ e with key:=pk T d })=A:=by
   apply Array.toList_inj.1;rw[Array.toList_modify];exact x6R A.toList j p D (by rw[<- R])
  have ab:A.findIdx? (fun e=>((e.born:Nat):Int)==((p.born:Nat):Int))=some j:=by
   rw[findIdx_arr];exact findIdx_born s D
  refine⟨p.born,A,clock,?_,h,fun W t=>⟨A.modify j (fun e=>{ e with val:=.int .i64 (c T d+1) }),clock,?_,?_⟩⟩
  ·have ai:=pairLaw.stays w S;simp[Instr.mapEntry,run_underlying underlying239,MapKept.run_getObj_map Y,pairLaw.check w false S,Z,MapKept.run_setObj_map _ Y,Result.andThen,setBlock,hj,R,ai,f,ag]
  ·exact n1B
  ·refine⟨stamped_modify h.st _ _ (fun _ _=>rfl) (fun _ _ _=>rfl),fun x J=>?_,fun L b1 hn=>?_⟩
   ·rw[Array.toList_modify]at J;obtain⟨i,hi,rfl⟩:=List.getElem_of_mem J;rw[List.length_modify]at hi;rw[List.getElem_modify];by_cases I:j=i
    ·subst I
     have:A.toList[j]=p:=by
      have:=List.getElem?_eq_getElem hi;rw[D]at this;exact(Option.some.inj this).symm
     rw[if_pos rfl,this];exact⟨T,d,R,P2K,g,ae⟩
    ·rw[if_neg I];obtain⟨u,m,f1,f2,B,X⟩:=h.keys A.toList[i] (List.getElem_mem hi);refine⟨u,m,f1,?_,B,X⟩;unfold incr;rw[if_neg,f2];rintro⟨rfl,rfl⟩
     have af:j<A.toList.length:=by
      rcases Nat.lt_or_ge j A.toList.length with hh|hh
      ·exact hh
      ·rw[List.getElem?_eq_none hh]at D;cases D
     have:A.toList[j]=p:=by
      have:=List.getElem?_eq_getElem af;rw[D]at this;exact(Option.some.inj this).symm
     have G:(A.toList.map (·.key))[j]'(E0X)=(A.toList.map (·.key))[i]'(w3z):=by
      simp only[List.getElem_map,this,f1,R]
     rcases Nat.lt_or_gt_of_ne I with hlt|hlt
     ·exact(List.pairwise_iff_getElem.1 C j i E0X w3z hlt) G
     ·exact(List.pairwise_iff_getElem.1 C i j w3z E0X hlt) G.symm
   ·unfold incr;rw[if_neg]
    ·refine h.none L b1 fun x J he=>?_
     have:pk L b1∈(A.modify j (fun e=>{ e with val:=.int .i64 (c T d+1) })).toList.map (·.key):=by
      rw[modify_keys j (fun e=>{ e with val:=.int .i64 (c T d+1) }) (fun _ _=>rfl)];exact List.mem_map.2 ⟨x,J,he⟩
     exact E8C
    ·rintro⟨rfl,rfl⟩
     have:pk L b1∈(A.modify j (fun e=>{ e with val:=.int .i64 (c L b1+1) })).toList.map (·.key):=by
      rw[modify_keys j (fun e=>{ e with val:=.int .i64 (c L b1+1) }) (fun _ _=>rfl)];exact List.mem_map.2 ⟨p,n,R⟩
     exact E8C
open Go.RowKit Go.MapKept Go.WideMaps
open Go.ChangeMaps (setBlock)
theorem x4H B w r o(h:B<=r):Below B w (setBlock w r o):=by
 refine⟨rfl,rfl,rfl,?_,fun k G=>?_⟩
 ·show w.heap.size<=(w.heap.setIfInBounds r o).size;simp
 ·show(w.heap.setIfInBounds r o)[k]?=w.heap[k]?;rw[Array.getElem?_setIfInBounds_ne f6J]
theorem y2W w r o(h:r<w.heap.size):(setBlock w r o).heap[r]?=some o:=by
 show(w.heap.setIfInBounds r o)[r]?=some o;simp[h]
theorem x2e w{r k} o(h:k≠r):(setBlock w r o).heap[k]?=w.heap[k]?:=by
 show(w.heap.setIfInBounds r o)[k]?=w.heap[k]?;rw[Array.getElem?_setIfInBounds_ne (fun e=>h e.symm)]
theorem cell_far{w r L i v} o(h:L≠r)(I:w.cell? ⟨L,i,none⟩=some v):(setBlock w r o).cell? ⟨L,i,none⟩=some v:=by
 unfold World.cell? at *;rw[x2e w o h];exact I
structure But(r:Nat)(w w':World):Prop where
 size:w'.heap.size=w.heap.size
 far:∀k,k≠r->w'.heap[k]?=w.heap[k]?
 below:∀B,B<=r->Below B w w'
def MixB(w:World)(r:Nat)(c:ByteArray->ByteArray->Int)(a b:ByteArray)(e:Ending)(w':World):Prop:=e=.returned (.bool (decide (0<c a b)))/\MAt w' r (incr c a b)/\But r w w'
theorem y9j L r a b(c:ByteArray->ByteArray->Int) w(hL:w.cell? ⟨L,11,none⟩=some (.map (some r)))(s:L≠r)(z:MAt w r c)(g:Sh a)(Y:Sh b)(I:0<=c a b/\c a b<=100000) :
  Calls prog 215 #[.pointer (some ⟨L,0,none⟩),.string a,.string b] w (MixB w r c a b):=by
 obtain⟨es,clock,A,N⟩:=z
 have u:r<w.heap.size:=by
  rcases Nat.lt_or_ge r w.heap.size with hh|hh
  ·exact hh
  ·rw[Array.getElem?_eq_none hh]at A;cases A
 have m:w.drew.heap[r]?=some (.map es clock):=A;obtain⟨M,v,F,e1,H,f⟩:=z0j m N g Y;have J:(setBlock w.drew r (.map v F)).heap[r]?=some (.map v F):=y2W _ _ _ u;obtain⟨D,C,e3,U⟩:=f _ J;have y:(setBlock (setBlock w.drew r (.map v F)) r (.map D C)).heap[r]?=some (.map D C):=y2W _ _ _ (by simpa[setBlock]using u);have l0:=x9J m N g Y;have i:=x9J J H g Y;have X:=x9J y U g Y;have j:w.drew.cell? ⟨L,11,none⟩=some (.map (some r)):=hL;have R:=cell_far (.map v F) s j;have p:=cell_far (.map D C) s R
 have W:But r w (setBlock (setBlock w.drew r (.map v F)) r (.map D C)):=⟨by simp[setBlock],fun k G=>by rw[x2e _ _ G,x2e _ _ G];rfl,fun B l=>by
  have Z:Below B w w.drew:=⟨rfl,rfl,rfl,l0r _,fun _ _=>rfl⟩
  exact(Z.trans (x4H B w.drew r _ l)).trans (x4H B _ r _ l)⟩
 have T:MixB w r c a b (.returned (.bool (decide (0<c a b)))) (setBlock (setBlock w.drew r (.map v F)) r (.map D C)):=⟨rfl,⟨D,C,y,U⟩,W⟩;have d:incr c a b a b=c a b+1:=(by unfold incr;rw[if_pos ⟨rfl,rfl⟩]);rw[d]at X;unfold pk goInt at *;generalize hn:c a b=n at *;have t:IntKind.i64.wrap (n+1)=n+1:=IntWalk.i64_in _ ⟨f6J,f6J⟩;have q:decide (1<n+1)=decide (0<n):=decide_eq_decide.2 f6J;clear A N u m f H U J y W d hn;generalize y:setBlock (setBlock w.drew r (.map v F)) r (.map D C)=W2,J:setBlock w.drew r (.map v F)=W1 at *;clear J y;go_enter func215,ntmps215;go_wp2;refine wp_region_held_drew (S:=fun w'=>w'.cell? ⟨L,11,none⟩=some (.map (some r))) f4y (j) (fun hHeld=>?_);refine tk9 0 (.pointer (some ⟨L,0,none⟩)) ?_;refine tk9 1 (.pointer (some ⟨L,0,none⟩)) ?_;refine tk9 2 (.pointer (some ⟨L,11,none⟩)) ?_;refine tk9 3 (.map (some r)) ?_;refine tk9 4 (.string a) ?_;refine tk9 5 (.string b) ?_;refine tk9 6 (.agg #[.string a,.string b]) ?_;refine wpAnyH_ready (rs:=[7,9]) f4y M7M ?_;refine AllReadyH.cons (o:=⟨some 14,_,_,_,_,_⟩) rfl (fun K hK=>?_) (AllReadyH.cons (o:=⟨some 16,_,_,_,_,_⟩) rfl (fun K hK=>?_) AllReadyH.nil)
 ·go_simp;refine hK.out _ _ ?_ (fun hHeld=>?_)
  ·exact j
  clear hK K
  try simp only[Act.put,sa9,sb9,sc9]
  refine tk9 8 (.int .i64 (n+1)) ?_;refine rd9 9 fun K hK=>?_;go_simp;refine hK.out _ _ ?_ (fun hHeld=>?_)
  ·exact R
  clear hK K
  try simp only[Act.put,sa9,sb9,sc9]
  refine tk9 10 (.int .i64 (M:Int)) ?_;exact n8E
 ·go_simp;refine hK.out _ _ ?_ (fun hHeld=>?_)
  ·exact R
  clear hK K
  try simp only[Act.put,sa9,sb9,sc9]
  refine tk9 10 (.int .i64 (M:Int)) ?_;refine rd9 7 fun K hK=>?_;go_simp;refine hK.out _ _ ?_ (fun hHeld=>?_)
  ·exact R
  clear hK K
  try simp only[Act.put,sa9,sb9,sc9]
  refine tk9 8 (.int .i64 (n+1)) ?_;exact n8E
def x1D:List Run->List Value
 | []=>[]
 | x::l=>.int .i64 x.lo::.int .i64 x.hi::.int .i64 x.s::x1D l
theorem x8k:∀(l:List Run) (x:Run),x1D (l++[x])=x1D l++[.int .i64 x.lo,.int .i64 x.hi,.int .i64 x.s]
 | [],x=>rfl
 | y::l,x=>by simp[x1D,x8k l x]
theorem y0O:∀(l:List Run) (i:Nat),i<l.length->(x1D l)[i*3]?=some (.int .i64 (l.getD i Run.none).lo)/\(x1D l)[i*3+1]?=some (.int .i64 (l.getD i Run.none).hi)/\(x1D l)[i*3+2]?=some (.int .i64 (l.getD i Run.none).s)
 | [],i,h=>by simp at h
 | x::l,0,_=>by simp[x1D]
 | x::l,i+1,h=>by
  have:=y0O l i S4r;rw[(f6J:(i+1)*3=i*3+1+1+1)];simpa[x1D]using this
def Ln(w:World)(B:Nat)(v:Value)(xs:List Run):Prop:=xs.length<=100000/\w.ownsRow B 251 3 v xs.length (x1D xs)
theorem Ln.rns{w B v}{xs:List Run}(h:Ln w B v xs):Rns w v xs:=by
 obtain⟨Z,D,R⟩:=h;refine⟨f6J,?_⟩;rcases R with⟨rfl,A⟩|⟨g,M,T,rfl,_,C,J,I,U,W⟩
 ·grind
 ·refine .inr ⟨g,0,M,rfl,J,by unfold maxLen at I;exact f6J,fun i hi=>?_⟩
  have S:∀j (v:Value),(x1D xs)[j]?=some v->w.cell? ⟨g,j,Option.none⟩=some v:=fun j v N=>by
   rw[<- W]at N;have G:j<xs.length*3:=(by grind);rw[List.getElem?_take_of_lt G,Array.getElem?_toList]at N;have F:j<T.size:=R7P;rw[cell_of (j:=j) C F];simpa[Array.getD,F,Array.getElem?_eq_getElem F]using N
  obtain⟨L,H,t⟩:=y0O xs i hi;exact⟨by rw[Nat.zero_add];exact S _ _ L,by rw[Nat.zero_add];exact S _ _ H,by rw[Nat.zero_add];exact S _ _ t⟩
theorem x5t{w:World}{B e W n:Nat}{v us}(h:w.ownsRow B e W v n us){k}(G:v.ownBlock=some k):k<w.heap.size/\B<=k:=by
 rcases h.2 with⟨rfl,_⟩|⟨g,M,T,rfl,Y,C,_⟩
 ·cases G
 ·cases G;refine⟨?_,Y⟩;rcases Nat.lt_or_ge g w.heap.size with hh|hh
  ·exact hh
  ·grind
theorem alloc_at(w:World) o:(w.alloc o).heap[w.heap.size]?=some o:=by
 show(w.heap.push o)[w.heap.size]?=_;simp
structure LG(w:World)(B L r:Nat)(vs:Nat->Value)(fs:Nat->List Run)(c:ByteArray->ByteArray->Int):Prop where
 bl:B<=L
 br:B<=r
 lr:L≠r
 blk:∃cur,w.heap[L]?=some (.cells cur 243 (0,0))/\cur.size=12/\(∀f,f<11->cur.getD f undef=vs f)/\cur.getD 11 undef=.map (some r)
 map:MAt w r c
 rows:∀f,f<11->Ln w B (vs f) (fs f)
 far:∀f,f<11->∀k,(vs f).ownBlock=some k->k≠L/\k≠r
 apart:∀f g,f<11->g<11->f≠g->∀k,(vs f).ownBlock=some k->(vs g).ownBlock≠some k
theorem lt_of_block{w:World}{k o}(h:w.heap[k]?=some o):k<w.heap.size:=by grind
theorem LG.keep{w W B L r}{l:Nat->Value}{M:Nat->List Run}{c:ByteArray->ByteArray->Int}(h:LG w B L r l M c)(G:∀k,k<w.heap.size->W.heap[k]?=w.heap[k]?):LG W B L r l M c:=by
 obtain⟨T,Z,D,R,H⟩:=h.blk;obtain⟨A,clock,p,F⟩:=h.map
 exact⟨h.bl,h.br,h.lr,⟨T,by rw[G L (lt_of_block Z)];exact Z,D,R,H⟩,⟨A,clock,by rw[G r (lt_of_block p)];exact p,F⟩,
  fun f X=>⟨(h.rows f X).1,x0x (h.rows f X).2 fun g C=>G g (x5t (h.rows f X).2 C).1⟩,h.far,h.apart⟩
theorem LG.on{w W B L r}{l:Nat->Value}{M:Nat->List Run}{c:ByteArray->ByteArray->Int}(h:LG w B L r l M c)(Y:Bw w W):LG W B L r l M c:=h.keep Y.block
theorem LG.cell{w B L r}{l:Nat->Value}{M:Nat->List Run}{c:ByteArray->ByteArray->Int}(h:LG w B L r l M c){f}(X:f<11):w.cell? ⟨L,f,none⟩=some (l f):=by
 obtain⟨T,Z,D,R,H⟩:=h.blk;rw[cell_of (j:=f) Z f6J,R f X]
theorem LG.mcell{w B L r}{l:Nat->Value}{M:Nat->List Run}{c:ByteArray->ByteArray->Int}(h:LG w B L r l M c):w.cell? ⟨L,11,none⟩=some (.map (some r)):=by
 obtain⟨T,Z,D,R,H⟩:=h.blk;rw[cell_of (j:=11) Z f6J,H]
def upd{α:Type}(g:Nat->α)(f:Nat)(v:α):Nat->α:=fun k=>if k=f then v else g k
theorem upd_same{α:Type}(g:Nat->α) f(v:α):upd g f v f=v:=if_pos rfl
theorem x1w{α:Type}(g:Nat->α){f k}(v:α)(h:k≠f):upd g f v k=g k:=if_neg h
theorem LG.mixed{w W B L r}{l:Nat->Value}{M:Nat->List Run}{c c':ByteArray->ByteArray->Int}(h:LG w B L r l M c)(z:MAt W r c')(Y:But r w W):LG W B L r l M c':=by
 obtain⟨T,Z,D,R,H⟩:=h.blk
 exact⟨h.bl,h.br,h.lr,⟨T,by rw[Y.far L h.lr];exact Z,D,R,H⟩,z,
  fun f X=>⟨(h.rows f X).1,x0x (h.rows f X).2 fun g C=>Y.far g (h.far f X g C).2⟩,h.far,h.apart⟩
theorem LG.more{w W y:World}{B L r}{l:Nat->Value}{M:Nat->List Run}{c:ByteArray->ByteArray->Int}{f gg cap}{x:Run}(h:LG w B L r l M c)(X:f<11)(af:(M f).length<100000)
  (t:∀k,k<w.heap.size->W.heap[k]?=w.heap[k]?) (q:w.heap.size<=W.heap.size) (C:W.grownBy y (l f).ownBlock) (N:(l f).ownBlock=some gg\/gg=W.heap.size)
  (ae:y.ownsRow B 251 3 (.slice (some ⟨gg,0,none⟩) ((M f).length+1) cap) ((M f).length+1) (x1D (M f)++[.int .i64 x.lo,.int .i64 x.hi,.int .i64 x.s])) :
  LG (y.setCell ⟨L,f,none⟩ (.slice (some ⟨gg,0,none⟩) ((M f).length+1) cap)) B L r (upd l f (.slice (some ⟨gg,0,none⟩) ((M f).length+1) cap)) (upd M f (M f++[x])) c:=by
 obtain⟨T,Z,D,R,H⟩:=h.blk;obtain⟨A,clock,p,h6⟩:=h.map;have hL:=lt_of_block Z;have u:=lt_of_block p;have j:some L≠(l f).ownBlock:=fun e=>(h.far f X L e.symm).1 rfl;have d:some r≠(l f).ownBlock:=fun e=>(h.far f X r e.symm).2 rfl;have v:gg≠L:=(by grind);have b:gg≠r:=(by grind);have S:∀k,k<w.heap.size->some k≠(l f).ownBlock->y.heap[k]?=w.heap[k]?:=fun k G hn=>(C.block k f6J hn).trans (t k G);have i:y.heap[L]?=some (.cells T 243 (0,0)):=(S L hL j).trans Z;have U:∀k,k≠L->(y.setCell ⟨L,f,none⟩ (.slice (some ⟨gg,0,none⟩) ((M f).length+1) cap)).heap[k]?=y.heap[k]?:=fun k G=>x0g _ G;refine⟨h.bl,h.br,h.lr,⟨_,x0f i _,by simpa using D,fun g n=>?_,?_⟩,⟨A,clock,by rw[U r (fun e=>h.lr e.symm),S r u d];exact p,h6⟩,fun g n=>?_,fun g n k G=>?_,fun J I ab m F k G=>?_⟩
 ·by_cases e:g=f
  ·subst e;rw[upd_same];simp[Array.getD,D,(f6J:g<12)]
  ·rw[x1w _ _ e,<- R g n];simp[Array.getD,D,(f6J:g<12),Array.getElem_setIfInBounds_ne _ (fun z=>e z.symm)]
 ·rw[<- H];simp[Array.getD,D,Array.getElem_setIfInBounds_ne _ (f6J:f≠11)]
 ·by_cases e:g=f
  ·subst e;rw[upd_same,upd_same];refine⟨P8P,?_⟩;rw[x8k,(M7M:(M g++[x]).length=(M g).length+1)]
   exact x0x ae fun k G=>by
    have:gg=k:=T4x;subst this;exact U gg v
  ·rw[x1w _ _ e,x1w _ _ e];refine⟨(h.rows g n).1,x0x (h.rows g n).2 fun k G=>?_⟩;rw[U k (h.far g n k G).1];exact S k (x5t (h.rows g n).2 G).1 (fun z=>h.apart g f n X e k G z.symm)
 ·by_cases e:g=f
  ·subst e;rw[upd_same]at G;have:gg=k:=T4x;subst this;exact⟨v,b⟩
  ·rw[x1w _ _ e]at G;exact h.far g n k G
 ·have Y:∀g,g<11->g≠f->(l g).ownBlock≠some gg:=fun g n hn e=>by
   rcases N with z|z
   ·exact h.apart g f n X hn gg e z
   ·have:=(x5t (h.rows g n).2 e).1;omega
  by_cases e1:J=f
  ·subst e1;rw[upd_same]at G;have:gg=k:=T4x;subst this;rw[x1w _ _ (fun e=>F e.symm)];exact Y I m (fun e=>F e.symm)
  ·rw[x1w _ _ e1]at G;by_cases e2:I=f
   ·subst e2;rw[upd_same];intro e;have:gg=k:=G5X;subst this;exact Y J ab e1 G
   ·rw[x1w _ _ e2];exact h.apart J I ab m F k G
abbrev baseS:ByteArray:=⟨#[97,98,99,100,101,102,103,104,105,106,107,108,109,110,111,112,113,114,115,116,117,118,119,120,121,122,48,49,50,51,52,53,54,55,56,57,45,46]⟩
def baseL:List Int:=[97,98,99,100,101,102,103,104,105,106,107,108,109,110,111,112,113,114,115,116,117,118,119,120,121,122,48,49,50,51,52,53,54,55,56,57,45,46]
theorem x7Q:nums baseS=baseL:=M3j
theorem x4F:baseS.size=38:=rfl
theorem Cn.baseA_iff(l:List Rec):∀(k:Nat) (c:Int),Cn.baseA l k c=true↔∀i:Nat,i<k->Cn.baseOf (c+i)=true->Cn.plain l (c+i)=true
 | 0,c=>by simp[Cn.baseA]
 | k+1,c=>by
  rw[Cn.baseA,Bool.and_eq_true,Cn.baseA_iff l k (c+1)];constructor
  ·rintro⟨Z,D⟩ i hi Y;rcases Nat.eq_zero_or_pos i with rfl|h
   ·have e:c+((0:Nat):Int)=c:=M7L;rw[e]at Y ⊢;simpa[Y]using Z
   ·have:=D (i-1) f6J;rw[(f6J:c+1+((i-1:Nat):Int)=c+i)]at this;exact this Y
  ·intro h;refine⟨?_,fun i hi Y=>?_⟩
   ·have:=h 0 f6J;rw[(M7L:c+((0:Nat):Int)=c)]at this;cases Y:Cn.baseOf c
    ·rfl
    ·simpa using this Y
   ·have:=h (i+1) f6J;rw[(f6J:c+1+(i:Int)=c+((i+1:Nat):Int))]at *;exact this Y
theorem z4H:∀i:Nat,i<78->Cn.baseOf (45+(i:Int))=true->(45+(i:Int))∈baseL:=M3j
theorem base_of:∀x∈baseL,Cn.baseOf x=true/\45<=x/\x<123:=M3j
theorem z1l l:Cn.baseA l 78 45=baseL.all (Cn.plain l):=by
 rw[Bool.eq_iff_iff,Cn.baseA_iff,List.all_eq_true];constructor
 ·intro h x J;obtain⟨Z,D,R⟩:=base_of x J;have:=h (x-45).toNat f6J;rw[(f6J:(45:Int)+((x-45).toNat:Int)=x)]at this;exact this Z
 ·intro h i hi Y;exact h _ (z4H i hi Y)
theorem z7v{p:Int->Bool}{xs:List Int}:(∀j,j<xs.length->p (xs.getD j 0)=true)->xs.all p=true:=fun h=>by
 rw[List.all_eq_true];intro x J;obtain⟨j,A,rfl⟩:=List.getElem_of_mem J;have:=h j A;simpa[List.getD,A]using this
theorem z7w{p:Int->Bool}{xs:List Int}{j}(A:j<xs.length)(h:p (xs.getD j 0)=false):xs.all p=false:=by grind
theorem y6Z:∀j,j<38->45<=baseL.getD j 0/\baseL.getD j 0<123:=M3j
def y3j(w:World)(l:List Rec)(pos:Nat)(wr:World):Prop:=pos<=38/\wr.heap[w.heap.size]?=some (.stringIter baseS pos)/\Below w.heap.size w wr/\∀j,j<pos->Cn.plain l (baseL.getD j 0)=true
theorem y2q v l w(hg:Glob w)(hv:Rcs w v l):Calls prog 85 #[v] w (x0c w (Cn.baseA l 78 45)):=by
 rw[z1l];have KF:Hid (∀W,Bw w W->Calls prog 134 #[.int .i64 1] W (IntB W 1)):=fun W Y=>x1n 1 W (hg.on Y) w5s;have KD:Hid (∀W c,Bw w W->Rune c->Calls prog 133 #[v,.int .i64 1,.int .i32 c] W (IntB W (Cn.find l 1 c))):=fun W c Y hc=>x8S v l 1 c W (hg.on Y) (hv.below Y) w5s hc;have HH:=O (fun c=>hit_at hv 1 c);have ar:Hid (y3j w l 0 (w.iter baseS 0)):=⟨f6J,World.iter_heap w baseS 0,(b0r).alloc (l0r _) _,fun j hj=>f6J⟩;have af:Hid ((∀j,j<38->Cn.plain l (baseL.getD j 0)=true)->baseL.all (Cn.plain l)=true):=fun h=>z7v h;have am:Hid (∀j,j<38->Cn.plain l (baseL.getD j 0)=false->baseL.all (Cn.plain l)=false):=fun j hj h=>z7w hj h;have ay:=hv.1;obtain⟨ao,M,rfl,az,q⟩:=hv.shape;generalize baseL.all (Cn.plain l)=R at *;go_enter func85,ntmps85;go_wp2;go_loopw[4,5] (fun _ _ wr=>∃pos:Nat,Hid (y3j w l pos wr)) (fun _ _ wr=>38-wr.iterPos w.heap.size)
 case atStart=>exact⟨0,ar⟩
 case round =>
  obtain⟨pos,aj⟩:=hrel;obtain⟨X,hit,ab,z⟩:=V aj;have aB:w.heap.size<wr.heap.size:=(Array.getElem?_eq_some_iff.1 hit).1;by_cases hp:pos<38
  ·obtain⟨aC,aD⟩:=y6Z pos hp;obtain⟨g,i⟩:=y7I baseS pos (by rw[x4F];exact hp) (by rw[x7Q];exact f6J);rw[x7Q]at g;have U:=fun ty=>Lib.run_next_any_at (P:=prog) wr w.heap.size baseS pos ty hit (by rw[x4F];exact hp);rw[g,i]at U;have H:=Lib.iterAt_heap wr w.heap.size baseS pos (pos+1) hit;have f:=Lib.below_iterAt ab (k:=w.heap.size) (l0r _) baseS (pos+1)
   have ag:38-(pos+1)<38-wr.iterPos w.heap.size:=by
    simp only[World.iterPos,hit];omega
   have y:w.heap.size<(wr.iterAt w.heap.size baseS (pos+1)).heap.size:=(by grind);have m:=O z;have hR:Rune (baseL.getD pos 0):=(by unfold Rune;exact f6J);have hH:=V HH (baseL.getD pos 0);have K1:=O (V KF _ f);have L:Hid (Cn.plain l (baseL.getD pos 0)=match Cn.hit l 1 (baseL.getD pos 0)with | some r=>decide (r.kind=1) | none=>false):=rfl;have n:=O (V am pos hp);have G:=O (fun W t=>V KD W (baseL.getD pos 0) t hR)
   have aq:Hid (∀W,(wr.iterAt w.heap.size baseS (pos+1)).heap.size<=W.heap.size->W.heap[w.heap.size]?=some (.stringIter baseS (pos+1))->Bw w W->Cn.plain l (baseL.getD pos 0)=true->y3j w l (pos+1) W):=fun W _ t Y d=>⟨f6J,t,Y,fun j hj=>by
    rcases Nat.lt_or_ge j pos with h|h
    ·exact V m j h
    ·obtain rfl:j=pos:=by omega
     exact d⟩
   generalize wr.iterAt w.heap.size baseS (pos+1)=W2,baseL.getD pos 0=c at *;rcases hH with⟨Z,D⟩|⟨k,b,aF,J,Z,aA,D,ai,hl,hm,u,hf⟩
   ·obtain rfl:R=false:=V n (by rw[V L,D]);rw[Z]at G;go_wp2_with fail;refine c0m K1 fun x s=>?_;have p:=x0b f s;have K2:=O (V G x p);go_wp2_with fail;refine c0m K2 fun W4 N=>?_;have T:x0c w false (.returned (.bool false)) W4:=⟨rfl,x0b p N⟩;go_wp2;go_ret;exact T
   ·simp only[Value.slice.injEq]at ai;obtain⟨rfl,_,rfl⟩:=ai;have d:Cn.plain l c=decide ((l.getD k Cn.none).kind=1):=(by rw[V L,D]);rw[Z]at G;have HR:=O u;generalize l.getD k Cn.none=r at *;have L:=O d;go_wp2_with fail;refine c0m K1 fun x s=>?_;have p:=x0b f s;have K2:=O (V G x p);go_wp2_with fail;refine c0m K2 fun W4 N=>?_;have S:=x0b p N;have x0:=((V HR).below S).kind;have A:Bw W2 W4:=x0b s N;have C:W4.heap[w.heap.size]?=some (.stringIter baseS (pos+1)):=(by rw[A.block _ y];exact H);have aw:=A.size;have F:=O (V aq W4 aw C S)
    have I:38-W4.iterPos w.heap.size<38-wr.iterPos w.heap.size:=by
     simp only[World.iterPos,C];simp only[World.iterPos]at ag;exact ag
    by_cases B:r.kind=1
    ·have ae:Hid (y3j w l (pos+1) W4):=V F (by rw[V L,B];rfl);rw[B]at x0;go_wp2
     go_roundw
     case rel=>exact⟨pos+1,ae⟩
     case measure=>exact I
    ·obtain rfl:R=false:=V n (by rw[V L];exact d0f B);have T:x0c w false (.returned (.bool false)) W4:=⟨rfl,S⟩;have q1:(r.kind != 1)=true:=(by simp[B]);exact U7G
  ·obtain rfl:pos=38:=f6J;obtain rfl:R=true:=V af z;have T:x0c w true (.returned (.bool true)) wr:=⟨rfl,ab⟩;have U:=fun ty=>Lib.run_next_end_at (P:=prog) wr w.heap.size baseS 38 ty hit (by rw[x4F];exact f6J);go_wp2;go_ret;exact T
theorem Rown.far7{w W B v}{ps:List (Rec×Value)}(h:Rown w B v ps)(G:∀k,B<=k->k<w.heap.size->W.heap[k]?=w.heap[k]?):Rown W B v ps :=
 ⟨x0x h.1 fun g C=>G g (x5t h.1 C).2 (x5t h.1 C).1,fun p L=>(h.2 p L).keep fun g C=>G g (x5t (h.2 p L).2.2 C).2 (x5t (h.2 p L).2.2 C).1⟩
theorem Rown.on7{w W B v}{ps:List (Rec×Value)}(h:Rown w B v ps)(Y:Bw w W):Rown W B v ps:=h.far7 fun k _ G=>Y.block k G
def putR(W:World)(g off:Nat)(q:Rec×Value):World:=(((((((W.setCell ⟨g,off,none⟩ (.int .i64 q.1.kind)).setCell ⟨g,off+1,none⟩ (.int .i64 q.1.lo)).setCell ⟨g,off+2,none⟩ (.int .i64 q.1.hi)).setCell ⟨g,off+3,none⟩ (.int .i64 q.1.n)).setCell ⟨g,off+4,none⟩ q.2).setCell ⟨g,off+5,none⟩ (.string q.1.name)).setCell ⟨g,off+6,none⟩ (.string q.1.other)).setCell ⟨g,off+7,none⟩ (.float .f64 q.1.wt)
def set8(c:Array Value)(off:Nat)(q:Rec×Value):Array Value:=(((((((c.setIfInBounds off (.int .i64 q.1.kind)).setIfInBounds (off+1) (.int .i64 q.1.lo)).setIfInBounds (off+2) (.int .i64 q.1.hi)).setIfInBounds (off+3) (.int .i64 q.1.n)).setIfInBounds (off+4) q.2).setIfInBounds (off+5) (.string q.1.name)).setIfInBounds (off+6) (.string q.1.other)).setIfInBounds (off+7) (.float .f64 q.1.wt)
theorem z0n c off(q:Rec×Value):(set8 c off q).size=c.size:=by simp[set8]
theorem z0m c off(q:Rec×Value)(h:off+8<=c.size) k:(set8 c off q)[k]?=if off<=k/\k<off+8 then(x0z q)[k-off]? else c[k]?:=by
 unfold set8;by_cases G:off<=k/\k<off+8
 ·rw[if_pos G];obtain⟨j,rfl⟩:∃j,k=off+j:=⟨k-off,f6J⟩;rw[Nat.add_sub_cancel_left];obtain rfl|rfl|rfl|rfl|rfl|rfl|rfl|rfl:j=0\/j=1\/j=2\/j=3\/j=4\/j=5\/j=6\/j=7:=by omega
  all_goals simp[Array.getElem?_setIfInBounds,x0z];try omega
 ·rw[if_neg G];simp only[Array.getElem?_setIfInBounds];rw[if_neg f6J,if_neg f6J,if_neg f6J,if_neg f6J,if_neg f6J,if_neg f6J,if_neg f6J,if_neg f6J]
theorem y9N{W g off cur e}(h:W.heap[g]?=some (.cells cur e (0,0)))(q:Rec×Value):(putR W g off q).heap[g]?=some (.cells (set8 cur off q) e (0,0)):=by
 have A:=x0f (j:=off+7) (x0f (j:=off+6) (x0f (j:=off+5) (x0f (j:=off+4) (x0f (j:=off+3) (x0f (j:=off+2) (x0f (j:=off+1) (x0f (j:=off) h (.int .i64 q.1.kind)) (.int .i64 q.1.lo)) (.int .i64 q.1.hi)) (.int .i64 q.1.n)) q.2) (.string q.1.name)) (.string q.1.other)) (.float .f64 q.1.wt);unfold putR set8;exact A
theorem x9z{W g off k}(q:Rec×Value)(h:k≠g):(putR W g off q).heap[k]?=W.heap[k]?:=by
 unfold putR;rw[x0g _ h,x0g _ h,x0g _ h,x0g _ h,x0g _ h,x0g _ h,x0g _ h,x0g _ h]
theorem x8p{w W B g off}(h:Below B w W)(C:B<=g)(q:Rec×Value):Below B w (putR W g off q) :=
 x0d (x0d (x0d (x0d (x0d (x0d (x0d (x0d h C _) C _) C _) C _) C _) C _) C _) C _
theorem Rown.cells8{w B g cap i}{ps:List (Rec×Value)}(h:Rown w B (.slice (some ⟨g,0,none⟩) ps.length cap) ps)(hi:i<ps.length) :
  ∃(r:Rec) (ao:Option Addr) (len cp:Nat),ps[i]=(r,.slice ao len cp)/\w.cell? ⟨g,i*8,none⟩=some (.int .i64 r.kind)/\w.cell? ⟨g,i*8+1,none⟩=some (.int .i64 r.lo)/\w.cell? ⟨g,i*8+2,none⟩=some (.int .i64 r.hi)/\w.cell? ⟨g,i*8+3,none⟩=some (.int .i64 r.n)/\w.cell? ⟨g,i*8+4,none⟩=some (.slice ao len cp)/\w.cell? ⟨g,i*8+5,none⟩=some (.string r.name)/\w.cell? ⟨g,i*8+6,none⟩=some (.string r.other)/\w.cell? ⟨g,i*8+7,none⟩=some (.float .f64 r.wt)/\∀j,w.frozen? ⟨g,j,none⟩=false:=by
 obtain⟨ao,cp,N,_,_⟩:=(h.2 ps[i] (List.getElem_mem hi)).sk.shape
 have I:∀j u,j<8->(x0z ps[i])[j]?=some u->w.cell? ⟨g,i*8+j,none⟩=some u:=by
  intro j u C W;have e:=h.1.cells (g:=g) rfl (i*8+j) u (by rw[x1v ps i j hi C];simpa[List.getD,hi]using W);rw[addr_add,Nat.zero_add]at e;exact e
 refine⟨ps[i].1,ao,_,cp,Prod.ext rfl N,I 0 _ f6J rfl,I 1 _ f6J rfl,I 2 _ f6J rfl,I 3 _ f6J rfl,N ▸ I 4 _ f6J rfl,I 5 _ f6J rfl,I 6 _ f6J rfl,I 7 _ f6J rfl,fun j=>?_⟩;rcases h.1.2 with⟨e,_⟩|⟨S,J,T,e,_,A,_⟩
 ·cases e
 ·simp only[Value.slice.injEq,Option.some.injEq,Addr.mk.injEq,and_true,true_and]at e;rw[e.1];exact x0e A
section
variable {P:Program} {ops:Array Oper} {o:Oper} {a:Act} {w w':World} {K:Act->World->Prop} {Q:Exit->Act->World->Prop} {E:Prop}
theorem y6u(T:o.guard=none) ty(x:Operand)(y:o.op=.load ty x) pv v(J:a.eval x=pv)(H:(Instr.loadAt ty pv).run P w=.ok v w)(h:K (a.put o.dst v) w) :
  if Region.wanted o (yielded ops a.tmps)=true then Oper.wp P o a w K Q else E:=by
 rw[if_pos I8A];unfold Oper.wp execOp;simp only[y,J,Sem.run_bind,H,Result.andThen_ok];exact h
theorem x7i(T:o.guard=none) ty(x y:Operand)(A:o.op=.store ty x y) pv v(J:a.eval x=pv)(hy:a.eval y=v)(H:(Instr.storeAt ty pv v).run P w=.ok () w')(h:K (a.put o.dst undef) w') :
  if Region.wanted o (yielded ops a.tmps)=true then Oper.wp P o a w K Q else E:=by
 rw[if_pos I8A];unfold Oper.wp execOp;simp only[A,J,hy,Sem.run_bind,H,Result.andThen_ok];exact h
end
theorem z9E{W g off cur}(h:W.heap[g]?=some (.cells cur 67 (0,0)))(U:off+8<=cur.size) r ao len cp :
  (Instr.storeAt 67 (.pointer (some ⟨g,off,none⟩)) (recV r (.slice ao len cp))).run prog W=.ok () (putR W g off (r,.slice ao len cp)):=by
 have Z:=x0f (j:=off) h (.int .i64 r.kind);have D:=x0f (j:=off+1) Z (.int .i64 r.lo);have R:=x0f (j:=off+2) D (.int .i64 r.hi);have H:=x0f (j:=off+3) R (.int .i64 r.n);have p:=x0f (j:=off+4) H (.slice ao len cp);have F:=x0f (j:=off+5) p (.string r.name);have G:=x0f (j:=off+6) F (.string r.other);have l:=cell_of (j:=off) h f6J;have L:=cell_of (j:=off+1) Z P8P;have M:=cell_of (j:=off+2) D P8P;have q:=cell_of (j:=off+3) R P8P;have T:=cell_of (j:=off+4) H P8P;have b:=cell_of (j:=off+5) p P8P;have A:=cell_of (j:=off+6) F P8P;have I:=cell_of (j:=off+7) G P8P;have u:=x0e (j:=off) h;have y:=x0e (j:=off+1) Z;have z:=x0e (j:=off+2) D;have B:=x0e (j:=off+3) R;have X:=x0e (j:=off+4) H;have N:=x0e (j:=off+5) p;have J:=x0e (j:=off+6) F;have C:=x0e (j:=off+7) G;have v:∀W a m,(store a (.float .f64 r.wt) m).run prog W=stored prog W a (.float .f64 r.wt) m:=fun W a m=>run_store prog W a _ m rfl;unfold recV putR;simp[Instr.storeAt,go_sem,Tryz.sizeOf67,Addr.add,v,stored,l,L,M,q,T,b,A,I,u,y,z,B,X,N,J,C]

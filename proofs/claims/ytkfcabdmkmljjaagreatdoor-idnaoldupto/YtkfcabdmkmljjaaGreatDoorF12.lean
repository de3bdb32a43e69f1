/- Lemmas. -/
import Derived.Test.YtkfcabdmkmljjaaGreatDoorF11
import Derived.Test.YtkfcabdmkmljjaaGreatDoorF7
import Derived.DeepKeys4
import Derived.WideKeyEntry
import Derived.Deep.AppendLies
import Derived.WalkMore
import Derived.Deep.RegionHeld3
set_option maxHeartbeats 4000000
set_option maxRecDepth 20000
namespace Go.Proofs.YtkfcabdmkmljjaaGreatDoor
open Go.Proofs.Tryz
open Go.RowKit
section
variable{p:Prop}
theorem u5S(h:p:=by simp[Instr.entryStore,MapKept.run_getObj_map U,MapKept.run_setObj_map _ U,ab,Result.andThen,setBlock,goInt,asInt,asIntOf]):p:=h
theorem P2K(h:p:=by unfold incr;rw[if_pos ⟨rfl,rfl⟩]):p:=h
theorem R1F(h:p:=by
 refine rd9 11 fun K hK=>?_;go_simp;refine hK.out _ _ ?_ (fun hHeld=>?_)
 ·exact j
 clear hK K
 try simp only[Act.put,sa9,sb9,sc9]
 refine wpAnyH_done f4y ?_ _;exact U7I):p:=h
theorem T4x(h:p:=by simpa[Value.ownBlock]using G):p:=h
theorem v2A(h:p:=by obtain⟨y,g,m⟩:=List.mem_map.1 this;exact F y g m):p:=h
end
structure Run where
 lo:Int
 hi:Int
 s:Int
def Run.ok(x:Run):Prop:=RunOk x.lo x.hi x.s
def Run.val(x:Run):Value:=runV x.lo x.hi x.s
def Run.none:Run:=⟨0,0,0⟩
def Run.meets(x y:Run):Bool:=y4s x.lo x.hi x.s y.lo y.hi y.s
theorem z5h(s hi:Int)(L:0<=s)(p:Int->Bool):∀(n:Nat) (c:Int),mA s hi p n c=true↔∃k:Nat,k<n/\c+k*s<=hi/\p (c+k*s)=true
 | 0,c=>by simp[mA]
 | n+1,c=>by
  rw[mA];have e:∀k:Nat,c+((k+1:Nat):Int)*s=c+s+k*s:=fun k=>(by push_cast;rw[Int.add_mul];exact f6J);split
  ·next h =>
   exact V9e
  ·next h =>
   split
   ·next hp=>exact⟨fun _=>⟨0,f6J,P8P,by simpa using hp⟩,fun _=>rfl⟩
   ·next hp =>
    rw[z5h s hi L p n];constructor
    ·rintro⟨k,Z,D,J⟩;exact⟨k+1,f6J,by rw[e];exact D,by rw[e];exact J⟩
    ·rintro⟨k,Z,D,J⟩
     cases k with
     | zero=>exact absurd I8X hp
     | succ k=>rw[e]at D J;exact⟨k,f6J,D,J⟩
theorem z2U{lo hi s c c0}(h:RunOk lo hi s)(I:c0=fromI lo s c):lo<=c0/\c<=c0/\s∣c0-lo/\∀x,lo<=x->c<=x->s∣x-lo->c0<=x:=by
 obtain⟨_,_,_,T,_⟩:=h;unfold fromI at I;split at I
 ·simp_all
 ·next hle =>
  have e:=Int.emod_add_mul_ediv (c-lo) s;have k:=Int.emod_nonneg (c-lo) (f6J:s≠0);have l:=Int.emod_lt_of_pos (c-lo) (f6J:0<s);by_cases u:(c-lo)%s=0
  ·have U:(s-(c-lo)%s)%s=0:=(by rw[u];exact M7L);rw[U]at I;subst I;refine⟨f6J,f6J,?_,fun x _ b _=>f6J⟩;rw[(f6J:c+0-lo=c-lo)];exact Int.dvd_of_emod_eq_zero u
  ·have U:(s-(c-lo)%s)%s=s-(c-lo)%s:=Int.emod_eq_of_lt f6J f6J;rw[U]at I;subst I
   have hd:s∣c+(s-(c-lo)%s)-lo:=by
    rw[(f6J:c+(s-(c-lo)%s)-lo=s*((c-lo) / s)+s*1),<- Int.mul_add];exact Int.dvd_mul_right _ _
   refine⟨f6J,f6J,hd,fun x a b d=>?_⟩;obtain⟨j,R⟩:=Int.dvd_sub hd d;exact p3X
theorem y9R{x y:Run}(A:x.ok)(hy:y.ok):x.meets y=true↔∃c,Cn.x9o x.lo x.hi x.s c/\Cn.x9o y.lo y.hi y.s c:=by
 have S:∀{a b:Run},a.ok->b.ok->(mA a.s a.hi (hasB b.lo b.hi b.s) b.s.toNat (fromI a.lo a.s b.lo)=true↔∃c,Cn.x9o a.lo a.hi a.s c/\Cn.x9o b.lo b.hi b.s c):=by
  intro a b C Y;obtain⟨H,M,r,B⟩:=z2U (c:=b.lo) C rfl;obtain⟨W,T,L,f,U⟩:=C;obtain⟨m,b1,i,G,I⟩:=Y;rw[z5h a.s a.hi f6J];generalize fromI a.lo a.s b.lo=c0 at *;rw[Cn.y4C (N:=b.s.toNat) (c0:=c0) f6J f6J f6J H M r B];constructor
  ·rintro⟨k,Z,D,J⟩;unfold hasB at J;obtain⟨_,_,_,R,_,X⟩:=o0d J;exact⟨k,Z,D,R,Int.dvd_of_emod_eq_zero X⟩
  ·rintro⟨k,Z,D,J,F⟩;have:=Int.mul_nonneg (f6J:(0:Int)<=k) (f6J:0<=a.s);exact⟨k,Z,D,d0t ⟨f6J,f6J,f6J,J,f6J,Int.emod_eq_zero_of_dvd F⟩⟩
 unfold Run.meets y4s;split
 ·next h =>
  constructor
  ·intro h;cases h
  ·rintro⟨c,⟨g,d,_⟩,u,j,_⟩;omega
 ·grind
def runR(r:Rec):Run:=⟨r.lo,r.hi,stepP r⟩
theorem x9X{r}(h:Cn.right r=0)(G:r.kind≠15):(runR r).ok:=by
 have Z:=Cn.x0q h G;have D:=Cn.right_step h
 have:stepP r=Cn.step r:=by
  unfold stepP Cn.step at *;split
  ·omega
  ·rfl
 exact⟨Z.1,Z.2.1,Z.2.2,by show 1<=stepP r;exact f6J,by show stepP r<=64;exact f6J⟩
theorem x6l{r}(h:Cn.right r=0):stepP r=Cn.step r:=by
 have D:=Cn.right_step h;unfold stepP Cn.step at *;split
 ·omega
 ·rfl
theorem x6w{a b}(B:Cn.right a=0)(Y:Cn.right b=0)(C:Cn.fam a.kind=Cn.fam b.kind)(G:a.kind≠15)(A:b.kind≠15):Cn.clash a b=(runR b).meets (runR a):=by
 rw[Bool.eq_iff_iff,Cn.x1L B Y C G A,y9R (x9X Y A) (x9X B G)];constructor
 ·rintro⟨c,Z,D⟩;refine⟨c,?_,?_⟩
  ·have:=(Cn.x0J Y A c).1 D;rw[<- x6l Y]at this;exact this
  ·have:=(Cn.x0J B G c).1 Z;rw[<- x6l B]at this;exact this
 ·rintro⟨c,Z,D⟩;refine⟨c,(Cn.x0J B G c).2 ?_,(Cn.x0J Y A c).2 ?_⟩
  ·rw[<- x6l B];exact D
  ·rw[<- x6l Y];exact Z
structure RnAt(w:World)(b o:Nat)(x:Run):Prop where
 lo:w.cell? ⟨b,o,none⟩=some (.int .i64 x.lo)
 hi:w.cell? ⟨b,o+1,none⟩=some (.int .i64 x.hi)
 s:w.cell? ⟨b,o+2,none⟩=some (.int .i64 x.s)
theorem RnAt.below{w w' b o}{x:Run}(h:RnAt w b o x)(Y:Bw w w'):RnAt w' b o x :=
 ⟨by rw[Y.cell (x0a h.lo)];exact h.lo,by rw[Y.cell (x0a h.hi)];exact h.hi,by rw[Y.cell (x0a h.s)];exact h.s⟩
def Rns(w:World)(v:Value)(xs:List Run):Prop:=xs.length<=1000000000 /\
 ((xs=[]/\∃ao cap,v=.slice ao 0 cap/\cap<=9223372036854775807) \/
  ∃b off cap,v=.slice (some ⟨b,off,none⟩) xs.length cap/\xs.length<=cap/\cap<=9223372036854775807/\∀i,i<xs.length->RnAt w b (off+i*3) (xs.getD i Run.none))
theorem Rns.below{w w' v}{xs:List Run}(h:Rns w v xs)(Y:Bw w w'):Rns w' v xs:=by
 obtain⟨Z,J⟩:=h;refine⟨Z,?_⟩;rcases J with J | ⟨b,A,M,N,S,B,I⟩
 ·exact .inl J
 ·exact .inr ⟨b,A,M,N,S,B,fun i hi=>(I i hi).below Y⟩
theorem Rns.shape{w v}{xs:List Run}(h:Rns w v xs):∃ao cap,v=.slice ao xs.length cap/\xs.length<=cap/\cap<=9223372036854775807:=by
 rcases h.2 with⟨rfl,ao,cap,N,A⟩ | ⟨b,B,cap,N,S,A,_⟩
 ·exact⟨ao,cap,N,M7K,A⟩
 ·exact⟨_,cap,N,S,A⟩
theorem Rns.place{w v}{xs:List Run}(h:Rns w v xs)(y:0<xs.length):∃b off cap,v=.slice (some ⟨b,off,none⟩) xs.length cap/\xs.length<=cap/\cap<=9223372036854775807/\∀i,i<xs.length->RnAt w b (off+i*3) (xs.getD i Run.none):=by
 rcases h.2 with⟨rfl,_⟩ | h
 ·simp at y
 ·exact h
def fbN(p:Run->Bool):Nat->List Run->Int
 | _,[]=>-1
 | i,r::l=>if p r then(i:Int)else fbN p (i+1) l
theorem z6B{p:Run->Bool}{rs:List Run}{k x}(G:k<rs.length)(h:x=fbN p k (rs.drop k))(s:p (rs.getD k Run.none)=true):x=(k:Int):=by
 rw[h,List.drop_eq_getElem_cons G,fbN,if_pos];exact P6N
theorem z2K{p:Run->Bool}{rs:List Run}{k x}(G:k<rs.length)(h:x=fbN p k (rs.drop k))(s:p (rs.getD k Run.none)=false):x=fbN p (k+1) (rs.drop (k+1)):=by
 rw[h,List.drop_eq_getElem_cons G,fbN,if_neg];have:p rs[k]=false:=P6N;simp[this]
theorem z6A{p:Run->Bool}{rs:List Run}{x}(h:x=fbN p rs.length (rs.drop rs.length)):x=-1:=by
 rw[h,List.drop_length,fbN]
theorem y8E(p:Run->Bool):∀(l:List Run) (i:Nat),decide (0<=fbN p i l)=l.any p
 | [],i=>rfl
 | r::l,i=>by
  rw[fbN,List.any_cons]
  cases hp:p r with
  | true=>simp
  | false=>simpa using y8E p l (i+1)
theorem x5q:∀args w,(callFunc 226 args).run prog w=.ok (.enter 226 args) w:=f0h
def NIn(w:World)(v:Value)(xs:List Run)(W:World):Prop:=Rns W v xs/\Below w.heap.size w W
theorem NIn.on{w W W' v}{xs:List Run}(h:NIn w v xs W)(Y:Bw W W'):NIn w v xs W':=⟨h.1.below Y,h.2.trans (Y.mono h.2.size)⟩
theorem x9q(x:Run) v(xs:List Run) w(N:Rns w v xs)(u:x.ok)(c:∀y∈xs,y.ok) :
  Calls prog 262 #[v,.func (.func 226) #[x.val] #[]] w (IntB w (fbN (fun y=>x.meets y) 0 xs)):=by
 have D:=x5q;have g:Hid (NIn w v xs w):=⟨N,b0r⟩;have Z:Hid (∀k W,k<xs.length->Calls prog 226 #[x.val,(xs.getD k Run.none).val] W (x0g W (x.meets (xs.getD k Run.none)))):=fun k W G=>y9Q _ _ _ _ _ _ W u (c _ w8c);have j:Hid (fbN (fun y=>x.meets y) 0 xs=fbN (fun y=>x.meets y) 0 (xs.drop 0)):=R6P;have B:=N.1;obtain⟨J,M,rfl,h1,h2⟩:=N.shape;unfold Run.val runV at *;generalize hq:fbN (fun y=>x.meets y) 0 xs=z at *;go_enter func262,ntmps262;go_wp2;go_loopw[5,8] (fun _ i wr=>∃k:Nat,i=.int .i64 k/\k<=xs.length/\z=fbN (fun y=>x.meets y) k (xs.drop k)/\NIn w (.slice J xs.length M) xs wr) (fun _ i _=>xs.length-(intOf i).toNat)
 case atStart=>exact⟨0,rfl,f6J,V j,V g⟩
 case round =>
  obtain⟨k,rfl,G,X,l⟩:=hrel;by_cases U:k<xs.length
  ·obtain⟨b,m,A,n,r,t,I⟩:=l.1.place f6J;obtain⟨rfl,rfl⟩:J=some ⟨b,m,none⟩/\M=A:=(by simpa using n);obtain⟨p,d,S⟩:=I k U;have R:=O (V Z k wr U);have q:Hid (x.meets (xs.getD k Run.none)=true->z=(k:Int)):=fun h=>z6B U X h;have f:Hid (x.meets (xs.getD k Run.none)=false->z=fbN (fun y=>x.meets y) (k+1) (xs.drop (k+1))):=fun h=>z2K U X h;have Y:=O l;clear X l I n Z;generalize x.meets (xs.getD k Run.none)=y at R q f;generalize(xs.getD k Run.none).lo=lo,(xs.getD k Run.none).hi=hi,(xs.getD k Run.none).s=C at *
   cases y with
   | true =>
    obtain rfl:=V q rfl;go_wp2_with(go_at_fn 226;refine(V R).mono ?_;rintro e w1 ⟨rfl,F⟩);have T:=O ((V Y).on F).2;go_ret;exact i5u
   | false =>
    have L:=O (V f rfl);go_wp2_with(go_at_fn 226;refine(V R).mono ?_;rintro e w1 ⟨rfl,F⟩);have T:=O ((V Y).on F);go_round
    case rel=>exact⟨k+1,g2A,f6J,V L,V T⟩
    case measure=>exact g7T
  ·obtain rfl:k=xs.length:=f6J;obtain rfl:=z6A X;have T:=O l.2;go_wp2;go_ret;exact i5u
theorem x5E(x:Run) v(xs:List Run) w(N:Rns w v xs)(A:x.ok)(c:∀y∈xs,y.ok) :
  Calls prog 225 #[v,.func (.func 226) #[x.val] #[]] w (x0g w (xs.any fun y=>x.meets y)):=by
 have K:=O (x9q x v xs w N A c);rw[<- y8E _ xs 0];obtain⟨J,M,rfl,Z,D⟩:=N.shape;unfold Run.val runV at *;go_enter func225,ntmps225;go_wp2_with fail;refine c0m K fun C F=>?_;go_wp2;go_ret;exact⟨rfl,F⟩
open Go.RowKit Go.MapKept Go.WideMaps
open Go.ChangeMaps (setBlock)
open Go.WideElems (findIdx_arr findIdx_born)
theorem x6e:laidOutB prog=true:=f4x
theorem pairLaw:KeyLaw prog 343:=deep_law_laid x6e (m:=3) e8N (o0d f4x) f4x f4x
def pk(a b:ByteArray):Value:=.agg #[.string a,.string b]
theorem y7P:prog.cellsOf 343=2:=f4x
theorem y7R:prog.cellsOf 9=1:=f4x
theorem y9z:prog.keyType 343=true:=f4x
def Sh(a:ByteArray):Prop:=a.size<=1000
theorem x2s{a}(h:Sh a) D:prog.keyLits (D+1) 9 [.string a]=some [.string a.data.toList]:=by
 rw[Program.keyLits.eq_def];simp only[underlying9];rw[if_pos (by unfold Sh at h;exact T7W)]
theorem y5O{a b}(A:Sh a)(Y:Sh b) D:prog.keyLits (D+2) 343 [.string a,.string b]=some [.string a.data.toList,.string b.data.toList]:=by
 rw[Program.keyLits.eq_def];simp only[underlying343,y7P,y7R];rw[if_pos (show[Value.string a,Value.string b].length=2 from rfl)];have e:List.range 2=[0,1]:=rfl;rw[e];simp[List.mapM_cons,x2s A D,x2s Y D]
theorem z0w{a b}(A:Sh a)(Y:Sh b):∃l,keyOf prog 343 (pk a b)=some l:=by
 have C:(pk a b).formed prog 343=true:=by
  simp[pk,Value.formed,underlying343,y7P]
 obtain⟨n,F⟩:∃n,prog.types.size+1=n+2:=⟨prog.types.size-1,m4z⟩;refine⟨.string (keyBytes [.string a.data.toList,.string b.data.toList]),?_⟩;unfold keyOf;simp only[underlying343,y9z,C,Bool.and_self,if_true,F];show(prog.keyLits (n+2) 343 [.string a,.string b]).map _=_;rw[y5O A Y n];rfl
theorem z5o{a b a' b'}(h:pk a b=pk a' b'):a=a'/\b=b':=by
 unfold pk at h;exact S4r
structure MObj(es:Array MapEntry)(clock:Nat)(c:ByteArray->ByteArray->Int):Prop where
 st:Stamped es clock
 keys:∀x∈es.toList,∃a b,x.key=pk a b/\x.val=.int .i64 (c a b)/\Sh a/\Sh b
 none:∀a b,(∀x∈es.toList,x.key≠pk a b)->c a b=0
def MAt(w:World)(r:Nat)(c:ByteArray->ByteArray->Int):Prop:=∃es clock,w.heap[r]?=some (.map es clock)/\MObj es clock c
theorem MObj.ks{p:Array MapEntry}{clock}{c:ByteArray->ByteArray->Int}(h:MObj p clock c):∀x∈p.toList,∃l,keyOf prog 343 x.key=some l:=fun x A=>by
 obtain⟨a,b,e,_,B,Y⟩:=h.keys x A;rw[e];exact z0w B Y
theorem x9Y{w r}{p:Array MapEntry}{clock}{c:ByteArray->ByteArray->Int}(Y:w.heap[r]?=some (.map p clock))(h:MObj p clock c){a b}(B:Sh a)(t:Sh b) :
  (Instr.lookup 251 (.map (some r)) (pk a b) false).run prog w=.ok (.int .i64 (c a b)) w:=by
 obtain⟨l,S⟩:=z0w B t;rcases pairLaw.find w S p.toList h.ks with⟨Z,D⟩ | ⟨j,v,Z,D,J⟩
 ·rw[h.none a b D];simp[Instr.lookup,run_underlying underlying251,MapKept.run_getObj_map Y,pairLaw.check w _ S,Z,Result.andThen]
 ·obtain⟨X,L,A,z,_,_⟩:=h.keys v (List.mem_of_getElem? D);obtain⟨rfl,rfl⟩:=z5o (A.symm.trans J);simp[Instr.lookup,run_underlying underlying251,MapKept.run_getObj_map Y,pairLaw.check w _ S,Z,Result.andThen,z]
theorem x7e{f:MapEntry->MapEntry}:∀(l:List MapEntry) (j:Nat) (v:MapEntry),l[j]?=some v->f v=v->l.modify j f=l
 | [],j,v,h,_=>by simp at h
 | x::l,0,v,h,hf=>by simp at h;subst h;simp[hf]
 | x::l,j+1,v,h,hf=>by simp at h;simp[x7e l j v h hf]
def incr(c:ByteArray->ByteArray->Int)(a b:ByteArray):ByteArray->ByteArray->Int:=fun x y=>if x=a/\y=b then c a b+1 else c x y
theorem z0V{w r}{p:Array MapEntry}{clock}{c:ByteArray->ByteArray->Int}(Y:w.heap[r]?=some (.map p clock))(h:MObj p clock c){a b}(ha:Sh a)(t:Sh b) :
  ∃(st:Nat) (ae:Array MapEntry) (n:Nat),(Instr.mapEntry 251 (.map (some r)) (pk a b)).run prog w=.ok (.tuple #[.int .i64 (c a b),goInt st]) (setBlock w r (.map ae n))/\MObj ae n c /\
   ∀W:World,W.heap[r]?=some (.map ae n)->∃C q,(Instr.entryStore 251 (.map (some r)) (goInt st) (.int .i64 (c a b+1))).run prog W=.ok () (setBlock W r (.map C q))/\MObj C q (incr c a b):=by
 obtain⟨l,S⟩:=z0w ha t;obtain⟨s1,H,s3⟩:=h.st;rcases pairLaw.find w S p.toList h.ks with⟨Z,D⟩ | ⟨j,v,Z,D,J⟩
 ·have u:=h.none a b D;have ab:(p.push ⟨pk a b,.int .i64 0,clock⟩).findIdx? (fun e=>((e.born:Nat):Int)==((clock:Nat):Int))=some p.size:=(by grind);refine⟨clock,p.push ⟨pk a b,.int .i64 0,clock⟩,clock+1,?_,⟨stamped_push h.st D,fun x A=>?_,fun X L F=>?_⟩,fun W U=>⟨(p.push ⟨pk a b,.int .i64 0,clock⟩).modify p.size (fun e=>{ e with val:=.int .i64 (c a b+1) }),clock+1,?_,?_⟩⟩
  ·rw[u];simp[Instr.mapEntry,run_underlying underlying251,MapKept.run_getObj_map Y,pairLaw.check w false S,Z,MapKept.run_setObj_map _ Y,Result.andThen,setBlock]
  ·simp only[Array.toList_push,List.mem_append,List.mem_singleton]at A;rcases A with A | rfl
   ·exact h.keys x A
   ·exact⟨a,b,rfl,by rw[u],ha,t⟩
  ·exact h.none X L fun x A=>F x f9v
  ·exact u5S
  ·have hm:((p.push ⟨pk a b,.int .i64 0,clock⟩).modify p.size (fun e=>{ e with val:=.int .i64 (c a b+1) })).toList=p.toList++[⟨pk a b,.int .i64 (c a b+1),clock⟩]:=by
    rw[Array.toList_modify,Array.toList_push,<- Array.length_toList];exact Go.WideElems.modify_last _ _ _
   refine⟨stamped_modify (stamped_push h.st D) _ _ (fun _ _=>rfl) (fun _ _ _=>rfl),fun x A=>?_,fun X L F=>?_⟩
   ·rw[hm]at A;simp only[List.mem_append,List.mem_singleton]at A;rcases A with A | rfl
    ·obtain⟨X,L,e1,z,N,e4⟩:=h.keys x A;refine⟨X,L,e1,?_,N,e4⟩;unfold incr;rw[if_neg,z];rintro⟨rfl,rfl⟩;exact D x A e1
    ·exact⟨a,b,rfl,P2K,ha,t⟩
   ·rw[hm]at F;unfold incr;rw[if_neg]
    ·exact h.none X L fun x A=>F x f9v
    ·rintro⟨rfl,rfl⟩;exact F ⟨pk X L,.int .i64 (c X L+1),clock⟩ M7K rfl
 ·have f:=List.mem_of_getElem? D;obtain⟨X,L,e1,z,_,_⟩:=h.keys v f;obtain⟨rfl,rfl⟩:=z5o (e1.symm.trans J);have R:p[j]?=some v:=by rw[<- Array.getElem?_toList];exact D
  have k:p.modify j (fun e=>{ e with key:=pk X L })=p:=by
   apply Array.toList_inj.1;rw[Array.toList_modify];exact x7e p.toList j v D (by rw[<- J])
  have ab:p.findIdx? (fun e=>((e.born:Nat):Int)==((v.born:Nat):Int))=some j:=by
   rw[findIdx_arr];exact findIdx_born H D
  refine⟨v.born,p,clock,?_,h,fun W U=>⟨p.modify j (fun e=>{ e with val:=.int .i64 (c X L+1) }),clock,?_,?_⟩⟩
  ·have aj:=pairLaw.stays w S;simp[Instr.mapEntry,run_underlying underlying251,MapKept.run_getObj_map Y,pairLaw.check w false S,Z,MapKept.run_setObj_map _ Y,Result.andThen,setBlock,R,J,aj,z,k]
  ·exact u5S
  ·refine⟨stamped_modify h.st _ _ (fun _ _=>rfl) (fun _ _ _=>rfl),fun x A=>?_,fun T b1 F=>?_⟩
   ·rw[Array.toList_modify]at A;obtain⟨i,hi,rfl⟩:=List.getElem_of_mem A;rw[List.length_modify]at hi;rw[List.getElem_modify];by_cases I:j=i
    ·subst I
     have:p.toList[j]=v:=by
      have:=List.getElem?_eq_getElem hi;rw[D]at this;exact(Option.some.inj this).symm
     rw[if_pos rfl,this];exact⟨X,L,J,P2K,ha,t⟩
    ·rw[if_neg I];obtain⟨x1,y1,s,M,f3,B⟩:=h.keys p.toList[i] (List.getElem_mem hi);refine⟨x1,y1,s,?_,f3,B⟩;unfold incr;rw[if_neg,M];rintro⟨rfl,rfl⟩
     have d:j<p.toList.length:=by
      rcases Nat.lt_or_ge j p.toList.length with hh | hh
      ·exact hh
      ·rw[List.getElem?_eq_none hh]at D;cases D
     have:p.toList[j]=v:=by
      have:=List.getElem?_eq_getElem d;rw[D]at this;exact(Option.some.inj this).symm
     have G:(p.toList.map (·.key))[j]'(V6s)=(p.toList.map (·.key))[i]'(w3z):=by
      simp only[List.getElem_map,this,s,J]
     rcases Nat.lt_or_gt_of_ne I with hlt | hlt
     ·exact(List.pairwise_iff_getElem.1 s3 j i V6s w3z hlt) G
     ·exact(List.pairwise_iff_getElem.1 s3 i j w3z V6s hlt) G.symm
   ·unfold incr;rw[if_neg]
    ·refine h.none T b1 fun x A he=>?_
     have:pk T b1∈(p.modify j (fun e=>{ e with val:=.int .i64 (c X L+1) })).toList.map (·.key):=by
      rw[modify_keys j (fun e=>{ e with val:=.int .i64 (c X L+1) }) (fun _ _=>rfl)];exact List.mem_map.2 ⟨x,A,he⟩
     exact v2A
    ·rintro⟨rfl,rfl⟩
     have:pk T b1∈(p.modify j (fun e=>{ e with val:=.int .i64 (c T b1+1) })).toList.map (·.key):=by
      rw[modify_keys j (fun e=>{ e with val:=.int .i64 (c T b1+1) }) (fun _ _=>rfl)];exact List.mem_map.2 ⟨v,f,J⟩
     exact v2A
open Go.RowKit Go.MapKept Go.WideMaps
open Go.ChangeMaps (setBlock)
theorem x4D(B:Nat)(w:World)(r:Nat)(o:Obj)(h:B<=r):Below B w (setBlock w r o):=by
 refine⟨rfl,rfl,rfl,?_,fun k G=>?_⟩
 ·show w.heap.size<=(w.heap.setIfInBounds r o).size;simp
 ·show(w.heap.setIfInBounds r o)[k]?=w.heap[k]?;rw[Array.getElem?_setIfInBounds_ne f6J]
theorem y3l(w:World)(r:Nat)(o:Obj)(h:r<w.heap.size):(setBlock w r o).heap[r]?=some o:=by
 show(w.heap.setIfInBounds r o)[r]?=some o;simp[h]
theorem x1D(w:World){r k:Nat}(o:Obj)(h:k≠r):(setBlock w r o).heap[k]?=w.heap[k]?:=by
 show(w.heap.setIfInBounds r o)[k]?=w.heap[k]?;rw[Array.getElem?_setIfInBounds_ne (fun e=>h e.symm)]
theorem cell_far{w:World}{r L i:Nat}{v:Value}(o:Obj)(h:L≠r)(I:w.cell? ⟨L,i,none⟩=some v):(setBlock w r o).cell? ⟨L,i,none⟩=some v:=by
 unfold World.cell? at *;rw[x1D w o h];exact I
structure But(r:Nat)(w w':World):Prop where
 size:w'.heap.size=w.heap.size
 far:∀k,k≠r->w'.heap[k]?=w.heap[k]?
 below:∀B,B<=r->Below B w w'
def MixB(w:World)(r:Nat)(c:ByteArray->ByteArray->Int)(a b:ByteArray)(e:Ending)(w':World):Prop:=e=.returned (.bool (decide (0<c a b)))/\MAt w' r (incr c a b)/\But r w w'
theorem y9T(L r:Nat)(a b:ByteArray)(c:ByteArray->ByteArray->Int)(w:World)(hL:w.cell? ⟨L,11,none⟩=some (.map (some r)))(l:L≠r)(hm:MAt w r c)(ha:Sh a)(Y:Sh b)(I:0<=c a b/\c a b<=100000) :
  Calls prog 224 #[.pointer (some ⟨L,0,none⟩),.string a,.string b] w (MixB w r c a b):=by
 obtain⟨p,clock,U,R⟩:=hm
 have X:r<w.heap.size:=by
  rcases Nat.lt_or_ge r w.heap.size with hh | hh
  ·exact hh
  ·rw[Array.getElem?_eq_none hh]at U;cases U
 have i:w.drew.heap[r]?=some (.map p clock):=U;obtain⟨C,D,x,e1,H,e2⟩:=z0V i R ha Y;have z:(setBlock w.drew r (.map D x)).heap[r]?=some (.map D x):=y3l _ _ _ X;obtain⟨F,A,N,s⟩:=e2 _ z;have f:(setBlock (setBlock w.drew r (.map D x)) r (.map F A)).heap[r]?=some (.map F A):=y3l _ _ _ (by simpa[setBlock]using X);have l0:=x9Y i R ha Y;have u:=x9Y z H ha Y;have l2:=x9Y f s ha Y;have g:w.drew.cell? ⟨L,11,none⟩=some (.map (some r)):=hL;have W:=cell_far (.map D x) l g;have j:=cell_far (.map F A) l W
 have d:But r w (setBlock (setBlock w.drew r (.map D x)) r (.map F A)):=⟨by simp[setBlock],fun k G=>by rw[x1D _ _ G,x1D _ _ G];rfl,fun B m=>by
  have Z:Below B w w.drew:=⟨rfl,rfl,rfl,l0r _,fun _ _=>rfl⟩
  exact(Z.trans (x4D B w.drew r _ m)).trans (x4D B _ r _ m)⟩
 have T:MixB w r c a b (.returned (.bool (decide (0<c a b)))) (setBlock (setBlock w.drew r (.map D x)) r (.map F A)):=⟨rfl,⟨F,A,f,s⟩,d⟩;have t:incr c a b a b=c a b+1:=(by unfold incr;rw[if_pos ⟨rfl,rfl⟩]);rw[t]at l2;unfold pk goInt at *;generalize hn:c a b=n at *;have y:IntKind.i64.wrap (n+1)=n+1:=IntWalk.i64_in _ ⟨f6J,f6J⟩;have J:decide (1<n+1)=decide (0<n):=decide_eq_decide.2 f6J;clear U R X i e2 H s z f d t hn;generalize f:setBlock (setBlock w.drew r (.map D x)) r (.map F A)=M at *;generalize z:setBlock w.drew r (.map D x)=q at *;clear z f;go_enter func224,ntmps224;go_wp2;refine wp_region_held_drew (S:=fun w'=>w'.cell? ⟨L,11,none⟩=some (.map (some r))) f4y (g) (fun hHeld=>?_);refine tk9 0 (.pointer (some ⟨L,0,none⟩)) ?_;refine tk9 1 (.pointer (some ⟨L,0,none⟩)) ?_;refine tk9 2 (.pointer (some ⟨L,11,none⟩)) ?_;refine tk9 3 (.map (some r)) ?_;refine tk9 4 (.string a) ?_;refine tk9 5 (.string b) ?_;refine tk9 6 (.agg #[.string a,.string b]) ?_;refine wpAnyH_ready (rs:=[7,9]) f4y M7M ?_;refine AllReadyH.cons (o:=⟨some 14,_,_,_,_,_⟩) rfl (fun K hK=>?_) (AllReadyH.cons (o:=⟨some 16,_,_,_,_,_⟩) rfl (fun K hK=>?_) AllReadyH.nil)
 ·go_simp;refine hK.out _ _ ?_ (fun hHeld=>?_)
  ·exact g
  clear hK K
  try simp only[Act.put,sa9,sb9,sc9]
  refine tk9 8 (.int .i64 (n+1)) ?_;refine rd9 9 fun K hK=>?_;go_simp;refine hK.out _ _ ?_ (fun hHeld=>?_)
  ·exact W
  clear hK K
  try simp only[Act.put,sa9,sb9,sc9]
  refine tk9 10 (.int .i64 (C:Int)) ?_;exact R1F
 ·go_simp;refine hK.out _ _ ?_ (fun hHeld=>?_)
  ·exact W
  clear hK K
  try simp only[Act.put,sa9,sb9,sc9]
  refine tk9 10 (.int .i64 (C:Int)) ?_;refine rd9 7 fun K hK=>?_;go_simp;refine hK.out _ _ ?_ (fun hHeld=>?_)
  ·exact W
  clear hK K
  try simp only[Act.put,sa9,sb9,sc9]
  refine tk9 8 (.int .i64 (n+1)) ?_;exact R1F
def x1R:List Run->List Value
 | []=>[]
 | x::l=>.int .i64 x.lo::.int .i64 x.hi::.int .i64 x.s::x1R l
theorem x8x:∀(l:List Run) (x:Run),x1R (l++[x])=x1R l++[.int .i64 x.lo,.int .i64 x.hi,.int .i64 x.s]
 | [],x=>rfl
 | y::l,x=>by simp[x1R,x8x l x]
theorem y1g:∀(l:List Run) (i:Nat),i<l.length->(x1R l)[i*3]?=some (.int .i64 (l.getD i Run.none).lo)/\(x1R l)[i*3+1]?=some (.int .i64 (l.getD i Run.none).hi)/\(x1R l)[i*3+2]?=some (.int .i64 (l.getD i Run.none).s)
 | [],i,h=>by simp at h
 | x::l,0,_=>by simp[x1R]
 | x::l,i+1,h=>by
  have:=y1g l i S4r;rw[(f6J:(i+1)*3=i*3+1+1+1)];simpa[x1R]using this
def Ln(w:World)(B:Nat)(v:Value)(xs:List Run):Prop:=xs.length<=100000/\w.ownsRow B 264 3 v xs.length (x1R xs)
theorem Ln.rns{w B v}{xs:List Run}(h:Ln w B v xs):Rns w v xs:=by
 obtain⟨Z,D,J⟩:=h;refine⟨f6J,?_⟩;rcases J with⟨rfl,U⟩ | ⟨g,M,t,rfl,_,H,F,I,L,C⟩
 ·grind
 ·refine .inr ⟨g,0,M,rfl,F,by unfold maxLen at I;exact f6J,fun i hi=>?_⟩
  have S:∀j (v:Value),(x1R xs)[j]?=some v->w.cell? ⟨g,j,Option.none⟩=some v:=fun j v N=>by
   rw[<- C]at N;have d:j<xs.length*3:=(by grind);rw[List.getElem?_take_of_lt d,Array.getElem?_toList]at N;have R:j<t.size:=(by rw[L];exact f6J);rw[cell_of (j:=j) H R];simpa[Array.getD,R,Array.getElem?_eq_getElem R]using N
  obtain⟨T,A,f⟩:=y1g xs i hi;exact⟨by rw[Nat.zero_add];exact S _ _ T,by rw[Nat.zero_add];exact S _ _ A,by rw[Nat.zero_add];exact S _ _ f⟩
theorem x5v{w:World}{B e C n:Nat}{v us}(h:w.ownsRow B e C v n us){k}(G:v.ownBlock=some k):k<w.heap.size/\B<=k:=by
 rcases h.2 with⟨rfl,_⟩ | ⟨g,M,t,rfl,Y,H,_⟩
 ·cases G
 ·cases G;refine⟨?_,Y⟩;rcases Nat.lt_or_ge g w.heap.size with hh | hh
  ·exact hh
  ·grind
theorem alloc_at(w:World) o:(w.alloc o).heap[w.heap.size]?=some o:=by
 show(w.heap.push o)[w.heap.size]?=_;simp
structure LG(w:World)(B L r:Nat)(vs:Nat->Value)(fs:Nat->List Run)(c:ByteArray->ByteArray->Int):Prop where
 bl:B<=L
 br:B<=r
 lr:L≠r
 blk:∃cur,w.heap[L]?=some (.cells cur 255 (0,0))/\cur.size=12/\(∀f,f<11->cur.getD f undef=vs f)/\cur.getD 11 undef=.map (some r)
 map:MAt w r c
 rows:∀f,f<11->Ln w B (vs f) (fs f)
 far:∀f,f<11->∀k,(vs f).ownBlock=some k->k≠L/\k≠r
 apart:∀f g,f<11->g<11->f≠g->∀k,(vs f).ownBlock=some k->(vs g).ownBlock≠some k
theorem lt_of_block{w:World}{k o}(h:w.heap[k]?=some o):k<w.heap.size:=by grind
theorem LG.keep{w W B L r}{I:Nat->Value}{N:Nat->List Run}{c:ByteArray->ByteArray->Int}(h:LG w B L r I N c)(G:∀k,k<w.heap.size->W.heap[k]?=w.heap[k]?):LG W B L r I N c:=by
 obtain⟨t,Z,D,J,F⟩:=h.blk;obtain⟨p,clock,A,q⟩:=h.map
 exact⟨h.bl,h.br,h.lr,⟨t,by rw[G L (lt_of_block Z)];exact Z,D,J,F⟩,⟨p,clock,by rw[G r (lt_of_block A)];exact A,q⟩,
  fun f C=>⟨(h.rows f C).1,x0y (h.rows f C).2 fun g H=>G g (x5v (h.rows f C).2 H).1⟩,h.far,h.apart⟩
theorem LG.on{w W B L r}{A:Nat->Value}{N:Nat->List Run}{c:ByteArray->ByteArray->Int}(h:LG w B L r A N c)(Y:Bw w W):LG W B L r A N c:=h.keep Y.block
theorem LG.cell{w B L r}{A:Nat->Value}{N:Nat->List Run}{c:ByteArray->ByteArray->Int}(h:LG w B L r A N c){f}(C:f<11):w.cell? ⟨L,f,none⟩=some (A f):=by
 obtain⟨t,Z,D,J,F⟩:=h.blk;rw[cell_of (j:=f) Z f6J,J f C]
theorem LG.mcell{w B L r}{A:Nat->Value}{N:Nat->List Run}{c:ByteArray->ByteArray->Int}(h:LG w B L r A N c):w.cell? ⟨L,11,none⟩=some (.map (some r)):=by
 obtain⟨t,Z,D,J,F⟩:=h.blk;rw[cell_of (j:=11) Z f6J,F]
def upd{α:Type}(g:Nat->α)(f:Nat)(v:α):Nat->α:=fun k=>if k=f then v else g k
theorem upd_same{α:Type}(g:Nat->α) f(v:α):upd g f v f=v:=if_pos rfl
theorem x1v{α:Type}(g:Nat->α){f k}(v:α)(h:k≠f):upd g f v k=g k:=if_neg h
theorem LG.mixed{w W B L r}{A:Nat->Value}{N:Nat->List Run}{c c':ByteArray->ByteArray->Int}(h:LG w B L r A N c)(G:MAt W r c')(Y:But r w W):LG W B L r A N c':=by
 obtain⟨t,Z,D,J,F⟩:=h.blk
 exact⟨h.bl,h.br,h.lr,⟨t,by rw[Y.far L h.lr];exact Z,D,J,F⟩,G,
  fun f C=>⟨(h.rows f C).1,x0y (h.rows f C).2 fun g H=>Y.far g (h.far f C g H).2⟩,h.far,h.apart⟩
theorem LG.more{w W R:World}{B L r}{n:Nat->Value}{N:Nat->List Run}{c:ByteArray->ByteArray->Int}{f gg cap}{x:Run}(h:LG w B L r n N c)(C:f<11)(ab:(N f).length<100000)
  (hW:∀k,k<w.heap.size->W.heap[k]?=w.heap[k]?) (ae:w.heap.size<=W.heap.size) (H:W.grownBy R (n f).ownBlock) (U:(n f).ownBlock=some gg\/gg=W.heap.size)
  (v:R.ownsRow B 264 3 (.slice (some ⟨gg,0,none⟩) ((N f).length+1) cap) ((N f).length+1) (x1R (N f)++[.int .i64 x.lo,.int .i64 x.hi,.int .i64 x.s])) :
  LG (R.setCell ⟨L,f,none⟩ (.slice (some ⟨gg,0,none⟩) ((N f).length+1) cap)) B L r (upd n f (.slice (some ⟨gg,0,none⟩) ((N f).length+1) cap)) (upd N f (N f++[x])) c:=by
 obtain⟨t,Z,D,J,h4⟩:=h.blk;obtain⟨p,clock,h5,q⟩:=h.map;have hL:=lt_of_block Z;have X:=lt_of_block h5;have l:some L≠(n f).ownBlock:=fun e=>(h.far f C L e.symm).1 rfl;have j:some r≠(n f).ownBlock:=fun e=>(h.far f C r e.symm).2 rfl;have b:gg≠L:=(by grind);have d:gg≠r:=(by grind);have M:∀k,k<w.heap.size->some k≠(n f).ownBlock->R.heap[k]?=w.heap[k]?:=fun k G F=>(H.block k f6J F).trans (hW k G);have i:R.heap[L]?=some (.cells t 255 (0,0)):=(M L hL l).trans Z;have S:∀k,k≠L->(R.setCell ⟨L,f,none⟩ (.slice (some ⟨gg,0,none⟩) ((N f).length+1) cap)).heap[k]?=R.heap[k]?:=fun k G=>x0e _ G;refine⟨h.bl,h.br,h.lr,⟨_,x0c i _,by simpa using D,fun g m=>?_,?_⟩,⟨p,clock,by rw[S r (fun e=>h.lr e.symm),M r X j];exact h5,q⟩,fun g m=>?_,fun g m k G=>?_,fun g1 A u I y k G=>?_⟩
 ·by_cases e:g=f
  ·subst e;rw[upd_same];simp[Array.getD,D,(f6J:g<12)]
  ·rw[x1v _ _ e,<- J g m];simp[Array.getD,D,(f6J:g<12),Array.getElem_setIfInBounds_ne _ (fun Y=>e Y.symm)]
 ·rw[<- h4];simp[Array.getD,D,Array.getElem_setIfInBounds_ne _ (f6J:f≠11)]
 ·by_cases e:g=f
  ·subst e;rw[upd_same,upd_same];refine⟨P8P,?_⟩;rw[x8x,(M7M:(N g++[x]).length=(N g).length+1)]
   exact x0y v fun k G=>by
    have:gg=k:=T4x;subst this;exact S gg b
  ·rw[x1v _ _ e,x1v _ _ e];refine⟨(h.rows g m).1,x0y (h.rows g m).2 fun k G=>?_⟩;rw[S k (h.far g m k G).1];exact M k (x5v (h.rows g m).2 G).1 (fun Y=>h.apart g f m C e k G Y.symm)
 ·by_cases e:g=f
  ·subst e;rw[upd_same]at G;have:gg=k:=T4x;subst this;exact⟨b,d⟩
  ·rw[x1v _ _ e]at G;exact h.far g m k G
 ·have T:∀g,g<11->g≠f->(n g).ownBlock≠some gg:=fun g m F e=>by
   rcases U with Y | Y
   ·exact h.apart g f m C F gg e Y
   ·have:=(x5v (h.rows g m).2 e).1;omega
  by_cases e1:g1=f
  ·subst e1;rw[upd_same]at G;have:gg=k:=T4x;subst this;rw[x1v _ _ (fun e=>y e.symm)];exact T A I (fun e=>y e.symm)
  ·rw[x1v _ _ e1]at G;by_cases z:A=f
   ·subst z;rw[upd_same];intro e;have:gg=k:=G5X;subst this;exact T g1 u e1 G
   ·rw[x1v _ _ z];exact h.apart g1 A u I y k G
abbrev baseS:ByteArray:=⟨#[97,98,99,100,101,102,103,104,105,106,107,108,109,110,111,112,113,114,115,116,117,118,119,120,121,122,48,49,50,51,52,53,54,55,56,57,45,46]⟩
def baseL:List Int:=[97,98,99,100,101,102,103,104,105,106,107,108,109,110,111,112,113,114,115,116,117,118,119,120,121,122,48,49,50,51,52,53,54,55,56,57,45,46]
theorem x8d:nums baseS=baseL:=M3j
theorem x4B:baseS.size=38:=rfl
theorem Cn.baseA_iff(l:List Rec):∀(k:Nat) (c:Int),Cn.baseA l k c=true↔∀i:Nat,i<k->Cn.baseOf (c+i)=true->Cn.plain l (c+i)=true
 | 0,c=>by simp[Cn.baseA]
 | k+1,c=>by
  rw[Cn.baseA,Bool.and_eq_true,Cn.baseA_iff l k (c+1)];constructor
  ·rintro⟨Z,D⟩ i hi Y;rcases Nat.eq_zero_or_pos i with rfl | h
   ·have e:c+((0:Nat):Int)=c:=M7L;rw[e]at Y ⊢;simpa[Y]using Z
   ·have:=D (i-1) f6J;rw[(f6J:c+1+((i-1:Nat):Int)=c+i)]at this;exact this Y
  ·intro h;refine⟨?_,fun i hi Y=>?_⟩
   ·have:=h 0 f6J;rw[(M7L:c+((0:Nat):Int)=c)]at this;cases Y:Cn.baseOf c
    ·rfl
    ·simpa using this Y
   ·have:=h (i+1) f6J;rw[(f6J:c+1+(i:Int)=c+((i+1:Nat):Int))]at *;exact this Y
theorem z5P:∀i:Nat,i<78->Cn.baseOf (45+(i:Int))=true->(45+(i:Int))∈baseL:=M3j
theorem base_of:∀x∈baseL,Cn.baseOf x=true/\45<=x/\x<123:=M3j
theorem z2e l:Cn.baseA l 78 45=baseL.all (Cn.plain l):=by
 rw[Bool.eq_iff_iff,Cn.baseA_iff,List.all_eq_true];constructor
 ·intro h x A;obtain⟨Z,D,J⟩:=base_of x A;have:=h (x-45).toNat f6J;rw[(f6J:(45:Int)+((x-45).toNat:Int)=x)]at this;exact this Z
 ·intro h i hi Y;exact h _ (z5P i hi Y)
theorem z8T{p:Int->Bool}{xs:List Int}:(∀j,j<xs.length->p (xs.getD j 0)=true)->xs.all p=true:=fun h=>by
 rw[List.all_eq_true];intro x A;obtain⟨j,R,rfl⟩:=List.getElem_of_mem A;have:=h j R;simpa[List.getD,R]using this
theorem z8U{p:Int->Bool}{xs:List Int}{j}(R:j<xs.length)(h:p (xs.getD j 0)=false):xs.all p=false:=by grind
theorem y7y:∀j,j<38->45<=baseL.getD j 0/\baseL.getD j 0<123:=M3j
def y3w(w:World)(l:List Rec)(pos:Nat)(wr:World):Prop:=pos<=38/\wr.heap[w.heap.size]?=some (.stringIter baseS pos)/\Below w.heap.size w wr/\∀j,j<pos->Cn.plain l (baseL.getD j 0)=true
theorem y2F v l w(hg:Glob w)(N:Rcs w v l):Calls prog 93 #[v] w (x0g w (Cn.baseA l 78 45)):=by
 rw[z2e];have KF:Hid (∀W,Bw w W->Calls prog 143 #[.int .i64 1] W (IntB W 1)):=fun W Y=>x1m 1 W (hg.on Y) w5p;have KD:Hid (∀W c,Bw w W->Rune c->Calls prog 142 #[v,.int .i64 1,.int .i32 c] W (IntB W (Cn.find l 1 c))):=fun W c Y hc=>x9h v l 1 c W (hg.on Y) (N.below Y) w5p hc;have q:=O (fun c=>hit_at N 1 c);have Z:Hid (y3w w l 0 (w.iter baseS 0)):=⟨f6J,World.iter_heap w baseS 0,(b0r).alloc (l0r _) _,fun j hj=>f6J⟩;have ar:Hid ((∀j,j<38->Cn.plain l (baseL.getD j 0)=true)->baseL.all (Cn.plain l)=true):=fun h=>z8T h;have m:Hid (∀j,j<38->Cn.plain l (baseL.getD j 0)=false->baseL.all (Cn.plain l)=false):=fun j hj h=>z8U hj h;have aC:=N.1;obtain⟨ao,aD,rfl,aF,t⟩:=N.shape;generalize baseL.all (Cn.plain l)=R at *;go_enter func93,ntmps93;go_wp2;go_loopw[4,5] (fun _ _ wr=>∃pos:Nat,Hid (y3w w l pos wr)) (fun _ _ wr=>38-wr.iterPos w.heap.size)
 case atStart=>exact⟨0,Z⟩
 case round =>
  obtain⟨pos,ay⟩:=hrel;obtain⟨y,hit,ae,ab⟩:=V ay;have aH:w.heap.size<wr.heap.size:=(Array.getElem?_eq_some_iff.1 hit).1;by_cases s:pos<38
  ·obtain⟨aI,aJ⟩:=y7y pos s;obtain⟨i,d2⟩:=y8l baseS pos (by rw[x4B];exact s) (by rw[x8d];exact f6J);rw[x8d]at i;have u:=fun M=>Lib.run_next_any_at (P:=prog) wr w.heap.size baseS pos M hit (by rw[x4B];exact s);rw[i,d2]at u;have I:=Lib.iterAt_heap wr w.heap.size baseS pos (pos+1) hit;have f:=Lib.below_iterAt ae (k:=w.heap.size) (l0r _) baseS (pos+1)
   have J:38-(pos+1)<38-wr.iterPos w.heap.size:=by
    simp only[World.iterPos,hit];omega
   have A:w.heap.size<(wr.iterAt w.heap.size baseS (pos+1)).heap.size:=(by grind);have am:=O ab;have x:Rune (baseL.getD pos 0):=(by unfold Rune;exact f6J);have hH:=V q (baseL.getD pos 0);have K1:=O (V KF _ f);have d:Hid (Cn.plain l (baseL.getD pos 0)=match Cn.hit l 1 (baseL.getD pos 0)with | some r=>decide (r.kind=1) | none=>false):=rfl;have D:=O (V m pos s);have B:=O (fun W U=>V KD W (baseL.getD pos 0) U x)
   have p:Hid (∀W,(wr.iterAt w.heap.size baseS (pos+1)).heap.size<=W.heap.size->W.heap[w.heap.size]?=some (.stringIter baseS (pos+1))->Bw w W->Cn.plain l (baseL.getD pos 0)=true->y3w w l (pos+1) W):=fun W _ U Y G=>⟨f6J,U,Y,fun j hj=>by
    rcases Nat.lt_or_ge j pos with h | h
    ·exact V am j h
    ·obtain rfl:j=pos:=by omega
     exact G⟩
   generalize wr.iterAt w.heap.size baseS (pos+1)=W2,baseL.getD pos 0=c at *;rcases hH with⟨h1,h2⟩ | ⟨k,b,aK,aB,h1,aG,h2,g,hl,hm,X,hf⟩
   ·obtain rfl:R=false:=V D (by rw[V d,h2]);rw[h1]at B;go_wp2_with fail;refine c0m K1 fun W3 L=>?_;have z:=bthen f L;have K2:=O (V B W3 z);go_wp2_with fail;refine c0m K2 fun n S=>?_;have T:x0g w false (.returned (.bool false)) n:=⟨rfl,bthen z S⟩;go_wp2;go_ret;exact T
   ·simp only[Value.slice.injEq]at g;obtain⟨rfl,_,rfl⟩:=g;have G:Cn.plain l c=decide ((l.getD k Cn.none).kind=1):=(by rw[V d,h2]);rw[h1]at B;have HR:=O X;generalize l.getD k Cn.none=r at *;have d:=O G;go_wp2_with fail;refine c0m K1 fun W3 L=>?_;have z:=bthen f L;have K2:=O (V B W3 z);go_wp2_with fail;refine c0m K2 fun n S=>?_;have F:=bthen z S;have x0:=((V HR).below F).kind;have C:Bw W2 n:=bthen L S;have aj:n.heap[w.heap.size]?=some (.stringIter baseS (pos+1)):=(by rw[C.block _ A];exact I);have aA:=C.size;have H:=O (V p n aA aj F)
    have aw:38-n.iterPos w.heap.size<38-wr.iterPos w.heap.size:=by
     simp only[World.iterPos,aj];simp only[World.iterPos]at J;exact J
    by_cases k1:r.kind=1
    ·have aq:Hid (y3w w l (pos+1) n):=V H (by rw[V d,k1];rfl);rw[k1]at x0;go_wp2
     go_roundw
     case rel=>exact⟨pos+1,aq⟩
     case measure=>exact aw
    ·obtain rfl:R=false:=V D (by rw[V d];exact d0f k1);have T:x0g w false (.returned (.bool false)) n:=⟨rfl,F⟩;have q1:(r.kind != 1)=true:=(by simp[k1]);exact U7G
  ·obtain rfl:pos=38:=f6J;obtain rfl:R=true:=V ar ab;have T:x0g w true (.returned (.bool true)) wr:=⟨rfl,ae⟩;have u:=fun M=>Lib.run_next_end_at (P:=prog) wr w.heap.size baseS 38 M hit (by rw[x4B];exact f6J);go_wp2;go_ret;exact T
theorem Rown.far7{w W B v}{ps:List (Rec×Value)}(h:Rown w B v ps)(G:∀k,B<=k->k<w.heap.size->W.heap[k]?=w.heap[k]?):Rown W B v ps :=
 ⟨x0y h.1 fun g H=>G g (x5v h.1 H).2 (x5v h.1 H).1,fun p s=>(h.2 p s).keep fun g H=>G g (x5v (h.2 p s).2.2 H).2 (x5v (h.2 p s).2.2 H).1⟩
theorem Rown.on7{w W B v}{ps:List (Rec×Value)}(h:Rown w B v ps)(Y:Bw w W):Rown W B v ps:=h.far7 fun k _ G=>Y.block k G
def putR(W:World)(g off:Nat)(q:Rec×Value):World:=(((((((W.setCell ⟨g,off,none⟩ (.int .i64 q.1.kind)).setCell ⟨g,off+1,none⟩ (.int .i64 q.1.lo)).setCell ⟨g,off+2,none⟩ (.int .i64 q.1.hi)).setCell ⟨g,off+3,none⟩ (.int .i64 q.1.n)).setCell ⟨g,off+4,none⟩ q.2).setCell ⟨g,off+5,none⟩ (.string q.1.name)).setCell ⟨g,off+6,none⟩ (.string q.1.other)).setCell ⟨g,off+7,none⟩ (.float .f64 q.1.wt)
def set8(c:Array Value)(off:Nat)(q:Rec×Value):Array Value:=(((((((c.setIfInBounds off (.int .i64 q.1.kind)).setIfInBounds (off+1) (.int .i64 q.1.lo)).setIfInBounds (off+2) (.int .i64 q.1.hi)).setIfInBounds (off+3) (.int .i64 q.1.n)).setIfInBounds (off+4) q.2).setIfInBounds (off+5) (.string q.1.name)).setIfInBounds (off+6) (.string q.1.other)).setIfInBounds (off+7) (.float .f64 q.1.wt)
theorem z0Z c off(q:Rec×Value):(set8 c off q).size=c.size:=by simp[set8]
theorem z0Y c off(q:Rec×Value)(h:off+8<=c.size) k:(set8 c off q)[k]?=if off<=k/\k<off+8 then(x0C q)[k-off]? else c[k]?:=by
 unfold set8;by_cases G:off<=k/\k<off+8
 ·rw[if_pos G];obtain⟨j,rfl⟩:∃j,k=off+j:=⟨k-off,f6J⟩;rw[Nat.add_sub_cancel_left];obtain rfl | rfl | rfl | rfl | rfl | rfl | rfl | rfl:j=0\/j=1\/j=2\/j=3\/j=4\/j=5\/j=6\/j=7:=by omega
  all_goals simp[Array.getElem?_setIfInBounds,x0C];try omega
 ·rw[if_neg G];simp only[Array.getElem?_setIfInBounds];rw[if_neg f6J,if_neg f6J,if_neg f6J,if_neg f6J,if_neg f6J,if_neg f6J,if_neg f6J,if_neg f6J]
theorem z0B{W g off cur e}(h:W.heap[g]?=some (.cells cur e (0,0)))(q:Rec×Value):(putR W g off q).heap[g]?=some (.cells (set8 cur off q) e (0,0)):=by
 have y:=x0c (j:=off+7) (x0c (j:=off+6) (x0c (j:=off+5) (x0c (j:=off+4) (x0c (j:=off+3) (x0c (j:=off+2) (x0c (j:=off+1) (x0c (j:=off) h (.int .i64 q.1.kind)) (.int .i64 q.1.lo)) (.int .i64 q.1.hi)) (.int .i64 q.1.n)) q.2) (.string q.1.name)) (.string q.1.other)) (.float .f64 q.1.wt);unfold putR set8;exact y
theorem x9O{W g off k}(q:Rec×Value)(h:k≠g):(putR W g off q).heap[k]?=W.heap[k]?:=by
 unfold putR;rw[x0e _ h,x0e _ h,x0e _ h,x0e _ h,x0e _ h,x0e _ h,x0e _ h,x0e _ h]
theorem x8C{w W B g off}(h:Below B w W)(H:B<=g)(q:Rec×Value):Below B w (putR W g off q) :=
 x0b (x0b (x0b (x0b (x0b (x0b (x0b (x0b h H _) H _) H _) H _) H _) H _) H _) H _
theorem Rown.cells8{w B g cap i}{ps:List (Rec×Value)}(h:Rown w B (.slice (some ⟨g,0,none⟩) ps.length cap) ps)(hi:i<ps.length) :
  ∃(r:Rec) (ao:Option Addr) (len cp:Nat),ps[i]=(r,.slice ao len cp)/\w.cell? ⟨g,i*8,none⟩=some (.int .i64 r.kind)/\w.cell? ⟨g,i*8+1,none⟩=some (.int .i64 r.lo)/\w.cell? ⟨g,i*8+2,none⟩=some (.int .i64 r.hi)/\w.cell? ⟨g,i*8+3,none⟩=some (.int .i64 r.n)/\w.cell? ⟨g,i*8+4,none⟩=some (.slice ao len cp)/\w.cell? ⟨g,i*8+5,none⟩=some (.string r.name)/\w.cell? ⟨g,i*8+6,none⟩=some (.string r.other)/\w.cell? ⟨g,i*8+7,none⟩=some (.float .f64 r.wt)/\∀j,w.frozen? ⟨g,j,none⟩=false:=by
 obtain⟨ao,cp,N,_,_⟩:=(h.2 ps[i] (List.getElem_mem hi)).sk.shape
 have I:∀j u,j<8->(x0C ps[i])[j]?=some u->w.cell? ⟨g,i*8+j,none⟩=some u:=by
  intro j u R d;have e:=h.1.cells (g:=g) rfl (i*8+j) u (by rw[x1u ps i j hi R];simpa[List.getD,hi]using d);rw[addr_add,Nat.zero_add]at e;exact e
 refine⟨ps[i].1,ao,_,cp,Prod.ext rfl N,I 0 _ f6J rfl,I 1 _ f6J rfl,I 2 _ f6J rfl,I 3 _ f6J rfl,N ▸ I 4 _ f6J rfl,I 5 _ f6J rfl,I 6 _ f6J rfl,I 7 _ f6J rfl,fun j=>?_⟩;rcases h.1.2 with⟨e,_⟩ | ⟨S,A,t,e,_,X,_⟩
 ·cases e
 ·simp only[Value.slice.injEq,Option.some.injEq,Addr.mk.injEq,and_true,true_and]at e;rw[e.1];exact x0d X
section
variable {P:Program} {ops:Array Oper} {o:Oper} {a:Act} {w w':World} {K:Act->World->Prop} {Q:Exit->Act->World->Prop} {E:Prop}
theorem y6R(C:o.guard=none) ty(x:Operand)(R:o.op=.load ty x) pv v(A:a.eval x=pv)(G:(Instr.loadAt ty pv).run P w=.ok v w)(h:K (a.put o.dst v) w) :
  if Region.wanted o (yielded ops a.tmps)=true then Oper.wp P o a w K Q else E:=by
 rw[if_pos f7d];unfold Oper.wp execOp;simp only[R,A,Sem.run_bind,G,Result.andThen_ok];exact h
theorem x7u(C:o.guard=none) ty(x y:Operand)(R:o.op=.store ty x y) pv v(A:a.eval x=pv)(hy:a.eval y=v)(G:(Instr.storeAt ty pv v).run P w=.ok () w')(h:K (a.put o.dst undef) w') :
  if Region.wanted o (yielded ops a.tmps)=true then Oper.wp P o a w K Q else E:=by
 rw[if_pos f7d];unfold Oper.wp execOp;simp only[R,A,hy,Sem.run_bind,G,Result.andThen_ok];exact h
end
theorem q0T{W g off cur}(h:W.heap[g]?=some (.cells cur 60 (0,0)))(L:off+8<=cur.size) r ao len cp :
  (Instr.storeAt 60 (.pointer (some ⟨g,off,none⟩)) (recV r (.slice ao len cp))).run prog W=.ok () (putR W g off (r,.slice ao len cp)):=by
 have Z:=x0c (j:=off) h (.int .i64 r.kind);have D:=x0c (j:=off+1) Z (.int .i64 r.lo);have J:=x0c (j:=off+2) D (.int .i64 r.hi);have F:=x0c (j:=off+3) J (.int .i64 r.n);have C:=x0c (j:=off+4) F (.slice ao len cp);have q:=x0c (j:=off+5) C (.string r.name);have y:=x0c (j:=off+6) q (.string r.other);have l:=cell_of (j:=off) h f6J;have N:=cell_of (j:=off+1) Z P8P;have R:=cell_of (j:=off+2) D P8P;have u:=cell_of (j:=off+3) J P8P;have S:=cell_of (j:=off+4) F P8P;have T:=cell_of (j:=off+5) C P8P;have I:=cell_of (j:=off+6) q P8P;have U:=cell_of (j:=off+7) y P8P;have t:=x0d (j:=off) h;have s:=x0d (j:=off+1) Z;have M:=x0d (j:=off+2) D;have X:=x0d (j:=off+3) J;have B:=x0d (j:=off+4) F;have H:=x0d (j:=off+5) C;have G:=x0d (j:=off+6) q;have A:=x0d (j:=off+7) y;have k:∀W a m,(store a (.float .f64 r.wt) m).run prog W=stored prog W a (.float .f64 r.wt) m:=fun W a m=>run_store prog W a _ m rfl;unfold recV putR;simp[Instr.storeAt,go_sem,Tryz.sizeOf60,Addr.add,k,stored,l,N,R,u,S,T,I,U,t,s,M,X,B,H,G,A]

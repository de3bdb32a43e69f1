/- Lemmas. -/
import Derived.Test.YtkfcabdmkmljjaaGreatDoorH11
import Derived.Test.YtkfcabdmkmljjaaGreatDoorH7
import Derived.DeepKeys4
import Derived.WideKeyEntry
import Derived.Deep.AppendLies
import Derived.WalkMore
import Derived.Deep.RegionHeld3
set_option maxHeartbeats 4000000
set_option maxRecDepth 20000
namespace Go.Proofs.YtkfcabdmkmljjaaGreatDoor
open Go.Proofs.Tryz
open Go.RowKit
section
variable{p:Prop}
theorem F9h(h:p:=by simp[Instr.entryStore,MapKept.run_getObj_map hW,MapKept.run_setObj_map _ hW,L,Result.andThen,setBlock,goInt,asInt,asIntOf]):p:=h
theorem P2K(h:p:=by unfold incr;rw[if_pos ⟨rfl,rfl⟩]):p:=h
theorem g7c(h:p:=by
 refine rd9 11 fun K hK=>?_;go_simp;refine hK.out _ _ ?_ (fun hHeld=>?_)
 ·exact q
 clear hK K
 try simp only[Act.put,sa9,sb9,sc9]
 refine wpAnyH_done f4y ?_ _;exact m2I):p:=h
theorem T4x(h:p:=by simpa[Value.ownBlock]using G):p:=h
theorem E9A(h:p:=by obtain⟨y,hy,I⟩:=List.mem_map.1 this;exact F y hy I):p:=h
end
structure Run where
 lo:Int
 hi:Int
 s:Int
def Run.ok(x:Run):Prop:=RunOk x.lo x.hi x.s
def Run.val(x:Run):Value:=runV x.lo x.hi x.s
def Run.none:Run:=⟨0,0,0⟩
def Run.meets(x y:Run):Bool:=y4w x.lo x.hi x.s y.lo y.hi y.s
theorem z5i(s hi:Int)(L:0<=s)(p:Int->Bool):∀(n:Nat) (c:Int),mA s hi p n c=true↔∃k:Nat,k<n/\c+k*s<=hi/\p (c+k*s)=true
 | 0,c=>by simp[mA]
 | n+1,c=>by
  rw[mA];have e:∀k:Nat,c+((k+1:Nat):Int)*s=c+s+k*s:=fun k=>(by push_cast;rw[Int.add_mul];exact f6J);split
  ·next h =>
   exact V9e
  ·next h =>
   split
   ·next hp=>exact⟨fun _=>⟨0,f6J,P8P,by simpa using hp⟩,fun _=>rfl⟩
   ·next hp =>
    rw[z5i s hi L p n];constructor
    ·rintro⟨k,Z,D,J⟩;exact⟨k+1,f6J,by rw[e];exact D,by rw[e];exact J⟩
    ·rintro⟨k,Z,D,J⟩
     cases k with
     | zero=>exact absurd I8T hp
     | succ k=>rw[e]at D J;exact⟨k,f6J,D,J⟩
theorem z2X{lo hi s c c0}(h:RunOk lo hi s)(I:c0=fromI lo s c):lo<=c0/\c<=c0/\s∣c0-lo/\∀x,lo<=x->c<=x->s∣x-lo->c0<=x:=by
 obtain⟨_,_,_,f,_⟩:=h;unfold fromI at I;split at I
 ·simp_all
 ·next hle =>
  have e:=Int.emod_add_mul_ediv (c-lo) s;have k:=Int.emod_nonneg (c-lo) (f6J:s≠0);have u:=Int.emod_lt_of_pos (c-lo) (f6J:0<s);by_cases T:(c-lo)%s=0
  ·have R:(s-(c-lo)%s)%s=0:=(by rw[T];exact M7L);rw[R]at I;subst I;refine⟨f6J,f6J,?_,fun x _ b _=>f6J⟩;rw[(f6J:c+0-lo=c-lo)];exact Int.dvd_of_emod_eq_zero T
  ·have R:(s-(c-lo)%s)%s=s-(c-lo)%s:=Int.emod_eq_of_lt f6J f6J;rw[R]at I;subst I
   have hd:s∣c+(s-(c-lo)%s)-lo:=by
    rw[(f6J:c+(s-(c-lo)%s)-lo=s*((c-lo) / s)+s*1),<- Int.mul_add];exact Int.dvd_mul_right _ _
   refine⟨f6J,f6J,hd,fun x a b d=>?_⟩;obtain⟨j,X⟩:=Int.dvd_sub hd d;exact I1N
theorem y9P{x y:Run}(A:x.ok)(hy:y.ok):x.meets y=true↔∃c,Cn.x9s x.lo x.hi x.s c/\Cn.x9s y.lo y.hi y.s c:=by
 have S:∀{a b:Run},a.ok->b.ok->(mA a.s a.hi (hasB b.lo b.hi b.s) b.s.toNat (fromI a.lo a.s b.lo)=true↔∃c,Cn.x9s a.lo a.hi a.s c/\Cn.x9s b.lo b.hi b.s c):=by
  intro a b g Y;obtain⟨B,v,t,C⟩:=z2X (c:=b.lo) g rfl;obtain⟨W,d,F,f,X⟩:=g;obtain⟨T,b1,u,z,U⟩:=Y;rw[z5i a.s a.hi f6J];generalize fromI a.lo a.s b.lo=c0 at *;rw[Cn.y4I (N:=b.s.toNat) (c0:=c0) f6J f6J f6J B v t C];constructor
  ·rintro⟨k,Z,D,J⟩;unfold hasB at J;obtain⟨_,_,_,j,_,L⟩:=o0d J;exact⟨k,Z,D,j,Int.dvd_of_emod_eq_zero L⟩
  ·rintro⟨k,Z,D,J,H⟩;have:=Int.mul_nonneg (f6J:(0:Int)<=k) (f6J:0<=a.s);exact⟨k,Z,D,d0t ⟨f6J,f6J,f6J,J,f6J,Int.emod_eq_zero_of_dvd H⟩⟩
 unfold Run.meets y4w;split
 ·next h =>
  constructor
  ·intro h;cases h
  ·rintro⟨c,⟨G,q,_⟩,I,M,_⟩;omega
 ·grind
def runR(r:Rec):Run:=⟨r.lo,r.hi,stepP r⟩
theorem y0a{r}(h:Cn.right r=0)(G:r.kind≠15):(runR r).ok:=by
 have Z:=Cn.x0p h G;have D:=Cn.right_step h
 have:stepP r=Cn.step r:=by
  unfold stepP Cn.step at *;split
  ·omega
  ·rfl
 exact⟨Z.1,Z.2.1,Z.2.2,by show 1<=stepP r;exact f6J,by show stepP r<=64;exact f6J⟩
theorem x6k{r}(h:Cn.right r=0):stepP r=Cn.step r:=by
 have D:=Cn.right_step h;unfold stepP Cn.step at *;split
 ·omega
 ·rfl
theorem x6w{a b}(g:Cn.right a=0)(Y:Cn.right b=0)(z:Cn.fam a.kind=Cn.fam b.kind)(G:a.kind≠15)(B:b.kind≠15):Cn.clash a b=(runR b).meets (runR a):=by
 rw[Bool.eq_iff_iff,Cn.x1M g Y z G B,y9P (y0a Y B) (y0a g G)];constructor
 ·rintro⟨c,Z,D⟩;refine⟨c,?_,?_⟩
  ·have:=(Cn.x0F Y B c).1 D;rw[<- x6k Y]at this;exact this
  ·have:=(Cn.x0F g G c).1 Z;rw[<- x6k g]at this;exact this
 ·rintro⟨c,Z,D⟩;refine⟨c,(Cn.x0F g G c).2 ?_,(Cn.x0F Y B c).2 ?_⟩
  ·rw[<- x6k g];exact D
  ·rw[<- x6k Y];exact Z
structure RnAt(w:World)(b o:Nat)(x:Run):Prop where
 lo:w.cell? ⟨b,o,none⟩=some (.int .i64 x.lo)
 hi:w.cell? ⟨b,o+1,none⟩=some (.int .i64 x.hi)
 s:w.cell? ⟨b,o+2,none⟩=some (.int .i64 x.s)
theorem RnAt.below{w w' b o}{x:Run}(h:RnAt w b o x)(Y:Bw w w'):RnAt w' b o x :=
 ⟨by rw[Y.cell (x0a h.lo)];exact h.lo,by rw[Y.cell (x0a h.hi)];exact h.hi,by rw[Y.cell (x0a h.s)];exact h.s⟩
def Rns(w:World)(v:Value)(xs:List Run):Prop:=xs.length<=1000000000 /\
 ((xs=[]/\∃ao cap,v=.slice ao 0 cap/\cap<=9223372036854775807) \/
  ∃b off cap,v=.slice (some ⟨b,off,none⟩) xs.length cap/\xs.length<=cap/\cap<=9223372036854775807/\∀i,i<xs.length->RnAt w b (off+i*3) (xs.getD i Run.none))
theorem Rns.below{w w' v}{xs:List Run}(h:Rns w v xs)(Y:Bw w w'):Rns w' v xs:=by
 obtain⟨Z,J⟩:=h;refine⟨Z,?_⟩;rcases J with J | ⟨b,A,M,N,S,B,I⟩
 ·exact .inl J
 ·exact .inr ⟨b,A,M,N,S,B,fun i hi=>(I i hi).below Y⟩
theorem Rns.shape{w v}{xs:List Run}(h:Rns w v xs):∃ao cap,v=.slice ao xs.length cap/\xs.length<=cap/\cap<=9223372036854775807:=by
 rcases h.2 with⟨rfl,ao,cap,N,A⟩ | ⟨b,B,cap,N,S,A,_⟩
 ·exact⟨ao,cap,N,M7K,A⟩
 ·exact⟨_,cap,N,S,A⟩
theorem Rns.place{w v}{xs:List Run}(h:Rns w v xs)(t:0<xs.length):∃b off cap,v=.slice (some ⟨b,off,none⟩) xs.length cap/\xs.length<=cap/\cap<=9223372036854775807/\∀i,i<xs.length->RnAt w b (off+i*3) (xs.getD i Run.none):=by
 rcases h.2 with⟨rfl,_⟩ | h
 ·simp at t
 ·exact h
def fbN(p:Run->Bool):Nat->List Run->Int
 | _,[]=>-1
 | i,r::l=>if p r then(i:Int)else fbN p (i+1) l
theorem z6B{p:Run->Bool}{rs:List Run}{k x}(G:k<rs.length)(h:x=fbN p k (rs.drop k))(s:p (rs.getD k Run.none)=true):x=(k:Int):=by
 rw[h,List.drop_eq_getElem_cons G,fbN,if_pos];exact P6N
theorem z2N{p:Run->Bool}{rs:List Run}{k x}(G:k<rs.length)(h:x=fbN p k (rs.drop k))(s:p (rs.getD k Run.none)=false):x=fbN p (k+1) (rs.drop (k+1)):=by
 rw[h,List.drop_eq_getElem_cons G,fbN,if_neg];have:p rs[k]=false:=P6N;simp[this]
theorem z6A{p:Run->Bool}{rs:List Run}{x}(h:x=fbN p rs.length (rs.drop rs.length)):x=-1:=by
 rw[h,List.drop_length,fbN]
theorem y8G(p:Run->Bool):∀(l:List Run) (i:Nat),decide (0<=fbN p i l)=l.any p
 | [],i=>rfl
 | r::l,i=>by
  rw[fbN,List.any_cons]
  cases hp:p r with
  | true=>simp
  | false=>simpa using y8G p l (i+1)
theorem x5v:∀args w,(callFunc 226 args).run prog w=.ok (.enter 226 args) w:=f0h
def NIn(w:World)(v:Value)(xs:List Run)(W:World):Prop:=Rns W v xs/\Below w.heap.size w W
theorem NIn.on{w W W' v}{xs:List Run}(h:NIn w v xs W)(Y:Bw W W'):NIn w v xs W':=⟨h.1.below Y,h.2.trans (Y.mono h.2.size)⟩
theorem x9u(x:Run) v(xs:List Run) w(N:Rns w v xs)(hx:x.ok)(C:∀y∈xs,y.ok) :
  Calls prog 262 #[v,.func (.func 226) #[x.val] #[]] w (IntB w (fbN (fun y=>x.meets y) 0 xs)):=by
 have m:=x5v;have L:Hid (NIn w v xs w):=⟨N,b0r⟩;have HP:Hid (∀k W,k<xs.length->Calls prog 226 #[x.val,(xs.getD k Run.none).val] W (x0g W (x.meets (xs.getD k Run.none)))):=fun k W G=>y9O _ _ _ _ _ _ W hx (C _ w8c);have n:Hid (fbN (fun y=>x.meets y) 0 xs=fbN (fun y=>x.meets y) 0 (xs.drop 0)):=R6O;have d:=N.1;obtain⟨B,M,rfl,Z,D⟩:=N.shape;unfold Run.val runV at *;generalize hq:fbN (fun y=>x.meets y) 0 xs=z at *;go_enter func262,ntmps262;go_wp2;go_loopw[5,8] (fun _ i wr=>∃k:Nat,i=.int .i64 k/\k<=xs.length/\z=fbN (fun y=>x.meets y) k (xs.drop k)/\NIn w (.slice B xs.length M) xs wr) (fun _ i _=>xs.length-(intOf i).toNat)
 case atStart=>exact⟨0,rfl,f6J,V n,V L⟩
 case round =>
  obtain⟨k,rfl,G,u,Y⟩:=hrel;by_cases j:k<xs.length
  ·obtain⟨b,t,A,q,l,H,I⟩:=Y.1.place f6J;obtain⟨rfl,rfl⟩:B=some ⟨b,t,none⟩/\M=A:=W3O;obtain⟨g,S,p⟩:=I k j;have R:=O (V HP k wr j);have r:Hid (x.meets (xs.getD k Run.none)=true->z=(k:Int)):=fun h=>z6B j u h;have f:Hid (x.meets (xs.getD k Run.none)=false->z=fbN (fun y=>x.meets y) (k+1) (xs.drop (k+1))):=fun h=>z2N j u h;have T:=O Y;clear u Y I q HP;generalize x.meets (xs.getD k Run.none)=y at R r f;generalize(xs.getD k Run.none).lo=lo,(xs.getD k Run.none).hi=hi,(xs.getD k Run.none).s=X at *
   cases y with
   | true =>
    obtain rfl:=V r rfl;go_wp2_with(go_at_fn 226;refine(V R).mono ?_;rintro e w1 ⟨rfl,F⟩);have U:=O ((V T).on F).2;go_ret;exact t8u
   | false =>
    have c:=O (V f rfl);go_wp2_with(go_at_fn 226;refine(V R).mono ?_;rintro e w1 ⟨rfl,F⟩);have U:=O ((V T).on F);go_round
    case rel=>exact s4Q
    case measure=>exact g7T
  ·obtain rfl:k=xs.length:=f6J;obtain rfl:=z6A u;have U:=O Y.2;exact t3L
theorem x5I(x:Run) v(xs:List Run) w(N:Rns w v xs)(A:x.ok)(C:∀y∈xs,y.ok) :
  Calls prog 225 #[v,.func (.func 226) #[x.val] #[]] w (x0g w (xs.any fun y=>x.meets y)):=by
 have K:=O (x9u x v xs w N A C);rw[<- y8G _ xs 0];obtain⟨B,M,rfl,Z,D⟩:=N.shape;unfold Run.val runV at *;go_enter func225,ntmps225;go_wp2_with fail;refine c0m K fun G F=>?_;go_wp2;go_ret;exact⟨rfl,F⟩
open Go.RowKit Go.MapKept Go.WideMaps
open Go.ChangeMaps (setBlock)
open Go.WideElems (findIdx_arr findIdx_born)
theorem x6e:laidOutB prog=true:=f4x
theorem pairLaw:KeyLaw prog 343:=deep_law_laid x6e (m:=3) e8N (o0d f4x) f4x f4x
def pk(a b:ByteArray):Value:=.agg #[.string a,.string b]
theorem y7S:prog.cellsOf 343=2:=f4x
theorem y7U:prog.cellsOf 9=1:=f4x
theorem y9x:prog.keyType 343=true:=f4x
def Sh(a:ByteArray):Prop:=a.size<=1000
theorem x2p{a}(h:Sh a) D:prog.keyLits (D+1) 9 [.string a]=some [.string a.data.toList]:=by
 rw[Program.keyLits.eq_def];simp only[underlying9];rw[if_pos (by unfold Sh at h;exact T7W)]
theorem y5U{a b}(g:Sh a)(Y:Sh b) D:prog.keyLits (D+2) 343 [.string a,.string b]=some [.string a.data.toList,.string b.data.toList]:=by
 rw[Program.keyLits.eq_def];simp only[underlying343,y7S,y7U];rw[if_pos (show[Value.string a,Value.string b].length=2 from rfl)];have e:List.range 2=[0,1]:=rfl;rw[e];simp[List.mapM_cons,x2p g D,x2p Y D]
theorem z0u{a b}(g:Sh a)(Y:Sh b):∃l,keyOf prog 343 (pk a b)=some l:=by
 have z:(pk a b).formed prog 343=true:=by
  simp[pk,Value.formed,underlying343,y7S]
 obtain⟨n,F⟩:∃n,prog.types.size+1=n+2:=⟨prog.types.size-1,m4z⟩;refine⟨.string (keyBytes [.string a.data.toList,.string b.data.toList]),?_⟩;unfold keyOf;simp only[underlying343,y9x,z,Bool.and_self,if_true,F];show(prog.keyLits (n+2) 343 [.string a,.string b]).map _=_;rw[y5U g Y n];rfl
theorem z5p{a b a' b'}(h:pk a b=pk a' b'):a=a'/\b=b':=by
 unfold pk at h;exact S4r
structure MObj(es:Array MapEntry)(clock:Nat)(c:ByteArray->ByteArray->Int):Prop where
 st:Stamped es clock
 keys:∀x∈es.toList,∃a b,x.key=pk a b/\x.val=.int .i64 (c a b)/\Sh a/\Sh b
 none:∀a b,(∀x∈es.toList,x.key≠pk a b)->c a b=0
def MAt(w:World)(r:Nat)(c:ByteArray->ByteArray->Int):Prop:=∃es clock,w.heap[r]?=some (.map es clock)/\MObj es clock c
theorem MObj.ks{d:Array MapEntry}{clock}{c:ByteArray->ByteArray->Int}(h:MObj d clock c):∀x∈d.toList,∃l,keyOf prog 343 x.key=some l:=fun x A=>by
 obtain⟨a,b,e,_,g,Y⟩:=h.keys x A;rw[e];exact z0u g Y
theorem y0b{w r}{d:Array MapEntry}{clock}{c:ByteArray->ByteArray->Int}(Y:w.heap[r]?=some (.map d clock))(h:MObj d clock c){a b}(g:Sh a)(A:Sh b) :
  (Instr.lookup 251 (.map (some r)) (pk a b) false).run prog w=.ok (.int .i64 (c a b)) w:=by
 obtain⟨l,S⟩:=z0u g A;rcases pairLaw.find w S d.toList h.ks with⟨Z,D⟩ | ⟨j,R,Z,D,J⟩
 ·rw[h.none a b D];simp[Instr.lookup,run_underlying underlying251,MapKept.run_getObj_map Y,pairLaw.check w _ S,Z,Result.andThen]
 ·obtain⟨M,f,B,C,_,_⟩:=h.keys R (List.mem_of_getElem? D);obtain⟨rfl,rfl⟩:=z5p (B.symm.trans J);simp[Instr.lookup,run_underlying underlying251,MapKept.run_getObj_map Y,pairLaw.check w _ S,Z,Result.andThen,C]
theorem x7e{f:MapEntry->MapEntry}:∀(l:List MapEntry) (j:Nat) (R:MapEntry),l[j]?=some R->f R=R->l.modify j f=l
 | [],j,R,h,_=>by simp at h
 | x::l,0,R,h,hf=>by simp at h;subst h;simp[hf]
 | x::l,j+1,R,h,hf=>by simp at h;simp[x7e l j R h hf]
def incr(c:ByteArray->ByteArray->Int)(a b:ByteArray):ByteArray->ByteArray->Int:=fun x y=>if x=a/\y=b then c a b+1 else c x y
theorem z0V{w r}{d:Array MapEntry}{clock}{c:ByteArray->ByteArray->Int}(Y:w.heap[r]?=some (.map d clock))(h:MObj d clock c){a b}(g:Sh a)(n:Sh b) :
  ∃(X:Nat) (ab:Array MapEntry) (H:Nat),(Instr.mapEntry 251 (.map (some r)) (pk a b)).run prog w=.ok (.tuple #[.int .i64 (c a b),goInt X]) (setBlock w r (.map ab H))/\MObj ab H c /\
   ∀W:World,W.heap[r]?=some (.map ab H)->∃ae z,(Instr.entryStore 251 (.map (some r)) (goInt X) (.int .i64 (c a b+1))).run prog W=.ok () (setBlock W r (.map ae z))/\MObj ae z (incr c a b):=by
 obtain⟨l,S⟩:=z0u g n;obtain⟨U,B,C⟩:=h.st;rcases pairLaw.find w S d.toList h.ks with⟨Z,D⟩ | ⟨j,R,Z,D,J⟩
 ·have T:=h.none a b D;have L:(d.push ⟨pk a b,.int .i64 0,clock⟩).findIdx? (fun e=>((e.born:Nat):Int)==((clock:Nat):Int))=some d.size:=(by grind);refine⟨clock,d.push ⟨pk a b,.int .i64 0,clock⟩,clock+1,?_,⟨stamped_push h.st D,fun x A=>?_,fun M f F=>?_⟩,fun W hW=>⟨(d.push ⟨pk a b,.int .i64 0,clock⟩).modify d.size (fun e=>{ e with val:=.int .i64 (c a b+1) }),clock+1,?_,?_⟩⟩
  ·rw[T];simp[Instr.mapEntry,run_underlying underlying251,MapKept.run_getObj_map Y,pairLaw.check w false S,Z,MapKept.run_setObj_map _ Y,Result.andThen,setBlock]
  ·simp only[Array.toList_push,List.mem_append,List.mem_singleton]at A;rcases A with A | rfl
   ·exact h.keys x A
   ·exact⟨a,b,rfl,by rw[T],g,n⟩
  ·exact h.none M f fun x A=>F x f9w
  ·exact F9h
  ·have hm:((d.push ⟨pk a b,.int .i64 0,clock⟩).modify d.size (fun e=>{ e with val:=.int .i64 (c a b+1) })).toList=d.toList++[⟨pk a b,.int .i64 (c a b+1),clock⟩]:=by
    rw[Array.toList_modify,Array.toList_push,<- Array.length_toList];exact Go.WideElems.modify_last _ _ _
   refine⟨stamped_modify (stamped_push h.st D) _ _ (fun _ _=>rfl) (fun _ _ _=>rfl),fun x A=>?_,fun M f F=>?_⟩
   ·rw[hm]at A;simp only[List.mem_append,List.mem_singleton]at A;rcases A with A | rfl
    ·obtain⟨M,f,e1,e2,N,e4⟩:=h.keys x A;refine⟨M,f,e1,?_,N,e4⟩;unfold incr;rw[if_neg,e2];rintro⟨rfl,rfl⟩;exact D x A e1
    ·exact⟨a,b,rfl,P2K,g,n⟩
   ·rw[hm]at F;unfold incr;rw[if_neg]
    ·exact h.none M f fun x A=>F x f9w
    ·rintro⟨rfl,rfl⟩;exact F ⟨pk M f,.int .i64 (c M f+1),clock⟩ M7K rfl
 ·have u:=List.mem_of_getElem? D;obtain⟨M,f,e1,e2,_,_⟩:=h.keys R u;obtain⟨rfl,rfl⟩:=z5p (e1.symm.trans J);have hj:d[j]?=some R:=by rw[<- Array.getElem?_toList];exact D
  have k:d.modify j (fun e=>{ e with key:=pk M f })=d:=by
   apply Array.toList_inj.1;rw[Array.toList_modify];exact x7e d.toList j R D (by rw[<- J])
  have L:d.findIdx? (fun e=>((e.born:Nat):Int)==((R.born:Nat):Int))=some j:=by
   rw[findIdx_arr];exact findIdx_born B D
  refine⟨R.born,d,clock,?_,h,fun W hW=>⟨d.modify j (fun e=>{ e with val:=.int .i64 (c M f+1) }),clock,?_,?_⟩⟩
  ·have af:=pairLaw.stays w S;simp[Instr.mapEntry,run_underlying underlying251,MapKept.run_getObj_map Y,pairLaw.check w false S,Z,MapKept.run_setObj_map _ Y,Result.andThen,setBlock,hj,J,af,e2,k]
  ·exact F9h
  ·refine⟨stamped_modify h.st _ _ (fun _ _=>rfl) (fun _ _ _=>rfl),fun x A=>?_,fun a1 b1 F=>?_⟩
   ·rw[Array.toList_modify]at A;obtain⟨i,hi,rfl⟩:=List.getElem_of_mem A;rw[List.length_modify]at hi;rw[List.getElem_modify];by_cases p:j=i
    ·subst p
     have:d.toList[j]=R:=by
      have:=List.getElem?_eq_getElem hi;rw[D]at this;exact(Option.some.inj this).symm
     rw[if_pos rfl,this];exact⟨M,f,J,P2K,g,n⟩
    ·rw[if_neg p];obtain⟨x1,y1,s,v,t,f4⟩:=h.keys d.toList[i] (List.getElem_mem hi);refine⟨x1,y1,s,?_,t,f4⟩;unfold incr;rw[if_neg,v];rintro⟨rfl,rfl⟩
     have m:j<d.toList.length:=by
      rcases Nat.lt_or_ge j d.toList.length with hh | hh
      ·exact hh
      ·rw[List.getElem?_eq_none hh]at D;cases D
     have:d.toList[j]=R:=by
      have:=List.getElem?_eq_getElem m;rw[D]at this;exact(Option.some.inj this).symm
     have G:(d.toList.map (·.key))[j]'(by simpa using m)=(d.toList.map (·.key))[i]'(w3z):=by
      simp only[List.getElem_map,this,s,J]
     rcases Nat.lt_or_gt_of_ne p with hlt | hlt
     ·exact(List.pairwise_iff_getElem.1 C j i (by simpa using m) w3z hlt) G
     ·exact(List.pairwise_iff_getElem.1 C i j w3z (by simpa using m) hlt) G.symm
   ·unfold incr;rw[if_neg]
    ·refine h.none a1 b1 fun x A q=>?_
     have:pk a1 b1∈(d.modify j (fun e=>{ e with val:=.int .i64 (c M f+1) })).toList.map (·.key):=by
      rw[modify_keys j (fun e=>{ e with val:=.int .i64 (c M f+1) }) (fun _ _=>rfl)];exact List.mem_map.2 ⟨x,A,q⟩
     exact E9A
    ·rintro⟨rfl,rfl⟩
     have:pk a1 b1∈(d.modify j (fun e=>{ e with val:=.int .i64 (c a1 b1+1) })).toList.map (·.key):=by
      rw[modify_keys j (fun e=>{ e with val:=.int .i64 (c a1 b1+1) }) (fun _ _=>rfl)];exact List.mem_map.2 ⟨R,u,J⟩
     exact E9A
open Go.RowKit Go.MapKept Go.WideMaps
open Go.ChangeMaps (setBlock)
theorem x4F(B:Nat)(w:World)(r:Nat)(o:Obj)(h:B<=r):Below B w (setBlock w r o):=by
 refine⟨rfl,rfl,rfl,?_,fun k G=>?_⟩
 ·show w.heap.size<=(w.heap.setIfInBounds r o).size;simp
 ·show(w.heap.setIfInBounds r o)[k]?=w.heap[k]?;rw[Array.getElem?_setIfInBounds_ne f6J]
theorem y3m(w:World)(r:Nat)(o:Obj)(h:r<w.heap.size):(setBlock w r o).heap[r]?=some o:=by
 show(w.heap.setIfInBounds r o)[r]?=some o;simp[h]
theorem x1F(w:World){r k:Nat}(o:Obj)(h:k≠r):(setBlock w r o).heap[k]?=w.heap[k]?:=by
 show(w.heap.setIfInBounds r o)[k]?=w.heap[k]?;rw[Array.getElem?_setIfInBounds_ne (fun e=>h e.symm)]
theorem cell_far{w:World}{r L i:Nat}{v:Value}(o:Obj)(h:L≠r)(I:w.cell? ⟨L,i,none⟩=some v):(setBlock w r o).cell? ⟨L,i,none⟩=some v:=by
 unfold World.cell? at *;rw[x1F w o h];exact I
structure But(r:Nat)(w w':World):Prop where
 size:w'.heap.size=w.heap.size
 far:∀k,k≠r->w'.heap[k]?=w.heap[k]?
 below:∀B,B<=r->Below B w w'
def MixB(w:World)(r:Nat)(c:ByteArray->ByteArray->Int)(a b:ByteArray)(e:Ending)(w':World):Prop:=e=.returned (.bool (decide (0<c a b)))/\MAt w' r (incr c a b)/\But r w w'
theorem y9R(L r:Nat)(a b:ByteArray)(c:ByteArray->ByteArray->Int)(w:World)(i:w.cell? ⟨L,11,none⟩=some (.map (some r)))(s:L≠r)(hm:MAt w r c)(g:Sh a)(Y:Sh b)(I:0<=c a b/\c a b<=100000) :
  Calls prog 224 #[.pointer (some ⟨L,0,none⟩),.string a,.string b] w (MixB w r c a b):=by
 obtain⟨d,clock,R,ab⟩:=hm
 have u:r<w.heap.size:=by
  rcases Nat.lt_or_ge r w.heap.size with hh | hh
  ·exact hh
  ·rw[Array.getElem?_eq_none hh]at R;cases R
 have p:w.drew.heap[r]?=some (.map d clock):=R;obtain⟨X,D,H,e1,J,e2⟩:=z0V p ab g Y;have z:(setBlock w.drew r (.map D H)).heap[r]?=some (.map D H):=y3m _ _ _ u;obtain⟨F,C,N,l⟩:=e2 _ z;have y:(setBlock (setBlock w.drew r (.map D H)) r (.map F C)).heap[r]?=some (.map F C):=y3m _ _ _ (by simpa[setBlock]using u);have l0:=y0b p ab g Y;have v:=y0b z J g Y;have T:=y0b y l g Y;have j:w.drew.cell? ⟨L,11,none⟩=some (.map (some r)):=i;have W:=cell_far (.map D H) s j;have q:=cell_far (.map F C) s W
 have f:But r w (setBlock (setBlock w.drew r (.map D H)) r (.map F C)):=⟨by simp[setBlock],fun k G=>by rw[x1F _ _ G,x1F _ _ G];rfl,fun B m=>by
  have Z:Below B w w.drew:=⟨rfl,rfl,rfl,l0r _,fun _ _=>rfl⟩
  exact(Z.trans (x4F B w.drew r _ m)).trans (x4F B _ r _ m)⟩
 have U:MixB w r c a b (.returned (.bool (decide (0<c a b)))) (setBlock (setBlock w.drew r (.map D H)) r (.map F C)):=⟨rfl,⟨F,C,y,l⟩,f⟩;have A:incr c a b a b=c a b+1:=(by unfold incr;rw[if_pos ⟨rfl,rfl⟩]);rw[A]at T;unfold pk goInt at *;generalize hn:c a b=n at *;have hw:IntKind.i64.wrap (n+1)=n+1:=IntWalk.i64_in _ ⟨f6J,f6J⟩;have M:decide (1<n+1)=decide (0<n):=decide_eq_decide.2 f6J;clear R ab u p e2 J l z y f A hn;generalize y:setBlock (setBlock w.drew r (.map D H)) r (.map F C)=x at *;generalize z:setBlock w.drew r (.map D H)=W1 at *;clear z y;go_enter func224,ntmps224;go_wp2;refine wp_region_held_drew (S:=fun w'=>w'.cell? ⟨L,11,none⟩=some (.map (some r))) f4y (j) (fun hHeld=>?_);refine tk9 0 (.pointer (some ⟨L,0,none⟩)) ?_;refine tk9 1 (.pointer (some ⟨L,0,none⟩)) ?_;refine tk9 2 (.pointer (some ⟨L,11,none⟩)) ?_;refine tk9 3 (.map (some r)) ?_;refine tk9 4 (.string a) ?_;refine tk9 5 (.string b) ?_;refine tk9 6 (.agg #[.string a,.string b]) ?_;refine wpAnyH_ready (rs:=[7,9]) f4y M7M ?_;refine AllReadyH.cons (o:=⟨some 14,_,_,_,_,_⟩) rfl (fun K hK=>?_) (AllReadyH.cons (o:=⟨some 16,_,_,_,_,_⟩) rfl (fun K hK=>?_) AllReadyH.nil)
 ·go_simp;refine hK.out _ _ ?_ (fun hHeld=>?_)
  ·exact j
  clear hK K
  try simp only[Act.put,sa9,sb9,sc9]
  refine tk9 8 (.int .i64 (n+1)) ?_;refine rd9 9 fun K hK=>?_;go_simp;refine hK.out _ _ ?_ (fun hHeld=>?_)
  ·exact W
  clear hK K
  try simp only[Act.put,sa9,sb9,sc9]
  refine tk9 10 (.int .i64 (X:Int)) ?_;exact g7c
 ·go_simp;refine hK.out _ _ ?_ (fun hHeld=>?_)
  ·exact W
  clear hK K
  try simp only[Act.put,sa9,sb9,sc9]
  refine tk9 10 (.int .i64 (X:Int)) ?_;refine rd9 7 fun K hK=>?_;go_simp;refine hK.out _ _ ?_ (fun hHeld=>?_)
  ·exact W
  clear hK K
  try simp only[Act.put,sa9,sb9,sc9]
  refine tk9 8 (.int .i64 (n+1)) ?_;exact g7c
def x1R:List Run->List Value
 | []=>[]
 | x::l=>.int .i64 x.lo::.int .i64 x.hi::.int .i64 x.s::x1R l
theorem x8A:∀(l:List Run) (x:Run),x1R (l++[x])=x1R l++[.int .i64 x.lo,.int .i64 x.hi,.int .i64 x.s]
 | [],x=>rfl
 | y::l,x=>by simp[x1R,x8A l x]
theorem y1i:∀(l:List Run) (i:Nat),i<l.length->(x1R l)[i*3]?=some (.int .i64 (l.getD i Run.none).lo)/\(x1R l)[i*3+1]?=some (.int .i64 (l.getD i Run.none).hi)/\(x1R l)[i*3+2]?=some (.int .i64 (l.getD i Run.none).s)
 | [],i,h=>by simp at h
 | x::l,0,_=>by simp[x1R]
 | x::l,i+1,h=>by
  have:=y1i l i S4r;rw[(f6J:(i+1)*3=i*3+1+1+1)];simpa[x1R]using this
def Ln(w:World)(B:Nat)(v:Value)(xs:List Run):Prop:=xs.length<=100000/\w.ownsRow B 264 3 v xs.length (x1R xs)
theorem Ln.rns{w B v}{xs:List Run}(h:Ln w B v xs):Rns w v xs:=by
 obtain⟨Z,D,J⟩:=h;refine⟨f6J,?_⟩;rcases J with⟨rfl,R⟩ | ⟨g,M,A,rfl,_,C,F,I,L,p⟩
 ·grind
 ·refine .inr ⟨g,0,M,rfl,F,by unfold maxLen at I;exact f6J,fun i hi=>?_⟩
  have S:∀j (v:Value),(x1R xs)[j]?=some v->w.cell? ⟨g,j,Option.none⟩=some v:=fun j v N=>by
   rw[<- p]at N;have m:j<xs.length*3:=(by grind);rw[List.getElem?_take_of_lt m,Array.getElem?_toList]at N;have X:j<A.size:=(by rw[L];exact f6J);rw[cell_of (j:=j) C X];simpa[Array.getD,X,Array.getElem?_eq_getElem X]using N
  obtain⟨d,G,f⟩:=y1i xs i hi;exact⟨by rw[Nat.zero_add];exact S _ _ d,by rw[Nat.zero_add];exact S _ _ G,by rw[Nat.zero_add];exact S _ _ f⟩
theorem x5A{w:World}{B e F n:Nat}{v us}(h:w.ownsRow B e F v n us){k}(G:v.ownBlock=some k):k<w.heap.size/\B<=k:=by
 rcases h.2 with⟨rfl,_⟩ | ⟨g,M,A,rfl,Y,C,_⟩
 ·cases G
 ·cases G;refine⟨?_,Y⟩;rcases Nat.lt_or_ge g w.heap.size with hh | hh
  ·exact hh
  ·grind
theorem alloc_at(w:World) o:(w.alloc o).heap[w.heap.size]?=some o:=by
 show(w.heap.push o)[w.heap.size]?=_;simp
structure LG(w:World)(B L r:Nat)(vs:Nat->Value)(fs:Nat->List Run)(c:ByteArray->ByteArray->Int):Prop where
 bl:B<=L
 br:B<=r
 lr:L≠r
 blk:∃cur,w.heap[L]?=some (.cells cur 255 (0,0))/\cur.size=12/\(∀f,f<11->cur.getD f undef=vs f)/\cur.getD 11 undef=.map (some r)
 map:MAt w r c
 rows:∀f,f<11->Ln w B (vs f) (fs f)
 far:∀f,f<11->∀k,(vs f).ownBlock=some k->k≠L/\k≠r
 apart:∀f g,f<11->g<11->f≠g->∀k,(vs f).ownBlock=some k->(vs g).ownBlock≠some k
theorem lt_of_block{w:World}{k o}(h:w.heap[k]?=some o):k<w.heap.size:=by grind
theorem LG.keep{w W B L r}{T:Nat->Value}{N:Nat->List Run}{c:ByteArray->ByteArray->Int}(h:LG w B L r T N c)(G:∀k,k<w.heap.size->W.heap[k]?=w.heap[k]?):LG W B L r T N c:=by
 obtain⟨A,Z,D,J,H⟩:=h.blk;obtain⟨d,clock,F,y⟩:=h.map
 exact⟨h.bl,h.br,h.lr,⟨A,by rw[G L (lt_of_block Z)];exact Z,D,J,H⟩,⟨d,clock,by rw[G r (lt_of_block F)];exact F,y⟩,
  fun f z=>⟨(h.rows f z).1,x0w (h.rows f z).2 fun g C=>G g (x5A (h.rows f z).2 C).1⟩,h.far,h.apart⟩
theorem LG.on{w W B L r}{T:Nat->Value}{N:Nat->List Run}{c:ByteArray->ByteArray->Int}(h:LG w B L r T N c)(Y:Bw w W):LG W B L r T N c:=h.keep Y.block
theorem LG.cell{w B L r}{T:Nat->Value}{N:Nat->List Run}{c:ByteArray->ByteArray->Int}(h:LG w B L r T N c){f}(z:f<11):w.cell? ⟨L,f,none⟩=some (T f):=by
 obtain⟨A,Z,D,J,H⟩:=h.blk;rw[cell_of (j:=f) Z f6J,J f z]
theorem LG.mcell{w B L r}{T:Nat->Value}{N:Nat->List Run}{c:ByteArray->ByteArray->Int}(h:LG w B L r T N c):w.cell? ⟨L,11,none⟩=some (.map (some r)):=by
 obtain⟨A,Z,D,J,H⟩:=h.blk;rw[cell_of (j:=11) Z f6J,H]
def upd{α:Type}(g:Nat->α)(f:Nat)(v:α):Nat->α:=fun k=>if k=f then v else g k
theorem upd_same{α:Type}(g:Nat->α) f(v:α):upd g f v f=v:=if_pos rfl
theorem x1t{α:Type}(g:Nat->α){f k}(v:α)(h:k≠f):upd g f v k=g k:=if_neg h
theorem LG.mixed{w W B L r}{T:Nat->Value}{N:Nat->List Run}{c c':ByteArray->ByteArray->Int}(h:LG w B L r T N c)(F:MAt W r c')(Y:But r w W):LG W B L r T N c':=by
 obtain⟨A,Z,D,J,H⟩:=h.blk
 exact⟨h.bl,h.br,h.lr,⟨A,by rw[Y.far L h.lr];exact Z,D,J,H⟩,F,
  fun f z=>⟨(h.rows f z).1,x0w (h.rows f z).2 fun g C=>Y.far g (h.far f z g C).2⟩,h.far,h.apart⟩
theorem LG.more{w W A:World}{B L r}{T:Nat->Value}{N:Nat->List Run}{c:ByteArray->ByteArray->Int}{f gg cap}{x:Run}(h:LG w B L r T N c)(z:f<11)(d:(N f).length<100000)
  (R:∀k,k<w.heap.size->W.heap[k]?=w.heap[k]?) (ae:w.heap.size<=W.heap.size) (C:W.grownBy A (T f).ownBlock) (ab:(T f).ownBlock=some gg\/gg=W.heap.size)
  (J:A.ownsRow B 264 3 (.slice (some ⟨gg,0,none⟩) ((N f).length+1) cap) ((N f).length+1) (x1R (N f)++[.int .i64 x.lo,.int .i64 x.hi,.int .i64 x.s])) :
  LG (A.setCell ⟨L,f,none⟩ (.slice (some ⟨gg,0,none⟩) ((N f).length+1) cap)) B L r (upd T f (.slice (some ⟨gg,0,none⟩) ((N f).length+1) cap)) (upd N f (N f++[x])) c:=by
 obtain⟨q,Z,D,h3,H⟩:=h.blk;obtain⟨es,clock,h5,y⟩:=h.map;have hL:=lt_of_block Z;have u:=lt_of_block h5;have n:some L≠(T f).ownBlock:=fun e=>(h.far f z L e.symm).1 rfl;have j:some r≠(T f).ownBlock:=fun e=>(h.far f z r e.symm).2 rfl;have S:gg≠L:=(by grind);have p:gg≠r:=(by grind);have X:∀k,k<w.heap.size->some k≠(T f).ownBlock->A.heap[k]?=w.heap[k]?:=fun k G F=>(C.block k f6J F).trans (R k G);have m:A.heap[L]?=some (.cells q 255 (0,0)):=(X L hL n).trans Z;have I:∀k,k≠L->(A.setCell ⟨L,f,none⟩ (.slice (some ⟨gg,0,none⟩) ((N f).length+1) cap)).heap[k]?=A.heap[k]?:=fun k G=>x0e _ G;refine⟨h.bl,h.br,h.lr,⟨_,x0c m _,by simpa using D,fun g U=>?_,?_⟩,⟨es,clock,by rw[I r (fun e=>h.lr e.symm),X r u j];exact h5,y⟩,fun g U=>?_,fun g U k G=>?_,fun i g2 l b t k G=>?_⟩
 ·by_cases e:g=f
  ·subst e;rw[upd_same];simp[Array.getD,D,(f6J:g<12)]
  ·rw[x1t _ _ e,<- h3 g U];simp[Array.getD,D,(f6J:g<12),Array.getElem_setIfInBounds_ne _ (fun Y=>e Y.symm)]
 ·rw[<- H];simp[Array.getD,D,Array.getElem_setIfInBounds_ne _ (f6J:f≠11)]
 ·by_cases e:g=f
  ·subst e;rw[upd_same,upd_same];refine⟨P8P,?_⟩;rw[x8A,(M7M:(N g++[x]).length=(N g).length+1)]
   exact x0w J fun k G=>by
    have:gg=k:=T4x;subst this;exact I gg S
  ·rw[x1t _ _ e,x1t _ _ e];refine⟨(h.rows g U).1,x0w (h.rows g U).2 fun k G=>?_⟩;rw[I k (h.far g U k G).1];exact X k (x5A (h.rows g U).2 G).1 (fun Y=>h.apart g f U z e k G Y.symm)
 ·by_cases e:g=f
  ·subst e;rw[upd_same]at G;have:gg=k:=T4x;subst this;exact⟨S,p⟩
  ·rw[x1t _ _ e]at G;exact h.far g U k G
 ·have M:∀g,g<11->g≠f->(T g).ownBlock≠some gg:=fun g U F e=>by
   rcases ab with Y | Y
   ·exact h.apart g f U z F gg e Y
   ·have:=(x5A (h.rows g U).2 e).1;omega
  by_cases v:i=f
  ·subst v;rw[upd_same]at G;have:gg=k:=T4x;subst this;rw[x1t _ _ (fun e=>t e.symm)];exact M g2 b (fun e=>t e.symm)
  ·rw[x1t _ _ v]at G;by_cases e2:g2=f
   ·subst e2;rw[upd_same];intro e;have:gg=k:=G5X;subst this;exact M i l v G
   ·rw[x1t _ _ e2];exact h.apart i g2 l b t k G
abbrev baseS:ByteArray:=⟨#[97,98,99,100,101,102,103,104,105,106,107,108,109,110,111,112,113,114,115,116,117,118,119,120,121,122,48,49,50,51,52,53,54,55,56,57,45,46]⟩
def baseL:List Int:=[97,98,99,100,101,102,103,104,105,106,107,108,109,110,111,112,113,114,115,116,117,118,119,120,121,122,48,49,50,51,52,53,54,55,56,57,45,46]
theorem x8f:nums baseS=baseL:=M3j
theorem x4D:baseS.size=38:=rfl
theorem Cn.baseA_iff(l:List Rec):∀(k:Nat) (c:Int),Cn.baseA l k c=true↔∀i:Nat,i<k->Cn.baseOf (c+i)=true->Cn.plain l (c+i)=true
 | 0,c=>by simp[Cn.baseA]
 | k+1,c=>by
  rw[Cn.baseA,Bool.and_eq_true,Cn.baseA_iff l k (c+1)];constructor
  ·rintro⟨Z,D⟩ i hi Y;rcases Nat.eq_zero_or_pos i with rfl | h
   ·have e:c+((0:Nat):Int)=c:=M7L;rw[e]at Y ⊢;simpa[Y]using Z
   ·have:=D (i-1) f6J;rw[(f6J:c+1+((i-1:Nat):Int)=c+i)]at this;exact this Y
  ·intro h;refine⟨?_,fun i hi Y=>?_⟩
   ·have:=h 0 f6J;rw[(M7L:c+((0:Nat):Int)=c)]at this;cases Y:Cn.baseOf c
    ·rfl
    ·simpa using this Y
   ·have:=h (i+1) f6J;rw[(f6J:c+1+(i:Int)=c+((i+1:Nat):Int))]at *;exact this Y
theorem z5P:∀i:Nat,i<78->Cn.baseOf (45+(i:Int))=true->(45+(i:Int))∈baseL:=M3j
theorem base_of:∀x∈baseL,Cn.baseOf x=true/\45<=x/\x<123:=M3j
theorem z2h l:Cn.baseA l 78 45=baseL.all (Cn.plain l):=by
 rw[Bool.eq_iff_iff,Cn.baseA_iff,List.all_eq_true];constructor
 ·intro h x A;obtain⟨Z,D,J⟩:=base_of x A;have:=h (x-45).toNat f6J;rw[(f6J:(45:Int)+((x-45).toNat:Int)=x)]at this;exact this Z
 ·intro h i hi Y;exact h _ (z5P i hi Y)
theorem z8O{p:Int->Bool}{xs:List Int}:(∀j,j<xs.length->p (xs.getD j 0)=true)->xs.all p=true:=fun h=>by
 rw[List.all_eq_true];intro x A;obtain⟨j,X,rfl⟩:=List.getElem_of_mem A;have:=h j X;simpa[List.getD,X]using this
theorem z8P{p:Int->Bool}{xs:List Int}{j}(X:j<xs.length)(h:p (xs.getD j 0)=false):xs.all p=false:=by grind
theorem y7D:∀j,j<38->45<=baseL.getD j 0/\baseL.getD j 0<123:=M3j
def y3x(w:World)(l:List Rec)(pos:Nat)(wr:World):Prop:=pos<=38/\wr.heap[w.heap.size]?=some (.stringIter baseS pos)/\Below w.heap.size w wr/\∀j,j<pos->Cn.plain l (baseL.getD j 0)=true
theorem y2G v l w(hg:Glob w)(N:Rcs w v l):Calls prog 93 #[v] w (x0g w (Cn.baseA l 78 45)):=by
 rw[z2h];have KF:Hid (∀W,Bw w W->Calls prog 143 #[.int .i64 1] W (IntB W 1)):=fun W Y=>x1g 1 W (hg.on Y) w5q;have n:Hid (∀W c,Bw w W->Rune c->Calls prog 142 #[v,.int .i64 1,.int .i32 c] W (IntB W (Cn.find l 1 c))):=fun W c Y hc=>x9l v l 1 c W (hg.on Y) (N.below Y) w5q hc;have HH:=O (fun c=>hit_at N 1 c);have az:Hid (y3x w l 0 (w.iter baseS 0)):=⟨f6J,World.iter_heap w baseS 0,(b0r).alloc (l0r _) _,fun j X=>f6J⟩;have t:Hid ((∀j,j<38->Cn.plain l (baseL.getD j 0)=true)->baseL.all (Cn.plain l)=true):=fun h=>z8O h;have H:Hid (∀j,j<38->Cn.plain l (baseL.getD j 0)=false->baseL.all (Cn.plain l)=false):=fun j X h=>z8P X h;have d:=N.1;obtain⟨ao,aC,rfl,aD,aF⟩:=N.shape;generalize baseL.all (Cn.plain l)=R at *;go_enter func93,ntmps93;go_wp2;go_loopw[4,5] (fun _ _ wr=>∃pos:Nat,Hid (y3x w l pos wr)) (fun _ _ wr=>38-wr.iterPos w.heap.size)
 case atStart=>exact⟨0,az⟩
 case round =>
  obtain⟨pos,aw⟩:=hrel;obtain⟨aG,hit,T,ae⟩:=V aw;have aH:w.heap.size<wr.heap.size:=(Array.getElem?_eq_some_iff.1 hit).1;by_cases hp:pos<38
  ·obtain⟨aI,aJ⟩:=y7D pos hp;obtain⟨u,d2⟩:=y8o baseS pos (by rw[x4D];exact hp) (by rw[x8f];exact f6J);rw[x8f]at u;have ar:=fun ty=>Lib.run_next_any_at (P:=prog) wr w.heap.size baseS pos ty hit (by rw[x4D];exact hp);rw[u,d2]at ar;have aj:=Lib.iterAt_heap wr w.heap.size baseS pos (pos+1) hit;have J:=Lib.below_iterAt T (k:=w.heap.size) (l0r _) baseS (pos+1)
   have am:38-(pos+1)<38-wr.iterPos w.heap.size:=by
    simp only[World.iterPos,hit];omega
   have f:w.heap.size<(wr.iterAt w.heap.size baseS (pos+1)).heap.size:=(by grind);have ag:=O ae;have I:Rune (baseL.getD pos 0):=(by unfold Rune;exact f6J);have z:=V HH (baseL.getD pos 0);have i:=O (V KF _ J);have s:Hid (Cn.plain l (baseL.getD pos 0)=match Cn.hit l 1 (baseL.getD pos 0)with | some r=>decide (r.kind=1) | none=>false):=rfl;have A:=O (V H pos hp);have B:=O (fun W hW=>V n W (baseL.getD pos 0) hW I)
   have S:Hid (∀W,(wr.iterAt w.heap.size baseS (pos+1)).heap.size<=W.heap.size->W.heap[w.heap.size]?=some (.stringIter baseS (pos+1))->Bw w W->Cn.plain l (baseL.getD pos 0)=true->y3x w l (pos+1) W):=fun W _ hW Y G=>⟨f6J,hW,Y,fun j X=>by
    rcases Nat.lt_or_ge j pos with h | h
    ·exact V ag j h
    ·obtain rfl:j=pos:=by omega
     exact G⟩
   generalize wr.iterAt w.heap.size baseS (pos+1)=W2,baseL.getD pos 0=c at *;rcases z with⟨Z,D⟩ | ⟨k,b,aK,aB,Z,x,D,g,hl,hm,hr,hf⟩
   ·obtain rfl:R=false:=V A (by rw[V s,D]);rw[Z]at B;go_wp2_with fail;refine c0m i fun q L=>?_;have p:=bthen J L;have K2:=O (V B q p);go_wp2_with fail;refine c0m K2 fun y ab=>?_;have U:x0g w false (.returned (.bool false)) y:=⟨rfl,bthen p ab⟩;go_wp2;go_ret;exact U
   ·simp only[Value.slice.injEq]at g;obtain⟨rfl,_,rfl⟩:=g;have G:Cn.plain l c=decide ((l.getD k Cn.none).kind=1):=(by rw[V s,D]);rw[Z]at B;have HR:=O hr;generalize l.getD k Cn.none=r at *;have s:=O G;go_wp2_with fail;refine c0m i fun q L=>?_;have p:=bthen J L;have K2:=O (V B q p);go_wp2_with fail;refine c0m K2 fun y ab=>?_;have m:=bthen p ab;have x0:=((V HR).below m).kind;have af:Bw W2 y:=bthen L ab;have C:y.heap[w.heap.size]?=some (.stringIter baseS (pos+1)):=(by rw[af.block _ f];exact aj);have aA:=af.size;have ai:=O (V S y aA C m)
    have aq:38-y.iterPos w.heap.size<38-wr.iterPos w.heap.size:=by
     simp only[World.iterPos,C];simp only[World.iterPos]at am;exact am
    by_cases M:r.kind=1
    ·have F:Hid (y3x w l (pos+1) y):=V ai (by rw[V s,M];rfl);rw[M]at x0;go_wp2
     go_roundw
     case rel=>exact⟨pos+1,F⟩
     case measure=>exact aq
    ·obtain rfl:R=false:=V A (by rw[V s];exact d0f M);have U:x0g w false (.returned (.bool false)) y:=⟨rfl,m⟩;have q1:(r.kind != 1)=true:=(by simp[M]);exact m2G
  ·obtain rfl:pos=38:=f6J;obtain rfl:R=true:=V t ae;have U:x0g w true (.returned (.bool true)) wr:=⟨rfl,T⟩;have ar:=fun ty=>Lib.run_next_end_at (P:=prog) wr w.heap.size baseS 38 ty hit (by rw[x4D];exact f6J);go_wp2;go_ret;exact U
theorem Rown.far7{w W B v}{ps:List (Rec×Value)}(h:Rown w B v ps)(G:∀k,B<=k->k<w.heap.size->W.heap[k]?=w.heap[k]?):Rown W B v ps :=
 ⟨x0w h.1 fun g C=>G g (x5A h.1 C).2 (x5A h.1 C).1,fun p s=>(h.2 p s).keep fun g C=>G g (x5A (h.2 p s).2.2 C).2 (x5A (h.2 p s).2.2 C).1⟩
theorem Rown.on7{w W B v}{ps:List (Rec×Value)}(h:Rown w B v ps)(Y:Bw w W):Rown W B v ps:=h.far7 fun k _ G=>Y.block k G
def putR(W:World)(g off:Nat)(q:Rec×Value):World:=(((((((W.setCell ⟨g,off,none⟩ (.int .i64 q.1.kind)).setCell ⟨g,off+1,none⟩ (.int .i64 q.1.lo)).setCell ⟨g,off+2,none⟩ (.int .i64 q.1.hi)).setCell ⟨g,off+3,none⟩ (.int .i64 q.1.n)).setCell ⟨g,off+4,none⟩ q.2).setCell ⟨g,off+5,none⟩ (.string q.1.name)).setCell ⟨g,off+6,none⟩ (.string q.1.other)).setCell ⟨g,off+7,none⟩ (.float .f64 q.1.wt)
def set8(c:Array Value)(off:Nat)(q:Rec×Value):Array Value:=(((((((c.setIfInBounds off (.int .i64 q.1.kind)).setIfInBounds (off+1) (.int .i64 q.1.lo)).setIfInBounds (off+2) (.int .i64 q.1.hi)).setIfInBounds (off+3) (.int .i64 q.1.n)).setIfInBounds (off+4) q.2).setIfInBounds (off+5) (.string q.1.name)).setIfInBounds (off+6) (.string q.1.other)).setIfInBounds (off+7) (.float .f64 q.1.wt)
theorem z1a c off(q:Rec×Value):(set8 c off q).size=c.size:=by simp[set8]
theorem z0Z c off(q:Rec×Value)(h:off+8<=c.size) k:(set8 c off q)[k]?=if off<=k/\k<off+8 then(x0A q)[k-off]? else c[k]?:=by
 unfold set8;by_cases G:off<=k/\k<off+8
 ·rw[if_pos G];obtain⟨j,rfl⟩:∃j,k=off+j:=⟨k-off,f6J⟩;rw[Nat.add_sub_cancel_left];obtain rfl | rfl | rfl | rfl | rfl | rfl | rfl | rfl:j=0\/j=1\/j=2\/j=3\/j=4\/j=5\/j=6\/j=7:=by omega
  all_goals simp[Array.getElem?_setIfInBounds,x0A];try omega
 ·rw[if_neg G];simp only[Array.getElem?_setIfInBounds];rw[if_neg f6J,if_neg f6J,if_neg f6J,if_neg f6J,if_neg f6J,if_neg f6J,if_neg f6J,if_neg f6J]
theorem z0A{W g off cur e}(h:W.heap[g]?=some (.cells cur e (0,0)))(q:Rec×Value):(putR W g off q).heap[g]?=some (.cells (set8 cur off q) e (0,0)):=by
 have x:=x0c (j:=off+7) (x0c (j:=off+6) (x0c (j:=off+5) (x0c (j:=off+4) (x0c (j:=off+3) (x0c (j:=off+2) (x0c (j:=off+1) (x0c (j:=off) h (.int .i64 q.1.kind)) (.int .i64 q.1.lo)) (.int .i64 q.1.hi)) (.int .i64 q.1.n)) q.2) (.string q.1.name)) (.string q.1.other)) (.float .f64 q.1.wt);unfold putR set8;exact x
theorem x9R{W g off k}(q:Rec×Value)(h:k≠g):(putR W g off q).heap[k]?=W.heap[k]?:=by
 unfold putR;rw[x0e _ h,x0e _ h,x0e _ h,x0e _ h,x0e _ h,x0e _ h,x0e _ h,x0e _ h]
theorem x8G{w W B g off}(h:Below B w W)(C:B<=g)(q:Rec×Value):Below B w (putR W g off q) :=
 x0b (x0b (x0b (x0b (x0b (x0b (x0b (x0b h C _) C _) C _) C _) C _) C _) C _) C _
theorem Rown.cells8{w B g cap i}{ps:List (Rec×Value)}(h:Rown w B (.slice (some ⟨g,0,none⟩) ps.length cap) ps)(hi:i<ps.length) :
  ∃(r:Rec) (ao:Option Addr) (len cp:Nat),ps[i]=(r,.slice ao len cp)/\w.cell? ⟨g,i*8,none⟩=some (.int .i64 r.kind)/\w.cell? ⟨g,i*8+1,none⟩=some (.int .i64 r.lo)/\w.cell? ⟨g,i*8+2,none⟩=some (.int .i64 r.hi)/\w.cell? ⟨g,i*8+3,none⟩=some (.int .i64 r.n)/\w.cell? ⟨g,i*8+4,none⟩=some (.slice ao len cp)/\w.cell? ⟨g,i*8+5,none⟩=some (.string r.name)/\w.cell? ⟨g,i*8+6,none⟩=some (.string r.other)/\w.cell? ⟨g,i*8+7,none⟩=some (.float .f64 r.wt)/\∀j,w.frozen? ⟨g,j,none⟩=false:=by
 obtain⟨ao,cp,N,_,_⟩:=(h.2 ps[i] (List.getElem_mem hi)).sk.shape
 have I:∀j u,j<8->(x0A ps[i])[j]?=some u->w.cell? ⟨g,i*8+j,none⟩=some u:=by
  intro j u X W;have e:=h.1.cells (g:=g) rfl (i*8+j) u (by rw[x1s ps i j hi X];simpa[List.getD,hi]using W);rw[addr_add,Nat.zero_add]at e;exact e
 refine⟨ps[i].1,ao,_,cp,Prod.ext rfl N,I 0 _ f6J rfl,I 1 _ f6J rfl,I 2 _ f6J rfl,I 3 _ f6J rfl,N ▸ I 4 _ f6J rfl,I 5 _ f6J rfl,I 6 _ f6J rfl,I 7 _ f6J rfl,fun j=>?_⟩;rcases h.1.2 with⟨e,_⟩ | ⟨S,A,C,e,_,H,_⟩
 ·cases e
 ·simp only[Value.slice.injEq,Option.some.injEq,Addr.mk.injEq,and_true,true_and]at e;rw[e.1];exact x0d H
section
variable {P:Program} {ops:Array Oper} {o:Oper} {a:Act} {w w':World} {K:Act->World->Prop} {Q:Exit->Act->World->Prop} {E:Prop}
theorem y6U(T:o.guard=none) ty(x:Operand)(X:o.op=.load ty x) pv v(A:a.eval x=pv)(B:(Instr.loadAt ty pv).run P w=.ok v w)(h:K (a.put o.dst v) w) :
  if Region.wanted o (yielded ops a.tmps)=true then Oper.wp P o a w K Q else E:=by
 rw[if_pos I8A];unfold Oper.wp execOp;simp only[X,A,Sem.run_bind,B,Result.andThen_ok];exact h
theorem x7v(T:o.guard=none) ty(x y:Operand)(X:o.op=.store ty x y) pv v(A:a.eval x=pv)(hy:a.eval y=v)(B:(Instr.storeAt ty pv v).run P w=.ok () w')(h:K (a.put o.dst undef) w') :
  if Region.wanted o (yielded ops a.tmps)=true then Oper.wp P o a w K Q else E:=by
 rw[if_pos I8A];unfold Oper.wp execOp;simp only[X,A,hy,Sem.run_bind,B,Result.andThen_ok];exact h
end
theorem q0R{W g off cur}(h:W.heap[g]?=some (.cells cur 60 (0,0)))(L:off+8<=cur.size) r ao len cp :
  (Instr.storeAt 60 (.pointer (some ⟨g,off,none⟩)) (recV r (.slice ao len cp))).run prog W=.ok () (putR W g off (r,.slice ao len cp)):=by
 have Z:=x0c (j:=off) h (.int .i64 r.kind);have D:=x0c (j:=off+1) Z (.int .i64 r.lo);have J:=x0c (j:=off+2) D (.int .i64 r.hi);have H:=x0c (j:=off+3) J (.int .i64 r.n);have C:=x0c (j:=off+4) H (.slice ao len cp);have y:=x0c (j:=off+5) C (.string r.name);have x:=x0c (j:=off+6) y (.string r.other);have X:=cell_of (j:=off) h f6J;have F:=cell_of (j:=off+1) Z P8P;have q:=cell_of (j:=off+2) D P8P;have G:=cell_of (j:=off+3) J P8P;have S:=cell_of (j:=off+4) H P8P;have b:=cell_of (j:=off+5) C P8P;have B:=cell_of (j:=off+6) y P8P;have M:=cell_of (j:=off+7) x P8P;have I:=x0d (j:=off) h;have s:=x0d (j:=off+1) Z;have v:=x0d (j:=off+2) D;have t:=x0d (j:=off+3) J;have N:=x0d (j:=off+4) H;have c:=x0d (j:=off+5) C;have R:=x0d (j:=off+6) y;have A:=x0d (j:=off+7) x;have z:∀W a m,(store a (.float .f64 r.wt) m).run prog W=stored prog W a (.float .f64 r.wt) m:=fun W a m=>run_store prog W a _ m rfl;unfold recV putR;simp[Instr.storeAt,go_sem,Tryz.sizeOf60,Addr.add,z,stored,X,F,q,G,S,b,B,M,I,s,v,t,N,c,R,A]

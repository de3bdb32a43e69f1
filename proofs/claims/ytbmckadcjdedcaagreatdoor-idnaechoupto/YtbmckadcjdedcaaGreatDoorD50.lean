/- Ii19 Ij19 -/
import Derived.Test.YtbmckadcjdedcaaGreatDoorD46
import Derived.Test.YtbmckadcjdedcaaGreatDoorD49
set_option maxHeartbeats 2000000
set_option maxRecDepth 8000
namespace Go.Proofs.YtbmckadcjdedcaaGreatDoor
open Go.Proofs.Tryz
open Go.RowKit
section
variable{p:Prop}
theorem R2n(h:p:=by go_wp2;go_ret2;exact⟨rfl,b0r⟩):p:=h
theorem r8m(h:p:=by go_enter func26,ntmps26;go_wp2_with fail;refine(V K).mono ?_;rintro e Q ⟨b1,H,rfl,X⟩;have j:=O (V Z Q _ _ H b1 X);clear K Z X;go_wp2_with fail;refine c0m j fun A d=>?_;have b:=O (x0b b1 d);clear j b1 d;go_wp2;go_ret2;obtain rfl:=V T;exact⟨rfl,V b⟩):p:=h
theorem e6j(h:p:=by go_enter func9,ntmps9;exact R2n):p:=h
theorem i4A(h:p:=by go_wp2_with fail;refine c0m E fun Q b1=>?_;have L:=x0b r b1;have K2:=O (V K Q L);clear E K r b1;go_wp2_with fail;refine c0m K2 fun w2 b2=>?_;have HB:=O (x0b L b2);clear K2 L b2;go_wp2;go_ret2;obtain rfl:=V T;exact⟨rfl,V HB⟩):p:=h
theorem F6N(h:p:=by
 go_wp2_with fail;refine c0m Z fun Q b1=>?_;have L:=x0b (V R) b1;have K2:=O (V K Q L);clear Z KU K Y;go_wp2_with fail;refine c0m K2 fun w2 b2=>?_;have ab:=x0b L b2;have G:=x0b b1 b2;obtain⟨⟨z,c1⟩,f1,N,F⟩:=V HT w2 ab (x5s (V u) G);have H2:=O N;have H3:=O F;clear HT u N F b1 L b2 ab G K2 R;go_wp2
 go_roundw
 case rel=>exact V S _ (V H2) (V H3)
 case measure=>exact g8a):p:=h
theorem n3R(h:p:=by rw[if_neg o,Nat.or_zero]at T;have hL:¬(16384:Int)<((strOfNums wh).size:Int):=R2G;clear hu o I X H o2;exact i4A):p:=h
theorem R2G(h:p:=by rw[I];exact f6J):p:=h
end
theorem z5h:(prog.info? 9).map (fun i=>(i.zero,i.size,i.bytes))=some (some (.string ⟨#[]⟩),1,16):=f4x
theorem z5u(n:Nat)(w:World)(E:n<=3000000):∃W,(Instr.makeSlice 159 (.int .i64 (n:Int)) (.int .i64 (n:Int))).run prog w=.ok (.slice (some ⟨w.heap.size,0,none⟩) n n) W/\W.ownsRow w.heap.size 9 1 (.slice (some ⟨w.heap.size,0,none⟩) n n) n (List.replicate n (.string ⟨#[]⟩))/\w.grownBy W none:=by
 obtain⟨r,hi,i,d,f⟩:=info_parts z5h;obtain⟨W,D,Z,R⟩:=run_makeSlice_full (P:=prog) w w.heap.size 159 9 r _ 1 underlying159 hi i d .i64 .i64 n f6J V8r T7W (l0r _);rw[show Value.cells (.string ⟨#[]⟩)=#[.string ⟨#[]⟩]from rfl,toList_madeCells_one,Nat.mul_one]at Z;exact⟨W,D,Z,R⟩
def y6n(w:World)(r:List Int×Nat)(e:Ending)(w':World):Prop:=e=.returned (.tuple #[.string (strOfNums r.1),.int .i64 ((r.2:Nat):Int)])/\Below w.heap.size w w'
theorem z4k{w:World}{q p:Nat}{fl:Int}(hE:EngAt w q fl p){lv:Value}{B U:Nat}{P:List (List Int)}(hm:Mu w B U lv P)(h0:0<P.length)(hn:P.length<=3000000)(hl:∀k,(P.getD k []).length<=1000000000)
  (D:∀k,k<P.length->∀W a,Bw w W->Sk .i32 W a (P.getD k [])->Calls prog 142 #[a] W (WrP W (Pu.encode (P.getD k [])))) (aw:∀k,(Pu.encode (P.getD k [])).1.length<=1000000000) (az:(Id.whole P).length<=140737488355328) :
  Calls prog 48 #[.pointer (some ⟨q,0,none⟩),lv] w (y6n w (Id.carry (bits .and .i64 fl 32==32) P)):=by
 have KU:Hid (∀W (s:ByteArray) (m:Nat),Bw w W->Calls prog 92 #[.pointer (some ⟨q,0,none⟩),.string s,.int .i64 (m:Int)] W (x0c W (Id.unf (bits .and .i64 fl 32==32) s.size m))):=fun W s m t=>z6n (hE.on t) s m;generalize(bits .and .i64 fl 32==32)=v at *;obtain⟨f,aA,b,C⟩:=z5u P.length w hn;have ar:Bw w f:=(b0r).grown C (l0r _) (fun k e=>by cases e);have aB:w.heap.size<f.heap.size:=(b.lt _ rfl).2
 obtain⟨g,M,rfl⟩:∃g M,lv=.slice (some ⟨g,0,none⟩) P.length M:=by
  obtain⟨us,a1,J,_⟩:=hm;rcases J.2 with⟨_,h⟩ | ⟨g,M,aC,h,_⟩
  ·omega
  ·exact⟨g,M,h⟩
 have HK:Hid (∀k,k<P.length->∀W,Bw w W->∃a,W.cell? ⟨g,k,none⟩=some a/\Calls prog 91 #[a] W (z6z W (Id.ca (P.getD k [])))):=by
  intro k hk W t;obtain⟨us,a1,J,a3,_⟩:=hm.below t;exact⟨us.getD k undef,(J.cellAt k f6J).trans (by simp[List.getD,(f6J:k<us.length)]),y6I (a3 k hk).sk (hl k) (fun W' aq=>D k hk W' _ (x0b t aq) ((a3 k hk).sk.below aq)) (aw k)⟩
 have i:Hid (f.ownsRow w.heap.size 9 1 (.slice (some ⟨w.heap.size,0,none⟩) P.length P.length) P.length (Id.tx P 0)):=(by simpa[Id.tx,Hid]using b);have am:=O ar
 have d:Hid (∀W,W.ownsRow w.heap.size 9 1 (.slice (some ⟨w.heap.size,0,none⟩) P.length P.length) P.length (Id.tx P P.length)->Calls prog 93 #[.slice (some ⟨w.heap.size,0,none⟩) P.length P.length,.string ⟨#[46]⟩] W (y2R W (Id.whole P))):=by
  intro W t;have hL:((P.map fun y=>strOfNums (Id.ca y).1).map (·.data.toList))=(P.map fun y=>(Id.ca y).1).map fun l=>(strOfNums l).data.toList:=(by simp);have ay:Lib.join ((P.map fun y=>strOfNums (Id.ca y).1).map (·.data.toList)) [46]=(strOfNums (Id.whole P)).data.toList:=by rw[hL,Id.whole,Id.z1G]
  have:=Tryz.strings_Join w.heap.size 0 P.length (P.map fun y=>strOfNums (Id.ca y).1) ⟨#[46]⟩ W (fun j x hx=>by
   have hj:j<P.length:=(by have:=(List.getElem?_eq_some_iff.1 hx).1;simpa using this);rw[Nat.zero_add,t.cellAt j f6J,Id.z9d];simp[hj]at hx ⊢
   exact hx) ((t.lt _ rfl).2) P8P (by simp) (by
    show(Lib.join _ [46]).length<=_;rw[ay,Array.length_toList];rw[show(strOfNums (Id.whole P)).data.size=(Id.whole P).length from strOfNums_size _]
    exact az)
  rw[List.length_map]at this;refine this.mono fun e w' ⟨h1,h2⟩=>⟨?_,h2⟩;rw[h1];show Ending.returned (.string ⟨(Lib.join _ [46]).toArray⟩)=_;rw[ay]
 have HA:Hid (∀k,k<P.length->bits .or .i64 ((Id.ea v (P.take k):Nat):Int) ((Id.eb v (P.getD k []):Nat):Int)=((Id.ea v (P.take (k+1)):Nat):Int)):=fun k hk=>(by rw[Id.y7m hk];exact Id.or19 (Id.z7q v _) (Id.z7r v _));have HZ:Hid (∀k,k<P.length->Id.eb v (P.getD k [])=0->Id.ea v (P.take (k+1))=Id.ea v (P.take k)):=fun k hk h=>by rw[Id.y7m hk,h];simp
 have aj:Hid (∀k,k<P.length->∀W,Bw w W->W.ownsRow w.heap.size 9 1 (.slice (some ⟨w.heap.size,0,none⟩) P.length P.length) P.length (Id.tx P k)->(∃z,W.cell? ⟨w.heap.size,k,none⟩=some (.string z))/\W.frozen? ⟨w.heap.size,k,none⟩=false/\(W.setCell ⟨w.heap.size,k,none⟩ (.string (strOfNums (Id.ca (P.getD k [])).1))).ownsRow w.heap.size 9 1 (.slice (some ⟨w.heap.size,0,none⟩) P.length P.length) P.length (Id.tx P (k+1))/\Bw w (W.setCell ⟨w.heap.size,k,none⟩ (.string (strOfNums (Id.ca (P.getD k [])).1)))):=fun k hk W t hr =>
  ⟨⟨_,(hr.cellAt k f6J).trans (Id.tx_at P hk)⟩,hr.frozenAt k,by have:=(hr.stored k (.string (strOfNums (Id.ca (P.getD k [])).1))).1;rwa [Id.z6m P hk]at this,t.setCell (p:=⟨w.heap.size,k,none⟩) (l0r _) _⟩
 clear hE hm hl D aw az b C ar aB;go_enter func48,ntmps48;go_wp2;go_loopw[6,8,9,10,11,18] (fun tv _ _ _ _ iv wr=>∃k:Nat,tv=.int .i64 ((Id.ea v (P.take k):Nat):Int)/\iv=.int .i64 k/\k<=P.length/\wr.ownsRow w.heap.size 9 1 (.slice (some ⟨w.heap.size,0,none⟩) P.length P.length) P.length (Id.tx P k)/\Bw w wr) (fun _ _ _ _ _ iv _=>P.length-(intOf iv).toNat)
 case atStart=>exact⟨0,rfl,rfl,f6J,V i,V am⟩
 case round =>
  obtain⟨k,rfl,rfl,hk,ai,r⟩:=hrel;clear i am aA;by_cases ag:k<P.length
  ·have hL:(k:Int)<P.length:=f6J;obtain⟨a,Y,Z⟩:=V HK k ag wr r;replace Z:=O Z;have c:=V HA k ag;have af:=V HZ k ag;have HT:=O (V aj k ag);have u:=O ai;have R:=O r;have S:Hid (∀W,W.ownsRow w.heap.size 9 1 (.slice (some ⟨w.heap.size,0,none⟩) P.length P.length) P.length (Id.tx P (k+1))->Bw w W->∃n:Nat,Value.int .i64 ((Id.ea v (P.take (k+1)):Nat):Int)=.int .i64 ((Id.ea v (P.take n):Nat):Int)/\Value.int .i64 ((k:Int)+1)=.int .i64 n/\n<=P.length/\W.ownsRow w.heap.size 9 1 (.slice (some ⟨w.heap.size,0,none⟩) P.length P.length) P.length (Id.tx P n)/\Bw w W):=fun W h1 h2=>⟨k+1,rfl,g2A,f6J,h1,h2⟩;have ae:Id.eb v (P.getD k [])=if(Id.ca (P.getD k [])).2=false then 8192 else if Id.unf v (Id.ca (P.getD k [])).1.length 63=true then 16384 else 0:=rfl;clear HK HA HZ aj d ai r;generalize Id.eb v (P.getD k [])=eb,Id.ca (P.getD k [])=cc at *;obtain⟨cs,cb⟩:=cc;generalize Id.ea v (P.take (k+1))=J,Id.ea v (P.take k)=a1 at *
   cases cb with
   | false =>
    obtain rfl:eb=8192:=ae;clear af;replace c:bits .or .i64 (a1:Int) 8192=(J:Int):=c;generalize((a1:Nat):Int)=i1,((J:Nat):Int)=i2 at *;go_wp2_with fail;refine c0m Z fun Q b1=>?_;have L:=x0b (V R) b1;obtain⟨⟨z,c1⟩,f1,N,F⟩:=V HT Q L (x5s (V u) b1);have H2:=O N;have H3:=O F;clear HT u N F b1 L Z KU R Y;go_wp2
    go_roundw
    case rel=>exact V S _ (V H2) (V H3)
    case measure=>exact g8a
   | true =>
    have K:=O fun W (t:Bw w W)=>V KU W (strOfNums cs) 63 t;rw[strOfNums_size]at K
    cases hu:Id.unf v cs.length 63 with
    | true =>
     rw[hu]at K;obtain rfl:eb=16384:=(by rw[ae,if_neg (by simp),if_pos hu]);clear ae af hu;replace c:bits .or .i64 (a1:Int) 16384=(J:Int):=c;generalize((a1:Nat):Int)=i1,((J:Nat):Int)=i2 at *;exact F6N
    | false =>
     rw[hu]at K;obtain rfl:eb=0:=(by rw[ae,if_neg (by simp),if_neg (by rw[hu];exact e8S)]);obtain rfl:J=a1:=af rfl;clear ae af hu c;generalize((J:Nat):Int)=i1 at *;exact F6N
  ·obtain rfl:k=P.length:=f6J;have E:=O (V d wr ai);have K:=O fun W (t:Bw w W)=>V KU W (strOfNums (Id.whole P)) 253 t;rw[strOfNums_size]at K;have I:=strOfNums_size (Id.whole P);have X:=Id.z7q v P;have H:Id.ea v P|||32768<65536:=Nat.or_lt_two_pow (n:=16) X e8S;have T:Hid (Id.carry v P=(Id.whole P,Id.ea v P|||(if Id.unf v (Id.whole P).length 253=true then 32768 else 0)|||(if 16384<(Id.whole P).length then 2 else 0))):=rfl;rw[List.take_length];clear HK HA HZ aj d ai KU;generalize Id.carry v P=cr,Id.ea v P=A,Id.whole P=wh at *
   cases hu:Id.unf v wh.length 253 with
   | true =>
    rw[hu]at K T;rw[if_pos rfl]at T;have o1:bits .or .i64 (A:Int) 32768=((A|||32768:Nat):Int):=Id.or19 X (by decide:(32768:Nat)<65536);have o2:bits .or .i64 ((A|||32768:Nat):Int) 2=((A|||32768|||2:Nat):Int):=Id.or19 H (by decide:(2:Nat)<65536);generalize A|||32768=A2 at *;by_cases o:16384<wh.length
    ·rw[if_pos o]at T;have hL:(16384:Int)<((strOfNums wh).size:Int):=R2G;generalize A2|||2=A3 at *;clear hu o I X H;exact i4A
    ·exact n3R
   | false =>
    rw[hu]at K T;rw[if_neg e8S,Nat.or_zero]at T;have o2:bits .or .i64 (A:Int) 2=((A|||2:Nat):Int):=Id.or19 X (by decide:(2:Nat)<65536);by_cases o:16384<wh.length
    ·rw[if_pos o]at T;have hL:(16384:Int)<((strOfNums wh).size:Int):=R2G;generalize A|||2=A3 at *;clear hu o I X H;exact i4A
    ·exact n3R
theorem z2c(fl:Int)(w:World):Calls prog 9 #[.pointer none,.int .i64 fl] w (fun e w'=>e=.returned (.tuple #[.pointer none,.int .i64 1])/\Bw w w'):=e6j
theorem y3B(p:Nat)(fl:Int)(z:fl<0\/63<fl)(w:World):Calls prog 9 #[.pointer (some ⟨p,0,none⟩),.int .i64 fl] w (fun e w'=>e=.returned (.tuple #[.pointer none,.int .i64 1])/\Bw w w'):=by
 by_cases T:fl<0
 ·clear z;exact e6j
 ·have D:63<fl:=f6J;clear z;exact e6j
theorem z5C(p:Nat)(fl:Int)(T:0<=fl)(D:fl<=63)(w:World):Calls prog 9 #[.pointer (some ⟨p,0,none⟩),.int .i64 fl] w (fun e w'=>∃q,e=.returned (.tuple #[.pointer (some ⟨q,0,none⟩),.int .i64 0])/\EngAt w' q fl p/\Bw w w'):=by
 have F:¬fl<0:=f6J;have A:¬63<fl:=f6J;have x:Hid (EngAt (w.alloc (.cells #[.int .i64 fl,.pointer (some ⟨p,0,none⟩)] 37)) w.heap.size fl p):=⟨M7L,M7L⟩;have B:Hid (Bw w (w.alloc (.cells #[.int .i64 fl,.pointer (some ⟨p,0,none⟩)] 37))):=(b0r).alloc (l0r _) _;clear T D;go_enter func9,ntmps9;go_wp2;go_ret2;exact⟨_,rfl,V x,V B⟩
namespace Id
def ur(n:Nat):Bool:=bits .and .i64 (n:Int) 3 != 0
def toU(r:List (List Int)×Nat)(zs:List Int):List Int×Nat:=if ur r.2=true then(zs,r.2)else(txt (Spl.join r.1),r.2)
def toA(v:Bool)(r:List (List Int)×Nat):List Int×Nat:=if ur r.2=true then([],r.2)else if r.2|||(carry v r.1).2≠0 then([],r.2|||(carry v r.1).2)else((carry v r.1).1,0)
end Id
theorem z4m(s:ByteArray)(w:World)(X:s.size<=281474976710656):Calls prog 40 #[.string s] w (fun e w'=>e=.returned (.string s)/\Bw w w'):=by
 have K:=O (Tryz.stringslite_Clone s w X);go_enter func40,ntmps40;go_wp2_with fail;refine c0m K fun Q b1=>?_;clear K;go_wp2;go_ret;exact⟨rfl,b1⟩
theorem x3R{w:World}{q:Nat}{s:ByteArray}{r:List (List Int)×Nat}(a:Calls prog 18 #[.pointer (some ⟨q,0,none⟩),.string s] w (y6j w r))(X:s.size<=1000000000)(J:Spl.total r.1+r.1.length<=1000000000) :
  Calls prog 20 #[.pointer (some ⟨q,0,none⟩),.string s] w (y6n w (Id.toU r (nums s))):=by
 have K:=O a;clear a;obtain⟨P,n⟩:=r
 cases hu:Id.ur n with
 | true =>
  have T:Hid (Id.toU (P,n) (nums s)=(nums s,n)):=if_pos hu;have Y:(bits .and .i64 (n:Int) 3 != 0)=true:=hu;have Z:=O fun W=>z4m s W f6J;clear hu J X;generalize Id.toU (P,n) (nums s)=M at *;go_enter func20,ntmps20;go_wp2_with fail;refine(V K).mono ?_;rintro e Q ⟨b1,H,rfl,U⟩;have j:=O (V Z Q);clear K Z U;go_wp2_with fail;refine c0m j fun A m=>?_;have B:=O (x0b b1 m);clear j b1 m;go_wp2;go_ret2;obtain rfl:=V T;refine⟨?_,V B⟩;show _=Ending.returned (.tuple #[.string (strOfNums (nums s)),_]);rw[x8p];rfl
 | false =>
  have T:Hid (Id.toU (P,n) (nums s)=(Id.txt (Spl.join P),n)):=if_neg (by rw[hu];exact e8N);have Y:(bits .and .i64 (n:Int) 3 != 0)=false:=hu;have z:=Spl.x5Q P;have d:Hid (∀W v,Rws W v P->Calls prog 21 #[v] W (x8u W (Spl.join P))):=fun W v N=>z5k v P W N J;have L:Hid (∀W v,Sk .i32 W v (Spl.join P)->Calls prog 41 #[v] W (y2R W (Id.txt (Spl.join P)))):=fun W v N=>z0f N (by simp only at J;exact f6J);have C:Hid (P.length<=1000000000):=(by show _<=_;simp only at J;exact f6J);clear hu J X z;generalize Id.toU (P,n) (nums s)=M,Id.txt (Spl.join P)=D at *;generalize Spl.join P=E at *;go_enter func20,ntmps20;go_wp2_with fail;refine(V K).mono ?_;rintro e Q ⟨b1,H,rfl,U⟩;have j:=O (V d Q H (U.rwsS (by have:=V C;simp only;exact f6J)));clear K d U C;go_wp2_with fail;refine(V j).mono ?_;rintro e A ⟨R,rfl,y,m⟩;have S:=O (V L A R y.sk);have F:=x0b b1 m;clear j L y b1 m;go_wp2_with fail;refine c0m S fun u G=>?_;have B:=O (x0b F G);clear S F G;go_wp2;go_ret2;obtain rfl:=V T;exact⟨rfl,V B⟩
theorem y1h{w:World}{q p:Nat}{fl:Int}(g:EngAt w q fl p){s:ByteArray}{r:List (List Int)×Nat}(N:Calls prog 18 #[.pointer (some ⟨q,0,none⟩),.string s] w (y6j w r))(E:r.2<65536)
  (L:Id.ur r.2=false->0<r.1.length/\r.1.length<=3000000/\(∀k,(r.1.getD k []).length<=1000000000)/\(∀k,k<r.1.length->∀W a,Sk .i32 W a (r.1.getD k [])->Calls prog 142 #[a] W (WrP W (Pu.encode (r.1.getD k []))))/\(∀k,(Pu.encode (r.1.getD k [])).1.length<=1000000000)/\(Id.whole r.1).length<=140737488355328) (I:(Id.carry (bits .and .i64 fl 32==32) r.1).2<65536) :
  Calls prog 26 #[.pointer (some ⟨q,0,none⟩),.string s] w (y6n w (Id.toA (bits .and .i64 fl 32==32) r)):=by
 have K:=O N;clear N;obtain⟨P,n⟩:=r
 cases hu:Id.ur n with
 | true =>
  have T:Hid (Id.toA (bits .and .i64 fl 32==32) (P,n)=([],n)):=if_pos hu;have Y:(bits .and .i64 (n:Int) 3 != 0)=true:=hu;clear hu L I g E;generalize Id.toA (bits .and .i64 fl 32==32) (P,n)=M at *;go_enter func26,ntmps26;go_wp2_with fail;refine(V K).mono ?_;rintro e Q ⟨b1,H,rfl,X⟩;have b:=O b1;clear K X b1;go_wp2;go_ret2;obtain rfl:=V T;exact⟨rfl,V b⟩
 | false =>
  have Y:(bits .and .i64 (n:Int) 3 != 0)=false:=hu;obtain⟨o,l,c,F,u,R⟩:=L hu;have Z:Hid (∀W B U v,Bw w W->Mu W B U v P->Calls prog 48 #[.pointer (some ⟨q,0,none⟩),v] W (y6n W (Id.carry (bits .and .i64 fl 32==32) P))):=fun W B U v t X=>z4k (g.on t) X o l c (fun k G x a _ J=>F k G x a J) u R;have T:Hid (Id.toA (bits .and .i64 fl 32==32) (P,n)=if n|||(Id.carry (bits .and .i64 fl 32==32) P).2≠0 then([],n|||(Id.carry (bits .and .i64 fl 32==32) P).2)else((Id.carry (bits .and .i64 fl 32==32) P).1,0)):=if_neg (by rw[hu];exact e8M);clear hu L o l c F u R g;generalize Id.toA (bits .and .i64 fl 32==32) (P,n)=M at *;simp only at I E;generalize Id.carry (bits .and .i64 fl 32==32) P=C at *;obtain⟨f,cn⟩:=C;simp only at I T;have y:=Id.or19 E I;generalize n|||cn=m at *;by_cases i:m=0
  ·subst i
   replace T:Hid (M=(f,0)):=by
    have:=V T;rwa [if_neg M7L]at this
   replace y:bits .or .i64 (n:Int) (cn:Int)=0:=y;clear E I;exact r8m
  ·replace T:Hid (M=([],m)):=by
    have:=V T;rwa [if_pos (by simpa using i)]at this
   have S:((m:Int) != 0)=true:=(by simpa using i);clear E I i;exact r8m

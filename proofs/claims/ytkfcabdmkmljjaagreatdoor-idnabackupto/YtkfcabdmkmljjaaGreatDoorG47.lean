/- Lemmas. -/
import Derived.Test.YtkfcabdmkmljjaaGreatDoorG43
import Derived.Test.YtkfcabdmkmljjaaGreatDoorG46
set_option maxHeartbeats 2000000
set_option maxRecDepth 8000
namespace Go.Proofs.YtkfcabdmkmljjaaGreatDoor
open Go.Proofs.Tryz
open Go.RowKit
section
variable{p:Prop}
theorem R2n(h:p:=by go_wp2;go_ret2;exact⟨rfl,b0r⟩):p:=h
theorem T5f(h:p:=by go_enter func11,ntmps11;go_wp2_with fail;refine(V K).mono ?_;rintro e Q ⟨b1,u,rfl,z⟩;have g:=O (V b Q _ _ u b1 z);clear K b z;go_wp2_with fail;refine c0m g fun o Y=>?_;have x:=O (bthen b1 Y);clear g b1 Y;go_wp2;go_ret2;obtain rfl:=V S;exact⟨rfl,V x⟩):p:=h
theorem G1w(h:p:=by go_enter func10,ntmps10;exact R2n):p:=h
theorem W6r(h:p:=by go_wp2_with fail;refine c0m KJ fun Q b1=>?_;have C:=bthen ab b1;have K2:=O (V d Q C);clear KJ d ab b1;go_wp2_with fail;refine c0m K2 fun T b2=>?_;have HB:=O (bthen C b2);clear K2 C b2;go_wp2;go_ret2;obtain rfl:=V HF;exact⟨rfl,V HB⟩):p:=h
theorem S2j(h:p:=by
 go_wp2_with fail;refine c0m b fun Q b1=>?_;have C:=bthen (V Y) b1;have K2:=O (V d Q C);clear b I d c0;go_wp2_with fail;refine c0m K2 fun T b2=>?_;have Z:=bthen C b2;have K:=bthen b1 b2;obtain⟨⟨z,c1⟩,f1,ae,H⟩:=V HT T Z (x5E (V r) K);have o:=O ae;have H3:=O H;clear HT r ae H b1 C b2 Z K K2 Y;go_wp2
 go_roundw
 case rel=>exact V af _ (V o) (V H3)
 case measure=>exact g8b):p:=h
theorem w3Y(h:p:=by rw[if_neg a,Nat.or_zero]at HF;have hL:¬(16384:Int)<((strOfNums wh).size:Int):=V8r;clear hu a f hA D o2;exact W6r):p:=h
theorem V8r(h:p:=by rw[f];exact f6J):p:=h
end
theorem z7q:(prog.info? 9).map (fun i=>(i.zero,i.size,i.bytes))=some (some (.string ⟨#[]⟩),1,16):=f4x
theorem z7H(n:Nat) w(F:n<=3000000):∃W,(Instr.makeSlice 123 (.int .i64 (n:Int)) (.int .i64 (n:Int))).run prog w=.ok (.slice (some ⟨w.heap.size,0,none⟩) n n) W/\W.ownsRow w.heap.size 9 1 (.slice (some ⟨w.heap.size,0,none⟩) n n) n (List.replicate n (.string ⟨#[]⟩))/\w.grownBy W none:=by
 obtain⟨i,hi,y,Y,m⟩:=info_parts z7q;obtain⟨W,Z,D,J⟩:=run_makeSlice_full (P:=prog) w w.heap.size 123 9 i _ 1 underlying123 hi y Y .i64 .i64 n f6J I5j T7W (l0r _);rw[show Value.cells (.string ⟨#[]⟩)=#[.string ⟨#[]⟩]from rfl,toList_madeCells_one,Nat.mul_one]at D;exact⟨W,Z,D,J⟩
def x6w(w:World)(r:List Int×Nat)(e:Ending)(w':World):Prop:=e=.returned (.tuple #[.string (strOfNums r.1),.int .i64 ((r.2:Nat):Int)])/\Below w.heap.size w w'
theorem z6r{w q p fl}(hE:EngAt w q fl p){lv B U yss}(hm:Mu w B U lv yss)(h0:0<yss.length)(hn:yss.length<=3000000)(hl:∀k,(yss.getD k []).length<=1000000000)
  (am:∀k,k<yss.length->∀W u,Bw w W->Sk .i32 W u (yss.getD k [])->Calls prog 100 #[u] W (WrP W (Pu.encode (yss.getD k [])))) (i:∀k,(Pu.encode (yss.getD k [])).1.length<=1000000000) (N:(Id.whole yss).length<=140737488355328) :
  Calls prog 27 #[.pointer (some ⟨q,0,none⟩),lv] w (x6w w (Id.carry (bits .and .i64 fl 32==32) yss)):=by
 have I:Hid (∀W (s:ByteArray) (m:Nat),Bw w W->Calls prog 53 #[.pointer (some ⟨q,0,none⟩),.string s,.int .i64 (m:Int)] W (x0g W (Id.unf (bits .and .i64 fl 32==32) s.size m))):=fun W s m P=>z8K (hE.on P) s m;generalize(bits .and .i64 fl 32==32)=v at *;obtain⟨W1,R,X,aw⟩:=z7H yss.length w hn;have ar:Bw w W1:=(b0r).grown aw (l0r _) (fun k e=>by cases e);have az:w.heap.size<W1.heap.size:=(X.lt _ rfl).2
 obtain⟨g,M,rfl⟩:∃g M,lv=.slice (some ⟨g,0,none⟩) yss.length M:=by
  obtain⟨us,t,a2,_⟩:=hm;rcases a2.2 with⟨_,h⟩ | ⟨g,M,aA,h,_⟩
  ·omega
  ·exact⟨g,M,h⟩
 have HK:Hid (∀k,k<yss.length->∀W,Bw w W->∃u,W.cell? ⟨g,k,none⟩=some u/\Calls prog 52 #[u] W (z8X W (Id.ca (yss.getD k [])))):=by
  intro k G W P;obtain⟨us,t,a2,a3,_⟩:=hm.below P;exact⟨us.getD k undef,(a2.cellAt k f6J).trans (by simp[List.getD,(f6J:k<us.length)]),y8e (a3 k G).sk (hl k) (fun W' aq=>am k G W' _ (bthen P aq) ((a3 k G).sk.below aq)) (i k)⟩
 have S:Hid (W1.ownsRow w.heap.size 9 1 (.slice (some ⟨w.heap.size,0,none⟩) yss.length yss.length) yss.length (Id.tx yss 0)):=(by simpa[Id.tx,Hid]using X);have aj:=O ar
 have HJ:Hid (∀W,W.ownsRow w.heap.size 9 1 (.slice (some ⟨w.heap.size,0,none⟩) yss.length yss.length) yss.length (Id.tx yss yss.length)->Calls prog 54 #[.slice (some ⟨w.heap.size,0,none⟩) yss.length yss.length,.string ⟨#[46]⟩] W (y3P W (Id.whole yss))):=by
  intro W P;have hL:((yss.map fun y=>strOfNums (Id.ca y).1).map (·.data.toList))=(yss.map fun y=>(Id.ca y).1).map fun l=>(strOfNums l).data.toList:=(by simp);have ay:Lib.join ((yss.map fun y=>strOfNums (Id.ca y).1).map (·.data.toList)) [46]=(strOfNums (Id.whole yss)).data.toList:=by rw[hL,Id.whole,Id.z3C]
  have:=Tryz.strings_Join w.heap.size 0 yss.length (yss.map fun y=>strOfNums (Id.ca y).1) ⟨#[46]⟩ W (fun j x hx=>by
   have hj:j<yss.length:=(by have:=(List.getElem?_eq_some_iff.1 hx).1;exact W2P);rw[Nat.zero_add,P.cellAt j f6J,Id.q1C];simp[hj]at hx ⊢
   exact hx) ((P.lt _ rfl).2) P8P (by simp) (by
    show(Lib.join _ [46]).length<=_;rw[ay,Array.length_toList];rw[show(strOfNums (Id.whole yss)).data.size=(Id.whole yss).length from strOfNums_size _]
    exact N)
  rw[List.length_map]at this;refine this.mono fun e w' ⟨h1,h2⟩=>⟨?_,h2⟩;rw[h1];show Ending.returned (.string ⟨(Lib.join _ [46]).toArray⟩)=_;rw[ay]
 have HA:Hid (∀k,k<yss.length->bits .or .i64 ((Id.ea v (yss.take k):Nat):Int) ((Id.eb v (yss.getD k []):Nat):Int)=((Id.ea v (yss.take (k+1)):Nat):Int)):=fun k G=>(by rw[Id.y8F G];exact Id.or19 (Id.z6L v _) (Id.z9S v _));have c:Hid (∀k,k<yss.length->Id.eb v (yss.getD k [])=0->Id.ea v (yss.take (k+1))=Id.ea v (yss.take k)):=fun k G h=>by rw[Id.y8F G,h];simp
 have L:Hid (∀k,k<yss.length->∀W,Bw w W->W.ownsRow w.heap.size 9 1 (.slice (some ⟨w.heap.size,0,none⟩) yss.length yss.length) yss.length (Id.tx yss k)->(∃z,W.cell? ⟨w.heap.size,k,none⟩=some (.string z))/\W.frozen? ⟨w.heap.size,k,none⟩=false/\(W.setCell ⟨w.heap.size,k,none⟩ (.string (strOfNums (Id.ca (yss.getD k [])).1))).ownsRow w.heap.size 9 1 (.slice (some ⟨w.heap.size,0,none⟩) yss.length yss.length) yss.length (Id.tx yss (k+1))/\Bw w (W.setCell ⟨w.heap.size,k,none⟩ (.string (strOfNums (Id.ca (yss.getD k [])).1)))):=fun k G W P hr =>
  ⟨⟨_,(hr.cellAt k f6J).trans (Id.tx_at yss G)⟩,hr.frozenAt k,by have:=(hr.stored k (.string (strOfNums (Id.ca (yss.getD k [])).1))).1;rwa [Id.z8I yss G]at this,P.setCell (p:=⟨w.heap.size,k,none⟩) (l0r _) _⟩
 clear hE hm hl am i N X aw ar az;go_enter func27,ntmps27;go_wp2;go_loopw[6,8,9,10,11,18] (fun tv _ _ _ _ iv wr=>∃k:Nat,tv=.int .i64 ((Id.ea v (yss.take k):Nat):Int)/\iv=.int .i64 k/\k<=yss.length/\wr.ownsRow w.heap.size 9 1 (.slice (some ⟨w.heap.size,0,none⟩) yss.length yss.length) yss.length (Id.tx yss k)/\Bw w wr) (fun _ _ _ _ _ iv _=>yss.length-(intOf iv).toNat)
 case atStart=>exact⟨0,rfl,rfl,f6J,V S,V aj⟩
 case round =>
  obtain⟨k,rfl,rfl,G,ai,ab⟩:=hrel;clear S aj R;by_cases E:k<yss.length
  ·have hL:(k:Int)<yss.length:=f6J;obtain⟨u,c0,b⟩:=V HK k E wr ab;replace b:=O b;have J:=V HA k E;have ag:=V c k E;have HT:=O (V L k E);have r:=O ai;have Y:=O ab;have af:Hid (∀W,W.ownsRow w.heap.size 9 1 (.slice (some ⟨w.heap.size,0,none⟩) yss.length yss.length) yss.length (Id.tx yss (k+1))->Bw w W->∃n:Nat,Value.int .i64 ((Id.ea v (yss.take (k+1)):Nat):Int)=.int .i64 ((Id.ea v (yss.take n):Nat):Int)/\Value.int .i64 ((k:Int)+1)=.int .i64 n/\n<=yss.length/\W.ownsRow w.heap.size 9 1 (.slice (some ⟨w.heap.size,0,none⟩) yss.length yss.length) yss.length (Id.tx yss n)/\Bw w W):=fun W h1 h2=>⟨k+1,rfl,g2B,f6J,h1,h2⟩;have F:Id.eb v (yss.getD k [])=if(Id.ca (yss.getD k [])).2=false then 8192 else if Id.unf v (Id.ca (yss.getD k [])).1.length 63=true then 16384 else 0:=rfl;clear HK HA c L HJ ai ab;generalize Id.eb v (yss.getD k [])=eb,Id.ca (yss.getD k [])=cc at *;obtain⟨cs,cb⟩:=cc;generalize Id.ea v (yss.take (k+1))=a2,Id.ea v (yss.take k)=t at *
   cases cb with
   | false =>
    obtain rfl:eb=8192:=F;clear ag;replace J:bits .or .i64 (t:Int) 8192=(a2:Int):=J;generalize((t:Nat):Int)=i1,((a2:Nat):Int)=i2 at *;go_wp2_with fail;refine c0m b fun Q b1=>?_;have C:=bthen (V Y) b1;obtain⟨⟨z,c1⟩,f1,ae,H⟩:=V HT Q C (x5E (V r) b1);have o:=O ae;have H3:=O H;clear HT r ae H b1 C b I Y c0;go_wp2
    go_roundw
    case rel=>exact V af _ (V o) (V H3)
    case measure=>exact g8b
   | true =>
    have d:=O fun W (P:Bw w W)=>V I W (strOfNums cs) 63 P;rw[strOfNums_size]at d
    cases hu:Id.unf v cs.length 63 with
    | true =>
     rw[hu]at d;obtain rfl:eb=16384:=(by rw[F,if_neg (by simp),if_pos hu]);clear F ag hu;replace J:bits .or .i64 (t:Int) 16384=(a2:Int):=J;generalize((t:Nat):Int)=i1,((a2:Nat):Int)=i2 at *;exact S2j
    | false =>
     rw[hu]at d;obtain rfl:eb=0:=(by rw[F,if_neg (by simp),if_neg (by rw[hu];decide)]);obtain rfl:a2=t:=ag rfl;clear F ag hu J;generalize((a2:Nat):Int)=i1 at *;exact S2j
  ·obtain rfl:k=yss.length:=f6J;have KJ:=O (V HJ wr ai);have d:=O fun W (P:Bw w W)=>V I W (strOfNums (Id.whole yss)) 253 P;rw[strOfNums_size]at d;have f:=strOfNums_size (Id.whole yss);have hA:=Id.z6L v yss;have D:Id.ea v yss|||32768<65536:=Nat.or_lt_two_pow (n:=16) hA (by decide);have HF:Hid (Id.carry v yss=(Id.whole yss,Id.ea v yss|||(if Id.unf v (Id.whole yss).length 253=true then 32768 else 0)|||(if 16384<(Id.whole yss).length then 2 else 0))):=rfl;rw[List.take_length];clear HK HA c L HJ ai I;generalize Id.carry v yss=cr,Id.ea v yss=A,Id.whole yss=wh at *
   cases hu:Id.unf v wh.length 253 with
   | true =>
    rw[hu]at d HF;rw[if_pos rfl]at HF;have o1:bits .or .i64 (A:Int) 32768=((A|||32768:Nat):Int):=Id.or19 hA (by decide:(32768:Nat)<65536);have o2:bits .or .i64 ((A|||32768:Nat):Int) 2=((A|||32768|||2:Nat):Int):=Id.or19 D (by decide:(2:Nat)<65536);generalize A|||32768=A2 at *;by_cases a:16384<wh.length
    ·rw[if_pos a]at HF;have hL:(16384:Int)<((strOfNums wh).size:Int):=V8r;generalize A2|||2=A3 at *;clear hu a f hA D;exact W6r
    ·exact w3Y
   | false =>
    rw[hu]at d HF;rw[if_neg (by decide),Nat.or_zero]at HF;have o2:bits .or .i64 (A:Int) 2=((A|||2:Nat):Int):=Id.or19 hA (by decide:(2:Nat)<65536);by_cases a:16384<wh.length
    ·rw[if_pos a]at HF;have hL:(16384:Int)<((strOfNums wh).size:Int):=V8r;generalize A|||2=A3 at *;clear hu a f hA D;exact W6r
    ·exact w3Y
theorem z3Y fl w:Calls prog 10 #[.pointer none,.int .i64 fl] w (fun e w'=>e=.returned (.tuple #[.pointer none,.int .i64 1])/\Bw w w'):=G1w
theorem z3X p fl(o:fl<0\/63<fl) w:Calls prog 10 #[.pointer (some ⟨p,0,none⟩),.int .i64 fl] w (fun e w'=>e=.returned (.tuple #[.pointer none,.int .i64 1])/\Bw w w'):=by
 by_cases R:fl<0
 ·clear o;exact G1w
 ·have Z:63<fl:=f6J;clear o;exact G1w
theorem q0A p fl(R:0<=fl)(Z:fl<=63) w:Calls prog 10 #[.pointer (some ⟨p,0,none⟩),.int .i64 fl] w (fun e w'=>∃q,e=.returned (.tuple #[.pointer (some ⟨q,0,none⟩),.int .i64 0])/\EngAt w' q fl p/\Bw w w'):=by
 have F:¬fl<0:=f6J;have t:¬63<fl:=f6J;have P:Hid (EngAt (w.alloc (.cells #[.int .i64 fl,.pointer (some ⟨p,0,none⟩)] 66)) w.heap.size fl p):=⟨M7L,M7L⟩;have x:Hid (Bw w (w.alloc (.cells #[.int .i64 fl,.pointer (some ⟨p,0,none⟩)] 66))):=(b0r).alloc (l0r _) _;clear R Z;go_enter func10,ntmps10;go_wp2;go_ret2;exact⟨_,rfl,V P,V x⟩
namespace Id
def ur(n:Nat):Bool:=bits .and .i64 (n:Int) 3 != 0
def toU(r:List (List Int)×Nat)(zs:List Int):List Int×Nat:=if ur r.2=true then(zs,r.2)else(txt (Spl.join r.1),r.2)
def toA(v:Bool)(r:List (List Int)×Nat):List Int×Nat:=if ur r.2=true then([],r.2)else if r.2|||(carry v r.1).2≠0 then([],r.2|||(carry v r.1).2)else((carry v r.1).1,0)
end Id
theorem z6t s w(L:s.size<=281474976710656):Calls prog 28 #[.string s] w (fun e w'=>e=.returned (.string s)/\Bw w w'):=by
 have K:=O (Tryz.stringslite_Clone s w L);go_enter func28,ntmps28;go_wp2_with fail;refine c0m K fun Q b1=>?_;clear K;go_wp2;go_ret;exact⟨rfl,b1⟩
theorem x7H{w q s r}(D:Calls prog 17 #[.pointer (some ⟨q,0,none⟩),.string s] w (y7B w r))(L:s.size<=1000000000)(U:Spl.total r.1+r.1.length<=1000000000) :
  Calls prog 12 #[.pointer (some ⟨q,0,none⟩),.string s] w (x6w w (Id.toU r (nums s))):=by
 have K:=O D;clear D;obtain⟨a,n⟩:=r
 cases hu:Id.ur n with
 | true =>
  have M:Hid (Id.toU (a,n) (nums s)=(nums s,n)):=if_pos hu;have H:(bits .and .i64 (n:Int) 3 != 0)=true:=hu;have b:=O fun W=>z6t s W f6J;clear hu U L;generalize Id.toU (a,n) (nums s)=J at *;go_enter func12,ntmps12;go_wp2_with fail;refine(V K).mono ?_;rintro e Q ⟨b1,u,rfl,z⟩;have g:=O (V b Q);clear K b z;go_wp2_with fail;refine c0m g fun T m=>?_;have x:=O (bthen b1 m);clear g b1 m;go_wp2;go_ret2;obtain rfl:=V M;refine⟨?_,V x⟩;show _=Ending.returned (.tuple #[.string (strOfNums (nums s)),_]);rw[y7j];rfl
 | false =>
  have M:Hid (Id.toU (a,n) (nums s)=(Id.txt (Spl.join a),n)):=if_neg (by rw[hu];exact e8N);have H:(bits .and .i64 (n:Int) 3 != 0)=false:=hu;have d:=Spl.x9E a;have E:Hid (∀W v,Rws W v a->Calls prog 30 #[v] W (y3K W (Spl.join a))):=fun W v N=>q0p v a W N U;have P:Hid (∀W v,Sk .i32 W v (Spl.join a)->Calls prog 29 #[v] W (y3P W (Id.txt (Spl.join a)))):=fun W v N=>z1F N (by simp only at U;exact f6J);have C:Hid (a.length<=1000000000):=(by show _<=_;simp only at U;exact f6J);clear hu U L d;generalize Id.toU (a,n) (nums s)=J,Id.txt (Spl.join a)=F at *;generalize Spl.join a=A at *;go_enter func12,ntmps12;go_wp2_with fail;refine(V K).mono ?_;rintro e Q ⟨b1,u,rfl,z⟩;have g:=O (V E Q u (z.rwsS (by have:=V C;simp only;exact f6J)));clear K E z C;go_wp2_with fail;refine(V g).mono ?_;rintro e T ⟨o,rfl,j,m⟩;have S:=O (V P T o j.sk);have Z:=bthen b1 m;clear g P j b1 m;go_wp2_with fail;refine c0m S fun B G=>?_;have x:=O (bthen Z G);clear S Z G;go_wp2;go_ret2;obtain rfl:=V M;exact⟨rfl,V x⟩
theorem x7G{w q p fl}(j:EngAt w q fl p){s r}(D:Calls prog 17 #[.pointer (some ⟨q,0,none⟩),.string s] w (y7B w r))(F:r.2<65536)
  (d:Id.ur r.2=false->0<r.1.length/\r.1.length<=3000000/\(∀k,(r.1.getD k []).length<=1000000000)/\(∀k,k<r.1.length->∀W Z,Sk .i32 W Z (r.1.getD k [])->Calls prog 100 #[Z] W (WrP W (Pu.encode (r.1.getD k []))))/\(∀k,(Pu.encode (r.1.getD k [])).1.length<=1000000000)/\(Id.whole r.1).length<=140737488355328) (I:(Id.carry (bits .and .i64 fl 32==32) r.1).2<65536) :
  Calls prog 11 #[.pointer (some ⟨q,0,none⟩),.string s] w (x6w w (Id.toA (bits .and .i64 fl 32==32) r)):=by
 have K:=O D;clear D;obtain⟨a,n⟩:=r
 cases hu:Id.ur n with
 | true =>
  have S:Hid (Id.toA (bits .and .i64 fl 32==32) (a,n)=([],n)):=if_pos hu;have H:(bits .and .i64 (n:Int) 3 != 0)=true:=hu;clear hu d I j F;generalize Id.toA (bits .and .i64 fl 32==32) (a,n)=J at *;go_enter func11,ntmps11;go_wp2_with fail;refine(V K).mono ?_;rintro e Q ⟨b1,u,rfl,z⟩;have x:=O b1;clear K z b1;go_wp2;go_ret2;obtain rfl:=V S;exact⟨rfl,V x⟩
 | false =>
  have H:(bits .and .i64 (n:Int) 3 != 0)=false:=hu;obtain⟨C,l,f,T,y,N⟩:=d hu;have b:Hid (∀W B U v,Bw w W->Mu W B U v a->Calls prog 27 #[.pointer (some ⟨q,0,none⟩),v] W (x6w W (Id.carry (bits .and .i64 fl 32==32) a))):=fun W B U v P z=>z6r (j.on P) z C l f (fun k G R Z _ A=>T k G R Z A) y N;have S:Hid (Id.toA (bits .and .i64 fl 32==32) (a,n)=if n|||(Id.carry (bits .and .i64 fl 32==32) a).2≠0 then([],n|||(Id.carry (bits .and .i64 fl 32==32) a).2)else((Id.carry (bits .and .i64 fl 32==32) a).1,0)):=if_neg (by rw[hu];exact e8M);clear hu d C l f T y N j;generalize Id.toA (bits .and .i64 fl 32==32) (a,n)=J at *;simp only at I F;generalize Id.carry (bits .and .i64 fl 32==32) a=E at *;obtain⟨L,cn⟩:=E;simp only at I S;have c:=Id.or19 F I;generalize n|||cn=m at *;by_cases i:m=0
  ·subst i
   replace S:Hid (J=(L,0)):=by
    have:=V S;rwa [if_neg M7L]at this
   replace c:bits .or .i64 (n:Int) (cn:Int)=0:=c;clear F I;exact T5f
  ·replace S:Hid (J=([],m)):=by
    have:=V S;rwa [if_pos (by simpa using i)]at this
   have X:((m:Int) != 0)=true:=(by simpa using i);clear F I i;exact T5f

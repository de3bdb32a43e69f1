/- Lemmas. -/
import Derived.Test.YtkfcabdmkmljjaaGreatDoorH43
import Derived.Test.YtkfcabdmkmljjaaGreatDoorH46
set_option maxHeartbeats 2000000
set_option maxRecDepth 8000
namespace Go.Proofs.YtkfcabdmkmljjaaGreatDoor
open Go.Proofs.Tryz
open Go.RowKit
section
variable{p:Prop}
theorem R2n(h:p:=by go_wp2;go_ret2;exact⟨rfl,b0r⟩):p:=h
theorem w0j(h:p:=by go_enter func11,ntmps11;go_wp2_with fail;refine(V K).mono ?_;rintro e Q ⟨b1,a,rfl,o⟩;have j:=O (V b Q _ _ a b1 o);clear K b o;go_wp2_with fail;refine c0m j fun t u=>?_;have x:=O (bthen b1 u);clear j b1 u;go_wp2;go_ret2;obtain rfl:=V Z;exact⟨rfl,V x⟩):p:=h
theorem G1w(h:p:=by go_enter func10,ntmps10;exact R2n):p:=h
theorem i8n(h:p:=by go_wp2_with fail;refine c0m KJ fun Q b1=>?_;have C:=bthen J b1;have K2:=O (V L Q C);clear KJ L J b1;go_wp2_with fail;refine c0m K2 fun t u=>?_;have HB:=O (bthen C u);clear K2 C u;go_wp2;go_ret2;obtain rfl:=V HF;exact⟨rfl,V HB⟩):p:=h
theorem V7I(h:p:=by
 go_wp2_with fail;refine c0m b fun Q b1=>?_;have C:=bthen (V Y) b1;have K2:=O (V L Q C);clear b KU L X;go_wp2_with fail;refine c0m K2 fun t u=>?_;have Z:=bthen C u;have F:=bthen b1 u;obtain⟨⟨z,c1⟩,f1,ae,H⟩:=V HT t Z (x5E (V K) F);have a:=O ae;have H3:=O H;clear HT K ae H b1 C u Z F K2 Y;go_wp2
 go_roundw
 case rel=>exact V I _ (V a) (V H3)
 case measure=>exact g8b):p:=h
theorem t9R(h:p:=by rw[if_neg ab,Nat.or_zero]at HF;have i:¬(16384:Int)<((strOfNums wh).size:Int):=V8r;clear hu ab f hA G o2;exact i8n):p:=h
theorem V8r(h:p:=by rw[f];exact f6J):p:=h
end
theorem z6Z:(prog.info? 9).map (fun i=>(i.zero,i.size,i.bytes))=some (some (.string ⟨#[]⟩),1,16):=f4x
theorem z7n(n:Nat) w(F:n<=3000000):∃W,(Instr.makeSlice 123 (.int .i64 (n:Int)) (.int .i64 (n:Int))).run prog w=.ok (.slice (some ⟨w.heap.size,0,none⟩) n n) W/\W.ownsRow w.heap.size 9 1 (.slice (some ⟨w.heap.size,0,none⟩) n n) n (List.replicate n (.string ⟨#[]⟩))/\w.grownBy W none:=by
 obtain⟨r,hi,d,Y,R⟩:=info_parts z6Z;obtain⟨W,Z,D,J⟩:=run_makeSlice_full (P:=prog) w w.heap.size 123 9 r _ 1 underlying123 hi d Y .i64 .i64 n f6J s0M T7W (l0r _);rw[show Value.cells (.string ⟨#[]⟩)=#[.string ⟨#[]⟩]from rfl,toList_madeCells_one,Nat.mul_one]at D;exact⟨W,Z,D,J⟩
def y4V(w:World)(r:List Int×Nat)(e:Ending)(w':World):Prop:=e=.returned (.tuple #[.string (strOfNums r.1),.int .i64 ((r.2:Nat):Int)])/\Below w.heap.size w w'
theorem z6b{w q p fl}(hE:EngAt w q fl p){lv B U yss}(o:Mu w B U lv yss)(h0:0<yss.length)(hn:yss.length<=3000000)(hl:∀k,(yss.getD k []).length<=1000000000)
  (D:∀k,k<yss.length->∀W xv,Bw w W->Sk .i32 W xv (yss.getD k [])->Calls prog 100 #[xv] W (WrP W (Pu.encode (yss.getD k [])))) (T:∀k,(Pu.encode (yss.getD k [])).1.length<=1000000000) (aA:(Id.whole yss).length<=140737488355328) :
  Calls prog 27 #[.pointer (some ⟨q,0,none⟩),lv] w (y4V w (Id.carry (bits .and .i64 fl 32==32) yss)):=by
 have KU:Hid (∀W (s:ByteArray) (m:Nat),Bw w W->Calls prog 53 #[.pointer (some ⟨q,0,none⟩),.string s,.int .i64 (m:Int)] W (x0g W (Id.unf (bits .and .i64 fl 32==32) s.size m))):=fun W s m R=>z8n (hE.on R) s m;generalize(bits .and .i64 fl 32==32)=v at *;obtain⟨W1,aB,aj,aw⟩:=z7n yss.length w hn;have ar:Bw w W1:=(b0r).grown aw (l0r _) (fun k e=>by cases e);have aC:w.heap.size<W1.heap.size:=(aj.lt _ rfl).2
 obtain⟨g,M,rfl⟩:∃g M,lv=.slice (some ⟨g,0,none⟩) yss.length M:=by
  obtain⟨us,d,P,_⟩:=o;exact n7q
 have HK:Hid (∀k,k<yss.length->∀W,Bw w W->∃xv,W.cell? ⟨g,k,none⟩=some xv/\Calls prog 52 #[xv] W (z8A W (Id.ca (yss.getD k [])))):=by
  intro k hk W R;obtain⟨us,d,P,a3,_⟩:=o.below R;exact⟨us.getD k undef,(P.cellAt k f6J).trans (by simp[List.getD,(f6J:k<us.length)]),y7O (a3 k hk).sk (hl k) (fun W' aq=>D k hk W' _ (bthen R aq) ((a3 k hk).sk.below aq)) (T k)⟩
 have S:Hid (W1.ownsRow w.heap.size 9 1 (.slice (some ⟨w.heap.size,0,none⟩) yss.length yss.length) yss.length (Id.tx yss 0)):=(by simpa[Id.tx,Hid]using aj);have am:=O ar
 have HJ:Hid (∀W,W.ownsRow w.heap.size 9 1 (.slice (some ⟨w.heap.size,0,none⟩) yss.length yss.length) yss.length (Id.tx yss yss.length)->Calls prog 54 #[.slice (some ⟨w.heap.size,0,none⟩) yss.length yss.length,.string ⟨#[46]⟩] W (y3D W (Id.whole yss))):=by
  intro W R;have i:((yss.map fun y=>strOfNums (Id.ca y).1).map (·.data.toList))=(yss.map fun y=>(Id.ca y).1).map fun l=>(strOfNums l).data.toList:=M7N;have az:Lib.join ((yss.map fun y=>strOfNums (Id.ca y).1).map (·.data.toList)) [46]=(strOfNums (Id.whole yss)).data.toList:=by rw[i,Id.whole,Id.z3o]
  have:=Tryz.strings_Join w.heap.size 0 yss.length (yss.map fun y=>strOfNums (Id.ca y).1) ⟨#[46]⟩ W (fun j x hx=>by
   have hj:j<yss.length:=(by have:=(List.getElem?_eq_some_iff.1 hx).1;exact W2O);rw[Nat.zero_add,R.cellAt j f6J,Id.q1k];simp[hj]at hx ⊢
   exact hx) ((R.lt _ rfl).2) P8P M7N (by
    show(Lib.join _ [46]).length<=_;rw[az,Array.length_toList];rw[show(strOfNums (Id.whole yss)).data.size=(Id.whole yss).length from strOfNums_size _]
    exact aA)
  rw[List.length_map]at this;refine this.mono fun e w' ⟨h1,h2⟩=>⟨?_,h2⟩;rw[h1];show Ending.returned (.string ⟨(Lib.join _ [46]).toArray⟩)=_;rw[az]
 have HA:Hid (∀k,k<yss.length->bits .or .i64 ((Id.ea v (yss.take k):Nat):Int) ((Id.eb v (yss.getD k []):Nat):Int)=((Id.ea v (yss.take (k+1)):Nat):Int)):=fun k hk=>(by rw[Id.y8s hk];exact Id.or19 (Id.z6s v _) (Id.z9v v _));have c:Hid (∀k,k<yss.length->Id.eb v (yss.getD k [])=0->Id.ea v (yss.take (k+1))=Id.ea v (yss.take k)):=fun k hk h=>by rw[Id.y8s hk,h];exact M7N
 have N:Hid (∀k,k<yss.length->∀W,Bw w W->W.ownsRow w.heap.size 9 1 (.slice (some ⟨w.heap.size,0,none⟩) yss.length yss.length) yss.length (Id.tx yss k)->(∃z,W.cell? ⟨w.heap.size,k,none⟩=some (.string z))/\W.frozen? ⟨w.heap.size,k,none⟩=false/\(W.setCell ⟨w.heap.size,k,none⟩ (.string (strOfNums (Id.ca (yss.getD k [])).1))).ownsRow w.heap.size 9 1 (.slice (some ⟨w.heap.size,0,none⟩) yss.length yss.length) yss.length (Id.tx yss (k+1))/\Bw w (W.setCell ⟨w.heap.size,k,none⟩ (.string (strOfNums (Id.ca (yss.getD k [])).1)))):=fun k hk W R hr =>
  ⟨⟨_,(hr.cellAt k f6J).trans (Id.tx_at yss hk)⟩,hr.frozenAt k,by have:=(hr.stored k (.string (strOfNums (Id.ca (yss.getD k [])).1))).1;rwa [Id.z8m yss hk]at this,R.setCell (p:=⟨w.heap.size,k,none⟩) (l0r _) _⟩
 clear hE o hl D T aA aj aw ar aC;go_enter func27,ntmps27;go_wp2;go_loopw[6,8,9,10,11,18] (fun tv _ _ _ _ iv wr=>∃k:Nat,tv=.int .i64 ((Id.ea v (yss.take k):Nat):Int)/\iv=.int .i64 k/\k<=yss.length/\wr.ownsRow w.heap.size 9 1 (.slice (some ⟨w.heap.size,0,none⟩) yss.length yss.length) yss.length (Id.tx yss k)/\Bw w wr) (fun _ _ _ _ _ iv _=>yss.length-(intOf iv).toNat)
 case atStart=>exact⟨0,rfl,rfl,f6J,V S,V am⟩
 case round =>
  obtain⟨k,rfl,rfl,hk,ai,J⟩:=hrel;clear S am aB;by_cases E:k<yss.length
  ·have i:(k:Int)<yss.length:=f6J;obtain⟨xv,X,b⟩:=V HK k E wr J;replace b:=O b;have r:=V HA k E;have ag:=V c k E;have HT:=O (V N k E);have K:=O ai;have Y:=O J;have I:Hid (∀W,W.ownsRow w.heap.size 9 1 (.slice (some ⟨w.heap.size,0,none⟩) yss.length yss.length) yss.length (Id.tx yss (k+1))->Bw w W->∃n:Nat,Value.int .i64 ((Id.ea v (yss.take (k+1)):Nat):Int)=.int .i64 ((Id.ea v (yss.take n):Nat):Int)/\Value.int .i64 ((k:Int)+1)=.int .i64 n/\n<=yss.length/\W.ownsRow w.heap.size 9 1 (.slice (some ⟨w.heap.size,0,none⟩) yss.length yss.length) yss.length (Id.tx yss n)/\Bw w W):=fun W h1 h2=>⟨k+1,rfl,g2A,f6J,h1,h2⟩;have af:Id.eb v (yss.getD k [])=if(Id.ca (yss.getD k [])).2=false then 8192 else if Id.unf v (Id.ca (yss.getD k [])).1.length 63=true then 16384 else 0:=rfl;clear HK HA c N HJ ai J;generalize Id.eb v (yss.getD k [])=eb,Id.ca (yss.getD k [])=cc at *;obtain⟨cs,cb⟩:=cc;generalize Id.ea v (yss.take (k+1))=P,Id.ea v (yss.take k)=d at *
   cases cb with
   | false =>
    obtain rfl:eb=8192:=af;clear ag;replace r:bits .or .i64 (d:Int) 8192=(P:Int):=r;generalize((d:Nat):Int)=i1,((P:Nat):Int)=i2 at *;go_wp2_with fail;refine c0m b fun Q b1=>?_;have C:=bthen (V Y) b1;obtain⟨⟨z,c1⟩,f1,ae,H⟩:=V HT Q C (x5E (V K) b1);have a:=O ae;have H3:=O H;clear HT K ae H b1 C b KU Y X;go_wp2
    go_roundw
    case rel=>exact V I _ (V a) (V H3)
    case measure=>exact g8b
   | true =>
    have L:=O fun W (R:Bw w W)=>V KU W (strOfNums cs) 63 R;rw[strOfNums_size]at L
    cases hu:Id.unf v cs.length 63 with
    | true =>
     rw[hu]at L;obtain rfl:eb=16384:=(by rw[af,if_neg M7N,if_pos hu]);clear af ag hu;replace r:bits .or .i64 (d:Int) 16384=(P:Int):=r;generalize((d:Nat):Int)=i1,((P:Nat):Int)=i2 at *;exact V7I
    | false =>
     rw[hu]at L;obtain rfl:eb=0:=(by rw[af,if_neg M7N,if_neg (by rw[hu];decide)]);obtain rfl:P=d:=ag rfl;clear af ag hu r;generalize((P:Nat):Int)=i1 at *;exact V7I
  ·obtain rfl:k=yss.length:=f6J;have KJ:=O (V HJ wr ai);have L:=O fun W (R:Bw w W)=>V KU W (strOfNums (Id.whole yss)) 253 R;rw[strOfNums_size]at L;have f:=strOfNums_size (Id.whole yss);have hA:=Id.z6s v yss;have G:Id.ea v yss|||32768<65536:=Nat.or_lt_two_pow (n:=16) hA (by decide);have HF:Hid (Id.carry v yss=(Id.whole yss,Id.ea v yss|||(if Id.unf v (Id.whole yss).length 253=true then 32768 else 0)|||(if 16384<(Id.whole yss).length then 2 else 0))):=rfl;rw[List.take_length];clear HK HA c N HJ ai KU;generalize Id.carry v yss=cr,Id.ea v yss=A,Id.whole yss=wh at *
   cases hu:Id.unf v wh.length 253 with
   | true =>
    rw[hu]at L HF;rw[if_pos rfl]at HF;have o1:bits .or .i64 (A:Int) 32768=((A|||32768:Nat):Int):=Id.or19 hA (by decide:(32768:Nat)<65536);have o2:bits .or .i64 ((A|||32768:Nat):Int) 2=((A|||32768|||2:Nat):Int):=Id.or19 G (by decide:(2:Nat)<65536);generalize A|||32768=A2 at *;by_cases ab:16384<wh.length
    ·rw[if_pos ab]at HF;have i:(16384:Int)<((strOfNums wh).size:Int):=V8r;generalize A2|||2=A3 at *;clear hu ab f hA G;exact i8n
    ·exact t9R
   | false =>
    rw[hu]at L HF;rw[if_neg (by decide),Nat.or_zero]at HF;have o2:bits .or .i64 (A:Int) 2=((A|||2:Nat):Int):=Id.or19 hA (by decide:(2:Nat)<65536);by_cases ab:16384<wh.length
    ·rw[if_pos ab]at HF;have i:(16384:Int)<((strOfNums wh).size:Int):=V8r;generalize A|||2=A3 at *;clear hu ab f hA G;exact i8n
    ·exact t9R
theorem z3L fl w:Calls prog 10 #[.pointer none,.int .i64 fl] w (fun e w'=>e=.returned (.tuple #[.pointer none,.int .i64 1])/\Bw w w'):=G1w
theorem z3K p fl(z:fl<0\/63<fl) w:Calls prog 10 #[.pointer (some ⟨p,0,none⟩),.int .i64 fl] w (fun e w'=>e=.returned (.tuple #[.pointer none,.int .i64 1])/\Bw w w'):=by
 by_cases R:fl<0
 ·clear z;exact G1w
 ·have Z:63<fl:=f6J;clear z;exact G1w
theorem q0h p fl(R:0<=fl)(Z:fl<=63) w:Calls prog 10 #[.pointer (some ⟨p,0,none⟩),.int .i64 fl] w (fun e w'=>∃q,e=.returned (.tuple #[.pointer (some ⟨q,0,none⟩),.int .i64 0])/\EngAt w' q fl p/\Bw w w'):=by
 have W:¬fl<0:=f6J;have d:¬63<fl:=f6J;have D:Hid (EngAt (w.alloc (.cells #[.int .i64 fl,.pointer (some ⟨p,0,none⟩)] 66)) w.heap.size fl p):=⟨M7L,M7L⟩;have x:Hid (Bw w (w.alloc (.cells #[.int .i64 fl,.pointer (some ⟨p,0,none⟩)] 66))):=(b0r).alloc (l0r _) _;clear R Z;go_enter func10,ntmps10;go_wp2;go_ret2;exact⟨_,rfl,V D,V x⟩
namespace Id
def ur(n:Nat):Bool:=bits .and .i64 (n:Int) 3 != 0
def toU(r:List (List Int)×Nat)(zs:List Int):List Int×Nat:=if ur r.2=true then(zs,r.2)else(txt (Spl.join r.1),r.2)
def toA(v:Bool)(r:List (List Int)×Nat):List Int×Nat:=if ur r.2=true then([],r.2)else if r.2|||(carry v r.1).2≠0 then([],r.2|||(carry v r.1).2)else((carry v r.1).1,0)
end Id
theorem z6c s w(L:s.size<=281474976710656):Calls prog 28 #[.string s] w (fun e w'=>e=.returned (.string s)/\Bw w w'):=by
 have K:=O (Tryz.stringslite_Clone s w L);go_enter func28,ntmps28;go_wp2_with fail;refine c0m K fun Q b1=>?_;clear K;go_wp2;go_ret;exact⟨rfl,b1⟩
theorem y3r{w q s r}(H:Calls prog 17 #[.pointer (some ⟨q,0,none⟩),.string s] w (y7n w r))(L:s.size<=1000000000)(p:Spl.total r.1+r.1.length<=1000000000) :
  Calls prog 12 #[.pointer (some ⟨q,0,none⟩),.string s] w (y4V w (Id.toU r (nums s))):=by
 have K:=O H;clear H;obtain⟨T,n⟩:=r
 cases hu:Id.ur n with
 | true =>
  have U:Hid (Id.toU (T,n) (nums s)=(nums s,n)):=if_pos hu;have c:(bits .and .i64 (n:Int) 3 != 0)=true:=hu;have b:=O fun W=>z6c s W f6J;clear hu p L;generalize Id.toU (T,n) (nums s)=D at *;go_enter func12,ntmps12;go_wp2_with fail;refine(V K).mono ?_;rintro e Q ⟨b1,a,rfl,o⟩;have j:=O (V b Q);clear K b o;go_wp2_with fail;refine c0m j fun t u=>?_;have x:=O (bthen b1 u);clear j b1 u;go_wp2;go_ret2;obtain rfl:=V U;refine⟨?_,V x⟩;show _=Ending.returned (.tuple #[.string (strOfNums (nums s)),_]);rw[x5k];rfl
 | false =>
  have U:Hid (Id.toU (T,n) (nums s)=(Id.txt (Spl.join T),n)):=if_neg (by rw[hu];exact e8N);have c:(bits .and .i64 (n:Int) 3 != 0)=false:=hu;have m:=Spl.x9w T;have f:Hid (∀W v,Rws W v T->Calls prog 30 #[v] W (y3y W (Spl.join T))):=fun W v N=>z9T v T W N p;have F:Hid (∀W v,Sk .i32 W v (Spl.join T)->Calls prog 29 #[v] W (y3D W (Id.txt (Spl.join T)))):=fun W v N=>z1s N (by simp only at p;exact f6J);have y:Hid (T.length<=1000000000):=(by show _<=_;simp only at p;exact f6J);clear hu p L m;generalize Id.toU (T,n) (nums s)=D,Id.txt (Spl.join T)=C at *;generalize Spl.join T=B at *;go_enter func12,ntmps12;go_wp2_with fail;refine(V K).mono ?_;rintro e Q ⟨b1,a,rfl,o⟩;have j:=O (V f Q a (o.rwsS (by have:=V y;simp only;exact f6J)));clear K f o y;go_wp2_with fail;refine(V j).mono ?_;rintro e t ⟨A,rfl,X,u⟩;have k:=O (V F t A X.sk);have Z:=bthen b1 u;clear j F X b1 u;go_wp2_with fail;refine c0m k fun G z=>?_;have x:=O (bthen Z z);clear k Z z;go_wp2;go_ret2;obtain rfl:=V U;exact⟨rfl,V x⟩
theorem x7z{w q p fl}(S:EngAt w q fl p){s r}(H:Calls prog 17 #[.pointer (some ⟨q,0,none⟩),.string s] w (y7n w r))(F:r.2<65536)
  (y:Id.ur r.2=false->0<r.1.length/\r.1.length<=3000000/\(∀k,(r.1.getD k []).length<=1000000000)/\(∀k,k<r.1.length->∀W d,Sk .i32 W d (r.1.getD k [])->Calls prog 100 #[d] W (WrP W (Pu.encode (r.1.getD k []))))/\(∀k,(Pu.encode (r.1.getD k [])).1.length<=1000000000)/\(Id.whole r.1).length<=140737488355328) (I:(Id.carry (bits .and .i64 fl 32==32) r.1).2<65536) :
  Calls prog 11 #[.pointer (some ⟨q,0,none⟩),.string s] w (y4V w (Id.toA (bits .and .i64 fl 32==32) r)):=by
 have K:=O H;clear H;obtain⟨T,n⟩:=r
 cases hu:Id.ur n with
 | true =>
  have Z:Hid (Id.toA (bits .and .i64 fl 32==32) (T,n)=([],n)):=if_pos hu;have c:(bits .and .i64 (n:Int) 3 != 0)=true:=hu;clear hu y I S F;generalize Id.toA (bits .and .i64 fl 32==32) (T,n)=D at *;go_enter func11,ntmps11;go_wp2_with fail;refine(V K).mono ?_;rintro e Q ⟨b1,a,rfl,o⟩;have x:=O b1;clear K o b1;go_wp2;go_ret2;obtain rfl:=V Z;exact⟨rfl,V x⟩
 | false =>
  have c:(bits .and .i64 (n:Int) 3 != 0)=false:=hu;obtain⟨C,g,L,f,P,l⟩:=y hu;have b:Hid (∀W B U v,Bw w W->Mu W B U v T->Calls prog 27 #[.pointer (some ⟨q,0,none⟩),v] W (y4V W (Id.carry (bits .and .i64 fl 32==32) T))):=fun W B U v R o=>z6b (S.on R) o C g L (fun k G N d _ A=>f k G N d A) P l;have Z:Hid (Id.toA (bits .and .i64 fl 32==32) (T,n)=if n|||(Id.carry (bits .and .i64 fl 32==32) T).2≠0 then([],n|||(Id.carry (bits .and .i64 fl 32==32) T).2)else((Id.carry (bits .and .i64 fl 32==32) T).1,0)):=if_neg (by rw[hu];exact e8M);clear hu y C g L f P l S;generalize Id.toA (bits .and .i64 fl 32==32) (T,n)=D at *;simp only at I F;generalize Id.carry (bits .and .i64 fl 32==32) T=E at *;obtain⟨M,cn⟩:=E;simp only at I Z;have X:=Id.or19 F I;generalize n|||cn=m at *;by_cases i:m=0
  ·subst i
   replace Z:Hid (D=(M,0)):=by
    have:=V Z;rwa [if_neg M7L]at this
   replace X:bits .or .i64 (n:Int) (cn:Int)=0:=X;clear F I;exact w0j
  ·replace Z:Hid (D=([],m)):=by
    have:=V Z;rwa [if_pos (by simpa using i)]at this
   have Y:((m:Int) != 0)=true:=(by simpa using i);clear F I i;exact w0j

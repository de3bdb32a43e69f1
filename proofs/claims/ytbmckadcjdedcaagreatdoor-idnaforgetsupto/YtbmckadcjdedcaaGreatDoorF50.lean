import Derived.Test.YtbmckadcjdedcaaGreatDoorF46
import Derived.Test.YtbmckadcjdedcaaGreatDoorF49
set_option maxHeartbeats 2000000
set_option maxRecDepth 8000
namespace Go.Proofs.YtbmckadcjdedcaaGreatDoor
open Go.Proofs.Tryz
open Go.RowKit
section
variable{p:Prop}
theorem R2n(h:p:=by go_wp2;go_ret2;exact⟨rfl,b0r⟩):p:=h
theorem s0V(h:p:=by go_enter func26,ntmps26;go_wp2_with fail;refine(V K).mono ?_;rintro e Q ⟨b1,X,rfl,z⟩;have o:=O (V A Q _ _ X b1 z);clear K A z;go_wp2_with fail;refine c0m o fun d Y=>?_;have S:=O (x0b b1 Y);clear o b1 Y;go_wp2;go_ret2;obtain rfl:=V T;exact⟨rfl,V S⟩):p:=h
theorem e6j(h:p:=by go_enter func9,ntmps9;exact R2n):p:=h
theorem u5L(h:p:=by simp only;exact f6J):p:=h
theorem t5R(h:p:=by go_wp2_with fail;refine c0m L fun Q b1=>?_;have I:=x0b N b1;have o:=O (V J Q I);clear L J N b1;go_wp2_with fail;refine c0m o fun d b2=>?_;have HB:=O (x0b I b2);clear o I b2;go_wp2;go_ret2;obtain rfl:=V T;exact⟨rfl,V HB⟩):p:=h
theorem t3n(h:p:=by
 go_wp2_with fail;refine c0m KC fun Q b1=>?_;have I:=x0b (V S) b1;have o:=O (V J Q I);clear KC R J c0;go_wp2_with fail;refine c0m o fun d b2=>?_;have af:=x0b I b2;have b:=x0b b1 b2;obtain⟨⟨z,c1⟩,f1,ab,F⟩:=V HT d af (x5x (V X) b);have H2:=O ab;have H3:=O F;clear HT X ab F b1 I b2 af b o S;go_wp2
 go_roundw
 case rel=>exact V i _ (V H2) (V H3)
 case measure=>exact g7Y):p:=h
theorem P0c(h:p:=by rw[if_neg a,Nat.or_zero]at T;have r:¬(16384:Int)<((strOfNums wh).size:Int):=i5L;clear hu a ae c G o2;exact t5R):p:=h
theorem i5L(h:p:=by rw[ae];exact f6J):p:=h
end
theorem z5N:(prog.info? 9).map (fun i=>(i.zero,i.size,i.bytes))=some (some (.string ⟨#[]⟩),1,16):=f4x
theorem z6c(n:Nat) w(E:n<=3000000):∃W,(Instr.makeSlice 159 (.int .i64 (n:Int)) (.int .i64 (n:Int))).run prog w=.ok (.slice (some ⟨w.heap.size,0,none⟩) n n) W/\W.ownsRow w.heap.size 9 1 (.slice (some ⟨w.heap.size,0,none⟩) n n) n (List.replicate n (.string ⟨#[]⟩))/\w.grownBy W none:=by
 obtain⟨i,hi,f,p,t⟩:=info_parts z5N;obtain⟨W,Z,D,R⟩:=run_makeSlice_full (P:=prog) w w.heap.size 159 9 i _ 1 underlying159 hi f p .i64 .i64 n f6J n4P T7W (l0r _);rw[show Value.cells (.string ⟨#[]⟩)=#[.string ⟨#[]⟩]from rfl,toList_madeCells_one,Nat.mul_one]at D;exact⟨W,Z,D,R⟩
def z1c(w:World)(r:List Int×Nat)(e:Ending)(w':World):Prop:=e=.returned (.tuple #[.string (strOfNums r.1),.int .i64 ((r.2:Nat):Int)])/\Below w.heap.size w w'
theorem z4S{w q p fl}(hE:EngAt w q fl p){lv B U yss}(hm:Mu w B U lv yss)(h0:0<yss.length)(hn:yss.length<=3000000)(hl:∀k,(yss.getD k []).length<=1000000000)
  (D:∀k,k<yss.length->∀W u,Bw w W->Sk .i32 W u (yss.getD k [])->Calls prog 142 #[u] W (WrP W (Pu.encode (yss.getD k [])))) (aw:∀k,(Pu.encode (yss.getD k [])).1.length<=1000000000) (aA:(Id.whole yss).length<=140737488355328) :
  Calls prog 48 #[.pointer (some ⟨q,0,none⟩),lv] w (z1c w (Id.carry (bits .and .i64 fl 32==32) yss)):=by
 have R:Hid (∀W (s:ByteArray) (m:Nat),Bw w W->Calls prog 92 #[.pointer (some ⟨q,0,none⟩),.string s,.int .i64 (m:Int)] W (x0c W (Id.unf (bits .and .i64 fl 32==32) s.size m))):=fun W s m t=>z6W (hE.on t) s m;generalize(bits .and .i64 fl 32==32)=v at *;obtain⟨f,aB,am,ay⟩:=z6c yss.length w hn;have E:Bw w f:=(b0r).grown ay (l0r _) (fun k e=>by cases e);have aC:w.heap.size<f.heap.size:=(am.lt _ rfl).2
 obtain⟨g,M,rfl⟩:∃g M,lv=.slice (some ⟨g,0,none⟩) yss.length M:=by
  obtain⟨us,a1,P,_⟩:=hm;rcases P.2 with⟨_,h⟩|⟨g,M,aD,h,_⟩
  ·omega
  ·exact⟨g,M,h⟩
 have HK:Hid (∀k,k<yss.length->∀W,Bw w W->∃u,W.cell? ⟨g,k,none⟩=some u/\Calls prog 91 #[u] W (z7i W (Id.ca (yss.getD k [])))):=by
  intro k hk W t;obtain⟨us,a1,P,a3,_⟩:=hm.below t;exact⟨us.getD k undef,(P.cellAt k f6J).trans (by simp[List.getD,(f6J:k<us.length)]),y7k (a3 k hk).sk (hl k) (fun W' ar=>D k hk W' _ (x0b t ar) ((a3 k hk).sk.below ar)) (aw k)⟩
 have K:Hid (f.ownsRow w.heap.size 9 1 (.slice (some ⟨w.heap.size,0,none⟩) yss.length yss.length) yss.length (Id.tx yss 0)):=(by simpa[Id.tx,Hid]using am);have aq:=O E
 have HJ:Hid (∀W,W.ownsRow w.heap.size 9 1 (.slice (some ⟨w.heap.size,0,none⟩) yss.length yss.length) yss.length (Id.tx yss yss.length)->Calls prog 93 #[.slice (some ⟨w.heap.size,0,none⟩) yss.length yss.length,.string ⟨#[46]⟩] W (y3o W (Id.whole yss))):=by
  intro W t;have r:((yss.map fun y=>strOfNums (Id.ca y).1).map (·.data.toList))=(yss.map fun y=>(Id.ca y).1).map fun l=>(strOfNums l).data.toList:=(by simp);have az:Lib.join ((yss.map fun y=>strOfNums (Id.ca y).1).map (·.data.toList)) [46]=(strOfNums (Id.whole yss)).data.toList:=by rw[r,Id.whole,Id.z2i]
  have:=Tryz.strings_Join w.heap.size 0 yss.length (yss.map fun y=>strOfNums (Id.ca y).1) ⟨#[46]⟩ W (fun j x hx=>by
   have hj:j<yss.length:=(by have:=(List.getElem?_eq_some_iff.1 hx).1;simpa using this);rw[Nat.zero_add,t.cellAt j f6J,Id.z9N];simp[hj]at hx ⊢
   exact hx) ((t.lt _ rfl).2) P8P (by simp) (by
    show(Lib.join _ [46]).length<=_;rw[az,Array.length_toList];rw[show(strOfNums (Id.whole yss)).data.size=(Id.whole yss).length from strOfNums_size _]
    exact aA)
  rw[List.length_map]at this;refine this.mono fun e w' ⟨h1,h2⟩=>⟨?_,h2⟩;rw[h1];show Ending.returned (.string ⟨(Lib.join _ [46]).toArray⟩)=_;rw[az]
 have HA:Hid (∀k,k<yss.length->bits .or .i64 ((Id.ea v (yss.take k):Nat):Int) ((Id.eb v (yss.getD k []):Nat):Int)=((Id.ea v (yss.take (k+1)):Nat):Int)):=fun k hk=>(by rw[Id.y7P hk];exact Id.or19 (Id.z8a v _) (Id.z8b v _));have Y:Hid (∀k,k<yss.length->Id.eb v (yss.getD k [])=0->Id.ea v (yss.take (k+1))=Id.ea v (yss.take k)):=fun k hk h=>by rw[Id.y7P hk,h];simp
 have aj:Hid (∀k,k<yss.length->∀W,Bw w W->W.ownsRow w.heap.size 9 1 (.slice (some ⟨w.heap.size,0,none⟩) yss.length yss.length) yss.length (Id.tx yss k)->(∃z,W.cell? ⟨w.heap.size,k,none⟩=some (.string z))/\W.frozen? ⟨w.heap.size,k,none⟩=false/\(W.setCell ⟨w.heap.size,k,none⟩ (.string (strOfNums (Id.ca (yss.getD k [])).1))).ownsRow w.heap.size 9 1 (.slice (some ⟨w.heap.size,0,none⟩) yss.length yss.length) yss.length (Id.tx yss (k+1))/\Bw w (W.setCell ⟨w.heap.size,k,none⟩ (.string (strOfNums (Id.ca (yss.getD k [])).1)))):=fun k hk W t hr =>
  ⟨⟨_,(hr.cellAt k f6J).trans (Id.tx_at yss hk)⟩,hr.frozenAt k,by have:=(hr.stored k (.string (strOfNums (Id.ca (yss.getD k [])).1))).1;rwa [Id.z6V yss hk]at this,t.setCell (p:=⟨w.heap.size,k,none⟩) (l0r _) _⟩
 clear hE hm hl D aw aA am ay E aC;go_enter func48,ntmps48;go_wp2;go_loopw[6,8,9,10,11,18] (fun tv _ _ _ _ iv wr=>∃k:Nat,tv=.int .i64 ((Id.ea v (yss.take k):Nat):Int)/\iv=.int .i64 k/\k<=yss.length/\wr.ownsRow w.heap.size 9 1 (.slice (some ⟨w.heap.size,0,none⟩) yss.length yss.length) yss.length (Id.tx yss k)/\Bw w wr) (fun _ _ _ _ _ iv _=>yss.length-(intOf iv).toNat)
 case atStart=>exact⟨0,rfl,rfl,f6J,V K,V aq⟩
 case round =>
  obtain⟨k,rfl,rfl,hk,Z,N⟩:=hrel;clear K aq aB;by_cases ai:k<yss.length
  ·have r:(k:Int)<yss.length:=f6J;obtain⟨u,c0,KC⟩:=V HK k ai wr N;replace KC:=O KC;have C:=V HA k ai;have ag:=V Y k ai;have HT:=O (V aj k ai);have X:=O Z;have S:=O N;have i:Hid (∀W,W.ownsRow w.heap.size 9 1 (.slice (some ⟨w.heap.size,0,none⟩) yss.length yss.length) yss.length (Id.tx yss (k+1))->Bw w W->∃n:Nat,Value.int .i64 ((Id.ea v (yss.take (k+1)):Nat):Int)=.int .i64 ((Id.ea v (yss.take n):Nat):Int)/\Value.int .i64 ((k:Int)+1)=.int .i64 n/\n<=yss.length/\W.ownsRow w.heap.size 9 1 (.slice (some ⟨w.heap.size,0,none⟩) yss.length yss.length) yss.length (Id.tx yss n)/\Bw w W):=fun W h1 h2=>⟨k+1,rfl,g2A,f6J,h1,h2⟩;have H:Id.eb v (yss.getD k [])=if(Id.ca (yss.getD k [])).2=false then 8192 else if Id.unf v (Id.ca (yss.getD k [])).1.length 63=true then 16384 else 0:=rfl;clear HK HA Y aj HJ Z N;generalize Id.eb v (yss.getD k [])=eb,Id.ca (yss.getD k [])=cc at *;obtain⟨cs,cb⟩:=cc;generalize Id.ea v (yss.take (k+1))=P,Id.ea v (yss.take k)=a1 at *
   cases cb with
   | false =>
    obtain rfl:eb=8192:=H;clear ag;replace C:bits .or .i64 (a1:Int) 8192=(P:Int):=C;generalize((a1:Nat):Int)=i1,((P:Nat):Int)=i2 at *;go_wp2_with fail;refine c0m KC fun Q b1=>?_;have I:=x0b (V S) b1;obtain⟨⟨z,c1⟩,f1,ab,F⟩:=V HT Q I (x5x (V X) b1);have H2:=O ab;have H3:=O F;clear HT X ab F b1 I KC R S c0;go_wp2
    go_roundw
    case rel=>exact V i _ (V H2) (V H3)
    case measure=>exact g7Y
   | true =>
    have J:=O fun W (t:Bw w W)=>V R W (strOfNums cs) 63 t;rw[strOfNums_size]at J
    cases hu:Id.unf v cs.length 63 with
    | true =>
     rw[hu]at J;obtain rfl:eb=16384:=(by rw[H,if_neg (by simp),if_pos hu]);clear H ag hu;replace C:bits .or .i64 (a1:Int) 16384=(P:Int):=C;generalize((a1:Nat):Int)=i1,((P:Nat):Int)=i2 at *;exact t3n
    | false =>
     rw[hu]at J;obtain rfl:eb=0:=(by rw[H,if_neg (by simp),if_neg (by rw[hu];exact e8P)]);obtain rfl:P=a1:=ag rfl;clear H ag hu C;generalize((P:Nat):Int)=i1 at *;exact t3n
  ·obtain rfl:k=yss.length:=f6J;have L:=O (V HJ wr Z);have J:=O fun W (t:Bw w W)=>V R W (strOfNums (Id.whole yss)) 253 t;rw[strOfNums_size]at J;have ae:=strOfNums_size (Id.whole yss);have c:=Id.z8a v yss;have G:Id.ea v yss|||32768<65536:=Nat.or_lt_two_pow (n:=16) c e8P;have T:Hid (Id.carry v yss=(Id.whole yss,Id.ea v yss|||(if Id.unf v (Id.whole yss).length 253=true then 32768 else 0)|||(if 16384<(Id.whole yss).length then 2 else 0))):=rfl;rw[List.take_length];clear HK HA Y aj HJ Z R;generalize Id.carry v yss=cr,Id.ea v yss=A,Id.whole yss=wh at *
   cases hu:Id.unf v wh.length 253 with
   | true =>
    rw[hu]at J T;rw[if_pos rfl]at T;have o1:bits .or .i64 (A:Int) 32768=((A|||32768:Nat):Int):=Id.or19 c (e8P:(32768:Nat)<65536);have o2:bits .or .i64 ((A|||32768:Nat):Int) 2=((A|||32768|||2:Nat):Int):=Id.or19 G (e8P:(2:Nat)<65536);generalize A|||32768=A2 at *;by_cases a:16384<wh.length
    ·rw[if_pos a]at T;have r:(16384:Int)<((strOfNums wh).size:Int):=i5L;generalize A2|||2=A3 at *;clear hu a ae c G;exact t5R
    ·exact P0c
   | false =>
    rw[hu]at J T;rw[if_neg e8P,Nat.or_zero]at T;have o2:bits .or .i64 (A:Int) 2=((A|||2:Nat):Int):=Id.or19 c (e8P:(2:Nat)<65536);by_cases a:16384<wh.length
    ·rw[if_pos a]at T;have r:(16384:Int)<((strOfNums wh).size:Int):=i5L;generalize A|||2=A3 at *;clear hu a ae c G;exact t5R
    ·exact P0c
theorem z2F fl w:Calls prog 9 #[.pointer none,.int .i64 fl] w (fun e w'=>e=.returned (.tuple #[.pointer none,.int .i64 1])/\Bw w w'):=e6j
theorem z2E p fl(X:fl<0\/63<fl) w:Calls prog 9 #[.pointer (some ⟨p,0,none⟩),.int .i64 fl] w (fun e w'=>e=.returned (.tuple #[.pointer none,.int .i64 1])/\Bw w w'):=by
 by_cases A:fl<0
 ·clear X;exact e6j
 ·have Z:63<fl:=f6J;clear X;exact e6j
theorem z8F p fl(A:0<=fl)(Z:fl<=63) w:Calls prog 9 #[.pointer (some ⟨p,0,none⟩),.int .i64 fl] w (fun e w'=>∃q,e=.returned (.tuple #[.pointer (some ⟨q,0,none⟩),.int .i64 0])/\EngAt w' q fl p/\Bw w w'):=by
 have E:¬fl<0:=f6J;have C:¬63<fl:=f6J;have L:Hid (EngAt (w.alloc (.cells #[.int .i64 fl,.pointer (some ⟨p,0,none⟩)] 37)) w.heap.size fl p):=⟨M7L,M7L⟩;have B:Hid (Bw w (w.alloc (.cells #[.int .i64 fl,.pointer (some ⟨p,0,none⟩)] 37))):=(b0r).alloc (l0r _) _;clear A Z;go_enter func9,ntmps9;go_wp2;go_ret2;exact⟨_,rfl,V L,V B⟩
namespace Id
def ur(n:Nat):Bool:=bits .and .i64 (n:Int) 3 != 0
def toU(r:List (List Int)×Nat)(zs:List Int):List Int×Nat:=if ur r.2=true then(zs,r.2)else(txt (Spl.join r.1),r.2)
def toA(v:Bool)(r:List (List Int)×Nat):List Int×Nat:=if ur r.2=true then([],r.2)else if r.2|||(carry v r.1).2≠0 then([],r.2|||(carry v r.1).2)else((carry v r.1).1,0)
end Id
theorem z4T s w(U:s.size<=281474976710656):Calls prog 40 #[.string s] w (fun e w'=>e=.returned (.string s)/\Bw w w'):=by
 have K:=O (Tryz.stringslite_Clone s w U);go_enter func40,ntmps40;go_wp2_with fail;refine c0m K fun Q b1=>?_;clear K;go_wp2;go_ret;exact⟨rfl,b1⟩
theorem y3d{w q s r}(R:Calls prog 18 #[.pointer (some ⟨q,0,none⟩),.string s] w (y1K w r))(U:s.size<=1000000000)(Q:Spl.total r.1+r.1.length<=1000000000) :
  Calls prog 20 #[.pointer (some ⟨q,0,none⟩),.string s] w (z1c w (Id.toU r (nums s))):=by
 have K:=O R;clear R;obtain⟨M,n⟩:=r
 cases hu:Id.ur n with
 | true =>
  have T:Hid (Id.toU (M,n) (nums s)=(nums s,n)):=if_pos hu;have l:(bits .and .i64 (n:Int) 3 != 0)=true:=hu;have A:=O fun W=>z4T s W f6J;clear hu Q U;generalize Id.toU (M,n) (nums s)=H at *;go_enter func20,ntmps20;go_wp2_with fail;refine(V K).mono ?_;rintro e L ⟨b1,X,rfl,z⟩;have o:=O (V A L);clear K A z;go_wp2_with fail;refine c0m o fun d m=>?_;have B:=O (x0b b1 m);clear o b1 m;go_wp2;go_ret2;obtain rfl:=V T;refine⟨?_,V B⟩;show _=Ending.returned (.tuple #[.string (strOfNums (nums s)),_]);rw[y6w];rfl
 | false =>
  have T:Hid (Id.toU (M,n) (nums s)=(Id.txt (Spl.join M),n)):=if_neg (by rw[hu];exact e8N);have l:(bits .and .i64 (n:Int) 3 != 0)=false:=hu;have a:=Spl.x9d M;have I:Hid (∀W v,Rws W v M->Calls prog 21 #[v] W (y3k W (Spl.join M))):=fun W v N=>z8w v M W N Q;have P:Hid (∀W v,Sk .i32 W v (Spl.join M)->Calls prog 41 #[v] W (y3o W (Id.txt (Spl.join M)))):=fun W v N=>z0G N (by simp only at Q;exact f6J);have C:Hid (M.length<=1000000000):=(by show _<=_;simp only at Q;exact f6J);clear hu Q U a;generalize Id.toU (M,n) (nums s)=H,Id.txt (Spl.join M)=E at *;generalize Spl.join M=D at *;go_enter func20,ntmps20;go_wp2_with fail;refine(V K).mono ?_;rintro e L ⟨b1,X,rfl,z⟩;have o:=O (V I L X (z.rwsS (by have:=V C;exact u5L)));clear K I z C;go_wp2_with fail;refine(V o).mono ?_;rintro e d ⟨j,rfl,y,m⟩;have G:=O (V P d j y.sk);have F:=x0b b1 m;clear o P y b1 m;go_wp2_with fail;refine c0m G fun x b=>?_;have B:=O (x0b F b);clear G F b;go_wp2;go_ret2;obtain rfl:=V T;exact⟨rfl,V B⟩
theorem y1w{w q p fl}(Z:EngAt w q fl p){s r}(a:Calls prog 18 #[.pointer (some ⟨q,0,none⟩),.string s] w (y1K w r))(E:r.2<65536)
  (b:Id.ur r.2=false->0<r.1.length/\r.1.length<=3000000/\(∀k,(r.1.getD k []).length<=1000000000)/\(∀k,k<r.1.length->∀W u,Sk .i32 W u (r.1.getD k [])->Calls prog 142 #[u] W (WrP W (Pu.encode (r.1.getD k []))))/\(∀k,(Pu.encode (r.1.getD k [])).1.length<=1000000000)/\(Id.whole r.1).length<=140737488355328) (I:(Id.carry (bits .and .i64 fl 32==32) r.1).2<65536) :
  Calls prog 26 #[.pointer (some ⟨q,0,none⟩),.string s] w (z1c w (Id.toA (bits .and .i64 fl 32==32) r)):=by
 have K:=O a;clear a;obtain⟨M,n⟩:=r
 cases hu:Id.ur n with
 | true =>
  have T:Hid (Id.toA (bits .and .i64 fl 32==32) (M,n)=([],n)):=if_pos hu;have l:(bits .and .i64 (n:Int) 3 != 0)=true:=hu;clear hu b I Z E;generalize Id.toA (bits .and .i64 fl 32==32) (M,n)=H at *;go_enter func26,ntmps26;go_wp2_with fail;refine(V K).mono ?_;rintro e Q ⟨b1,X,rfl,z⟩;have S:=O b1;clear K z b1;go_wp2;go_ret2;obtain rfl:=V T;exact⟨rfl,V S⟩
 | false =>
  have l:(bits .and .i64 (n:Int) 3 != 0)=false:=hu;obtain⟨C,x,D,N,c,R⟩:=b hu;have A:Hid (∀W B U v,Bw w W->Mu W B U v M->Calls prog 48 #[.pointer (some ⟨q,0,none⟩),v] W (z1c W (Id.carry (bits .and .i64 fl 32==32) M))):=fun W B U v t z=>z4S (Z.on t) z C x D (fun k G i u _ J=>N k G i u J) c R;have T:Hid (Id.toA (bits .and .i64 fl 32==32) (M,n)=if n|||(Id.carry (bits .and .i64 fl 32==32) M).2≠0 then([],n|||(Id.carry (bits .and .i64 fl 32==32) M).2)else((Id.carry (bits .and .i64 fl 32==32) M).1,0)):=if_neg (by rw[hu];exact e8M);clear hu b C x D N c R Z;generalize Id.toA (bits .and .i64 fl 32==32) (M,n)=H at *;simp only at I E;generalize Id.carry (bits .and .i64 fl 32==32) M=F at *;obtain⟨f,cn⟩:=F;simp only at I T;have y:=Id.or19 E I;generalize n|||cn=m at *;by_cases g:m=0
  ·subst g
   replace T:Hid (H=(f,0)):=by
    have:=V T;rwa [if_neg M7L]at this
   replace y:bits .or .i64 (n:Int) (cn:Int)=0:=y;clear E I;exact s0V
  ·replace T:Hid (H=([],m)):=by
    have:=V T;rwa [if_pos M1V]at this
   have P:((m:Int) != 0)=true:=M1V;clear E I g;exact s0V

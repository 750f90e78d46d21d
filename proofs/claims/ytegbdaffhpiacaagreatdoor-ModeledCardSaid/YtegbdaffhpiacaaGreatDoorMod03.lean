/- A part of the proof. -/
import Derived.Test.YtegbdaffhpiacaaGreatDoorMod01
import Derived.Test.YtegbdaffhpiacaaGreatDoorMod02
import Derived.Lib.Strings
namespace Go.Proofs.YtegbdaffhpiacaaGreatDoor
section
open Go.RowKit
theorem Z4(s:ByteArray):s.toList.length=s.size:=by rw[ByteArray.toList_eq];exact(Lib.size_eq s).symm
theorem zl1(s:ByteArray)(k:Nat)(h:k<s.size):s.toList.take (k+1)=s.toList.take k++[s[k]]:=by rw[ByteArray.toList_eq,List.take_succ_eq_append_getElem (by rw[<- Lib.size_eq];exact h)];rfl
theorem zz7(s:ByteArray)(k:Nat)(h:s.size<=k):s.toList.take k=s.toList:=by rw[List.take_of_length_le];rw[Z4];exact h
theorem zb9{a b:ByteArray}(h:a.toList=b.toList):a=b:=by rw[ByteArray.toList_eq,ByteArray.toList_eq] at h;cases a;cases b;simp_all
theorem zl2{p:UInt8->Bool}{l:List UInt8}{k:Nat}(h:(l.take k).all p=false):l.all p=false:=by rw[<- List.take_append_drop k l,List.all_append,h];rfl
theorem zz8(s:ByteArray)(p:UInt8->Bool)(k:Nat)(h:k<s.size)(hp:p s[k]=false):s.toList.all p=false:=by apply zl2 (k:=k+1);rw[zl1 s k h,List.all_append];simp[hp]
theorem zR9(s:ByteArray)(p:UInt8->Bool)(k:Nat)(h:k<s.size)(ha:(s.toList.take k).all p=true)(hp:p s[k]=true):(s.toList.take (k+1)).all p=true:=by rw[zl1 s k h,List.all_append,ha];simp[hp]
theorem ze8{a b:Bool}(h:a=b):Ending.returned (.bool a)=.returned (.bool b):=by rw[h]
end
section
namespace Ar
def dig(n:Nat):UInt8:=UInt8.ofNat (48+n)
def zw3:Nat->Nat->List UInt8
 | 0,n=>[dig n]
 | f+1,n=>if n<10 then [dig n] else zw3 f (n/10)++[dig (n%10)]
def ze7(v:Int):List UInt8:=if v<0 then 45::zw3 3 (-v).toNat else zw3 3 v.toNat
def U0(k:Int)(w:ByteArray)(v:Int):List UInt8:=if k=4\/k=5 then ze7 v else w.toList
mutual
def j9:Nd->List UInt8
 | .mk k w v ps=>if k=1\/k=2\/ps≠[] then 40::(U0 k w v++Q9 ps++[41]) else U0 k w v
def Q9:List Nd->List UInt8
 | []=>[]
 | p::ps=>32::(j9 p++Q9 ps)
end
theorem qa6(ps:List Nd)(p:Nd):Q9 (ps++[p])=Q9 ps++32::j9 p:=by
 induction ps with
 | nil=>simp[Q9]
 | cons q qs ih=>simp[Q9,ih]
theorem zi9(f n:Nat):(zw3 f n).length<=f+1:=by
 induction f generalizing n with
 | zero=>simp[zw3]
 | succ f ih=>
  unfold zw3;split
  ·simp
  ·have:=ih (n/10);simp;omega
theorem qj8(v:Int):(ze7 v).length<=5:=by
 unfold ze7;split
 ·have:=zi9 3 (-v).toNat;simp;omega
 ·have:=zi9 3 v.toNat;omega
def TS(ts:List Tk):Prop:=∀ t∈ts,t.txt.size<=600
theorem TS.tail{t:Tk}{ts:List Tk}(h:TS (t::ts)):TS ts:=fun u hu=>h u (List.mem_cons_of_mem _ hu)
def BD(nd:Nd)(ts ts':List Tk):Prop:=(j9 nd).length+1+603*ts'.length<=603*ts.length/\TS ts'
def Fits(f:List Tk->Rs Nd):Prop:=∀ ts nd ts',TS ts->f ts=.ok nd ts'->BD nd ts ts'
theorem zs2(fs:List (List Tk->Rs Nd))(h:∀ f∈fs,Fits f):∀ ts ps ts',TS ts->J5 fs ts=.ok ps ts'->(Q9 ps).length+603*ts'.length<=603*ts.length/\TS ts':=by
 induction fs with
 | nil=>intro ts ps ts' hs e;simp only[J5,Rs.ok.injEq] at e;obtain⟨rfl,rfl⟩:=e;exact⟨by simp[Q9],hs⟩
 | cons f fs ih=>
  intro ts ps ts' hs e;unfold J5 at e;split at e
  ·exact absurd e (by simp)
  ·rename_i a us hf;split at e
   ·exact absurd e (by simp)
   ·rename_i as vs hr;simp only[Rs.ok.injEq] at e;obtain⟨rfl,rfl⟩:=e;have h1:=h f (List.mem_cons_self ..) ts a us hs hf;have h2:=ih (fun g hg=>h g (List.mem_cons_of_mem _ hg)) us as vs h1.2 hr;refine⟨?_,h2.2⟩;have:=h1.1;have:=h2.1;simp[Q9];omega
theorem qJ1(m:Nat)(f:List Tk->Rs Nd)(h:Fits f):∀ ts ps ts',TS ts->X8 m f ts=.ok ps ts'->(Q9 ps).length+603*ts'.length<=603*ts.length/\TS ts':=by
 induction m with
 | zero=>intro ts ps ts' _ e;exact absurd e (by simp[X8])
 | succ m ih=>
  intro ts ps ts' hs e;cases ts with
  | nil=>exact absurd e (by simp[X8])
  | cons t ts=>
   unfold X8 at e;split at e
   ·simp only[Rs.ok.injEq] at e;obtain⟨rfl,rfl⟩:=e;exact⟨by simp[Q9],hs⟩
   ·split at e
    ·exact absurd e (by simp)
    ·rename_i a us hf;split at e
     ·exact absurd e (by simp)
     ·rename_i as vs hr;simp only[Rs.ok.injEq] at e;obtain⟨rfl,rfl⟩:=e;have h1:=h _ a us hs hf;have h2:=ih us as vs h1.2 hr;refine⟨?_,h2.2⟩;have:=h1.1;have:=h2.1;simp[Q9] at *;omega
theorem zu3(s:ByteArray):s.toList.length=s.size:=Z4 s
theorem zo2(k:Int)(hk:k=4\/k=5):Fits (V5 k):=by
 intro ts nd ts' hs e;cases ts with
 | nil=>exact absurd e (by simp[V5])
 | cons t ts=>
  simp only[V5] at e;split at e
  ·exact absurd e (by simp)
  ·rename_i v _;split at e
   ·exact absurd e (by simp)
   ·simp only[Rs.ok.injEq] at e;obtain⟨rfl,rfl⟩:=e;refine⟨?_,hs.tail⟩;have:=qj8 v;have h1:¬(k=1\/k=2\/([]:List Nd)≠[]):=by rcases hk with rfl|rfl<;>simp
    rw[j9,if_neg h1,U0,if_pos hk];simp;omega
theorem jq3(k:Int)(w:ByteArray)(v:Int)(h:w.size<=600):(U0 k w v).length<=600:=by
 unfold U0;split
 ·have:=qj8 v;omega
 ·rw[zu3];exact h
theorem qa7(k:Int)(w:ByteArray)(v:Int)(ps:List Nd)(h:w.size<=600):(j9 (.mk k w v ps)).length<=602+(Q9 ps).length:=by
 have:=jq3 k w v h;rw[j9];split
 ·simp;omega
 ·omega
theorem zG4{e k:Int}{w:ByteArray}{r:Rs (List Nd)}{nd:Nd}{ts ts':List Tk}(hw:w.size<=600)(hr:∀ ps us,r=.ok ps us->(Q9 ps).length+603*us.length<=603*ts.length/\TS us)(h:J7 e k w r=.ok nd ts'):
  (j9 nd).length+603*ts'.length<=603*ts.length/\TS ts':=by
 cases r with
 | no e p=>exact absurd h (by simp[J7])
 | ok ps us=>
  obtain⟨h1,h2⟩:=hr ps us rfl;cases us with
  | nil=>exact absurd h (by simp[J7,zd4])
  | cons v vs=>
   simp only[J7,zd4] at h;split at h
   ·simp only[Rs.ok.injEq] at h;obtain⟨rfl,rfl⟩:=h;have:=qa7 k w 0 ps hw;refine⟨?_,h2.tail⟩;simp at h1;omega
   ·split at h<;>exact absurd h (by simp)
theorem qj9{f:List Tk->Rs Nd}(h:Fits f):Fits (zb0 f):=by
 intro ts nd ts' hs e;cases ts with
 | nil=>exact absurd e (by simp[zb0])
 | cons t ts=>
  simp only[zb0] at e;split at e
  ·exact absurd e (by simp)
  ·exact h _ _ _ hs e
theorem zu4(N:List Nm)(n:Nat):∀ d,Fits (X0 N n d):=by
 induction n with
 | zero=>intro d ts nd ts' _ e;exact absurd e (by simp[X0])
 | succ n ih=>
  intro d ts nd ts' hs e;cases ts with
  | nil=>exact absurd e (by simp[X0])
  | cons t ts=>
   unfold X0 at e;split at e
   ·split at e
    ·exact absurd e (by simp)
    ·split at e
     ·exact absurd e (by simp)
     ·rename_i u us;split at e
      ·split at e
       ·exact absurd e (by simp)
       ·rename_i a _;split at e
        ·exact absurd e (by simp)
        ·have hus:TS us:=hs.tail.tail;have h1:=zG4 (ts:=us) (hs.tail u (List.mem_cons_self ..)) (fun ps vs hr=>zs2 _ (fun f hf=>by rw[(List.mem_replicate.1 hf).2];exact qj9 (ih (d+1))) us ps vs hus hr) e;refine⟨?_,h1.2⟩;have:=h1.1;simp;omega
      ·exact absurd e (by simp)
   ·split at e
    ·split at e
     ·exact absurd e (by simp)
     ·split at e
      ·simp only[Rs.ok.injEq] at e;obtain⟨rfl,rfl⟩:=e;refine⟨?_,hs.tail⟩;have:=qa7 3 t.txt 0 [] (hs t (List.mem_cons_self ..));simp[Q9] at *;omega
      ·exact absurd e (by simp)
    ·exact zo2 4 (Or.inl rfl) _ _ _ hs e
theorem zV8(N:List Nm)(n:Nat):∀ d,Fits (K6 N n d):=by
 induction n with
 | zero=>intro d ts nd ts' _ e;exact absurd e (by simp[K6])
 | succ n ih=>
  intro d ts nd ts' hs e;cases ts with
  | nil=>exact absurd e (by simp[K6])
  | cons t ts=>
   unfold K6 at e;split at e
   ·split at e
    ·exact absurd e (by simp)
    ·split at e
     ·exact absurd e (by simp)
     ·rename_i u us;split at e
      ·exact absurd e (by simp)
      ·rename_i ks _;have hus:TS us:=hs.tail.tail;have hp:∀ ps vs,l9 ks.2 n (K6 N n (d+1)) (X0 N n (d+1)) (V5 5) us=.ok ps vs->(Q9 ps).length+603*vs.length<=603*us.length/\TS vs:=by
        intro ps vs hr;unfold l9 at hr;split at hr
        ·exact zs2 _ (by intro f hf;simp at hf;subst hf;exact ih (d+1)) us ps vs hus hr
        ·split at hr
         ·exact zs2 _ (by intro f hf;simp at hf;subst hf;exact ih (d+1)) us ps vs hus hr
         ·split at hr
          ·exact zs2 _ (by intro f hf;simp at hf;subst hf;exact zu4 N n (d+1)) us ps vs hus hr
          ·split at hr
           ·exact zs2 _ (by intro f hf;simp at hf;rcases hf with rfl|rfl;exact zu4 N n (d+1);exact zo2 5 (Or.inr rfl)) us ps vs hus hr
           ·exact qJ1 n _ (ih (d+1)) us ps vs hus hr
       have h1:=zG4 (ts:=us) (hs.tail u (List.mem_cons_self ..)) hp e;refine⟨?_,h1.2⟩;have:=h1.1;simp;omega
   ·split at e
    ·simp only[Rs.ok.injEq] at e;obtain⟨rfl,rfl⟩:=e;refine⟨?_,hs.tail⟩;have:=qa7 0 t.txt 0 [] (hs t (List.mem_cons_self ..));simp[Q9] at *;omega
    ·exact absurd e (by simp)
end Ar
namespace Ar
def zc2(i:Nat)(wd:List UInt8):List Tk:=if wd=[] then [] else [⟨i-wd.length,⟨wd.toArray⟩⟩]
def zc6:Nat->List UInt8->List UInt8->List Tk
 | i,wd,[]=>zc2 i wd++[⟨i,ByteArray.empty⟩]
 | i,wd,c::r=>if zq8 c then zc2 i wd++⟨i,⟨#[c]⟩⟩::zc6 (i+1) [] r else if zs1 c then zc2 i wd++zc6 (i+1) [] r else zc6 (i+1) (wd++[c]) r
def toks(l:List UInt8):List Tk:=zc6 0 [] l
theorem zE5(i:Nat)(wd:List UInt8):(zc2 i wd).length=if wd=[] then 0 else 1:=by unfold zc2;split<;>rfl
theorem jq5(l:List UInt8):∀ i wd,(zc6 i wd l).length<=l.length+1+(if wd=[] then 0 else 1):=by
 induction l with
 | nil=>intro i wd;simp[zc6,zE5];omega
 | cons c r ih=>
  intro i wd;unfold zc6;split
  ·have:=ih (i+1) [];simp[zE5] at this ⊢;omega
  ·split
   ·have:=ih (i+1) [];simp[zE5] at this ⊢;omega
   ·have:=ih (i+1) (wd++[c]);simp at this ⊢;split<;>omega
theorem zO2(l:List UInt8):(toks l).length<=l.length+1:=by have:=jq5 l 0 [];simpa[toks] using this
theorem ze5(l:List UInt8):(ByteArray.mk l.toArray).toList=l:=by rw[ByteArray.toList_eq]
theorem qU5{t:Tk}{ts:List Tk}(h:TW ts)(ht:t.txt.toList≠[]):TW (t::ts):=by
 cases ts with
 | nil=>exact absurd rfl h.ne
 | cons u us=>exact⟨ht,h⟩
theorem zO3{i:Nat}{wd:List UInt8}{ts:List Tk}(h:TW ts):TW (zc2 i wd++ts):=by
 unfold zc2;split
 ·exact h
 ·rename_i hw;exact qU5 h (by rw[ze5];exact hw)
theorem zf1:ByteArray.empty.toList=[]:=by rw[ByteArray.toList_eq];rfl
theorem qk6(l:List UInt8):∀ i wd,TW (zc6 i wd l):=by
 induction l with
 | nil=>intro i wd;exact zO3 zf1
 | cons c r ih=>
  intro i wd;unfold zc6;split
  ·exact zO3 (qU5 (ih _ _) (by rw[show(ByteArray.mk #[c]).toList=[c] from ze5 [c]];simp))
  ·split
   ·exact zO3 (ih _ _)
   ·exact ih _ _
theorem zO4(l:List UInt8)(B:Nat):∀ i wd,wd.length+l.length<=B->1<=B->∀ t∈zc6 i wd l,t.txt.size<=B:=by
 have hfl:∀ i wd,wd.length<=B->∀ t∈zc2 i wd,t.txt.size<=B:=by
  intro i wd hB t ht;unfold zc2 at ht;split at ht
  ·exact absurd ht (by simp)
  ·simp at ht;rw[ht,<- zu3,ze5];exact hB
 induction l with
 | nil=>
  intro i wd hB _ t ht;unfold zc6 at ht;rcases List.mem_append.1 ht with h|h
  ·exact hfl _ _ (by simp at hB;omega) t h
  ·simp at h;rw[h,<- zu3,zf1];simp
 | cons c r ih=>
  intro i wd hB h1 t ht;simp at hB;unfold zc6 at ht;split at ht
  ·rcases List.mem_append.1 ht with h|h
   ·exact hfl _ _ (by omega) t h
   ·rcases List.mem_cons.1 h with h|h
    ·rw[h,<- zu3,show(ByteArray.mk #[c]).toList=[c] from ze5 [c]];simpa using h1
    ·exact ih _ _ (by simp;omega) h1 t h
  ·split at ht
   ·rcases List.mem_append.1 ht with h|h
    ·exact hfl _ _ (by omega) t h
    ·exact ih _ _ (by simp;omega) h1 t h
   ·exact ih _ _ (by simp;omega) h1 t ht
end Ar
namespace Ar
def zb7(c:UInt8):Bool := !zs1 c && !zq8 c
def kOf(l:List UInt8):Int:=if l=[] then 0 else if l=[40] then 1 else if l=[41] then 2 else 3
theorem qU6(u:List UInt8):∀ i wd rest,u.all zb7=true->zc6 i wd (u++rest)=zc6 (i+u.length) (wd++u) rest:=by
 induction u with
 | nil=>intro i wd rest _;simp
 | cons c u ih=>
  intro i wd rest h;simp only[List.all_cons,Bool.and_eq_true] at h;obtain⟨hc,hu⟩:=h;simp only[zb7,Bool.and_eq_true,Bool.not_eq_true'] at hc;rw[List.cons_append,zc6,if_neg (by rw[hc.2];decide),if_neg (by rw[hc.1];decide),ih _ _ _ hu];simp;have:i+1+u.length=i+(u.length+1):=by omega
  rw[this]
theorem jg7(j:Nat)(wd rest:List UInt8)(hw:wd≠[])(hr:∀ c r,rest=c::r->zb7 c=false):zc6 j wd rest=⟨j-wd.length,⟨wd.toArray⟩⟩::zc6 j [] rest:=by
 have hf:zc2 j wd=[⟨j-wd.length,⟨wd.toArray⟩⟩]:=by rw[zc2,if_neg hw]
 have hf0:zc2 j []=[]:=rfl;cases rest with
 | nil=>simp[zc6,hf,hf0]
 | cons c r=>
  have hc:=hr c r rfl;cases hb:zq8 c with
  | true=>simp[zc6,hb,hf,hf0]
  | false=>
   have hl:zs1 c=true:=by
    cases h:zs1 c with
    | true=>rfl
    | false=>rw[zb7,h,hb] at hc;exact absurd hc (by decide)
   simp[zc6,hb,hl,hf,hf0]
theorem jg8(k:Nat)(u rest:List UInt8)(hu:u≠[])(hp:u.all zb7=true)(hr:∀ c r,rest=c::r->zb7 c=false):zc6 k [] (u++rest)=⟨k,⟨u.toArray⟩⟩::zc6 (k+u.length) [] rest:=by
 rw[qU6 u k [] rest hp,List.nil_append,jg7 _ _ _ hu hr];have:k+u.length-u.length=k:=by omega
 rw[this]
theorem ju3(k:Nat)(c:UInt8)(r:List UInt8)(h:zq8 c=true):zc6 k [] (c::r)=⟨k,⟨#[c]⟩⟩::zc6 (k+1) [] r:=by rw[zc6,if_pos h];rfl
theorem ju4(k:Nat)(c:UInt8)(r:List UInt8)(h:zs1 c=true):zc6 k [] (c::r)=zc6 (k+1) [] r:=by
 have hb:zq8 c=false:=by unfold zs1 at h;simp at h;rcases h with(rfl|rfl)|rfl<;>decide
 rw[zc6,if_neg (by rw[hb];decide),if_pos h];rfl
theorem qU7{u:List UInt8}(hu:u≠[])(hp:u.all zb7=true):kOf u=3:=by
 have h1:u≠[40]:=by intro e;rw[e] at hp;exact absurd hp (by decide)
 have h2:u≠[41]:=by intro e;rw[e] at hp;exact absurd hp (by decide)
 rw[kOf,if_neg hu,if_neg h1,if_neg h2]
end Ar
namespace Ar
theorem qA2(f1 f2:List (List Tk->Rs Nd)):∀ ts,J5 (f1++f2) ts=match J5 f1 ts with|.no e p=>.no e p|.ok as us=>match J5 f2 us with|.no e p=>.no e p|.ok bs vs=>.ok (as++bs) vs:=by
 induction f1 with
 | nil=>intro ts;simp only[List.nil_append,J5];cases J5 f2 ts<;>simp
 | cons f fs ih=>
  intro ts;simp only[List.cons_append,J5];cases f ts with
  | no e p=>simp
  | ok a us=>
   simp only[ih us];cases J5 fs us with
   | no e p=>simp
   | ok as vs=>simp only;cases J5 f2 vs<;>simp
theorem row_len(fs:List (List Tk->Rs Nd)):∀ ts ps ts',J5 fs ts=.ok ps ts'->ps.length=fs.length:=by
 induction fs with
 | nil=>intro ts ps ts' e;simp only[J5,Rs.ok.injEq] at e;rw[<- e.1];rfl
 | cons f fs ih=>
  intro ts ps ts' e;unfold J5 at e;split at e
  ·exact absurd e (by simp)
  ·split at e
   ·exact absurd e (by simp)
   ·rename_i as vs hr;simp only[Rs.ok.injEq] at e;rw[<- e.1,List.length_cons,List.length_cons,ih _ _ _ hr]
end Ar
namespace Ar
def zw4(ps:List Nd):Rs (List Nd)->Rs (List Nd)
 | .no e p=>.no e p
 | .ok qs ts=>.ok (ps++qs) ts
theorem jg5(r:Rs (List Nd)):zw4 [] r=r:=by cases r<;>simp[zw4]
theorem qK0{F:List Tk->Rs Nd}{m:Nat}{ps:List Nd}{v:Tk}{vs us':List Tk}{nd:Nd}(hv:¬v.txt.toList=[41])(hf:F (v::vs)=.ok nd us'):zw4 ps (X8 (m+1) F (v::vs))=zw4 (ps++[nd]) (X8 m F us'):=by simp only[X8,if_neg hv,hf];cases X8 m F us'<;>simp[zw4]
theorem jg6{F:List Tk->Rs Nd}{m:Nat}{ps:List Nd}{v:Tk}{vs:List Tk}{e:Int}{p:Nat}(hv:¬v.txt.toList=[41])(hf:F (v::vs)=.no e p):zw4 ps (X8 (m+1) F (v::vs))=.no e p:=by rw[X8,if_neg hv,hf];rfl
theorem qU4{F:List Tk->Rs Nd}{m:Nat}{ps:List Nd}{v:Tk}{vs:List Tk}(hv:v.txt.toList=[41]):zw4 ps (X8 (m+1) F (v::vs))=.ok ps (v::vs):=by rw[X8,if_pos hv];simp[zw4]
theorem zO1{f:List Tk->Rs Nd}(h:Fits f){ts ts':List Tk}{nd:Nd}(hs:TS ts)(e:f ts=.ok nd ts'):ts'.length+1<=ts.length:=by have:=(h ts nd ts' hs e).1;omega
theorem qK1(fs:List (List Tk->Rs Nd))(h:∀ f∈fs,Fits f):∀ ts ps ts',TS ts->J5 fs ts=.ok ps ts'->fs.length+ts'.length<=ts.length:=by
 induction fs with
 | nil=>intro ts ps ts' hs e;simp only[J5,Rs.ok.injEq] at e;obtain⟨rfl,rfl⟩:=e;simp
 | cons f fs ih=>
  intro ts ps ts' hs e;unfold J5 at e;split at e
  ·exact absurd e (by simp)
  ·rename_i a us hf;split at e
   ·exact absurd e (by simp)
   ·rename_i as vs hr;simp only[Rs.ok.injEq] at e;obtain⟨rfl,rfl⟩:=e;have h1:=zO1 (h f (List.mem_cons_self ..)) hs hf;have h2:=ih (fun g hg=>h g (List.mem_cons_of_mem _ hg)) us as vs (h f (List.mem_cons_self ..) ts a us hs hf).2 hr;simp;omega
end Ar
namespace Ar
def K8(N:List Nm)(l:List UInt8)(a:Int):Int :=
 if X6 l=false then 3 else if a<0\/3<a then 4 else if (za8 N l).isSome=true then 7 else if 20<=N.length then 8 else 0
def za7(N:List Nm)(F:Int)(s:ByteArray)(a:Int):List Nm:=if K8 N s.toList a=0 then N++[⟨s,a,F⟩] else N
end Ar
namespace Ar
def Gd(n:Nat)(f:List Tk->Rs Nd):Prop:=∀ ts,TW ts->ts.length<=n->(∀ e p,f ts=.no e p->e≠0)/\(∀ nd ts',f ts=.ok nd ts'->TW ts'/\ts'.length<ts.length)
def GdL(r:Rs (List Nd))(ts:List Tk):Prop:=(∀ e p,r=.no e p->e≠0)/\(∀ ps ts',r=.ok ps ts'->TW ts'/\ts'.length<=ts.length)
theorem zO6(n:Nat)(fs:List (List Tk->Rs Nd))(h:∀ f∈fs,Gd n f):∀ ts,TW ts->ts.length<=n->GdL (J5 fs ts) ts:=by
 induction fs with
 | nil=>intro ts hw _;exact⟨fun e p h=>by simp[J5] at h,fun ps ts' h=>by simp[J5] at h;obtain⟨_,rfl⟩:=h;exact⟨hw,Nat.le_refl _⟩⟩
 | cons f fs ih=>
  intro ts hw hl;have hf:=h f (List.mem_cons_self ..) ts hw hl;have ih':=ih (fun g hg=>h g (List.mem_cons_of_mem _ hg));unfold J5;cases hr:f ts with
  | no e p=>exact⟨fun e' p' h'=>by simp at h';obtain⟨rfl,rfl⟩:=h';exact hf.1 _ _ hr,fun ps ts' h'=>by simp at h'⟩
  | ok a us=>
   have h1:=hf.2 _ _ hr;have h2:=ih' us h1.1 (by omega);cases hq:J5 fs us with
   | no e p=>exact⟨fun e' p' h'=>by simp[hq] at h';obtain⟨rfl,rfl⟩:=h';exact h2.1 _ _ hq,fun ps ts' h'=>by simp[hq] at h'⟩
   | ok as vs=>have h3:=h2.2 _ _ hq;exact⟨fun e' p' h'=>by simp[hq] at h',fun ps ts' h'=>by simp[hq] at h';obtain⟨_,rfl⟩:=h';exact⟨h3.1,by omega⟩⟩
theorem jh1(n:Nat)(f:List Tk->Rs Nd)(h:Gd n f)(m:Nat):∀ ts,TW ts->ts.length<=n->ts.length<=m->GdL (X8 m f ts) ts:=by
 induction m with
 | zero=>
  intro ts hw _ hl;cases ts with
  | nil=>exact absurd hw (by simp[TW])
  | cons t ts=>simp at hl
 | succ m ih=>
  intro ts hw hl hm;cases ts with
  | nil=>exact absurd hw (by simp[TW])
  | cons t ts=>
   have hf:=h (t::ts) hw hl;unfold X8;by_cases hc:t.txt.toList=[41]
   ·rw[if_pos hc];exact⟨fun e' p' h'=>by simp at h',fun ps ts' h'=>by simp at h';obtain⟨_,rfl⟩:=h';exact⟨hw,Nat.le_refl _⟩⟩
   ·rw[if_neg hc];cases hr:f (t::ts) with
    | no e p=>exact⟨fun e' p' h'=>by simp at h';obtain⟨rfl,rfl⟩:=h';exact hf.1 _ _ hr,fun ps ts' h'=>by simp at h'⟩
    | ok a us=>
     have h1:=hf.2 _ _ hr;have h2:=ih us h1.1 (by omega) (by omega);cases hq:X8 m f us with
     | no e p=>exact⟨fun e' p' h'=>by simp[hq] at h';obtain⟨rfl,rfl⟩:=h';exact h2.1 _ _ hq,fun ps ts' h'=>by simp[hq] at h'⟩
     | ok as vs=>have h3:=h2.2 _ _ hq;exact⟨fun e' p' h'=>by simp[hq] at h',fun ps ts' h'=>by simp[hq] at h';obtain⟨_,rfl⟩:=h';exact⟨h3.1,by omega⟩⟩
theorem qV1(n:Nat)(k:Int):Gd n (V5 k):=by
 intro ts hw _;cases ts with
 | nil=>exact absurd hw (by simp[TW])
 | cons t ts=>
  simp only[V5];cases hn:numOf t.txt.toList with
  | none=>exact⟨fun e' p' h'=>by simp at h';obtain⟨rfl,rfl⟩:=h';decide,fun ps ts' h'=>by simp at h'⟩
  | some v=>
   have hne:t.txt.toList≠[]:=by intro e;rw[e,show numOf []=none from by decide] at hn;cases hn
   by_cases hv:v < -1000\/1000<v
   ·simp only[if_pos hv];exact⟨fun e' p' h'=>by simp at h';obtain⟨rfl,rfl⟩:=h';decide,fun ps ts' h'=>by simp at h'⟩
   ·simp only[if_neg hv];exact⟨fun e' p' h'=>by simp at h',fun ps ts' h'=>by simp at h';obtain⟨_,rfl⟩:=h';exact⟨hw.tail hne,by simp⟩⟩
theorem zW0{e k:Int}{w:ByteArray}{r:Rs (List Nd)}{ts:List Tk}(he:e≠0)(h:GdL r ts):(∀ e' p,J7 e k w r=.no e' p->e'≠0)/\(∀ nd ts',J7 e k w r=.ok nd ts'->TW ts'/\ts'.length<ts.length):=by
 cases r with
 | no e1 p1=>exact⟨fun e' p' h'=>by simp[J7] at h';obtain⟨rfl,rfl⟩:=h';exact h.1 _ _ rfl,fun ps ts' h'=>by simp[J7] at h'⟩
 | ok ps us=>
  have h1:=h.2 _ _ rfl;cases us with
  | nil=>exact absurd h1.1 (by simp[TW])
  | cons v vs=>
   simp only[J7,zd4];by_cases hc:v.txt.toList=[41]
   ·rw[if_pos hc];refine⟨fun e' p' h'=>by simp at h',fun nd ts' h'=>?_⟩;simp at h';obtain⟨_,rfl⟩:=h';have h2:=h1.2;exact⟨h1.1.tail (by rw[hc];simp),by simp at h2;omega⟩
   ·rw[if_neg hc];by_cases hv:v.txt.toList=[]
    ·rw[if_pos hv];exact⟨fun e' p' h'=>by simp at h';obtain⟨rfl,rfl⟩:=h';decide,fun ps ts' h'=>by simp at h'⟩
    ·rw[if_neg hv];exact⟨fun e' p' h'=>by simp at h';obtain⟨rfl,rfl⟩:=h';exact he,fun ps ts' h'=>by simp at h'⟩
theorem jq6{n:Nat}{f:List Tk->Rs Nd}(h:Gd n f):Gd n (zb0 f):=by
 intro ts hw hl;cases ts with
 | nil=>exact absurd hw (by simp[TW])
 | cons t ts=>
  simp only[zb0];by_cases hc:t.txt.toList=[41]
  ·rw[if_pos hc];exact⟨fun e' p' h'=>by simp at h';obtain⟨rfl,rfl⟩:=h';decide,fun ps ts' h'=>by simp at h'⟩
  ·rw[if_neg hc];exact h _ hw hl
theorem zB5{e:Int}{p:Nat}{ts:List Tk}(he:e≠0):(∀ e' p',(Rs.no e p:Rs Nd)=.no e' p'->e'≠0)/\(∀ nd ts',(Rs.no e p:Rs Nd)=.ok nd ts'->TW ts'/\ts'.length<ts.length) :=
 ⟨fun e' p' h'=>by simp at h';obtain⟨rfl,rfl⟩:=h';exact he,fun ps ts' h'=>by simp at h'⟩
theorem jl0{nd:Nd}{us ts:List Tk}(h:TW us)(hl:us.length<ts.length):(∀ e' p',(Rs.ok nd us:Rs Nd)=.no e' p'->e'≠0)/\(∀ nd' ts',(Rs.ok nd us:Rs Nd)=.ok nd' ts'->TW ts'/\ts'.length<ts.length) :=
 ⟨fun e' p' h'=>by simp at h',fun ps ts' h'=>by simp at h';obtain⟨_,rfl⟩:=h';exact⟨h,hl⟩⟩
theorem jh2(N:List Nm)(n:Nat):∀ d,Gd n (X0 N n d):=by
 induction n with
 | zero=>
  intro d ts hw hl;cases ts with
  | nil=>exact absurd hw (by simp[TW])
  | cons t ts=>simp at hl
 | succ n ih=>
  intro d ts hw hl;cases ts with
  | nil=>exact absurd hw (by simp[TW])
  | cons t ts=>
   unfold X0;by_cases ho:t.txt.toList=[40]
   ·have h1:=hw.tail (by rw[ho];simp);rw[if_pos ho];by_cases hd:30<=d
    ·rw[if_pos hd];exact zB5 (by decide)
    ·rw[if_neg hd];cases ts with
     | nil=>exact absurd h1 (by simp[TW])
     | cons u us=>
      simp only;by_cases hn:X6 u.txt.toList=true
      ·rw[if_pos hn];cases ha:za8 N u.txt.toList with
       | none=>exact zB5 (by decide)
       | some a=>
        simp only;by_cases h0:a=0
        ·rw[if_pos h0];exact zB5 (by decide)
        ·rw[if_neg h0];have hune:u.txt.toList≠[]:=by
          intro e;rw[e] at hn;exact absurd hn (by decide)
         have h2:=h1.tail hune;have h3:=zW0 (k:=3) (w:=u.txt) (by decide:(4:Int)≠0) (zO6 n (List.replicate a.toNat (zb0 (X0 N n (d+1)))) (fun f hf=>by rw[(List.mem_replicate.1 hf).2];exact jq6 (ih (d+1))) us h2 (by simp at hl;omega));exact⟨h3.1,fun nd ts' h'=>⟨(h3.2 nd ts' h').1,by have:=(h3.2 nd ts' h').2;simp;omega⟩⟩
      ·rw[if_neg hn];exact zB5 (by decide)
   ·rw[if_neg ho];by_cases hn:X6 t.txt.toList=true
    ·rw[if_pos hn];cases ha:za8 N t.txt.toList with
     | none=>exact zB5 (by decide)
     | some a=>
      simp only;by_cases h0:a=0
      ·rw[if_pos h0];have hune:t.txt.toList≠[]:=by
        intro e;rw[e] at hn;exact absurd hn (by decide)
       exact jl0 (hw.tail hune) (by simp)
      ·rw[if_neg h0];exact zB5 (by decide)
    ·rw[if_neg hn];exact qV1 (n+1) 4 _ hw hl
theorem jh3(N:List Nm)(n:Nat):∀ d,Gd n (K6 N n d):=by
 induction n with
 | zero=>
  intro d ts hw hl;cases ts with
  | nil=>exact absurd hw (by simp[TW])
  | cons t ts=>simp at hl
 | succ n ih=>
  intro d ts hw hl;cases ts with
  | nil=>exact absurd hw (by simp[TW])
  | cons t ts=>
   unfold K6;by_cases ho:t.txt.toList=[40]
   ·have h1:=hw.tail (by rw[ho];simp);rw[if_pos ho];by_cases hd:30<=d
    ·rw[if_pos hd];exact zB5 (by decide)
    ·rw[if_neg hd];cases ts with
     | nil=>exact absurd h1 (by simp[TW])
     | cons u us=>
      simp only;cases hh:zo1 u.txt.toList with
      | none=>exact zB5 (by decide)
      | some ks=>
       simp only;have hune:u.txt.toList≠[]:=by intro e;rw[e,show zo1 []=none from by decide] at hh;cases hh
       have h2:=h1.tail hune;have hus:us.length<=n:=by simp at hl;omega
       have hF:=ih (d+1);have hT:=jh2 N n (d+1);have hG:GdL (l9 ks.2 n (K6 N n (d+1)) (X0 N n (d+1)) (V5 5) us) us:=by
        unfold l9;by_cases s0:ks.2=0
        ·rw[if_pos s0];exact zO6 n _ (by intro f hf;simp at hf;subst hf;exact hF) us h2 hus
        rw[if_neg s0];by_cases s1:ks.2=1
        ·rw[if_pos s1];exact zO6 n _ (by intro f hf;simp at hf;subst hf;exact hF) us h2 hus
        rw[if_neg s1];by_cases s3:ks.2=3
        ·rw[if_pos s3];exact zO6 n _ (by intro f hf;simp at hf;subst hf;exact hT) us h2 hus
        rw[if_neg s3];by_cases s4:ks.2=4
        ·rw[if_pos s4];exact zO6 n _ (by intro f hf;simp at hf;rcases hf with rfl|rfl<;>first|exact hT|exact qV1 n 5) us h2 hus
        rw[if_neg s4];exact jh1 n _ hF n us h2 hus hus
       have h3:=zW0 (k:=ks.1) (w:=u.txt) (by decide:(2:Int)≠0) hG;exact⟨h3.1,fun nd ts' h'=>⟨(h3.2 nd ts' h').1,by have:=(h3.2 nd ts' h').2;simp;omega⟩⟩
   ·rw[if_neg ho];by_cases hq:t.txt.toList=zn9\/t.txt.toList=zh7
    ·rw[if_pos hq];exact jl0 (hw.tail (by rcases hq with e|e<;>rw[e]<;>decide)) (by simp)
    ·rw[if_neg hq];exact zB5 (by decide)
end Ar
namespace Ar
def O7(t:Bool)(k:Int):Bool:=if t then k==3 || k==4 else k==2
mutual
def J0(t:Bool):Nd->List Nd
 | .mk k w v ps=>(if O7 t k=true then [.mk k w v ps] else [])++Z0 t ps
def Z0(t:Bool):List Nd->List Nd
 | []=>[]
 | p::ps=>J0 t p++Z0 t ps
end
theorem zf0(t:Bool)(as bs:List Nd):Z0 t (as++bs)=Z0 t as++Z0 t bs:=by
 induction as with
 | nil=>rfl
 | cons a as ih=>simp[Z0,ih]
theorem Y9{t:Bool}{x:Nd}{ps:List Nd}:x∈Z0 t ps↔∃ p∈ps,x∈J0 t p:=by
 induction ps with
 | nil=>simp[Z0]
 | cons p ps ih=>simp[Z0,ih]
def qJ2(l:List (List UInt8))(f:List UInt8):List (List UInt8):=if f∈l then l else l++[f]
def zs3(l:List (List UInt8))(xs:List Nd):List (List UInt8):=xs.foldl (fun l x=>qJ2 l (j9 x)) l
theorem zG5(l:List (List UInt8))(x:Nd)(xs:List Nd):zs3 l (x::xs)=zs3 (qJ2 l (j9 x)) xs:=rfl
theorem qU0{l:List (List UInt8)}{f g:List UInt8}:g∈qJ2 l f↔g∈l\/g=f:=by
 unfold qJ2;split
 ·rename_i h;constructor
  ·exact .inl
  ·rintro(h'|rfl)
   ·exact h'
   ·exact h
 ·simp
theorem qt6{l:List (List UInt8)}{f:List UInt8}(h:l.Nodup):(qJ2 l f).Nodup:=by
 unfold qJ2;split
 ·exact h
 ·rename_i hf;rw[List.nodup_append];refine⟨h,by simp,?_⟩;intro a ha b hb e;simp at hb;subst hb e;exact hf ha
theorem zN6{xs:List Nd}:∀ {l:List (List UInt8)} {g:List UInt8},g∈zs3 l xs↔g∈l\/∃ x∈xs,g=j9 x:=by
 induction xs with
 | nil=>intro l g;simp[zs3]
 | cons x xs ih=>intro l g;rw[zG5,ih,qU0];simp[or_assoc]
theorem zA7{xs:List Nd}:∀ {l:List (List UInt8)},l.Nodup->(zs3 l xs).Nodup:=by
 induction xs with
 | nil=>intro l h;exact h
 | cons x xs ih=>intro l h;rw[zG5];exact ih (qt6 h)
theorem qk0{α:Type}[DecidableEq α]:∀ {a b:List α},a.Nodup->b.Nodup->(∀ x,x∈a↔x∈b)->a.length=b.length:=by
 intro a
 induction a with
 | nil=>
  intro b _ _ h;cases b with
  | nil=>rfl
  | cons y b=>exact absurd ((h y).2 (by simp)) (by simp)
 | cons x a ih=>
  intro b ha hb h;have hx:x∈b:=(h x).1 (by simp);have h1:=ih (b:=b.erase x) (List.nodup_cons.1 ha).2 (hb.erase x) (fun y=>by
   rw[List.Nodup.mem_erase_iff hb];constructor
   ·intro hy;exact⟨fun e=>(List.nodup_cons.1 ha).1 (e▸hy),(h y).1 (List.mem_cons_of_mem _ hy)⟩
   ·rintro⟨hne,hy⟩;rcases List.mem_cons.1 ((h y).2 hy) with e|e
    ·exact absurd e hne
    ·exact e)
  rw[List.length_cons,h1,List.length_erase_of_mem hx];have:=List.length_pos_of_mem hx;omega
theorem qJ3{α β:Type}{f:α -> β}:∀ {l:List α},l.Nodup->(∀ x∈l,∀ y∈l,f x=f y->x=y)->(l.map f).Nodup:=by
 intro l
 induction l with
 | nil=>intro _ _;simp
 | cons a l ih=>intro h hf;rw[List.map_cons,List.nodup_cons];refine⟨?_,ih (List.nodup_cons.1 h).2 (fun x hx y hy=>hf x (List.mem_cons_of_mem _ hx) y (List.mem_cons_of_mem _ hy))⟩;intro hm;obtain⟨y,hy,e⟩:=List.mem_map.1 hm;have:=hf y (List.mem_cons_of_mem _ hy) a (by simp) e;subst this;exact(List.nodup_cons.1 h).1 hy
theorem qU1{xs T:List Nd}(hT:T.Nodup)(hm:∀ x,x∈T↔x∈xs)(hinj:∀ x∈xs,∀ y∈xs,j9 x=j9 y->x=y):(zs3 [] xs).length=T.length:=by
 rw[<- List.length_map (f:=j9) (as:=T)];refine qk0 (zA7 List.nodup_nil) (qJ3 hT (fun x hx y hy=>hinj x ((hm x).1 hx) y ((hm y).1 hy))) (fun g=>?_);rw[zN6];constructor
 ·rintro(h|⟨x,hx,rfl⟩)
  ·exact absurd h (by simp)
  ·exact List.mem_map.2 ⟨x,(hm x).2 hx,rfl⟩
 ·intro h;obtain⟨x,hx,rfl⟩:=List.mem_map.1 h;exact .inr ⟨x,(hm x).1 hx,rfl⟩
end Ar
end
end Go.Proofs.YtegbdaffhpiacaaGreatDoor

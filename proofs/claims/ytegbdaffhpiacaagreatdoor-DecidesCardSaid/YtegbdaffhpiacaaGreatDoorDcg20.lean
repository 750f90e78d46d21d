/- Part. -/
import Derived.WalkKit
import Derived.WalkSpells
import Derived.WalkLawsBesides
import Derived.Deep.QuietTactic
import Derived.BigQuiet
import Derived.Test.YtegbdaffhpiacaaGreatDoorDcg61
import Derived.Lib.Strings
import Derived.Lib.ItoaNum
namespace Go.Proofs.YtegbdaffhpiacaaGreatDoor
section
open Go.RowKit
variable{p:Addr}{S T:Nat->Prop}{a b c w w':World}
theorem q8{p:Prop}(h:p):Hid p:=h
structure q9(S:Nat->Prop)(w w':World):Prop where
 os:w'.os=w.os
 tape:w'.tape=w.tape
 output:w'.output=w.output
 size:w.heap.size<=w'.heap.size
 block:∀ k,k<w.heap.size->¬S k->w'.heap[k]?=w.heap[k]?
theorem q9.refl(S:Nat->Prop)(w:World):q9 S w w:=⟨rfl,rfl,rfl,aW _,λ_ _ _=>rfl⟩
abbrev eX(w W:World):Prop:=q9 (fun _=>False) w W
theorem eR(w:World):q9 (λ_=>False) w w:=q9.refl _ w
theorem q9.trans(h:q9 S a b)(k:q9 S b c):q9 S a c:=⟨k.os.trans h.os,k.tape.trans h.tape,k.output.trans h.output,cM h.size k.size,λi e d=>(k.block i (bD e h.size) d).trans (h.block i e d)⟩
theorem q9.trans'(h:q9 S a b)(k:q9 T b c)(f:∀i,i<a.heap.size->T i->S i):q9 S a c:=⟨k.os.trans h.os,k.tape.trans h.tape,k.output.trans h.output,cM h.size k.size,λi d e=>(k.block i (bD d h.size) (λt=>e (f i d t))).trans (h.block i d e)⟩
theorem q9.mono(h:q9 S a b)(d:∀i,i<a.heap.size->S i->T i):q9 T a b:=⟨h.os,h.tape,h.output,h.size,λi c e=>h.block i c (λs=>e (d i c s))⟩
theorem q9.drew(h:q9 S a w):q9 S a w.drew:=⟨h.os,h.tape,h.output,h.size,h.block⟩
theorem q9.drewN(h:q9 S a w)(n:Nat):q9 S a (w.drewN n):=⟨h.os,h.tape,h.output,h.size,h.block⟩
theorem q9.alloc(h:q9 S a w)(o:Obj):q9 S a (w.alloc o):=h.trans ⟨rfl,rfl,rfl,aC,λ_ b _=>Below.heap_alloc _ _ _ b⟩
theorem q9.setCell(h:q9 S a w)(b:p.block<a.heap.size->S p.block)(u:Value):q9 S a (w.setCell p u):=h.trans' (T:=λi=>i=p.block) ⟨rfl,rfl,rfl,EY,λ_ _ c=>Below.heap_setCell _ _ _ _ c⟩ (λi d e=>by subst e;exact b d)
theorem rr(w:World):q9 S w w:=.refl S w
theorem q9.M(h:eX a b):q9 S a b:=h.mono (λ_ _ f=>f.elim)
theorem q9.sc(h:q9 S a w)(b i:Nat)(v:Value)(e:S b:=by exact rfl):q9 S a (w.setCell ⟨b,i,none⟩ v):=h.setCell (λ_=>e) v
theorem q9.cell(h:q9 S w w')(b:p.block<w.heap.size)(a:¬S p.block):w'.cell? p=w.cell? p:=World.cell?_of_block (w:=w) (h.block p.block b a)
theorem q9.frozen(h:q9 S w w')(b:p.block<w.heap.size)(a:¬S p.block):w'.frozen? p=w.frozen? p:=World.frozen?_of_block (w:=w) (h.block p.block b a)
end
section
open Go.RowKit
theorem Z6(s:ByteArray):s.toList.length=s.size:=by rw[ByteArray.toList_eq];exact(Lib.size_eq s).symm
theorem FH(s:ByteArray)(k:Nat)(h:k<s.size):s.toList.take (k+1)=s.toList.take k++[s[k]]:=by rw[ByteArray.toList_eq,Lm (by rw[<-Lib.size_eq];exact h)];rfl
theorem B0(s:ByteArray)(k:Nat)(h:s.size<=k):s.toList.take k=s.toList:=by rw[cj];rw[Z6];exact h
theorem O8{a b:ByteArray}(h:a.toList=b.toList):a=b:=by rw[ByteArray.toList_eq,ByteArray.toList_eq]at h;cases a;cases b;simp_all
theorem S6{p:UInt8->Bool}{l:List UInt8}{k:Nat}(h:(l.take k).all p=false):l.all p=false:=by rw[<-iP k l,List.all_append,h];rfl
theorem B1(s:ByteArray)(p:UInt8->Bool)(k:Nat)(h:k<s.size)(a:p s[k]=false):s.toList.all p=false:=by apply S6 (k:=k+1);rw[FH s k h,List.all_append];simp[a]
theorem FI(s:ByteArray)(p:UInt8->Bool)(k:Nat)(h:k<s.size)(b:(s.toList.take k).all p=true)(a:p s[k]=true):(s.toList.take (k+1)).all p=true:=by rw[FH s k h,List.all_append,b];simp[a]
theorem r'{a b:Bool}(h:a=b):Ending.returned (.bool a)=.returned (.bool b):=by rw[h]
theorem S7{k:IntKind}{a b:Int}(h:a=b):Ending.returned (.int k a)=.returned (.int k b):=by rw[h]
end
namespace Ar
def B2(n:Nat):UInt8:=UInt8.ofNat (48+n)
def oF:Nat->Nat->List UInt8
 | 0,n=>[B2 n]
 | f+1,n=>if n<10 then [B2 n] else oF f (n/10)++[B2 (n%10)]
def itoa(v:Int):List UInt8:=if v<0 then 45::oF 3 (-v).toNat else oF 3 v.toNat
def eY(k:Int)(w:ByteArray)(v:Int):List UInt8:=if k=4\/k=5 then itoa v else w.toList
mutual
def Z0:Nd->List UInt8
 | .mk k w v ps=>if k=1\/k=2\/ps≠[] then 40::(eY k w v++J0 ps++[41]) else eY k w v
def J0:List Nd->List UInt8
 | []=>[]
 | p::ps=>32::(Z0 p++J0 ps)
end
theorem S8(ps:List Nd)(p:Nd):J0 (ps++[p])=J0 ps++32::Z0 p:=by induction ps with|nil=>(simp[J0])|cons q qs a=>simp[J0,a]
theorem S9(f n:Nat):(oF f n).length<=f+1:=by induction f generalizing n with|zero=>(simp[oF])|succ f a=>unfold oF;split;simp;have:=a (n/10);exact aM
theorem LD(v:Int):(itoa v).length<=5:=by unfold itoa;split;have:=S9 3 (-v).toNat;exact aM;have:=S9 3 v.toNat;omega
def TS(ts:List Tk):Prop:=∀ t∈ts,t.aB.size<=600
theorem TS.tail{t:Tk}{ts:List Tk}(h:TS (t::ts)):TS ts:=λu a=>h u (eO _ a)
def BD(nd:Nd)(ts a:List Tk):Prop:=(Z0 nd).length+1+603*a.length<=603*ts.length/\TS a
def Fits(f:List Tk->Rs Nd):Prop:=∀ ts nd a,TS ts->f ts=.ok nd a->BD nd ts a
theorem qH(c:List (List Tk->Rs Nd))(h:∀f∈c,Fits f):∀ts ps b,TS ts->J5 c ts=.ok ps b->(J0 ps).length+603*b.length<=603*ts.length/\TS b:=by induction c with|nil=>(intro ts ps b d e;simp only[J5,Rs.ok.injEq]at e;obtain⟨rfl,rfl⟩:=e;exact⟨by simp[J0],d⟩)|cons f c o=>intro ts ps b d e;unfold J5 at e;split at e;exact bt;rename_i a k m;split at e;exact bt;rename_i Zaa vs n;simp only[Rs.ok.injEq]at e;obtain⟨rfl,rfl⟩:=e;have j:=h f (List.mem_cons_self ..) ts a k d m;have i:=o (λg l=>h g (List.mem_cons_of_mem _ l)) k Zaa vs j.2 n;refine⟨?_,i.2⟩;have:=j.1;have:=i.1;simp[J0];omega
theorem jh0(m:Nat)(f:List Tk->Rs Nd)(h:Fits f):∀ts ps b,TS ts->Y8 m f ts=.ok ps b->(J0 ps).length+603*b.length<=603*ts.length/\TS b:=by induction m with|zero=>(intro ts ps b _ e;exact absurd e (by simp[Y8]))|succ m l=>intro ts ps b g e;cases ts with|nil=>(exact absurd e (by simp[Y8]))|cons t ts=>unfold Y8 at e;split at e;simp only[Rs.ok.injEq]at e;obtain⟨rfl,rfl⟩:=e;exact⟨by simp[J0],g⟩;split at e;exact bt;rename_i a i j;split at e;exact bt;rename_i Zaa vs k;simp only[Rs.ok.injEq]at e;obtain⟨rfl,rfl⟩:=e;have d:=h _ a i g j;have c:=l i Zaa vs d.2 k;refine⟨?_,c.2⟩;have:=d.1;have:=c.1;simp[J0]at*;omega
theorem FJ(s:ByteArray):s.toList.length=s.size:=Z6 s
theorem B3(k:Int)(a:k=4\/k=5):Fits (W8 k):=by intro ts nd d b e;cases ts with|nil=>(exact absurd e (by simp[W8]))|cons t ts=>simp only[W8]at e;split at e;exact bt;rename_i v _;split at e;exact bt;simp only[Rs.ok.injEq]at e;obtain⟨rfl,rfl⟩:=e;refine⟨?_,b.tail⟩;have:=LD v;have c:¬(k=1\/k=2\/([]:List Nd)≠[]):=by{rcases a with rfl|rfl<;>simp};rw[Z0,aF c,eY,aJ a];exact aM
theorem jX5(k:Int)(w:ByteArray)(v:Int)(h:w.size<=600):(eY k w v).length<=600:=by unfold eY;split;have:=LD v;omega;rw[FJ];exact h
theorem B4(k:Int)(w:ByteArray)(v:Int)(ps:List Nd)(h:w.size<=600):(Z0 (.mk k w v ps)).length<=602+(J0 ps).length:=by have:=jX5 k w v h;rw[Z0];split;exact aM;omega
theorem S'{e k:Int}{w:ByteArray}{r:Rs (List Nd)}{nd:Nd}{ts a:List Tk}(c:w.size<=600)(f:∀ps b,r=.ok ps b->(J0 ps).length+603*b.length<=603*ts.length/\TS b)(h:Z5 e k w r=.ok nd a):(Z0 nd).length+603*a.length<=603*ts.length/\TS a:=by cases r with|no e p=>(exact absurd h (by simp[Z5]))|ok ps b=>obtain⟨h1,d⟩:=f ps b rfl;cases b with|nil=>(exact absurd h (by simp[Z5,U0]))|cons v vs=>simp only[Z5,U0]at h;split at h;simp only[Rs.ok.injEq]at h;obtain⟨rfl,rfl⟩:=h;have:=B4 k w 0 ps c;refine⟨?_,d.tail⟩;exact wo;exact Zcm
theorem LF{f:List Tk->Rs Nd}(h:Fits f):Fits (eJ f):=by intro ts _ _ a e;cases ts with|nil=>(exact absurd e (by simp[eJ]))|cons t ts=>simp only[eJ]at e;split at e;exact bt;exact h _ _ _ a e
theorem qI(N:List Nm)(n:Nat):∀d,Fits (Z4 N n d):=by induction n with|zero=>(intro d ts nd c _ e;exact absurd e yB)|succ n l=>intro d ts nd c b e;cases ts with|nil=>(exact absurd e yB)|cons t ts=>unfold Z4 at e;split at e;split at e;exact bt;split at e;exact bt;rename_i u h;split at e;split at e;exact bt;rename_i a _;split at e;exact bt;have g:TS h:=b.tail.tail;have i:=S' (ts:=h) (b.tail u (List.mem_cons_self ..)) (λps vs k=>qH _ (λf j=>by rw[(List.mem_replicate.1 j).2];exact LF (l (d+1))) h ps vs g k) e;refine⟨?_,i.2⟩;have:=i.1;exact aM;exact bt;split at e;split at e;exact bt;split at e;simp only[Rs.ok.injEq]at e;obtain⟨rfl,rfl⟩:=e;refine⟨?_,b.tail⟩;have:=B4 3 t.aB 0 [] (b t (List.mem_cons_self ..));simp[J0]at*;omega;exact bt;exact B3 4 (Or.inl rfl) _ _ _ b e
theorem LG(N:List Nm)(n:Nat):∀d,Fits (Z8 N n d):=by induction n with|zero=>(intro d ts nd b _ e;exact absurd e tD)|succ n ih=>intro d ts nd b a e;cases ts with|nil=>(exact absurd e tD)|cons t ts=>unfold Z8 at e;split at e;split at e;exact bt;split at e;exact bt;rename_i u us;split at e;exact bt;rename_i ks _;have sd:TS us:=a.tail.tail;have g:∀ps vs,mD ks.2 n (Z8 N n (d+1)) (Z4 N n (d+1)) (W8 5) us=.ok ps vs->(J0 ps).length+603*vs.length<=603*us.length/\TS vs:=by{intro ps vs hr;unfold mD at hr;split at hr;exact ZgT;split at hr;exact ZgT;split at hr;exact qH _ (by intro f hf;simp at hf;subst hf;exact qI N n (d+1)) us ps vs sd hr;split at hr;exact qH _ (by intro f hf;simp at hf;rcases hf with rfl|rfl;exact qI N n (d+1);exact B3 5 (Or.inr rfl)) us ps vs sd hr;exact jh0 n _ (ih (d+1)) us ps vs sd hr};have c:=S' (ts:=us) (a.tail u (List.mem_cons_self ..)) g e;refine⟨?_,c.2⟩;have:=c.1;exact aM;split at e;simp only[Rs.ok.injEq]at e;obtain⟨rfl,rfl⟩:=e;refine⟨?_,a.tail⟩;have:=B4 0 t.aB 0 [] (a t (List.mem_cons_self ..));simp[J0]at*;omega;exact bt
end Ar
namespace Ar
def jI(i:Nat)(wd:List UInt8):List Tk:=if wd=[] then [] else [⟨i-wd.length,⟨wd.toArray⟩⟩]
def cY:Nat->List UInt8->List UInt8->List Tk
 | i,wd,[]=>jI i wd++[⟨i,ByteArray.empty⟩]
 | i,wd,c::r=>if kE c then jI i wd++⟨i,⟨#[c]⟩⟩::cY (i+1) [] r else if mC c then jI i wd++cY (i+1) [] r else cY (i+1) (wd++[c]) r
def bQ(l:List UInt8):List Tk:=cY 0 [] l
theorem LH(i:Nat)(wd:List UInt8):(jI i wd).length=if wd=[]then 0 else 1:=by unfold jI;split<;>rfl
theorem jX7(l:List UInt8):∀i wd,(cY i wd l).length<=l.length+1+(if wd=[]then 0 else 1):=by induction l with|nil=>(intro i wd;simp[cY,LH];omega)|cons c r a=>intro i wd;unfold cY;split;have:=a (i+1) [];simp[LH]at this⊢;omega;split;have:=a (i+1) [];simp[LH]at this⊢;omega;have:=a (i+1) (wd++[c]);simp at this⊢;exact ow
theorem LI(l:List UInt8):(bQ l).length<=l.length+1:=by have:=jX7 l 0 [];simpa[bQ]using this
theorem mF(l:List UInt8):(ByteArray.mk l.toArray).toList=l:=Sf
theorem Ta{t:Tk}{ts:List Tk}(h:TW ts)(a:t.aB.toList≠[]):TW (t::ts):=by cases ts with|nil=>(exact absurd rfl h.ne)|cons u b=>exact⟨a,h⟩
theorem LJ{i:Nat}{wd:List UInt8}{ts:List Tk}(h:TW ts):TW (jI i wd++ts):=by unfold jI;split;exact h;rename_i a;exact Ta h (by rw[mF];exact a)
theorem se:ByteArray.empty.toList=[]:=by rw[ByteArray.toList_eq];rfl
theorem FK(l:List UInt8):∀i wd,TW (cY i wd l):=by induction l with|nil=>(intro i wd;exact LJ se)|cons c r a=>intro i wd;unfold cY;split;exact LJ (Ta (a _ _) (by rw[show(ByteArray.mk #[c]).toList=[c]from mF [c]];simp));split;exact LJ (a _ _);exact a _ _
theorem LK(l:List UInt8)(B:Nat):∀i wd,wd.length+l.length<=B->1<=B->∀t∈cY i wd l,t.aB.size<=B:=by
 have b:∀i wd,wd.length<=B->∀t∈jI i wd,t.aB.size<=B:=by intro i wd d t a;unfold jI at a;split at a;exact absurd a aC;simp at a;rw[a,<-FJ,mF];exact d
 induction l with|nil=>(intro i wd d _ t a;unfold cY at a;rcases List.mem_append.1 a with h|h;exact b _ _ (by simp at d;omega) t h;simp at h;rw[h,<-FJ,se];simp)|cons c r e=>intro i wd d h1 t a;simp at d;unfold cY at a;split at a;rcases List.mem_append.1 a with h|h;exact b _ _ aA t h;rcases List.mem_cons.1 h with h|h;rw[h,<-FJ,show(ByteArray.mk #[c]).toList=[c]from mF [c]];exact yx;exact e _ _ aM h1 t h;split at a;rcases List.mem_append.1 a with h|h;exact b _ _ aA t h;exact e _ _ aM h1 t h;exact e _ _ aM h1 t a
end Ar
namespace Ar
def iB(c:UInt8):Bool := !mC c && !kE c
def dA(l:List UInt8):Int:=if l=[] then 0 else if l=[40] then 1 else if l=[41] then 2 else 3
theorem jw8(u:List UInt8):∀i wd rest,u.all iB=true->cY i wd (u++rest)=cY (i+u.length) (wd++u) rest:=by induction u with|nil=>(intro i wd rest _;simp)|cons c u b=>intro i wd rest h;simp only[List.all_cons,Bool.and_eq_true]at h;obtain⟨a,d⟩:=h;simp only[iB,Bool.and_eq_true,Bool.not_eq_true']at a;rw[List.cons_append,cY,if_neg (by rw[a.2];decide),if_neg (by rw[a.1];decide),b _ _ _ d];simp;have:i+1+u.length=i+(u.length+1):=aA;rw[this]
theorem jM3(j:Nat)(wd rest:List UInt8)(e:wd≠[])(g:∀c r,rest=c::r->iB c=false):cY j wd rest=⟨j-wd.length,⟨wd.toArray⟩⟩::cY j [] rest:=by
 have b:jI j wd=[⟨j-wd.length,⟨wd.toArray⟩⟩]:=by rw[jI,aF e]
 have a:jI j []=[]:=rfl;cases rest with|nil=>(simp[cY,b,a])|cons c r=>have d:=g c r rfl;cases hb:kE c with|true=>(simp[cY,hb,b,a])|false=>have f:mC c=true:=by{cases h:mC c with|true=>(rfl)|false=>rw[iB,h,hb]at d;exact absurd d aE};simp[cY,hb,f,b,a]
theorem jM4(k:Nat)(u rest:List UInt8)(d:u≠[])(a:u.all iB=true)(b:∀c r,rest=c::r->iB c=false):cY k [] (u++rest)=⟨k,⟨u.toArray⟩⟩::cY (k+u.length) [] rest:=by rw[jw8 u k [] rest a,qz,jM3 _ _ _ d b];have:k+u.length-u.length=k:=aA;rw[this]
theorem Zc4(k:Nat)(c:UInt8)(r:List UInt8)(h:kE c=true):cY k [] (c::r)=⟨k,⟨#[c]⟩⟩::cY (k+1) [] r:=by rw[cY,aJ h];rfl
theorem Zc5(k:Nat)(c:UInt8)(r:List UInt8)(h:mC c=true):cY k [] (c::r)=cY (k+1) [] r:=by
 have hb:kE c=false:=by unfold mC at h;simp at h;rcases h with(rfl|rfl)|rfl<;>decide
 rw[cY,aF (by rw[hb];decide),aJ h];rfl
theorem jw9{u:List UInt8}(c:u≠[])(hp:u.all iB=true):dA u=3:=by have b:u≠[40]:=ZjB;have a:u≠[41]:=ZjB;rw[dA,aF c,aF b,aF a]
end Ar
namespace Ar
theorem FL(d b:List (List Tk->Rs Nd)):∀ts,J5 (d++b) ts=match J5 d ts with|.no e p=>.no e p|.ok Zaa c=>match J5 b c with|.no e p=>.no e p|.ok bs vs=>.ok (Zaa++bs) vs:=by induction d with|nil=>(intro ts;simp only[List.nil_append,J5];cases J5 b ts<;>simp)|cons f h g=>intro ts;simp only[List.cons_append,J5];cases f ts with|no e p=>(simp)|ok a c=>simp only[g c];cases J5 h c with|no e p=>(simp)|ok Zaa vs=>simp only;cases J5 b vs<;>simp
theorem tZ(b:List (List Tk->Rs Nd)):∀ts ps a,J5 b ts=.ok ps a->ps.length=b.length:=by induction b with|nil=>(intro ts ps a e;simp only[J5,Rs.ok.injEq]at e;rw[<-e.1];rfl)|cons f b c=>intro ts ps a e;unfold J5 at e;split at e;exact bt;split at e;exact bt;rename_i Zaa vs d;simp only[Rs.ok.injEq]at e;rw[<-e.1,List.length_cons,List.length_cons,c _ _ _ d]
theorem LL{f:List Tk->Rs Nd}{j:Nat}{a c b:List Tk}{ps:List Nd}{p:Nd}(h:J5 (List.replicate j f) a=.ok ps c)(d:f c=.ok p b):J5 (List.replicate (j+1) f) a=.ok (ps++[p]) b:=by rw[List.replicate_succ',FL,h];simp only[J5,d]
theorem LM{f:List Tk->Rs Nd}{j k:Nat}{a b:List Tk}{ps:List Nd}{e:Int}{p:Nat}(h:J5 (List.replicate j f) a=.ok ps b)(c:f b=.no e p)(d:j<k):J5 (List.replicate k f) a=.no e p:=by obtain⟨m,rfl⟩:∃m,k=j+(m+1):=⟨k-j-1,aA⟩;rw[<-List.replicate_append_replicate,FL,h];simp only[List.replicate_succ,J5,c]
end Ar
namespace Ar
def oG(ps:List Nd):Rs (List Nd)->Rs (List Nd)
 | .no e p=>.no e p
 | .ok qs ts=>.ok (ps++qs) ts
theorem Tc(r:Rs (List Nd)):oG [] r=r:=by cases r<;>simp[oG]
theorem Td{F:List Tk->Rs Nd}{m:Nat}{ps:List Nd}{v:Tk}{vs a:List Tk}{nd:Nd}(c:¬v.aB.toList=[41])(b:F (v::vs)=.ok nd a):oG ps (Y8 (m+1) F (v::vs))=oG (ps++[nd]) (Y8 m F a):=by simp only[Y8,aF c,b];cases Y8 m F a<;>simp[oG]
theorem Te{F:List Tk->Rs Nd}{m:Nat}{ps:List Nd}{v:Tk}{vs:List Tk}{e:Int}{p:Nat}(b:¬v.aB.toList=[41])(a:F (v::vs)=.no e p):oG ps (Y8 (m+1) F (v::vs))=.no e p:=by rw[Y8,aF b,a];rfl
theorem Tf{F:List Tk->Rs Nd}{m:Nat}{ps:List Nd}{v:Tk}{vs:List Tk}(a:v.aB.toList=[41]):oG ps (Y8 (m+1) F (v::vs))=.ok ps (v::vs):=by rw[Y8,aJ a];simp[oG]
theorem Tg{f:List Tk->Rs Nd}(h:Fits f){ts a:List Tk}{nd:Nd}(b:TS ts)(e:f ts=.ok nd a):a.length+1<=ts.length:=by have:=(h ts nd a b e).1;omega
theorem yU(c:List (List Tk->Rs Nd))(h:∀f∈c,Fits f):∀ts ps b,TS ts->J5 c ts=.ok ps b->c.length+b.length<=ts.length:=by induction c with|nil=>(intro ts ps b d e;simp only[J5,Rs.ok.injEq]at e;obtain⟨rfl,rfl⟩:=e;simp)|cons f c m=>intro ts ps b d e;unfold J5 at e;split at e;exact bt;rename_i a j i;split at e;exact bt;rename_i Zaa vs l;simp only[Rs.ok.injEq]at e;obtain⟨rfl,rfl⟩:=e;have o:=Tg (h f (List.mem_cons_self ..)) d i;have n:=m (λg k=>h g (List.mem_cons_of_mem _ k)) j Zaa vs (h f (List.mem_cons_self ..) ts a j d i).2 l;exact aM
end Ar
namespace Ar
def J7(N:List Nm)(l:List UInt8)(a:Int):Int :=
 if X7 l=false then 3 else if a<0\/3<a then 4 else if (k9 N l).isSome=true then 7 else if 20<=N.length then 8 else 0
def Y0(N:List Nm)(F:Int)(s:ByteArray)(a:Int):List Nm:=if J7 N s.toList a=0 then N++[⟨s,a,F⟩] else N
end Ar
namespace Ar
def Gd(n:Nat)(f:List Tk->Rs Nd):Prop:=∀ ts,TW ts->ts.length<=n->(∀ e p,f ts=.no e p->e≠0)/\(∀ nd a,f ts=.ok nd a->TW a/\a.length<ts.length)
def FM(r:Rs (List Nd))(ts:List Tk):Prop:=(∀ e p,r=.no e p->e≠0)/\(∀ ps a,r=.ok ps a->TW a/\a.length<=ts.length)
theorem Gd.mono{n m:Nat}{f:List Tk->Rs Nd}(h:Gd n f)(b:m<=n):Gd m f:=λts a _=>h ts a aA
theorem B5(n:Nat)(c:List (List Tk->Rs Nd))(h:∀f∈c,Gd n f):∀ts,TW ts->ts.length<=n->FM (J5 c ts) ts:=by induction c with|nil=>(intro ts i _;exact⟨λe p h=>by simp[J5]at h,λps b h=>by simp[J5]at h;obtain⟨_,rfl⟩:=h;exact⟨i,Nat.le_refl _⟩⟩)|cons f c r=>intro ts i q;have hf:=h f (List.mem_cons_self ..) ts i q;have d:=r (λg m=>h g (List.mem_cons_of_mem _ m));unfold J5;cases hr:f ts with|no e p=>(exact⟨λj l h'=>Zhb,λps b h'=>tF⟩)|ok a k=>have o:=hf.2 _ _ hr;have h2:=d k o.1 aA;cases hq:J5 c k with|no e p=>(exact⟨λj l h'=>Zh4,λps b h'=>Sv⟩)|ok Zaa vs=>have h3:=h2.2 _ _ hq;exact⟨λj l h'=>Sv,λps b h'=>Zjq⟩
theorem jM7(n:Nat)(f:List Tk->Rs Nd)(h:Gd n f)(m:Nat):∀ts,TW ts->ts.length<=n->ts.length<=m->FM (Y8 m f ts) ts:=by induction m with|zero=>(intro ts c _ g;cases ts with|nil=>(exact absurd c qx)|cons t ts=>simp at g)|succ m o=>intro ts c g _;cases ts with|nil=>(exact absurd c qx)|cons t ts=>have hf:=h (t::ts) c g;unfold Y8;by_cases k:t.aB.toList=[41];rw[if_pos k];exact⟨λd i h'=>tF,λps b h'=>by simp at h';obtain⟨_,rfl⟩:=h';exact⟨c,Nat.le_refl _⟩⟩;rw[if_neg k];cases hr:f (t::ts)with|no e p=>(exact⟨λd i h'=>Zhb,λps b h'=>tF⟩)|ok a j=>have l:=hf.2 _ _ hr;have h2:=o j l.1 aA aA;cases hq:Y8 m f j with|no e p=>(exact⟨λd i h'=>Zh4,λps b h'=>Sv⟩)|ok Zaa vs=>have h3:=h2.2 _ _ hq;exact⟨λd i h'=>Sv,λps b h'=>Zjq⟩
theorem Th(n:Nat)(k:Int):Gd n (W8 k):=by intro ts b _;cases ts with|nil=>(exact absurd b qx)|cons t ts=>simp only[W8];cases d:numOf t.aB.toList with|none=>(exact⟨λe' p' h'=>Zjz,λps bh h'=>tF⟩)|some v=>have a:t.aB.toList≠[]:=by{intro e;rw[e,show numOf []=none from aE]at d;cases d};by_cases c:v< -1000\/1000<v;simp only[aJ c];exact Zbr;simp only[aF c];exact⟨λe' p' h'=>tF,λps bh h'=>by simp at h';obtain⟨_,rfl⟩:=h';exact⟨b.tail a,aC⟩⟩
theorem Ti{e k:Int}{w:ByteArray}{r:Rs (List Nd)}{ts:List Tk}(he:e≠0)(h:FM r ts):(∀e' p,Z5 e k w r=.no e' p->e'≠0)/\(∀nd bh,Z5 e k w r=.ok nd bh->TW bh/\bh.length<ts.length):=by cases r with|no i g=>(exact⟨λe' p' h'=>by simp[Z5]at h';obtain⟨rfl,rfl⟩:=h';exact h.1 _ _ rfl,λps bh h'=>by simp[Z5]at h'⟩)|ok ps f=>have a:=h.2 _ _ rfl;cases f with|nil=>(exact absurd a.1 qx)|cons v vs=>simp only[Z5,U0];by_cases b:v.aB.toList=[41];rw[aJ b];refine⟨λe' p' h'=>tF,λnd bh h'=>?_⟩;simp at h';obtain⟨_,rfl⟩:=h';have d:=a.2;exact⟨a.1.tail (by rw[b];simp),by simp at d;omega⟩;rw[aF b];by_cases c:v.aB.toList=[];rw[aJ c];exact Zbr;rw[aF c];exact⟨λe' p' h'=>ZhE,λps bh h'=>tF⟩
theorem jX8{n:Nat}{f:List Tk->Rs Nd}(h:Gd n f):Gd n (eJ f):=by intro ts a c;cases ts with|nil=>(exact absurd a qx)|cons t ts=>simp only[eJ];by_cases b:t.aB.toList=[41];rw[aJ b];exact Zbr;rw[aF b];exact h _ a c
theorem sf{e:Int}{p:Nat}{ts:List Tk}(he:e≠0):(∀b c,(Rs.no e p:Rs Nd)=.no b c->b≠0)/\(∀nd a,(Rs.no e p:Rs Nd)=.ok nd a->TW a/\a.length<ts.length):=⟨λb c h'=>ZhE,λ_ a h'=>tF⟩
theorem Tj{nd:Nd}{b ts:List Tk}(h:TW b)(f:b.length<ts.length):(∀c e,(Rs.ok nd b:Rs Nd)=.no c e->c≠0)/\(∀d a,(Rs.ok nd b:Rs Nd)=.ok d a->TW a/\a.length<ts.length):=⟨λc e h'=>tF,λ_ a h'=>by simp at h';obtain⟨_,rfl⟩:=h';exact⟨h,f⟩⟩
theorem jM8(N:List Nm)(n:Nat):∀d,Gd n (Z4 N n d):=by induction n with|zero=>(intro d ts hw hl;cases ts with|nil=>(exact absurd hw qx)|cons t ts=>simp at hl)|succ n ih=>intro d ts hw hl;cases ts with|nil=>(exact absurd hw qx)|cons t ts=>unfold Z4;by_cases ho:t.aB.toList=[40];{have h1:=hw.tail (by rw[ho];simp);rw[if_pos ho];by_cases hd:30<=d;{rw[if_pos hd];exact sf aE};rw[if_neg hd];cases ts with|nil=>(exact absurd h1 qx)|cons u us=>simp only;by_cases hn:X7 u.aB.toList=true;{rw[if_pos hn];cases ha:k9 N u.aB.toList with|none=>(exact sf aE)|some a=>simp only;by_cases h0:a=0;{rw[if_pos h0];exact sf aE};rw[if_neg h0];have LN:u.aB.toList≠[]:=ZjC;have h2:=h1.tail LN;have h3:=Ti (k:=3) (w:=u.aB) (aE:(4:Int)≠0) (B5 n (List.replicate a.toNat (eJ (Z4 N n (d+1)))) (λf hf=>by rw[(List.mem_replicate.1 hf).2];exact jX8 (ih (d+1))) us h2 Sq);exact⟨h3.1,λnd bh h'=>⟨(h3.2 nd bh h').1,ZjI⟩⟩};rw[if_neg hn];exact sf aE};rw[if_neg ho];by_cases hn:X7 t.aB.toList=true;{rw[if_pos hn];cases ha:k9 N t.aB.toList with|none=>(exact sf aE)|some a=>simp only;by_cases h0:a=0;{rw[if_pos h0];have LN:t.aB.toList≠[]:=ZjC;exact Tj (hw.tail LN) aC};rw[if_neg h0];exact sf aE};rw[if_neg hn];exact Th (n+1) 4 _ hw hl
theorem jM9(N:List Nm)(n:Nat):∀d,Gd n (Z8 N n d):=by induction n with|zero=>(intro d ts h hl;cases ts with|nil=>(exact absurd h qx)|cons t ts=>simp at hl)|succ n r=>intro d ts h hl;cases ts with|nil=>(exact absurd h qx)|cons t ts=>unfold Z8;by_cases j:t.aB.toList=[40];{have m:=h.tail (by rw[j];simp);rw[if_pos j];by_cases hd:30<=d;rw[if_pos hd];exact sf aE;rw[if_neg hd];cases ts with|nil=>(exact absurd m qx)|cons u b=>simp only;cases p:jH u.aB.toList with|none=>(exact sf aE)|some ks=>simp only;have g:u.aB.toList≠[]:=by{intro e;rw[e,show jH []=none from aE]at p;cases p};have c:=m.tail g;have a:b.length<=n:=Sq;have hF:=r (d+1);have hT:=jM8 N n (d+1);have q:FM (mD ks.2 n (Z8 N n (d+1)) (Z4 N n (d+1)) (W8 5) b) b:=by{unfold mD;by_cases o:ks.2=0;rw[if_pos o];exact B5 n _ SJ b c a;rw[if_neg o];by_cases s1:ks.2=1;rw[if_pos s1];exact B5 n _ SJ b c a;rw[if_neg s1];by_cases s3:ks.2=3;rw[if_pos s3];exact B5 n _ ZhO b c a;rw[if_neg s3];by_cases l:ks.2=4;{rw[if_pos l];exact B5 n _ (by intro f hf;simp at hf;rcases hf with rfl|rfl<;>first|(exact hT)|exact Th n 5) b c a};rw[if_neg l];exact jM7 n _ hF n b c a a};have h3:=Ti (k:=ks.1) (w:=u.aB) (aE:(2:Int)≠0) q;exact⟨h3.1,λnd bh h'=>⟨(h3.2 nd bh h').1,ZjI⟩⟩};rw[if_neg j];by_cases i:t.aB.toList=iA\/t.aB.toList=jr;rw[if_pos i];exact Tj (h.tail (by rcases i with e|e<;>rw[e]<;>decide)) aC;rw[if_neg i];exact sf aE
end Ar
namespace Ar
def Y3(t:Bool)(k:Int):Bool:=if t then k==3 || k==4 else k==2
mutual
def Z1(t:Bool):Nd->List Nd
 | .mk k w v ps=>(if Y3 t k=true then [.mk k w v ps] else [])++z8 t ps
def z8(t:Bool):List Nd->List Nd
 | []=>[]
 | p::ps=>Z1 t p++z8 t ps
end
theorem FN(t:Bool)(Zaa bs:List Nd):z8 t (Zaa++bs)=z8 t Zaa++z8 t bs:=by induction Zaa with|nil=>(rfl)|cons a Zaa b=>simp[z8,b]
theorem Z9{t:Bool}{x:Nd}{ps:List Nd}:x∈z8 t ps↔∃p∈ps,x∈Z1 t p:=by induction ps with|nil=>(simp[z8])|cons p ps a=>simp[z8,a]
def qJ(l:List (List UInt8))(f:List UInt8):List (List UInt8):=if f∈l then l else l++[f]
def kG(l:List (List UInt8))(xs:List Nd):List (List UInt8):=xs.foldl (fun l x=>qJ l (Z0 x)) l
theorem qi9(l:List (List UInt8))(xs ys:List Nd):kG l (xs++ys)=kG (kG l xs) ys:=by simp[kG]
theorem Tl(l:List (List UInt8))(x:Nd)(xs:List Nd):kG l (x::xs)=kG (qJ l (Z0 x)) xs:=rfl
theorem jw0{l:List (List UInt8)}{f g:List UInt8}:g∈qJ l f↔g∈l\/g=f:=by unfold qJ;split;rename_i h;exact ZhG;simp
theorem qO8{l:List (List UInt8)}{f:List UInt8}(h:l.Nodup):(qJ l f).Nodup:=by unfold qJ;split;exact h;rename_i c;rw[Fa];refine⟨h,aC,?_⟩;intro a d b hb e;simp at hb;subst hb e;exact c d
theorem qO9{xs:List Nd}:∀{l:List (List UInt8)}{g:List UInt8},g∈kG l xs↔g∈l\/∃x∈xs,g=Z0 x:=by induction xs with|nil=>(intro l g;simp[kG])|cons x xs a=>intro l g;rw[Tl,a,jw0];simp[or_assoc]
theorem qt6{xs:List Nd}:∀{l:List (List UInt8)},l.Nodup->(kG l xs).Nodup:=by induction xs with|nil=>(intro l h;exact h)|cons x xs a=>intro l h;rw[Tl];exact a (qO8 h)
theorem qD7{α:Type}[DecidableEq α]:∀{a b:List α},a.Nodup->b.Nodup->(∀x,x∈a↔x∈b)->a.length=b.length:=by intro a;induction a with|nil=>(intro b _ _ h;cases b with|nil=>(rfl)|cons y b=>exact absurd ((h y).2 aC) aC)|cons x a i=>intro b f hb h;have g:x∈b:=(h x).1 aC;have j:=i (b:=b.erase x) (List.nodup_cons.1 f).2 (hb.erase x) (λy=>by rw[List.Nodup.mem_erase_iff hb];constructor;intro c;exact⟨λe=>(List.nodup_cons.1 f).1 (e▸c),(h y).1 (List.mem_cons_of_mem _ c)⟩;rintro⟨d,c⟩;rcases List.mem_cons.1 ((h y).2 c)with e|e;exact absurd e d;exact e);rw[List.length_cons,j,List.length_erase_of_mem g];have:=List.length_pos_of_mem g;omega
theorem jh1{α β:Type}{f:α->β}:∀{l:List α},l.Nodup->(∀x∈l,∀y∈l,f x=f y->x=y)->(l.map f).Nodup:=by intro l;induction l with|nil=>(intro _ _;simp)|cons a l g=>intro h c;rw[List.map_cons,List.nodup_cons];refine⟨?_,g (List.nodup_cons.1 h).2 (λx i y b=>c x (List.mem_cons_of_mem _ i) y (List.mem_cons_of_mem _ b))⟩;intro d;obtain⟨y,b,e⟩:=List.mem_map.1 d;have:=c y (List.mem_cons_of_mem _ b) a aC e;subst this;exact(List.nodup_cons.1 h).1 b
theorem jw1{xs T:List Nd}(e:T.Nodup)(c:∀x,x∈T↔x∈xs)(a:∀x∈xs,∀y∈xs,Z0 x=Z0 y->x=y):(kG [] xs).length=T.length:=by rw[<-gh (f:=Z0) (as:=T)];refine qD7 (qt6 rQ) (jh1 e (λx b y d=>a x ((c x).1 b) y ((c y).1 d))) (λ_=>?_);rw[qO9];constructor;rintro(h|⟨x,b,rfl⟩);exact yv;exact dn.2 ⟨x,(c x).2 b,rfl⟩;intro h;obtain⟨x,b,rfl⟩:=dn.1 h;exact .inr ⟨x,(c x).1 b,rfl⟩
end Ar
namespace Ar
inductive qS:Nd->Prop
 | mk {k v:Int} {w:ByteArray} {ps:List Nd} (h:k=4\/k=5 -> -1000<=v/\v<=1000) (hp:∀ p∈ps,qS p):qS (.mk k w v ps)
def xm(f:List Tk->Rs Nd):Prop:=∀ ts nd a,f ts=.ok nd a->qS nd
theorem Cn(d:List (List Tk->Rs Nd))(h:∀f∈d,xm f):∀ts ps b,J5 d ts=.ok ps b->∀p∈ps,qS p:=by induction d with|nil=>(intro ts ps b e;simp[J5]at e;obtain⟨rfl,rfl⟩:=e;intro p c;exact absurd c aC)|cons f d l=>intro ts ps b e;unfold J5 at e;split at e;exact bt;rename_i a m j;split at e;exact bt;rename_i Zaa vs k;simp only[Rs.ok.injEq]at e;obtain⟨rfl,rfl⟩:=e;intro p c;rcases List.mem_cons.1 c with rfl|c;exact h f (List.mem_cons_self ..) _ _ _ j;exact l (λg i=>h g (List.mem_cons_of_mem _ i)) _ _ _ k p c
theorem jx0(m:Nat)(f:List Tk->Rs Nd)(h:xm f):∀ts ps b,Y8 m f ts=.ok ps b->∀p∈ps,qS p:=by induction m with|zero=>(intro ts ps b e;exact absurd e (by simp[Y8]))|succ m g=>intro ts ps b e;cases ts with|nil=>(exact absurd e (by simp[Y8]))|cons t ts=>unfold Y8 at e;split at e;simp only[Rs.ok.injEq]at e;obtain⟨rfl,rfl⟩:=e;intro p c;exact absurd c aC;split at e;exact bt;rename_i a j d;split at e;exact bt;rename_i Zaa vs i;simp only[Rs.ok.injEq]at e;obtain⟨rfl,rfl⟩:=e;intro p c;rcases List.mem_cons.1 c with rfl|c;exact h _ _ _ d;exact g _ _ _ i p c
theorem UP(k:Int):xm (W8 k):=by intro ts nd b e;cases ts with|nil=>(exact absurd e (by simp[W8]))|cons t ts=>simp only[W8]at e;split at e;exact bt;split at e;exact bt;rename_i v _ c;simp only[Rs.ok.injEq]at e;obtain⟨rfl,rfl⟩:=e;exact .mk (λ_=>aA) (λp a=>absurd a aC)
theorem UQ{e k:Int}{w:ByteArray}{r:Rs (List Nd)}{nd:Nd}{b:List Tk}(c:¬(k=4\/k=5))(d:∀ps a,r=.ok ps a->∀p∈ps,qS p)(h:Z5 e k w r=.ok nd b):qS nd:=by cases r with|no e p=>(exact absurd h (by simp[Z5]))|ok ps a=>simp only[Z5]at h;cases a with|nil=>(exact absurd h (by simp[U0]))|cons v vs=>simp only[U0]at h;split at h;simp only[Rs.ok.injEq]at h;obtain⟨rfl,rfl⟩:=h;exact .mk (λh=>absurd h c) (d ps _ rfl);exact Zcm
theorem jM5{f:List Tk->Rs Nd}(h:xm f):xm (eJ f):=by intro ts _ _ e;cases ts with|nil=>(exact absurd e (by simp[eJ]))|cons t ts=>simp only[eJ]at e;split at e;exact bt;exact h _ _ _ e
theorem jx1(N:List Nm)(n:Nat):∀d,xm (Z4 N n d):=by induction n with|zero=>(intro d ts nd b e;exact absurd e yB)|succ n g=>intro d ts nd b e;cases ts with|nil=>(exact absurd e yB)|cons t ts=>unfold Z4 at e;split at e;split at e;exact bt;split at e;exact bt;rename_i u c;split at e;split at e;exact bt;rename_i a _;split at e;exact bt;exact UQ aE (λps vs j=>Cn _ (λf i=>by rw[(List.mem_replicate.1 i).2];exact jM5 (g (d+1))) c ps vs j) e;exact bt;split at e;split at e;exact bt;exact ZjV;exact UP 4 _ _ _ e
theorem jM6{l:List UInt8}{ks:Int×Int}(h:jH l=some ks):¬(ks.1=4\/ks.1=5):=by
 unfold jH at h;repeat' (split at h)
 all_goals first|(simp only[yG]at h;subst h;decide)|exact absurd h aC
theorem jx2(N:List Nm)(n:Nat):∀d,xm (Z8 N n d):=by induction n with|zero=>(intro d ts nd c e;exact absurd e tD)|succ n i=>intro d ts nd c e;cases ts with|nil=>(exact absurd e tD)|cons t ts=>unfold Z8 at e;split at e;{split at e;exact bt;split at e;exact bt;rename_i u b;split at e;exact bt;rename_i ks g;refine UQ (jM6 g) (λps vs a=>?_) e;unfold mD at a;have hT:=jx1 N n (d+1);have hF:=i (d+1);split at a;exact Cn _ SJ b ps vs a;split at a;exact Cn _ SJ b ps vs a;split at a;exact Cn _ ZhO b ps vs a;split at a;{exact Cn _ (by intro f hf;simp at hf;rcases hf with rfl|rfl<;>first|(exact hT)|exact UP 5) b ps vs a};exact jx0 _ _ hF b ps vs a};exact ZjV
theorem UR(f:Nat):∀n,n<10^(f+1)->oF f n=Lib.decDigits n:=by induction f with|zero=>(intro n a;rw[Lib.decDigits,dif_pos (by simpa using a)];rfl)|succ f b=>intro n a;unfold oF;rw[Lib.decDigits];by_cases h:n<10;rw[if_pos h,dif_pos h];rfl;rw[if_neg h,dif_neg h,b (n/10) (by rw[Nat.pow_succ]at a;omega)];rfl
theorem jx3{v:Int}(a:-1000<=v)(b:v<=1000):Lib.itoa v=itoa v:=by unfold Lib.itoa itoa;by_cases h:v<0;rw[aJ h,aJ h,UR 3 _ aA,show v.natAbs=(-v).toNat from aA];rw[aF h,aF h,UR 3 _ aA]
end Ar
namespace Ar
inductive Y2:Nd->Prop
 | num {v:Int} (h1:-1000<=v) (h2:v<=1000):Y2 (.mk 4 ByteArray.empty v [])
 | app {w:ByteArray} {ps:List Nd} (hw:X7 w.toList=true) (hl:ps.length<=3) (hp:∀ p∈ps,Y2 p):Y2 (.mk 3 w 0 ps)
def mM(l:List UInt8):Prop:=l=[61]\/l=[60]\/l=[60,61]\/l=fA
instance (l:List UInt8):Decidable (mM l):=inferInstanceAs (Decidable (l=[61]\/l=[60]\/l=[60,61]\/l=fA))
inductive da:Nd->Prop
 | truth {w:ByteArray} (hw:¬mM w.toList):da (.mk 0 w 0 [])
 | con {w:ByteArray} {ps:List Nd} (hw:¬mM w.toList) (hp:∀ p∈ps,da p):da (.mk 1 w 0 ps)
 | two {w:ByteArray} {a b:Nd} (hw:w.toList=[61]\/w.toList=[60]\/w.toList=[60,61]) (ha:Y2 a) (hb:Y2 b):da (.mk 2 w 0 [a,b])
 | le {w:ByteArray} {a b:Nd} {v:Int} (hw:w.toList=fA) (ha:Y2 a) (hb:Y2 b) (h1:-1000<=v) (h2:v<=1000):da (.mk 2 w 0 [a,b,.mk 5 ByteArray.empty v []])
theorem xn{P:Nd->Prop}(d:List (List Tk->Rs Nd))(h:∀f∈d,∀ts nd b,f ts=.ok nd b->P nd):∀ts ps b,J5 d ts=.ok ps b->(∀p∈ps,P p)/\ps.length=d.length:=by induction d with|nil=>(intro ts ps b e;simp[J5]at e;obtain⟨rfl,rfl⟩:=e;exact⟨λp c=>absurd c aC,rfl⟩)|cons f d o=>intro ts ps b e;unfold J5 at e;split at e;exact bt;rename_i a n l;split at e;exact bt;rename_i Zaa vs m;simp only[Rs.ok.injEq]at e;obtain⟨rfl,rfl⟩:=e;obtain⟨k,i⟩:=o (λg j=>h g (List.mem_cons_of_mem _ j)) n Zaa _ m;refine⟨λp c=>?_,by simp[i]⟩;rcases List.mem_cons.1 c with rfl|c;exact h f aC _ _ _ l;exact k p c
theorem Gm{P Q:Nd->Prop}{f g:List Tk->Rs Nd}(j:∀ts nd c,f ts=.ok nd c->P nd)(h:∀ts nd c,g ts=.ok nd c->Q nd){ts c:List Tk}{ps:List Nd}(e:J5 [f,g] ts=.ok ps c):∃a b,ps=[a,b]/\P a/\Q b:=by simp only[J5]at e;split at e;exact bt;rename_i a l i;split at e;exact bt;rename_i Zaa vs d;split at d;exact absurd d aC;rename_i b xs k;simp only[Rs.ok.injEq]at e d;obtain⟨rfl,rfl⟩:=d;obtain⟨rfl,rfl⟩:=e;exact⟨a,b,rfl,j _ _ _ i,h _ _ _ k⟩
theorem US{P Q R:Nd->Prop}{f g h:List Tk->Rs Nd}(l:∀ts nd d,f ts=.ok nd d->P nd)(j:∀ts nd d,g ts=.ok nd d->Q nd)(m:∀ts nd d,h ts=.ok nd d->R nd){ts d:List Tk}{ps:List Nd}(e:J5 [f,g,h] ts=.ok ps d):∃a b c,ps=[a,b,c]/\P a/\Q b/\R c:=by unfold J5 at e;split at e;exact bt;rename_i a o k;split at e;exact bt;rename_i Zaa vs i;simp only[Rs.ok.injEq]at e;obtain⟨rfl,rfl⟩:=e;obtain⟨b,c,rfl,hb,n⟩:=Gm j m i;exact⟨a,b,c,rfl,l _ _ _ k,hb,n⟩
theorem MB{P:Nd->Prop}{f:List Tk->Rs Nd}(h:∀ts nd b,f ts=.ok nd b->P nd)(m:Nat):∀ts ps b,Y8 m f ts=.ok ps b->∀p∈ps,P p:=by induction m with|zero=>(intro ts ps b e;simp[Y8]at e)|succ m j=>intro ts ps b e;cases ts with|nil=>(simp[Y8]at e)|cons t ts=>unfold Y8 at e;split at e;simp only[Rs.ok.injEq]at e;obtain⟨rfl,rfl⟩:=e;exact λp c=>absurd c aC;split at e;exact bt;rename_i a i d;split at e;exact bt;rename_i Zaa vs g;simp only[Rs.ok.injEq]at e;obtain⟨rfl,rfl⟩:=e;intro p c;rcases List.mem_cons.1 c with rfl|c;exact h _ _ _ d;exact j i Zaa _ g p c
theorem Co{e k:Int}{w:ByteArray}{r:Rs (List Nd)}{nd:Nd}{b:List Tk}(h:Z5 e k w r=.ok nd b):∃ps a,r=.ok ps a/\nd=.mk k w 0 ps:=by cases r with|no e p=>(exact absurd h (by simp[Z5]))|ok ps a=>simp only[Z5]at h;cases a with|nil=>(exact absurd h (by simp[U0]))|cons v vs=>simp only[U0]at h;split at h;simp only[Rs.ok.injEq]at h;obtain⟨rfl,rfl⟩:=h;exact⟨ps,_,rfl,rfl⟩;exact Zcm
theorem Gn{k:Int}{ts a:List Tk}{nd:Nd}(e:W8 k ts=.ok nd a):∃v,nd=.mk k ByteArray.empty v []/\ -1000<=v/\v<=1000:=by cases ts with|nil=>(exact absurd e (by simp[W8]))|cons t ts=>simp only[W8]at e;split at e;exact bt;split at e;exact bt;rename_i v _ b;simp only[Rs.ok.injEq]at e;obtain⟨rfl,rfl⟩:=e;exact⟨v,rfl,aA,aA⟩
theorem UT{f:List Tk->Rs Nd}{ts a:List Tk}{nd:Nd}(e:eJ f ts=.ok nd a):∃b,f b=.ok nd a:=by cases ts with|nil=>(exact absurd e (by simp[eJ]))|cons t ts=>simp only[eJ]at e;split at e;exact bt;exact⟨_,e⟩
def pX(N:List Nm):Prop:=∀ x∈N,0<=x.ar/\x.ar<=3
theorem jw4{N:List Nm}(h:pX N){l:List UInt8}{a:Int}(e:k9 N l=some a):a<=3:=by unfold k9 at e;obtain⟨x,b,rfl⟩:=Fg.1 e;exact(h x (Fe b)).2
theorem UU{N:List Nm}(q:pX N)(n:Nat):∀d ts nd b,Z4 N n d ts=.ok nd b->Y2 nd:=by induction n with|zero=>(intro d ts nd b e;exact absurd e yB)|succ n s=>intro d ts nd b e;cases ts with|nil=>(exact absurd e yB)|cons t ts=>unfold Z4 at e;split at e;split at e;exact bt;split at e;exact bt;rename_i u r;split at e;rename_i c;split at e;exact bt;rename_i a w;split at e;exact bt;obtain⟨ps,vs,o,rfl⟩:=Co e;obtain⟨h,g⟩:=xn (P:=Y2) _ (λf m ts nd b j=>by rw[(List.mem_replicate.1 m).2]at j;obtain⟨k,i⟩:=UT j;exact s (d+1) _ _ _ i) r ps vs o;have:=jw4 q w;rw[List.length_replicate]at g;exact .app c aA h;exact bt;split at e;rename_i c;split at e;exact bt;split at e;simp only[Rs.ok.injEq]at e;obtain⟨rfl,rfl⟩:=e;exact .app c aC (λp l=>absurd l aC);exact bt;obtain⟨v,rfl,h,g⟩:=Gn e;exact .num h g
theorem jw5{l:List UInt8}{ks:Int×Int}(h:jH l=some ks):((ks=(1,0)\/ks=(1,1)\/ks=(1,2))/\¬mM l)\/(ks=(2,3)/\(l=[61]\/l=[60]\/l=[60,61]))\/(ks=(2,4)/\l=fA):=by
 unfold jH at h;repeat' (split at h)
 all_goals first|(simp at h;done)|(simp only[yG]at h;subst h)
 all_goals first|(rename_i e;subst e;(refine .inl ⟨?_,?_⟩<;>first|(decide)|(simp;done)))|(rename_i e;subst e;refine .inr (.inl ⟨rfl,?_⟩);(simp;done))|(rename_i e;subst e;exact .inr (.inr ⟨rfl,rfl⟩))
theorem qP0{N:List Nm}(h:pX N)(n:Nat):∀d ts nd bh,Z8 N n d ts=.ok nd bh->da nd:=by induction n with|zero=>(intro d ts nd bh e;exact absurd e tD)|succ n i=>intro d ts nd bh e;cases ts with|nil=>(exact absurd e tD)|cons t ts=>unfold Z8 at e;split at e;split at e;exact bt;split at e;exact bt;rename_i u us;split at e;exact bt;rename_i ks g;obtain⟨ps,vs,hr,rfl⟩:=Co e;have hT:=UU h n (d+1);have hF:=i (d+1);rcases jw5 g with⟨(rfl|rfl|rfl),hw⟩|⟨rfl,hw⟩|⟨rfl,hw⟩;exact .con hw (xn [_] (λf hf=>ES) us ps vs hr).1;exact .con hw (xn [_,_] (λf hf=>ES) us ps vs hr).1;exact .con hw (MB hF _ us ps vs hr);exact Zhe;exact ZfL;split at e;rename_i hw;simp only[Rs.ok.injEq]at e;obtain⟨rfl,rfl⟩:=e;refine .truth ?_;exact RZ;exact bt
end Ar
namespace Ar
def nN(c:UInt8):Bool:=c != 32 && c != 40 && c != 41
def Dl(r:List UInt8):Prop:=∀ c∈r.head?,nN c=false
theorem Cp:∀{a b r s:List UInt8},a.all nN=true->b.all nN=true->Dl r->Dl s->a++r=b++s->a=b/\r=s:=by intro a;induction a with|nil=>(intro b r s _ hb f _ h;cases b with|nil=>(exact⟨rfl,h⟩)|cons c b=>simp at h hb;subst h;exact absurd (f c aC) (by rw[hb.1];decide))|cons c a i=>intro b r s e hb f g h;cases b with|nil=>(simp at h e;subst h;exact absurd (g c aC) (by rw[e.1];decide))|cons d b=>simp only[List.all_cons,Bool.and_eq_true]at e hb;simp only[List.cons_append,List.cons.injEq]at h;obtain⟨rfl,h⟩:=h;obtain⟨rfl,rfl⟩:=i e.2 hb.2 f g h;exact⟨rfl,rfl⟩
def zj(v:Int):Bool:=numOf (itoa v)==some v && (itoa v).all nN && ((itoa v).head?.any (fun c => !ij c))
theorem jh2:((List.range 2001).all λi=>zj ((i:Int)-1000))=true:=iN
theorem Cq{v:Int}(b:-1000<=v)(a:v<=1000):zj v=true:=by have h:=tN.1 jh2 (v+1000).toNat (Fh.2 aA);have e:(((v+1000).toNat:Nat):Int)-1000=v:=aA;rwa[e]at h
theorem UW{v u:Int}(e:-1000<=v)(c:v<=1000)(f:-1000<=u)(d:u<=1000)(h:itoa v=itoa u):v=u:=by have a:=Cq e c;have b:=Cq f d;simp only[zj,jo,eP]at a b;have:=a.1.1;rw[h,b.1.1]at this;exact(dI this).symm
theorem Gp{v:Int}(b:-1000<=v)(c:v<=1000):(itoa v).all nN=true:=by have a:=Cq b c;simp only[zj,jo]at a;exact a.1.2
theorem Gq{v:Int}(f:-1000<=v)(d:v<=1000):∃c l,itoa v=c::l/\ij c=false/\c≠40:=by have a:=Cq f d;simp only[zj,jo]at a;cases b:itoa v with|nil=>(rw[b]at a;exact absurd a.2 aC)|cons c l=>rw[b]at a;refine⟨c,l,rfl,by simpa using a.2,?_⟩;intro e;subst e;exact absurd a.1.2 (by simp[nN])
theorem qP1{c:UInt8}(h:ij c=true):nN c=true:=by simp only[ij,BF]at h;simp only[nN,jo,bne_iff_ne];refine⟨⟨?_,?_⟩,?_⟩<;>(intro e;subst e;exact absurd h aE)
theorem zk{l:List UInt8}(h:X7 l=true):l.all nN=true/\∃c r,l=c::r/\ij c=true/\c≠40:=by simp only[X7,jo,BF]at h;have b:=h.1.1;refine⟨tN.2 (λc a=>qP1 (tN.1 b c a)),?_⟩;cases l with|nil=>(exact absurd h.2.1 aE)|cons c r=>have a:=tN.1 b c aC;refine⟨c,r,rfl,a,?_⟩;intro e;subst e;exact absurd a aE
theorem MC(r:List UInt8):Dl (32::r):=Zi1
theorem Cr(r:List UInt8):Dl (41::r):=Zi1
theorem xo(p:Nd)(ps:List Nd)(r:List UInt8):Dl (J0 (p::ps)++r):=by rw[J0];exact MC _
theorem xp(v:Int):Z0 (.mk 4 ByteArray.empty v [])=itoa v:=ZjL
theorem xq(w:ByteArray):Z0 (.mk 3 w 0 [])=w.toList:=by rw[Z0,aF aE,eY,aF aE]
theorem xr(w:ByteArray)(p:Nd)(ps:List Nd):Z0 (.mk 3 w 0 (p::ps))=40::(w.toList++(J0 (p::ps)++[41])):=by rw[Z0,aJ (Or.inr (Or.inr aC)),eY,aF aE];simp
theorem qP2(v:Int):Z0 (.mk 5 ByteArray.empty v [])=itoa v:=ZjL
theorem Gr(w:ByteArray)(ps:List Nd):Z0 (.mk 2 w 0 ps)=40::(w.toList++(J0 ps++[41])):=by rw[Z0,aJ (Or.inr (Or.inl rfl)),eY,aF aE];simp
theorem jh3{ps:List Nd}(h:∀p∈ps,∀q r s,Y2 q->Dl r->Dl s->Z0 p++r=Z0 q++s->p=q/\r=s):∀{qs:List Nd}{r s:List UInt8},(∀q∈qs,Y2 q)->J0 ps++41::r=J0 qs++41::s->ps=qs/\r=s:=by induction ps with|nil=>(intro qs r s _ e;cases qs with|nil=>(simp[J0]at e;exact⟨rfl,e⟩)|cons q qs=>simp[J0]at e)|cons p ps i=>intro qs r s c e;cases qs with|nil=>(simp[J0]at e)|cons q qs=>simp only[J0,List.cons_append,List.append_assoc,List.cons.injEq,true_and]at e;have f:Dl (J0 ps++41::r):=by{cases ps with|nil=>(exact Cr _)|cons a Zaa=>exact xo a Zaa _};have d:Dl (J0 qs++41::s):=by{cases qs with|nil=>(exact Cr _)|cons a Zaa=>exact xo a Zaa _};obtain⟨rfl,g⟩:=h p aC q _ _ (c q aC) f d e;obtain⟨rfl,rfl⟩:=i (λx b=>h x (List.mem_cons_of_mem _ b)) (λx b=>c x (List.mem_cons_of_mem _ b)) g;exact⟨rfl,rfl⟩
theorem MD{a:Nd}(H:Y2 a):∀b r s,Y2 b->Dl r->Dl s->Z0 a++r=Z0 b++s->a=b/\r=s:=by induction H with|num y x=>(intro b r s hb A B e;cases hb with|num u t=>(rw[xp,xp]at e;obtain⟨n,rfl⟩:=Cp (Gp y x) (Gp u t) A B e;rw[UW y x u t n];exact⟨rfl,rfl⟩)| @app w ps z _ _=>obtain⟨c,l,o,g,f⟩:=Gq y x;obtain⟨d,I,hd,j,_⟩:=(zk z).2;cases ps with|nil=>(rw[xp,xq,o,hd]at e;simp only[List.cons_append,List.cons.injEq]at e;rw[e.1,j]at g;exact absurd g aE)|cons p ps=>rw[xp,xr,o]at e;simp only[List.cons_append,List.cons.injEq]at e;exact absurd e.1 f)| @app w ps z _ J G=>intro b r s hb A B e;obtain⟨m,d,I,hd,j,k⟩:=zk z;cases hb with|num u t=>(obtain⟨c,l,o,g,f⟩:=Gq u t;cases ps with|nil=>(rw[xp,xq,o,hd]at e;simp only[List.cons_append,List.cons.injEq]at e;rw[<-e.1,j]at g;exact absurd g aE)|cons p ps=>rw[xp,xr,o]at e;simp only[List.cons_append,List.cons.injEq]at e;exact absurd e.1.symm f)| @app w' qs v _ D=>obtain⟨h,_,_,C,_,i⟩:=zk v;cases ps with|nil=>(cases qs with|nil=>(rw[xq,xq]at e;obtain⟨n,rfl⟩:=Cp m h A B e;rw[O8 n];exact⟨rfl,rfl⟩)|cons q qs=>rw[xq,xr,hd]at e;simp only[List.cons_append,List.cons.injEq]at e;exact absurd e.1 k)|cons p ps=>cases qs with|nil=>(rw[xq,xr,C]at e;simp only[List.cons_append,List.cons.injEq]at e;exact absurd e.1.symm i)|cons q qs=>rw[xr,xr]at e;simp only[List.cons_append,List.append_assoc,List.cons.injEq,true_and]at e;obtain⟨n,E⟩:=Cp m h (xo p ps _) (xo q qs _) e;obtain⟨F,rfl⟩:=jh3 (ps:=p::ps) G D E;rw[O8 n,F];exact⟨rfl,rfl⟩
theorem ME{a b:Nd}(e:Y2 a)(hb:Y2 b)(h:Z0 a=Z0 b):a=b:=(MD e b [] [] hb (by intro c d;simp at d) (by intro c d;simp at d) (by rw[h])).1
inductive dN:Nd->Prop
 | two {w:ByteArray} {a b:Nd} (hw:w.toList=[61]\/w.toList=[60]\/w.toList=[60,61]) (ha:Y2 a) (hb:Y2 b):dN (.mk 2 w 0 [a,b])
 | le {w:ByteArray} {a b:Nd} {v:Int} (hw:w.toList=fA) (ha:Y2 a) (hb:Y2 b) (h1:-1000<=v) (h2:v<=1000):dN (.mk 2 w 0 [a,b,.mk 5 ByteArray.empty v []])
theorem Gs{w w':ByteArray}{a b h g:Nd}{xs ys:List Nd}(m:w.toList.all nN=true)(f:w'.toList.all nN=true)(o:Y2 a)(hb:Y2 b)(j:Y2 h)(i:Y2 g)(e:Z0 (.mk 2 w 0 (a::b::xs))=Z0 (.mk 2 w' 0 (h::g::ys))):w=w'/\a=h/\b=g/\J0 xs++[41]=J0 ys++[41]:=by
 rw[Gr,Gr]at e;simp only[yH,true_and]at e;obtain⟨n,k⟩:=Cp m f (xo _ _ _) (xo _ _ _) e;simp only[J0,tO,wB,yH,true_and]at k;obtain⟨rfl,l⟩:=MD o _ _ _ j (MC _) (MC _) k;simp only[yH,true_and]at l;have d:∀c:List Nd,Dl (J0 c++[41]):=by intro c;cases c with|nil=>(exact Cr _)|cons z c=>exact xo z c _
 obtain⟨rfl,p⟩:=MD hb _ _ _ i (d xs) (d ys) l;exact⟨O8 n,rfl,rfl,p⟩
theorem Gt{l:List UInt8}(h:l=[61]\/l=[60]\/l=[60,61]):l.all nN=true:=Zih
theorem Gu{l:List UInt8}(h:l=fA):l.all nN=true:=by subst h;decide
theorem MF{x y:Nd}(n:dN x)(g:dN y)(e:Z0 x=Z0 y):x=y:=by cases n with|two d f hb=>(cases g with|two a c b=>(obtain⟨rfl,rfl,rfl,_⟩:=Gs (Gt d) (Gt a) f hb c b e;rfl)|le a c b _ _=>obtain⟨_,_,_,h⟩:=Gs (Gt d) (Gu a) f hb c b e;simp[J0]at h)|le d f hb k i=>cases g with|two a c b=>(obtain⟨_,_,_,h⟩:=Gs (Gu d) (Gt a) f hb c b e;simp[J0]at h)|le a c b l j=>obtain⟨rfl,rfl,rfl,h⟩:=Gs (Gu d) (Gu a) f hb c b e;simp only[J0,qP2,tO,wB,qz,yH,true_and]at h;obtain⟨m,_⟩:=Cp (Gp k i) (Gp l j) (Cr _) (Cr _) h;rw[UW k i l j m]
theorem UX{t:Nd}(h:Y2 t):∀x∈Z1 true t,Y2 x:=by induction h with|num i f=>(intro x a;simp[Z1,z8,Y3]at a;subst a;exact .num i f)|app c e d g=>intro x a;simp only[Z1,List.mem_append]at a;rcases a with a|a;simp[Y3]at a;subst a;exact .app c e d;obtain⟨p,b,a⟩:=Z9.1 a;exact g p b x a
theorem x6{t:Nd}(h:Y2 t):Z1 false t=[]:=by induction h with|num i g=>(simp[Z1,z8,Y3])| @app w ps f e c b=>simp only[Z1];rw[if_neg nD];have:z8 false ps=[]:=by{clear e c;induction ps with|nil=>(rfl)|cons p ps a=>rw[z8,b p aC,a (λq d=>b q (List.mem_cons_of_mem _ d))];rfl};rw[this];rfl
theorem uF{f:Nd}(h:da f):(∀x∈Z1 true f,Y2 x)/\(∀x∈Z1 false f,dN x):=by induction h with|truth _=>(exact⟨λx hx=>by simp[Z1,z8,Y3]at hx,λx hx=>by simp[Z1,z8,Y3]at hx⟩)|con _ g c=>(refine⟨λx hx=>?_,λx hx=>?_⟩;(all_goals simp only[Z1]at hx;rw[if_neg nD]at hx;obtain⟨p,a,hx⟩:=Z9.1 E0);exact(c p a).1 x hx;exact(c p a).2 x hx)|two b ha hb=>(refine⟨λx hx=>?_,λx hx=>?_⟩;exact ZgQ;simp[Z1,z8,Y3,x6 ha,x6 hb]at hx;subst hx;exact .two b ha hb)|le b ha hb e d=>refine⟨λx hx=>?_,λx hx=>?_⟩;exact ZgQ;simp[Z1,z8,Y3,x6 ha,x6 hb]at hx;subst hx;exact .le b ha hb e d
theorem Gv{x:Nd}(h:Y2 x)(t:Bool):(Z1 t x).length<=(Z0 x).length:=by induction h with| @num v h1 h2=>(obtain⟨c,l,e,_⟩:=Gq h1 h2;rw[xp,e];cases t<;>simp[Z1,z8,Y3])| @app w ps a d b ih=>have f:(z8 t ps).length<=(J0 ps).length:=by{clear d b;exact ZfN};obtain⟨_,c,l,e,_⟩:=zk a;have h1:(Z1 t (.mk 3 w 0 ps)).length<=1+(z8 t ps).length:=by{simp only[Z1,List.length_append];split<;>simp};cases ps with|nil=>(rw[xq,e];simp[z8]at h1;simp;omega)|cons p ps=>rw[xr];simp only[List.length_cons,List.length_append]at*;omega
theorem Cs{x:Nd}(h:da x)(t:Bool):(Z1 t x).length<=(Z0 x).length:=by induction h with|truth _=>(cases t<;>simp[Z1,z8,Y3])| @con w ps _ e ih=>(have i:(z8 t ps).length<=(J0 ps).length:=by{clear e;exact ZfN};have h1:(Z1 t (.mk 1 w 0 ps)).length=(z8 t ps).length:=by{simp only[Z1,List.length_append];cases t<;>simp[Y3]};have h2:(J0 ps).length<=(Z0 (.mk 1 w 0 ps)).length:=by{rw[Z0,if_pos (Or.inl rfl)];exact ZcQ};omega)| @two w a b f d hb=>(have h1:=Gv d t;have h2:=Gv hb t;have g:(Z1 t (.mk 2 w 0 [a,b])).length<=1+(Z1 t a).length+(Z1 t b).length:=by{simp only[Z1,z8,List.length_append,List.length_nil];split<;>simp<;>omega};rw[Gr];simp only[J0,List.length_cons,List.length_append,List.length_nil];omega)| @le w a b v f d hb _ _=>have h1:=Gv d t;have h2:=Gv hb t;have g:(Z1 t (.mk 2 w 0 [a,b,.mk 5 ByteArray.empty v []])).length<=1+(Z1 t a).length+(Z1 t b).length:=by{simp only[Z1,z8,List.length_append,List.length_nil];rw[if_neg (c:=Y3 t 5=true) (by cases t<;>decide)];split<;>simp<;>omega};rw[Gr];simp only[J0,List.length_cons,List.length_append,List.length_nil];omega
end Ar
namespace Ar
open Classical in
noncomputable def dj(T:List Nd)(x:Nd):List Nd:=if x∈T then T else T++[x]
theorem uG{T:List Nd}{x:Nd}(h:x∈T):dj T x=T:=by unfold dj;exact yE
theorem uH{T:List Nd}{x:Nd}(h:¬x∈T):dj T x=T++[x]:=by unfold dj;rw[aF h]
theorem sC{T:List Nd}{x y:Nd}:y∈dj T x↔y∈T\/y=x:=by by_cases h:x∈T;rw[uG h];exact ZhG;rw[uH h];simp
theorem Gw{T:List Nd}{x:Nd}:T<+:dj T x:=by by_cases h:x∈T;rw[uG h];exact List.prefix_refl _;rw[uH h];exact List.prefix_append _ _
theorem zl{T:List Nd}{x:Nd}(a:T.Nodup):(dj T x).Nodup:=by by_cases h:x∈T;rw[uG h];exact a;rw[uH h,Fa];refine⟨a,aC,?_⟩;intro _ b _ hb e;simp at hb;subst hb e;exact h b
theorem MG{T:List Nd}{x:Nd}:(dj T x).length<=T.length+1:=by by_cases h:x∈T;rw[uG h];omega;rw[uH h];simp
mutual
noncomputable def dL:List Nd->Nd->List Nd
 | T,.mk k w v ps=>dj (bM T ps) (.mk k w v ps)
noncomputable def bM:List Nd->List Nd->List Nd
 | T,[]=>T
 | T,p::ps=>bM (dL T p) ps
end
theorem UY(T:List Nd)(ps:List Nd)(p:Nd):bM T (ps++[p])=dL (bM T ps) p:=by induction ps generalizing T with|nil=>(simp[bM])|cons q qs a=>simp[bM,a]
def J6:Nd->List Nd
 | .mk _ _ _ ps=>ps
def Cl(T:List Nd):Prop:=∀ (i:Nat) (x:Nd),T[i]?=some x->Y2 x/\∀ p∈J6 x,p∈T.take i
theorem Cl.take{T:List Nd}(h:Cl T)(n:Nat):Cl (T.take n):=by intro i x a;have e:=(aX.1 a).1;simp at e;rw[BG aA]at a;obtain⟨d,c⟩:=h i x a;refine⟨d,λp b=>?_⟩;rw[qC,ig aA];exact c p b
theorem Cl.part{T:List Nd}(h:Cl T){x p:Nd}(c:x∈T)(a:p∈J6 x):p∈T:=by obtain⟨i,b⟩:=Fi.1 c;exact fG ((h i x b).2 p a)
theorem Cl.put{T:List Nd}(h:Cl T){x:Nd}(k:Y2 x)(e:∀p∈J6 x,p∈T):Cl (dj T x):=by by_cases c:x∈T;rw[uG c];exact h;rw[uH c];intro i y b;by_cases j:i<T.length;rw[dx j]at b;obtain⟨g,f⟩:=h i y b;refine⟨g,λp a=>?_⟩;rw[tP aA];exact f p a;have d:=(aX.1 b).1;simp at d;have:i=T.length:=aA;subst this;rw[cB (aW _)]at b;simp at b;subst b;refine⟨k,λp a=>?_⟩;rw[tP (aW _),cj (aW _)];exact e p a
structure pY(T T':List Nd)(xs:List Nd):Prop where
 pre:T <+:T'
 nd:T.Nodup->T'.Nodup
 cl:Cl T->Cl T'
 mem:∀ y,y∈T'↔y∈T\/y∈xs
 len:T'.length<=T.length+xs.length
theorem pY.trans{T b a:List Nd}{xs ys:List Nd}(h:pY T b xs)(k:pY b a ys):pY T a (xs++ys):=⟨h.pre.trans k.pre,λd=>k.nd (h.nd d),λc=>k.cl (h.cl c),λ_=>Ziy,Zhc⟩
theorem pY.refl(T:List Nd):pY T T []:=⟨List.prefix_refl _,id,id,λ_=>aC,aC⟩
theorem jh4{x:Nd}(h:Y2 x):∀T,∃xs,pY T (dL T x) xs/\(∀y,y∈xs↔y∈Z1 true x)/\xs.length=(Z1 true x).length:=by induction h with| @num v a h2=>(intro T;refine⟨[.mk 4 ByteArray.empty v []],⟨Gw,zl,λg=>?_,λy=>?_,?_⟩,λy=>by simp[Z1,z8,Y3],by simp[Z1,z8,Y3]⟩;simp only[dL,bM];exact g.put (.num a h2) (λp e=>absurd e jm);simp only[dL,bM,sC,List.mem_singleton];simp only[dL,bM];exact MG)| @app w ps k l e s=>intro T;have n:∀(qs:List Nd),(∀q∈qs,q∈ps)->∀T,∃xs,pY T (bM T qs) xs/\(∀y,y∈xs↔y∈z8 true qs)/\xs.length=(z8 true qs).length:=by{intro qs;induction qs with|nil=>(intro _ T;exact⟨[],pY.refl T,λy=>by simp[z8],rfl⟩)|cons q qs f=>intro d T;obtain⟨xs,a,h2,h3⟩:=s q (d q aC) T;obtain⟨ys,i,k2,k3⟩:=f (λr m=>d r (List.mem_cons_of_mem _ m)) (dL T q);exact⟨xs++ys,a.trans i,λy=>Zi9,ZhT⟩};obtain⟨xs,a,h2,h3⟩:=n ps (λq d=>d) T;have c:∀p∈ps,p∈Z1 true p:=by{intro p b;have j:=e p b;cases j<;>simp[Z1,Y3]};refine⟨xs++[.mk 3 w 0 ps],⟨?_,?_,?_,?_,?_⟩,?_,?_⟩;simp only[dL];exact a.pre.trans Gw;intro o;simp only[dL];exact zl (a.nd o);intro g;simp only[dL];refine(a.cl g).put (.app k l e) (λp b=>?_);rw[a.mem,h2,Z9];exact .inr ⟨p,b,c p b⟩;intro y;simp only[dL,sC,a.mem,List.mem_append,List.mem_singleton,or_assoc];simp only[dL,List.length_append];have:=MG (T:=bM T ps) (x:=.mk 3 w 0 ps);have:=a.len;exact aM;intro y;simp only[List.mem_append,List.mem_singleton,h2,Z1];rw[if_pos nD];simp[or_comm];simp only[Z1,List.length_append,h3];rw[if_pos nD];exact aM
theorem jh5(T:List Nd)(x:Nd):x∈dL T x:=by cases x;simp only[dL,sC];exact .inr bk
/-! ### Where a tree stands -/
open Classical in
noncomputable def idx(T:List Nd)(x:Nd):Nat:=T.findIdx (fun y=>decide (y=x))
open Classical in
theorem k8{T:List Nd}{x:Nd}(h:x∈T):T[idx T x]?=some x:=by have a:idx T x<T.length:=List.findIdx_lt_length_of_exists ⟨x,h,aC⟩;have c:=List.findIdx_getElem (w:=a);rw[aU a];have b:T[idx T x]=x:=qA c;exact jn some b
theorem xt{T:List Nd}(k:T.Nodup){x:Nd}{i:Nat}(h:T[i]?=some x):idx T x=i:=by have l:=k8 (bg h);obtain⟨j,e⟩:=aX.1 h;obtain⟨f,g⟩:=aX.1 l;have d:=Fj.1 k;rcases Fk (idx T x) i with b|c|a;exact absurd (g.trans e.symm) (d _ _ f j b);exact c;exact absurd (e.trans g.symm) (d _ _ j f a)
theorem Gx{T a:List Nd}(h:T<+:a){x:Nd}(b:x∈T):idx a x=idx T x:=by obtain⟨_,rfl⟩:=h;unfold idx;rw[List.findIdx_append,aJ (List.findIdx_lt_length_of_exists ⟨x,b,aC⟩)]
theorem zm{T:List Nd}{x y:Nd}(c:x∈T)(b:y∈T)(h:idx T x=idx T y):x=y:=by have a:=k8 c;rw[h,k8 b]at a;exact(dI a).symm
end Ar
namespace Ar
abbrev Ct:=List UInt8->List Int->Int
mutual
def qT(I:Ct):Nd->Int
 | .mk k w v ps=>if k=4 then v else I w.toList (Cu I ps)
def Cu(I:Ct):List Nd->List Int
 | []=>[]
 | p::ps=>qT I p::Cu I ps
end
theorem UZ(I:Ct)(ps:List Nd):Cu I ps=ps.map (qT I):=by induction ps with|nil=>(rfl)|cons p ps a=>simp[Cu,a]
def fC(w:List UInt8)(a b c:Int):Bool :=
 if w=[61] then decide (a=b) else if w=[60] then decide (a<b) else if w=[60,61] then decide (a<=b) else decide (a<=b+c)
def dm:List Nd->Int
 | [.mk _ _ c _]=>c
 | _=>0
def iF(val:Nd->Int):Nd->Bool
 | .mk _ w _ (a::b::r)=>fC w.toList (val a) (val b) (dm r)
 | _=>false
def con(w:List UInt8)(bs:List Bool):Bool :=
 if w=eo then !(bs.getD 0 false) else if w=[61,62] then !(bs.getD 0 false) || bs.getD 1 false else if w=eQ then bs.getD 0 false==bs.getD 1 false
 else if w=gM then bs.any id else bs.all id
mutual
def bq(α:Nd->Bool):Nd->Bool
 | .mk k w v ps=>if k=2 then α (.mk k w v ps) else if k=0 then decide (w.toList=iA) else con w.toList (xu α ps)
def xu(α:Nd->Bool):List Nd->List Bool
 | []=>[]
 | p::ps=>bq α p::xu α ps
end
theorem MH(α:Nd->Bool)(ps:List Nd):xu α ps=ps.map (bq α):=by induction ps with|nil=>(rfl)|cons p ps a=>simp[xu,a]
def Sat(L:List Nd):Prop:=∃ I,∀ f∈L,bq (iF (qT I)) f=true
structure Good(T:List Nd)(v:Nd->Int):Prop where
 num:∀ n,.mk 4 ByteArray.empty n []∈T->v (.mk 4 ByteArray.empty n [])=n
 fn:∀ w ps qs,.mk 3 w 0 ps∈T->.mk 3 w 0 qs∈T->ps.map v=qs.map v->v (.mk 3 w 0 ps)=v (.mk 3 w 0 qs)
theorem Cv{a b:ByteArray}(h:a.toList=b.toList):a=b:=by rw[ByteArray.toList_eq,ByteArray.toList_eq]at h;cases a;cases b;simp at h;rw[h]
theorem U'(I:Ct)(T:List Nd):Good T (qT I):=⟨λ_ _=>by simp[qT],λ_ _ _ _ _ h=>by simp only[qT,UZ];rw[h]⟩
open Classical in
noncomputable def Cw(T:List Nd)(v:Nd->Int):Ct:=fun w Zaa=>
 if h:∃ x:ByteArray × List Nd,.mk 3 x.1 0 x.2∈T/\x.1.toList=w/\x.2.map v=Zaa then v (.mk 3 h.choose.1 0 h.choose.2) else 0
theorem Va{T:List Nd}{v:Nd->Int}(f:Good T v)(k:∀x∈T,∀p∈J6 x,p∈T){x:Nd}(i:Y2 x):x∈T->qT (Cw T v) x=v x:=by induction i with| @num n _ _=>(intro h;rw[f.num n h];simp[qT])| @app w ps l o m j=>intro h;have e:Cu (Cw T v) ps=ps.map v:=by{rw[UZ];exact List.map_congr_left λp b=>j p b (k _ h p b)};simp only[qT];rw[if_neg aE,e];have a:∃x:ByteArray×List Nd,Nd.mk 3 x.1 0 x.2∈T/\x.1.toList=w.toList/\x.2.map v=ps.map v:=⟨(w,ps),h,rfl,rfl⟩;unfold Cw;rw[dif_pos a];have d:=a.choose_spec;have c:a.choose.1=w:=Cv d.2.1;have g:=d.1;rw[c]at g⊢;exact f.fn w _ _ g h d.2.2
theorem Cx{t:Nd}(h:Y2 t):t∈Z1 true t:=by cases h<;>simp[Z1,Y3]
theorem Gy{t:Nd}(h:Y2 t):∀x∈Z1 true t,∀p∈J6 x,p∈Z1 true t:=by induction h with|num k j=>(intro x a p d;simp[Z1,z8,Y3]at a;subst a;simp[J6]at d)| @app w ps g i d f=>intro x a p c;simp only[Z1,List.mem_append]at a⊢;rcases a with a|a;simp[Y3]at a;subst a;have b:p∈ps:=c;exact .inr (Z9.2 ⟨p,b,Cx (d p b)⟩);obtain⟨q,e,a⟩:=Z9.1 a;exact .inr (Z9.2 ⟨q,e,f q e x a p c⟩)
theorem Vb{f:Nd}(h:da f):∀x∈Z1 true f,∀p∈J6 x,p∈Z1 true f:=by induction h with|truth _=>(intro x hx;simp[Z1,z8,Y3]at hx)|con _ c ih=>(intro x hx p fh;simp only[Z1]at hx⊢;rw[if_neg nD]at hx⊢;obtain⟨q,hq,hx⟩:=Z9.1 E0;exact Zhq)|two b a hb=>(intro x hx p fh;simp[Z1,z8,Y3]at hx⊢;rcases hx with hx|hx;exact .inl (Gy a x hx p fh);exact .inr (Gy hb x hx p fh))|le b a hb e d=>intro x hx p fh;simp[Z1,z8,Y3]at hx⊢;rcases hx with hx|hx;exact .inl (Gy a x hx p fh);exact .inr (Gy hb x hx p fh)
theorem Vc{f:Nd}(h:da f):∀x∈Z1 false f,∀p∈(J6 x).take 2,p∈Z1 true f:=by induction h with|truth _=>(intro x hx;simp[Z1,z8,Y3]at hx)|con _ c ih=>(intro x hx p fh;simp only[Z1]at hx⊢;rw[if_neg nD]at hx⊢;obtain⟨q,hq,hx⟩:=Z9.1 E0;exact Zhq)|two b a hb=>(intro x hx p fh;simp[Z1,z8,Y3,x6 a,x6 hb]at hx;subst hx;simp[J6]at fh;simp[Z1,z8,Y3];rcases fh with rfl|rfl;exact .inl (Cx a);exact .inr (Cx hb))|le b a hb e d=>intro x hx p fh;simp[Z1,z8,Y3,x6 a,x6 hb]at hx;subst hx;simp[J6]at fh;simp[Z1,z8,Y3];rcases fh with rfl|rfl;exact .inl (Cx a);exact .inr (Cx hb)
theorem MI{u v:Nd->Int}{x:Nd}(h:∀p∈(J6 x).take 2,u p=v p):iF u x=iF v x:=by cases x with|mk k w n ps=>match ps,h with|[],_=>{rfl}|[_],_=>{rfl}|a::b::r,h=>have c:=h a jm;have hb:=h b jm;simp only[iF];rw[c,hb]
theorem MJ{α β:Nd->Bool}{f:Nd}(b:da f):(∀x∈Z1 false f,α x=β x)->bq α f=bq β f:=by induction b with|truth _=>(intro _;simp[bq])| @con w ps _ i d=>(intro h;simp only[bq,MH];rw[if_neg aE,if_neg aE,if_neg aE,if_neg aE];congr 1;refine List.map_congr_left λp a=>d p a λx g=>h x ?_;simp only[Z1];exact List.mem_append_right _ (Z9.2 ⟨p,a,g⟩))|two c e hb=>(intro h;simp only[bq,if_pos];exact h _ yy)|le c e hb k j=>intro h;simp only[bq,if_pos];exact h _ yy
theorem jO9{T L:List Nd}(g:∀x,x∈T↔∃f∈L,x∈Z1 true f)(a:∀f∈L,da f):Sat L↔∃v,Good T v/\∀f∈L,bq (iF v) f=true:=by
 constructor;rintro⟨I,h⟩;exact⟨qT I,U' I T,h⟩;rintro⟨v,j,i⟩;have k:∀x∈T,∀p∈J6 x,p∈T:=by intro x d p e;obtain⟨f,b,d⟩:=(g x).1 d;exact(g p).2 ⟨f,b,Vb (a f b) x d p e⟩
 refine⟨Cw T v,λf b=>?_⟩;rw[<-i f b];refine MJ (a f b) λx d=>MI λp e=>?_;have c:=Vc (a f b) x d p e;exact Va j k ((uF (a f b)).1 p c) ((g p).2 ⟨f,b,c⟩)
end Ar
namespace Ar
structure At where
 wd:List UInt8
 i:Nat
 j:Nat
 b:Int
def At.tr(x:At)(v:Nat->Int):Bool:=fC x.wd (v x.i) (v x.j) x.b
def At.Ok(x:At):Prop:=(x.wd=[61]\/x.wd=[60]\/x.wd=[60,61]\/x.wd=fA)/\(x.wd≠fA->x.b=0)
def At.ex(x:At):Int:=if x.wd=[60] then -1 else x.b
theorem At.MK{x:At}(v:Nat->Int)(h:x.wd=[61]):x.tr v=decide (v x.i=v x.j):=by unfold At.tr fC;exact yE
theorem Gz:fA≠[61]/\fA≠[60]/\fA≠[60,61]:=aE
theorem At.ML{x:At}(v:Nat->Int)(a:x.Ok)(h:x.wd≠[61]):x.tr v=decide (v x.i-v x.j<=x.ex):=by unfold At.tr fC At.ex;rw[aF h];obtain⟨c,b⟩:=a;rcases c with e|e|e|e;exact absurd e h;rw[aJ e,aJ e];exact Lj;have hb:=b (by rw[e];exact λq=>Gz.2.2 q.symm);rw[aF (by rw[e];decide),aJ e,aF (by rw[e];decide)];exact Lj;rw[aF (by rw[e];exact Gz.2.1),aF (by rw[e];exact Gz.2.2),aF (by rw[e];exact Gz.2.1)];exact Lj
structure Fx where
 n:Nat
 num:Nat->Option Int
 tw:List (Nat × Nat)
 iG:Nat × Nat->List (Nat × Nat)
 far:Int
structure Fx.V(F:Fx)(v:Nat->Int):Prop where
 zero:v F.n=0
 num:∀ i x,i<F.n->F.num i=some x->v i=x
 fn:∀ p∈F.tw,(∀ q∈F.iG p,v q.1=v q.2)->v p.1=v p.2
 fJ:∀ i j,i<=F.n->j<=F.n->v i-v j<=F.far
def Fx.Ok(F:Fx):Prop:=∀ p∈F.tw,(p.1<F.n/\p.2<F.n)/\∀ q∈F.iG p,q.1<F.n/\q.2<F.n
def HA(a:List (At × Bool))(k:Nat)(v:Nat->Int):Prop:=∀ x,a[k]?=some x->x.1.tr v=x.2
theorem HA.app{a c:List (At×Bool)}{k:Nat}(b:k<a.length)(v:Nat->Int):HA (a++c) k v↔HA a k v:=by unfold HA;rw[dx b]
def dO(T:Tb)(x:At × Bool):Prop :=
 if x.1.wd=[61] then(x.2=true->T.aI x.1.i x.1.j<=0/\T.aI x.1.j x.1.i<=0)
 else if x.2=true then T.aI x.1.i x.1.j<=x.1.ex else T.aI x.1.j x.1.i <= -x.1.ex-1
theorem dO.le{n:Nat}{T c:Tb}{x:At×Bool}(h:dO T x)(b:js n c T)(f:x.1.i<n)(d:x.1.j<n):dO c x:=by have k:=b x.1.i x.1.j f d;have g:=b x.1.j x.1.i d f;unfold dO at h⊢;split;rename_i e;rw[aJ e]at h;intro a;have:=h a;omega;rename_i e;rw[aF e]at h;split;rename_i a;rw[aJ a]at h;omega;rename_i a;rw[aF a]at h;omega
def lL(T:Tb)(x:At × Bool):Prop:=x.1.wd=[61]->x.2=false->T.aI x.1.i x.1.j≠0/\T.aI x.1.j x.1.i≠0
def nO(F:Fx)(T:Tb)(p:Nat × Nat):Prop:=(∀ q∈F.iG p,T.aI q.1 q.2<=0/\T.aI q.2 q.1<=0)->T.aI p.1 p.2<=0/\T.aI p.2 p.1<=0
def Cy(F:Fx)(T:Tb):Prop:=∀ i x,i<F.n->F.num i=some x->T.aI i F.n<=x/\T.aI F.n i <= -x
theorem Cy.le{F:Fx}{T b:Tb}(h:Cy F T)(a:js (F.n+1) b T):Cy F b:=λi x c e=>by have:=h i x c e;have:=a i F.n aA aA;have:=a F.n i aA aA;omega
def gr(F:Fx)(T:Tb)(i:Nat):Int:=T.aI i F.n
theorem zn{F:Fx}{H:Nat->(Nat->Int)->Prop}{K:Nat}{T:Tb}(h:bU (F.n+1) F.far F.V H K T){i j:Nat}(b:i<=F.n)(a:j<=F.n):gr F T i-gr F T j<=T.aI i j:=by have:=h.oD i j F.n aA aA aA;unfold gr;omega
theorem jP7{F:Fx}{n:List (At×Bool)}{K:Nat}{T:Tb}(h:bU (F.n+1) F.far F.V (HA n) K T)(r:Cy F T)(m:F.Ok)(s:∀p∈F.tw,nO F T p)(b:∀p∈F.tw,gr F T p.1=gr F T p.2\/(∃q∈F.iG p,gr F T q.1≠gr F T q.2)\/(∀q∈F.iG p,T.aI q.1 q.2<=0/\T.aI q.2 q.1<=0)):F.V (gr F T):=by refine⟨h.diag F.n aA,λi x d e=>?_,λp c l=>?_,λi j d t=>?_⟩;have k:=r i x d e;have g:=h.oD i F.n i aA aA aA;have o:=h.diag i aA;unfold gr;omega;rcases b p c with e|⟨q,a,f⟩|e;exact e;exact absurd (l q a) f;have k:=s p c e;have g:=(m p c).1;have o:=zn h (i:=p.1) (j:=p.2) aA aA;have u:=zn h (i:=p.2) (j:=p.1) aA aA;omega;have k:=zn h d t;have g:=h.hi i j aA aA;omega
theorem jP8{F:Fx}{f:List (At×Bool)}{K:Nat}{T:Tb}(h:bU (F.n+1) F.far F.V (HA f) K T){x:At×Bool}(d:x.1.Ok)(o:x.1.i<F.n)(p:x.1.j<F.n)(b:dO T x)(c:lL T x)(hx:x.1.tr (gr F T)≠x.2):gr F T x.1.i=gr F T x.1.j/\(0<T.aI x.1.i x.1.j\/0<T.aI x.1.j x.1.i):=by
 have m:=zn h (i:=x.1.i) (j:=x.1.j) aA aA;have k:=zn h (i:=x.1.j) (j:=x.1.i) aA aA;by_cases e:x.1.wd=[61];rw[At.MK _ e]at hx;unfold dO at b;rw[aJ e]at b;cases a:x.2 with|true=>(rw[a]at hx;have:=b a;exact absurd (fS aA) hx)|false=>rw[a]at hx;have l:=c e a;have g:=h.oD x.1.i x.1.j x.1.i aA aA aA;have n:=h.diag x.1.i aA;refine⟨E0,?_⟩;omega
 rw[At.ML _ d e]at hx;unfold dO at b;rw[aF e]at b;cases a:x.2 with|true=>(rw[a]at hx;rw[aJ a]at b;exact absurd (fS aA) hx)|false=>rw[a]at hx;rw[aF (by rw[a];decide)]at b;exact absurd (gj aA) hx
theorem GA{F:Fx}{b:List (At×Bool)}{K:Nat}{T:Tb}(h:bU (F.n+1) F.far F.V (HA b) K T)(d:∀x∈b,dO T x){o p:Nat}(f:o<F.n)(e:p<F.n)(k:gr F T o=gr F T p)(hb:0<T.aI p o)(yes:Bool):((⟨[60],o,p,0⟩:At),yes)∉b/\o≠p:=by
 constructor;intro c;have a:=d _ c;unfold dO at a;rw[aF aC]at a;have g:=zn h (i:=o) (j:=p) aA aA;cases yes with|true=>(simp[At.ex]at a;omega)|false=>simp[At.ex]at a;omega
 rintro rfl;have:=h.diag o aA;omega
theorem zT1{x:At}{v:Nat->Int}(a:x.Ok)(e:x.wd≠[61])(h:x.tr v=true):v x.i-v x.j<=x.ex:=by rw[At.ML _ a e]at h;exact ov
theorem qg2{x:At}{v:Nat->Int}(a:x.Ok)(e:x.wd≠[61])(h:x.tr v=false):v x.j-v x.i<= -x.ex-1:=by rw[At.ML _ a e]at h;have:¬(v x.i-v x.j<=x.ex):=ov;omega
end Ar
namespace Ar
def mN:List UInt8:=[61,62]
inductive dy:Nd->Prop
 | truth {w:ByteArray} (hw:w.toList=iA\/w.toList=jr):dy (.mk 0 w 0 [])
 | neg {w:ByteArray} {p:Nd} (hw:w.toList=eo) (hp:dy p):dy (.mk 1 w 0 [p])
 | imp {w:ByteArray} {p q:Nd} (hw:w.toList=mN\/w.toList=eQ) (hp:dy p) (hq:dy q):dy (.mk 1 w 0 [p,q])
 | many {w:ByteArray} {ps:List Nd} (hw:w.toList=gn\/w.toList=gM) (hp:∀ p∈ps,dy p):dy (.mk 1 w 0 ps)
 | two {w:ByteArray} {a b:Nd} (hw:w.toList=[61]\/w.toList=[60]\/w.toList=[60,61]) (ha:Y2 a) (hb:Y2 b):dy (.mk 2 w 0 [a,b])
 | le {w:ByteArray} {a b:Nd} {v:Int} (hw:w.toList=fA) (ha:Y2 a) (hb:Y2 b) (h1:-1000<=v) (h2:v<=1000):dy (.mk 2 w 0 [a,b,.mk 5 ByteArray.empty v []])
theorem dy.ok{f:Nd}(h:dy f):da f:=by induction h with|truth hw=>(exact .truth RZ)|neg hw _ b=>(exact .con cw (λp a=>by simp at a;subst a;exact b))|imp hw _ _ d e=>(exact .con RZ (λp a=>by simp at a;rcases a with rfl|rfl;exact d;exact e))|many hw _ b=>(exact .con RZ b)|two hw c hb=>(exact .two hw c hb)|le hw c hb i g=>exact .le hw c hb i g
theorem Vd{l:List UInt8}{ks:Int×Int}(h:jH l=some ks):(ks=(1,0)/\l=eo)\/(ks=(1,1)/\(l=mN\/l=eQ))\/(ks=(1,2)/\(l=gn\/l=gM))\/(ks=(2,3)/\(l=[61]\/l=[60]\/l=[60,61]))\/(ks=(2,4)/\l=fA):=by
 unfold jH at h;repeat' (split at h)
 all_goals first|(simp at h;done)|(simp only[yG]at h;subst h)
 exact .inl ⟨rfl,‹_›⟩;exact .inr (.inr (.inl ⟨rfl,.inl ‹_›⟩));exact .inr (.inr (.inl ⟨rfl,.inr ‹_›⟩));exact .inr (.inl ⟨rfl,.inl ‹_›⟩);exact .inr (.inl ⟨rfl,.inr ‹_›⟩);exact .inr (.inr (.inr (.inl ⟨rfl,.inl ‹_›⟩)));exact .inr (.inr (.inr (.inl ⟨rfl,.inr (.inl ‹_›)⟩)));exact .inr (.inr (.inr (.inl ⟨rfl,.inr (.inr ‹_›)⟩)));exact .inr (.inr (.inr (.inr ⟨rfl,‹_›⟩)))
theorem qG5{N:List Nm}(h:pX N)(n:Nat):∀d ts nd bh,Z8 N n d ts=.ok nd bh->dy nd:=by induction n with|zero=>(intro d ts nd bh e;exact absurd e tD)|succ n i=>intro d ts nd bh e;cases ts with|nil=>(exact absurd e tD)|cons t ts=>unfold Z8 at e;split at e;split at e;exact bt;split at e;exact bt;rename_i u us;split at e;exact bt;rename_i ks g;obtain⟨ps,vs,hr,rfl⟩:=Co e;have hT:=UU h n (d+1);have hF:=i (d+1);rcases Vd g with⟨rfl,hw⟩|⟨rfl,hw⟩|⟨rfl,hw⟩|⟨rfl,hw⟩|⟨rfl,hw⟩;obtain⟨h1,h2⟩:=xn [_] (λf hf=>ES) us ps vs hr;match ps,h1,h2 with|[p],h1,_=>{exact .neg hw (h1 p aC)};obtain⟨a,b,rfl,ha,hb⟩:=Gm hF hF (ts:=us) hr;exact .imp hw ha hb;exact .many hw (MB hF _ us ps vs hr);exact Zhe;exact ZfL;split at e;rename_i hw;simp only[Rs.ok.injEq]at e;obtain⟨rfl,rfl⟩:=e;exact .truth hw;exact bt
def sD(N:List Nm)(x:Nd):Prop:=∀ w ps,.mk 3 w 0 ps∈Z1 true x->k9 N w.toList=some (ps.length:Int)
theorem uI{N:List Nm}{k:Int}{w:ByteArray}{v:Int}{ps:List Nd}(a:¬k=3)(h:∀p∈ps,sD N p):sD N (.mk k w v ps):=by intro w' qs hm;simp only[Z1,ct]at hm;rcases hm with hm|hm;exfalso;split at hm;simp at hm;exact a hm.1.symm;simp at hm;exact Zir
theorem Ve{N:List Nm}{w:ByteArray}{ps:List Nd}(a:k9 N w.toList=some (ps.length:Int))(h:∀p∈ps,sD N p):sD N (.mk 3 w 0 ps):=by intro w' qs hm;simp only[Z1,ct]at hm;rcases hm with hm|hm;simp[Y3]at hm;obtain⟨rfl,rfl⟩:=hm;exact a;exact Zir
theorem jP0{N:List Nm}(q:pX N)(n:Nat):∀d ts nd b,Z4 N n d ts=.ok nd b->sD N nd:=by induction n with|zero=>(intro d ts nd b e;exact absurd e yB)|succ n s=>intro d ts nd b e;cases ts with|nil=>(exact absurd e yB)|cons t ts=>unfold Z4 at e;split at e;split at e;exact bt;split at e;exact bt;rename_i u r;split at e;rename_i w;split at e;exact bt;rename_i a c;split at e;exact bt;obtain⟨ps,vs,o,rfl⟩:=Co e;obtain⟨h,g⟩:=xn (P:=sD N) _ (λf i=>by rw[List.mem_replicate]at i;obtain⟨_,rfl⟩:=i;intro ts nd b l;obtain⟨k,m⟩:=UT l;exact s _ _ _ _ m) r ps vs o;refine Ve ?_ h;rw[c,g,List.length_replicate];have y:0<=a:=by{unfold k9 at c;rw[Option.map_eq_some_iff]at c;obtain⟨x,p,rfl⟩:=c;exact(q x (List.mem_of_find?_eq_some p)).1};exact aM;exact bt;split at e;split at e;exact bt;rename_i a c;split at e;rename_i j;simp only[Rs.ok.injEq]at e;obtain⟨rfl,rfl⟩:=e;refine Ve ?_ aC;rw[c,j];rfl;exact bt;obtain⟨v,rfl,h,g⟩:=Gn e;exact uI aE aC
theorem jP1{N:List Nm}(q:pX N)(n:Nat):∀d ts nd g,Z8 N n d ts=.ok nd g->sD N nd:=by induction n with|zero=>(intro d ts nd g e;exact absurd e tD)|succ n r=>intro d ts nd g e;cases ts with|nil=>(exact absurd e tD)|cons t ts=>unfold Z8 at e;split at e;split at e;exact bt;split at e;exact bt;rename_i u k;split at e;exact bt;rename_i ks m;obtain⟨ps,vs,j,rfl⟩:=Co e;have l:=jP0 q n (d+1);have hF:=r (d+1);rcases Vd m with⟨rfl,h⟩|⟨rfl,h⟩|⟨rfl,h⟩|⟨rfl,h⟩|⟨rfl,h⟩;exact uI aE (xn [_] (λf hf=>ES) k ps vs j).1;exact uI aE (xn [_,_] (λf hf=>ES) k ps vs j).1;exact uI aE (MB hF _ k ps vs j);obtain⟨a,b,rfl,o,hb⟩:=Gm l l (ts:=k) j;exact uI aE (λp i=>by simp at i;rcases i with rfl|rfl;exact o;exact hb);obtain⟨a,b,c,rfl,o,hb,s⟩:=US (R:=λnd=>∃v,nd=.mk 5 ByteArray.empty v []/\ -1000<=v/\v<=1000) l l (λts nd g e=>Gn e) (ts:=k) j;obtain⟨v,rfl,x,w⟩:=s;exact uI aE (λp i=>by simp at i;rcases i with rfl|rfl|rfl;exact o;exact hb;exact uI aE aC);split at e;rename_i h;simp only[Rs.ok.injEq]at e;obtain⟨rfl,rfl⟩:=e;exact uI aE aC;exact bt
end Ar
end Go.Proofs.YtegbdaffhpiacaaGreatDoor

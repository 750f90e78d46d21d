/- Bytes: lemmas on lists of bytes; Plain functions: the one form of a tree, and how long it can be; The tokens of a text: za7 functions and lemmas; Tokens, one after the other: za7 lemmas; Reading one part after the other: za7 lemmas; Reading any number of parts: za7 lemmas; Declaring a name: za7 functions; Plain lemmas: reading goes on as long as there are tokens, and an error is never 0; Plain: the terms and the atoms of trees; a list in which each stands once. -/
import Derived.Test.YtegbdaffhpiacaaGreatDoorEit01
import Derived.Test.YtegbdaffhpiacaaGreatDoorEit02
import Derived.Lib.Strings
namespace Go.Proofs.YtegbdaffhpiacaaGreatDoor
open Go.RowKit
theorem Z3 (s:ByteArray):s.toList.length=s.size:=by
 rw [ByteArray.toList_eq];exact (Lib.size_eq s).symm
theorem zj3 (s:ByteArray) (k:Nat) (h:k < s.size):s.toList.take (k+1)=s.toList.take k++[s[k]]:=by
 rw [ByteArray.toList_eq,List.take_succ_eq_append_getElem (by rw [<- Lib.size_eq];exact h)];rfl
theorem zx9 (s:ByteArray) (k:Nat) (h:s.size<=k):s.toList.take k=s.toList:=by
 rw [List.take_of_length_le];rw [Z3];exact h
theorem za9 {a b:ByteArray} (h:a.toList=b.toList):a=b:=by
 rw [ByteArray.toList_eq,ByteArray.toList_eq] at h
 cases a;cases b;simp_all
theorem zj4 {p:UInt8->Bool} {l:List UInt8} {k:Nat} (h:(l.take k).all p=false):l.all p=false:=by
 rw [<- List.take_append_drop k l,List.all_append,h];rfl
theorem zy0 (s:ByteArray) (p:UInt8->Bool) (k:Nat) (h:k < s.size) (hp:p s[k]=false):s.toList.all p=false:=by
 apply zj4 (k:=k+1)
 rw [zj3 s k h,List.all_append];simp [hp]
theorem zO3 (s:ByteArray) (p:UInt8->Bool) (k:Nat) (h:k < s.size) (ha:(s.toList.take k).all p=true) (hp:p s[k]=true):(s.toList.take (k+1)).all p=true:=by
 rw [zj3 s k h,List.all_append,ha];simp [hp]
theorem zd4 {a b:Bool} (h:a=b):Ending.returned (.bool a)=.returned (.bool b):=by rw [h]
end Go.Proofs.YtegbdaffhpiacaaGreatDoor

namespace Go.Proofs.YtegbdaffhpiacaaGreatDoor
namespace Ar
def dig (n:Nat):UInt8:=UInt8.ofNat (48+n)
def zu5:Nat->Nat->List UInt8
 | 0,n=>[dig n]
 | f+1,n=>if n < 10 then [dig n] else zu5 f (n / 10)++[dig (n % 10)]
def zd3 (v:Int):List UInt8:=if v < 0 then 45 :: zu5 3 (-v).toNat else zu5 3 v.toNat
def V9 (k:Int) (w:ByteArray) (v:Int):List UInt8:=if k=4\/k=5 then zd3 v else w.toList
mutual
def Z1:Nd->List UInt8
 | .mk k w v ps=>if k=1\/k=2\/ps ≠ [] then 40 :: (V9 k w v++Q0 ps++[41]) else V9 k w v
def Q0:List Nd->List UInt8
 | []=>[]
 | p :: ps=>32 :: (Z1 p++Q0 ps)
end
theorem zW9 (ps:List Nd) (p:Nd):Q0 (ps++[p])=Q0 ps++32 :: Z1 p:=by
 induction ps with
 | nil=>simp [Q0]
 | cons q qs ih=>simp [Q0,ih]
theorem zh5 (f n:Nat):(zu5 f n).length<=f+1:=by
 induction f generalizing n with
 | zero=>simp [zu5]
 | succ f ih =>
  unfold zu5
  split
  ·simp
  ·have:=ih (n / 10)
   simp;omega
theorem qf1 (v:Int):(zd3 v).length<=5:=by
 unfold zd3
 split
 ·have:=zh5 3 (-v).toNat;simp;omega
 ·have:=zh5 3 v.toNat;omega
def TS (ts:List Tk):Prop:=∀ t∈ts,t.txt.size<=600
theorem TS.tail {t:Tk} {ts:List Tk} (h:TS (t :: ts)):TS ts:=fun u hu=>h u (List.mem_cons_of_mem _ hu)
def BD (nd:Nd) (ts ts':List Tk):Prop:=(Z1 nd).length+1+603 * ts'.length<=603 * ts.length/\TS ts'
def Fits (f:List Tk->Rs Nd):Prop:=∀ ts nd ts',TS ts->f ts=.ok nd ts'->BD nd ts ts'
theorem zq2 (fs:List (List Tk->Rs Nd)) (h:∀ f∈fs,Fits f):∀ ts ps ts',TS ts->J0 fs ts=.ok ps ts'->(Q0 ps).length+603 * ts'.length<=603 * ts.length/\TS ts':=by
 induction fs with
 | nil =>
  intro ts ps ts' hs e
  simp only [J0,Rs.ok.injEq] at e
  obtain ⟨rfl,rfl⟩:=e
  exact ⟨by simp [Q0],hs⟩
 | cons f fs ih =>
  intro ts ps ts' hs e
  unfold J0 at e
  split at e
  ·exact absurd e (by simp)
  ·rename_i a us hf
   split at e
   ·exact absurd e (by simp)
   ·rename_i as vs hr
    simp only [Rs.ok.injEq] at e
    obtain ⟨rfl,rfl⟩:=e
    have h1:=h f (List.mem_cons_self ..) ts a us hs hf
    have h2:=ih (fun g hg=>h g (List.mem_cons_of_mem _ hg)) us as vs h1.2 hr
    refine ⟨?_,h2.2⟩
    have:=h1.1
    have:=h2.1
    simp [Q0];omega
theorem qD7 (m:Nat) (f:List Tk->Rs Nd) (h:Fits f):∀ ts ps ts',TS ts->X6 m f ts=.ok ps ts'->(Q0 ps).length+603 * ts'.length<=603 * ts.length/\TS ts':=by
 induction m with
 | zero=>intro ts ps ts' _ e;exact absurd e (by simp [X6])
 | succ m ih =>
  intro ts ps ts' hs e
  cases ts with
  | nil=>exact absurd e (by simp [X6])
  | cons t ts =>
   unfold X6 at e
   split at e
   ·simp only [Rs.ok.injEq] at e
    obtain ⟨rfl,rfl⟩:=e
    exact ⟨by simp [Q0],hs⟩
   ·split at e
    ·exact absurd e (by simp)
    ·rename_i a us hf
     split at e
     ·exact absurd e (by simp)
     ·rename_i as vs hr
      simp only [Rs.ok.injEq] at e
      obtain ⟨rfl,rfl⟩:=e
      have h1:=h _ a us hs hf
      have h2:=ih us as vs h1.2 hr
      refine ⟨?_,h2.2⟩
      have:=h1.1
      have:=h2.1
      simp [Q0] at *;omega
theorem zs5 (s:ByteArray):s.toList.length=s.size:=Z3 s
theorem zl8 (k:Int) (hk:k=4\/k=5):Fits (W7 k):=by
 intro ts nd ts' hs e
 cases ts with
 | nil=>exact absurd e (by simp [W7])
 | cons t ts =>
  simp only [W7] at e
  split at e
  ·exact absurd e (by simp)
  ·rename_i v _
   split at e
   ·exact absurd e (by simp)
   ·simp only [Rs.ok.injEq] at e
    obtain ⟨rfl,rfl⟩:=e
    refine ⟨?_,hs.tail⟩
    have:=qf1 v
    have h1:¬(k=1\/k=2\/([]:List Nd) ≠ []):=by rcases hk with rfl | rfl <;> simp
    rw [Z1,if_neg h1,V9,if_pos hk]
    simp;omega
theorem jj5 (k:Int) (w:ByteArray) (v:Int) (h:w.size<=600):(V9 k w v).length<=600:=by
 unfold V9
 split
 ·have:=qf1 v;omega
 ·rw [zs5];exact h
theorem zX0 (k:Int) (w:ByteArray) (v:Int) (ps:List Nd) (h:w.size<=600):(Z1 (.mk k w v ps)).length<=602+(Q0 ps).length:=by
 have:=jj5 k w v h
 rw [Z1]
 split
 ·simp;omega
 ·omega
theorem zE1 {e k:Int} {w:ByteArray} {r:Rs (List Nd)} {nd:Nd} {ts ts':List Tk} (hw:w.size<=600) (hr:∀ ps us,r=.ok ps us->(Q0 ps).length+603 * us.length<=603 * ts.length/\TS us) (h:J6 e k w r=.ok nd ts') :
  (Z1 nd).length+603 * ts'.length<=603 * ts.length/\TS ts':=by
 cases r with
 | no e p=>exact absurd h (by simp [J6])
 | ok ps us =>
  obtain ⟨h1,h2⟩:=hr ps us rfl
  cases us with
  | nil=>exact absurd h (by simp [J6,zc3])
  | cons v vs =>
   simp only [J6,zc3] at h
   split at h
   ·simp only [Rs.ok.injEq] at h
    obtain ⟨rfl,rfl⟩:=h
    have:=zX0 k w 0 ps hw
    refine ⟨?_,h2.tail⟩
    simp at h1;omega
   ·split at h <;> exact absurd h (by simp)
theorem qf2 {f:List Tk->Rs Nd} (h:Fits f):Fits (za1 f):=by
 intro ts nd ts' hs e
 cases ts with
 | nil=>exact absurd e (by simp [za1])
 | cons t ts =>
  simp only [za1] at e
  split at e
  ·exact absurd e (by simp)
  ·exact h _ _ _ hs e
theorem zs6 (N:List Nm) (n:Nat):∀ d,Fits (X0 N n d):=by
 induction n with
 | zero=>intro d ts nd ts' _ e;exact absurd e (by simp [X0])
 | succ n ih =>
  intro d ts nd ts' hs e
  cases ts with
  | nil=>exact absurd e (by simp [X0])
  | cons t ts =>
   unfold X0 at e
   split at e
   ·split at e
    ·exact absurd e (by simp)
    ·split at e
     ·exact absurd e (by simp)
     ·rename_i u us
      split at e
      ·split at e
       ·exact absurd e (by simp)
       ·rename_i a _
        split at e
        ·exact absurd e (by simp)
        ·have hus:TS us:=hs.tail.tail
         have h1:=zE1 (ts:=us) (hs.tail u (List.mem_cons_self ..)) (fun ps vs hr=>zq2 _ (fun f hf=>by rw [(List.mem_replicate.1 hf).2];exact qf2 (ih (d+1))) us ps vs hus hr) e
         refine ⟨?_,h1.2⟩
         have:=h1.1
         simp;omega
      ·exact absurd e (by simp)
   ·split at e
    ·split at e
     ·exact absurd e (by simp)
     ·split at e
      ·simp only [Rs.ok.injEq] at e
       obtain ⟨rfl,rfl⟩:=e
       refine ⟨?_,hs.tail⟩
       have:=zX0 3 t.txt 0 [] (hs t (List.mem_cons_self ..))
       simp [Q0] at *;omega
      ·exact absurd e (by simp)
    ·exact zl8 4 (Or.inl rfl) _ _ _ hs e
theorem zR8 (N:List Nm) (n:Nat):∀ d,Fits (J9 N n d):=by
 induction n with
 | zero=>intro d ts nd ts' _ e;exact absurd e (by simp [J9])
 | succ n ih =>
  intro d ts nd ts' hs e
  cases ts with
  | nil=>exact absurd e (by simp [J9])
  | cons t ts =>
   unfold J9 at e
   split at e
   ·split at e
    ·exact absurd e (by simp)
    ·split at e
     ·exact absurd e (by simp)
     ·rename_i u us
      split at e
      ·exact absurd e (by simp)
      ·rename_i ks _
       have hus:TS us:=hs.tail.tail
       have hp:∀ ps vs,O3 ks.2 n (J9 N n (d+1)) (X0 N n (d+1)) (W7 5) us=.ok ps vs->(Q0 ps).length+603 * vs.length<=603 * us.length/\TS vs:=by
        intro ps vs hr
        unfold O3 at hr
        split at hr
        ·exact zq2 _ (by intro f hf;simp at hf;subst hf;exact ih (d+1)) us ps vs hus hr
        ·split at hr
         ·exact zq2 _ (by intro f hf;simp at hf;subst hf;exact ih (d+1)) us ps vs hus hr
         ·split at hr
          ·exact zq2 _ (by intro f hf;simp at hf;subst hf;exact zs6 N n (d+1)) us ps vs hus hr
          ·split at hr
           ·exact zq2 _ (by intro f hf;simp at hf;rcases hf with rfl | rfl;exact zs6 N n (d+1);exact zl8 5 (Or.inr rfl)) us ps vs hus hr
           ·exact qD7 n _ (ih (d+1)) us ps vs hus hr
       have h1:=zE1 (ts:=us) (hs.tail u (List.mem_cons_self ..)) hp e
       refine ⟨?_,h1.2⟩
       have:=h1.1
       simp;omega
   ·split at e
    ·simp only [Rs.ok.injEq] at e
     obtain ⟨rfl,rfl⟩:=e
     refine ⟨?_,hs.tail⟩
     have:=zX0 0 t.txt 0 [] (hs t (List.mem_cons_self ..))
     simp [Q0] at *;omega
    ·exact absurd e (by simp)
end Ar
namespace Ar
def zb2 (i:Nat) (wd:List UInt8):List Tk:=if wd=[] then [] else [⟨i - wd.length,⟨wd.toArray⟩⟩]
def zb5:Nat->List UInt8->List UInt8->List Tk
 | i,wd,[]=>zb2 i wd++[⟨i,ByteArray.empty⟩]
 | i,wd,c :: r=>if zo8 c then zb2 i wd++⟨i,⟨#[c]⟩⟩ :: zb5 (i+1) [] r else if zq1 c then zb2 i wd++zb5 (i+1) [] r else zb5 (i+1) (wd++[c]) r
def toks (l:List UInt8):List Tk:=zb5 0 [] l
theorem zC4 (i:Nat) (wd:List UInt8):(zb2 i wd).length=if wd=[] then 0 else 1:=by
 unfold zb2;split <;> rfl
theorem jj7 (l:List UInt8):∀ i wd,(zb5 i wd l).length<=l.length+1+(if wd=[] then 0 else 1):=by
 induction l with
 | nil=>intro i wd;simp [zb5,zC4];omega
 | cons c r ih =>
  intro i wd
  unfold zb5
  split
  ·have:=ih (i+1) []
   simp [zC4] at this ⊢;omega
  ·split
   ·have:=ih (i+1) []
    simp [zC4] at this ⊢;omega
   ·have:=ih (i+1) (wd++[c])
    simp at this ⊢;split <;> omega
theorem qf8 (l:List UInt8):(toks l).length<=l.length+1:=by
 have:=jj7 l 0 []
 simpa [toks] using this
theorem zd0 (l:List UInt8):(ByteArray.mk l.toArray).toList=l:=by
 rw [ByteArray.toList_eq]
theorem qO8 {t:Tk} {ts:List Tk} (h:TW ts) (ht:t.txt.toList ≠ []):TW (t :: ts):=by
 cases ts with
 | nil=>exact absurd rfl h.ne
 | cons u us=>exact ⟨ht,h⟩
theorem zL2 {i:Nat} {wd:List UInt8} {ts:List Tk} (h:TW ts):TW (zb2 i wd++ts):=by
 unfold zb2
 split
 ·exact h
 ·rename_i hw
  exact qO8 h (by rw [zd0];exact hw)
theorem zd9:ByteArray.empty.toList=[]:=by rw [ByteArray.toList_eq];rfl
theorem qO9 (l:List UInt8):∀ i wd,TW (zb5 i wd l):=by
 induction l with
 | nil=>intro i wd;exact zL2 zd9
 | cons c r ih =>
  intro i wd
  unfold zb5
  split
  ·exact zL2 (qO8 (ih _ _) (by rw [show (ByteArray.mk #[c]).toList=[c] from zd0 [c]];simp))
  ·split
   ·exact zL2 (ih _ _)
   ·exact ih _ _
theorem qf9 (l:List UInt8) (B:Nat):∀ i wd,wd.length+l.length<=B->1<=B->∀ t∈zb5 i wd l,t.txt.size<=B:=by
 have hfl:∀ i wd,wd.length<=B->∀ t∈zb2 i wd,t.txt.size<=B:=by
  intro i wd hB t ht
  unfold zb2 at ht
  split at ht
  ·exact absurd ht (by simp)
  ·simp at ht
   rw [ht,<- zs5,zd0]
   exact hB
 induction l with
 | nil =>
  intro i wd hB _ t ht
  unfold zb5 at ht
  rcases List.mem_append.1 ht with h | h
  ·exact hfl _ _ (by simp at hB;omega) t h
  ·simp at h
   rw [h,<- zs5,zd9];simp
 | cons c r ih =>
  intro i wd hB h1 t ht
  simp at hB
  unfold zb5 at ht
  split at ht
  ·rcases List.mem_append.1 ht with h | h
   ·exact hfl _ _ (by omega) t h
   ·rcases List.mem_cons.1 h with h | h
    ·rw [h,<- zs5,show (ByteArray.mk #[c]).toList=[c] from zd0 [c]];simpa using h1
    ·exact ih _ _ (by simp;omega) h1 t h
  ·split at ht
   ·rcases List.mem_append.1 ht with h | h
    ·exact hfl _ _ (by omega) t h
    ·exact ih _ _ (by simp;omega) h1 t h
   ·exact ih _ _ (by simp;omega) h1 t ht
end Ar
namespace Ar
def za7 (c:UInt8):Bool := !zq1 c && !zo8 c
def kOf (l:List UInt8):Int:=if l=[] then 0 else if l=[40] then 1 else if l=[41] then 2 else 3
theorem qP0 (u:List UInt8):∀ i wd rest,u.all za7=true->zb5 i wd (u++rest)=zb5 (i+u.length) (wd++u) rest:=by
 induction u with
 | nil=>intro i wd rest _;simp
 | cons c u ih =>
  intro i wd rest h
  simp only [List.all_cons,Bool.and_eq_true] at h
  obtain ⟨hc,hu⟩:=h
  simp only [za7,Bool.and_eq_true,Bool.not_eq_true'] at hc
  rw [List.cons_append,zb5,if_neg (by rw [hc.2];decide),if_neg (by rw [hc.1];decide),ih _ _ _ hu]
  simp
  have:i+1+u.length=i+(u.length+1):=by omega
  rw [this]
theorem ja0 (j:Nat) (wd rest:List UInt8) (hw:wd ≠ []) (hr:∀ c r,rest=c :: r->za7 c=false):zb5 j wd rest=⟨j - wd.length,⟨wd.toArray⟩⟩ :: zb5 j [] rest:=by
 have hf:zb2 j wd=[⟨j - wd.length,⟨wd.toArray⟩⟩]:=by rw [zb2,if_neg hw]
 have hf0:zb2 j []=[]:=rfl
 cases rest with
 | nil=>simp [zb5,hf,hf0]
 | cons c r =>
  have hc:=hr c r rfl
  cases hb:zo8 c with
  | true=>simp [zb5,hb,hf,hf0]
  | false =>
   have hl:zq1 c=true:=by
    cases h:zq1 c with
    | true=>rfl
    | false=>rw [za7,h,hb] at hc;exact absurd hc (by decide)
   simp [zb5,hb,hl,hf,hf0]
theorem ja1 (k:Nat) (u rest:List UInt8) (hu:u ≠ []) (hp:u.all za7=true) (hr:∀ c r,rest=c :: r->za7 c=false):zb5 k [] (u++rest)=⟨k,⟨u.toArray⟩⟩ :: zb5 (k+u.length) [] rest:=by
 rw [qP0 u k [] rest hp,List.nil_append,ja0 _ _ _ hu hr]
 have:k+u.length - u.length=k:=by omega
 rw [this]
theorem jn4 (k:Nat) (c:UInt8) (r:List UInt8) (h:zo8 c=true):zb5 k [] (c :: r)=⟨k,⟨#[c]⟩⟩ :: zb5 (k+1) [] r:=by
 rw [zb5,if_pos h];rfl
theorem jn5 (k:Nat) (c:UInt8) (r:List UInt8) (h:zq1 c=true):zb5 k [] (c :: r)=zb5 (k+1) [] r:=by
 have hb:zo8 c=false:=by
  unfold zq1 at h
  simp at h
  rcases h with (rfl | rfl) | rfl <;> decide
 rw [zb5,if_neg (by rw [hb];decide),if_pos h];rfl
theorem qP1 {u:List UInt8} (hu:u ≠ []) (hp:u.all za7=true):kOf u=3:=by
 have h1:u ≠ [40]:=by intro e;rw [e] at hp;exact absurd hp (by decide)
 have h2:u ≠ [41]:=by intro e;rw [e] at hp;exact absurd hp (by decide)
 rw [kOf,if_neg hu,if_neg h1,if_neg h2]
end Ar
namespace Ar
theorem qv7 (f1 f2:List (List Tk->Rs Nd)):∀ ts,J0 (f1++f2) ts=match J0 f1 ts with | .no e p=>.no e p | .ok as us=>match J0 f2 us with | .no e p=>.no e p | .ok bs vs=>.ok (as++bs) vs:=by
 induction f1 with
 | nil =>
  intro ts
  simp only [List.nil_append,J0]
  cases J0 f2 ts <;> simp
 | cons f fs ih =>
  intro ts
  simp only [List.cons_append,J0]
  cases f ts with
  | no e p=>simp
  | ok a us =>
   simp only [ih us]
   cases J0 fs us with
   | no e p=>simp
   | ok as vs =>
    simp only
    cases J0 f2 vs <;> simp
theorem row_len (fs:List (List Tk->Rs Nd)):∀ ts ps ts',J0 fs ts=.ok ps ts'->ps.length=fs.length:=by
 induction fs with
 | nil=>intro ts ps ts' e;simp only [J0,Rs.ok.injEq] at e;rw [<- e.1];rfl
 | cons f fs ih =>
  intro ts ps ts' e
  unfold J0 at e
  split at e
  ·exact absurd e (by simp)
  ·split at e
   ·exact absurd e (by simp)
   ·rename_i as vs hr
    simp only [Rs.ok.injEq] at e
    rw [<- e.1,List.length_cons,List.length_cons,ih _ _ _ hr]
end Ar
namespace Ar
def zu6 (ps:List Nd):Rs (List Nd)->Rs (List Nd)
 | .no e p=>.no e p
 | .ok qs ts=>.ok (ps++qs) ts
theorem qZ8 (r:Rs (List Nd)):zu6 [] r=r:=by cases r <;> simp [zu6]
theorem qE6 {F:List Tk->Rs Nd} {m:Nat} {ps:List Nd} {v:Tk} {vs us':List Tk} {nd:Nd} (hv:¬v.txt.toList=[41]) (hf:F (v :: vs)=.ok nd us'):zu6 ps (X6 (m+1) F (v :: vs))=zu6 (ps++[nd]) (X6 m F us'):=by
 simp only [X6,if_neg hv,hf]
 cases X6 m F us' <;> simp [zu6]
theorem qZ9 {F:List Tk->Rs Nd} {m:Nat} {ps:List Nd} {v:Tk} {vs:List Tk} {e:Int} {p:Nat} (hv:¬v.txt.toList=[41]) (hf:F (v :: vs)=.no e p):zu6 ps (X6 (m+1) F (v :: vs))=.no e p:=by
 rw [X6,if_neg hv,hf];rfl
theorem qO7 {F:List Tk->Rs Nd} {m:Nat} {ps:List Nd} {v:Tk} {vs:List Tk} (hv:v.txt.toList=[41]):zu6 ps (X6 (m+1) F (v :: vs))=.ok ps (v :: vs):=by
 rw [X6,if_pos hv];simp [zu6]
theorem zL1 {f:List Tk->Rs Nd} (h:Fits f) {ts ts':List Tk} {nd:Nd} (hs:TS ts) (e:f ts=.ok nd ts'):ts'.length+1<=ts.length:=by
 have:=(h ts nd ts' hs e).1
 omega
theorem qE7 (fs:List (List Tk->Rs Nd)) (h:∀ f∈fs,Fits f):∀ ts ps ts',TS ts->J0 fs ts=.ok ps ts'->fs.length+ts'.length<=ts.length:=by
 induction fs with
 | nil =>
  intro ts ps ts' hs e
  simp only [J0,Rs.ok.injEq] at e
  obtain ⟨rfl,rfl⟩:=e
  simp
 | cons f fs ih =>
  intro ts ps ts' hs e
  unfold J0 at e
  split at e
  ·exact absurd e (by simp)
  ·rename_i a us hf
   split at e
   ·exact absurd e (by simp)
   ·rename_i as vs hr
    simp only [Rs.ok.injEq] at e
    obtain ⟨rfl,rfl⟩:=e
    have h1:=zL1 (h f (List.mem_cons_self ..)) hs hf
    have h2:=ih (fun g hg=>h g (List.mem_cons_of_mem _ hg)) us as vs (h f (List.mem_cons_self ..) ts a us hs hf).2 hr
    simp;omega
end Ar
namespace Ar
def K6 (N:List Nm) (l:List UInt8) (a:Int):Int :=
 if X4 l=false then 3 else if a < 0\/3 < a then 4 else if (k9 N l).isSome=true then 7 else if 20<=N.length then 8 else 0
def x9 (N:List Nm) (F:Int) (s:ByteArray) (a:Int):List Nm:=if K6 N s.toList a=0 then N++[⟨s,a,F⟩] else N
end Ar
namespace Ar
def Gd (n:Nat) (f:List Tk->Rs Nd):Prop:=∀ ts,TW ts->ts.length<=n->(∀ e p,f ts=.no e p->e ≠ 0)/\(∀ nd ts',f ts=.ok nd ts'->TW ts'/\ts'.length < ts.length)
def GdL (r:Rs (List Nd)) (ts:List Tk):Prop:=(∀ e p,r=.no e p->e ≠ 0)/\(∀ ps ts',r=.ok ps ts'->TW ts'/\ts'.length<=ts.length)
theorem zL4 (n:Nat) (fs:List (List Tk->Rs Nd)) (h:∀ f∈fs,Gd n f):∀ ts,TW ts->ts.length<=n->GdL (J0 fs ts) ts:=by
 induction fs with
 | nil=>intro ts hw _;exact ⟨fun e p h=>by simp [J0] at h,fun ps ts' h=>by simp [J0] at h;obtain ⟨_,rfl⟩:=h;exact ⟨hw,Nat.le_refl _⟩⟩
 | cons f fs ih =>
  intro ts hw hl
  have hf:=h f (List.mem_cons_self ..) ts hw hl
  have ih':=ih (fun g hg=>h g (List.mem_cons_of_mem _ hg))
  unfold J0
  cases hr:f ts with
  | no e p=>exact ⟨fun e' p' h'=>by simp at h';obtain ⟨rfl,rfl⟩:=h';exact hf.1 _ _ hr,fun ps ts' h'=>by simp at h'⟩
  | ok a us =>
   have h1:=hf.2 _ _ hr
   have h2:=ih' us h1.1 (by omega)
   cases hq:J0 fs us with
   | no e p=>exact ⟨fun e' p' h'=>by simp [hq] at h';obtain ⟨rfl,rfl⟩:=h';exact h2.1 _ _ hq,fun ps ts' h'=>by simp [hq] at h'⟩
   | ok as vs =>
    have h3:=h2.2 _ _ hq
    exact ⟨fun e' p' h'=>by simp [hq] at h',fun ps ts' h'=>by simp [hq] at h';obtain ⟨_,rfl⟩:=h';exact ⟨h3.1,by omega⟩⟩
theorem ja4 (n:Nat) (f:List Tk->Rs Nd) (h:Gd n f) (m:Nat):∀ ts,TW ts->ts.length<=n->ts.length<=m->GdL (X6 m f ts) ts:=by
 induction m with
 | zero =>
  intro ts hw _ hl
  cases ts with
  | nil=>exact absurd hw (by simp [TW])
  | cons t ts=>simp at hl
 | succ m ih =>
  intro ts hw hl hm
  cases ts with
  | nil=>exact absurd hw (by simp [TW])
  | cons t ts =>
   have hf:=h (t :: ts) hw hl
   unfold X6
   by_cases hc:t.txt.toList=[41]
   ·rw [if_pos hc]
    exact ⟨fun e' p' h'=>by simp at h',fun ps ts' h'=>by simp at h';obtain ⟨_,rfl⟩:=h';exact ⟨hw,Nat.le_refl _⟩⟩
   ·rw [if_neg hc]
    cases hr:f (t :: ts) with
    | no e p=>exact ⟨fun e' p' h'=>by simp at h';obtain ⟨rfl,rfl⟩:=h';exact hf.1 _ _ hr,fun ps ts' h'=>by simp at h'⟩
    | ok a us =>
     have h1:=hf.2 _ _ hr
     have h2:=ih us h1.1 (by omega) (by omega)
     cases hq:X6 m f us with
     | no e p=>exact ⟨fun e' p' h'=>by simp [hq] at h';obtain ⟨rfl,rfl⟩:=h';exact h2.1 _ _ hq,fun ps ts' h'=>by simp [hq] at h'⟩
     | ok as vs =>
      have h3:=h2.2 _ _ hq
      exact ⟨fun e' p' h'=>by simp [hq] at h',fun ps ts' h'=>by simp [hq] at h';obtain ⟨_,rfl⟩:=h';exact ⟨h3.1,by omega⟩⟩
theorem qP5 (n:Nat) (k:Int):Gd n (W7 k):=by
 intro ts hw _
 cases ts with
 | nil=>exact absurd hw (by simp [TW])
 | cons t ts =>
  simp only [W7]
  cases hn:numOf t.txt.toList with
  | none=>exact ⟨fun e' p' h'=>by simp at h';obtain ⟨rfl,rfl⟩:=h';decide,fun ps ts' h'=>by simp at h'⟩
  | some v =>
   have hne:t.txt.toList ≠ []:=by
    intro e;rw [e,show numOf []=none from by decide] at hn;cases hn
   by_cases hv:v < -1000\/1000 < v
   ·simp only [if_pos hv]
    exact ⟨fun e' p' h'=>by simp at h';obtain ⟨rfl,rfl⟩:=h';decide,fun ps ts' h'=>by simp at h'⟩
   ·simp only [if_neg hv]
    exact ⟨fun e' p' h'=>by simp at h',fun ps ts' h'=>by simp at h';obtain ⟨_,rfl⟩:=h';exact ⟨hw.tail hne,by simp⟩⟩
theorem zS1 {e k:Int} {w:ByteArray} {r:Rs (List Nd)} {ts:List Tk} (he:e ≠ 0) (h:GdL r ts):(∀ e' p,J6 e k w r=.no e' p->e' ≠ 0)/\(∀ nd ts',J6 e k w r=.ok nd ts'->TW ts'/\ts'.length < ts.length):=by
 cases r with
 | no e1 p1=>exact ⟨fun e' p' h'=>by simp [J6] at h';obtain ⟨rfl,rfl⟩:=h';exact h.1 _ _ rfl,fun ps ts' h'=>by simp [J6] at h'⟩
 | ok ps us =>
  have h1:=h.2 _ _ rfl
  cases us with
  | nil=>exact absurd h1.1 (by simp [TW])
  | cons v vs =>
   simp only [J6,zc3]
   by_cases hc:v.txt.toList=[41]
   ·rw [if_pos hc]
    refine ⟨fun e' p' h'=>by simp at h',fun nd ts' h'=>?_⟩
    simp at h'
    obtain ⟨_,rfl⟩:=h'
    have h2:=h1.2
    exact ⟨h1.1.tail (by rw [hc];simp),by simp at h2;omega⟩
   ·rw [if_neg hc]
    by_cases hv:v.txt.toList=[]
    ·rw [if_pos hv]
     exact ⟨fun e' p' h'=>by simp at h';obtain ⟨rfl,rfl⟩:=h';decide,fun ps ts' h'=>by simp at h'⟩
    ·rw [if_neg hv]
     exact ⟨fun e' p' h'=>by simp at h';obtain ⟨rfl,rfl⟩:=h';exact he,fun ps ts' h'=>by simp at h'⟩
theorem jj8 {n:Nat} {f:List Tk->Rs Nd} (h:Gd n f):Gd n (za1 f):=by
 intro ts hw hl
 cases ts with
 | nil=>exact absurd hw (by simp [TW])
 | cons t ts =>
  simp only [za1]
  by_cases hc:t.txt.toList=[41]
  ·rw [if_pos hc]
   exact ⟨fun e' p' h'=>by simp at h';obtain ⟨rfl,rfl⟩:=h';decide,fun ps ts' h'=>by simp at h'⟩
  ·rw [if_neg hc];exact h _ hw hl
theorem zz4 {e:Int} {p:Nat} {ts:List Tk} (he:e ≠ 0):(∀ e' p',(Rs.no e p:Rs Nd)=.no e' p'->e' ≠ 0)/\(∀ nd ts',(Rs.no e p:Rs Nd)=.ok nd ts'->TW ts'/\ts'.length < ts.length) :=
 ⟨fun e' p' h'=>by simp at h';obtain ⟨rfl,rfl⟩:=h';exact he,fun ps ts' h'=>by simp at h'⟩
theorem je6 {nd:Nd} {us ts:List Tk} (h:TW us) (hl:us.length < ts.length):(∀ e' p',(Rs.ok nd us:Rs Nd)=.no e' p'->e' ≠ 0)/\(∀ nd' ts',(Rs.ok nd us:Rs Nd)=.ok nd' ts'->TW ts'/\ts'.length < ts.length) :=
 ⟨fun e' p' h'=>by simp at h',fun ps ts' h'=>by simp at h';obtain ⟨_,rfl⟩:=h';exact ⟨h,hl⟩⟩
theorem ja5 (N:List Nm) (n:Nat):∀ d,Gd n (X0 N n d):=by
 induction n with
 | zero =>
  intro d ts hw hl
  cases ts with
  | nil=>exact absurd hw (by simp [TW])
  | cons t ts=>simp at hl
 | succ n ih =>
  intro d ts hw hl
  cases ts with
  | nil=>exact absurd hw (by simp [TW])
  | cons t ts =>
   unfold X0
   by_cases ho:t.txt.toList=[40]
   ·have h1:=hw.tail (by rw [ho];simp)
    rw [if_pos ho]
    by_cases hd:30<=d
    ·rw [if_pos hd];exact zz4 (by decide)
    ·rw [if_neg hd]
     cases ts with
     | nil=>exact absurd h1 (by simp [TW])
     | cons u us =>
      simp only
      by_cases hn:X4 u.txt.toList=true
      ·rw [if_pos hn]
       cases ha:k9 N u.txt.toList with
       | none=>exact zz4 (by decide)
       | some a =>
        simp only
        by_cases h0:a=0
        ·rw [if_pos h0];exact zz4 (by decide)
        ·rw [if_neg h0]
         have hune:u.txt.toList ≠ []:=by
          intro e;rw [e] at hn;exact absurd hn (by decide)
         have h2:=h1.tail hune
         have h3:=zS1 (k:=3) (w:=u.txt) (by decide:(4:Int) ≠ 0) (zL4 n (List.replicate a.toNat (za1 (X0 N n (d+1)))) (fun f hf=>by rw [(List.mem_replicate.1 hf).2];exact jj8 (ih (d+1))) us h2 (by simp at hl;omega))
         exact ⟨h3.1,fun nd ts' h'=>⟨(h3.2 nd ts' h').1,by have:=(h3.2 nd ts' h').2;simp;omega⟩⟩
      ·rw [if_neg hn];exact zz4 (by decide)
   ·rw [if_neg ho]
    by_cases hn:X4 t.txt.toList=true
    ·rw [if_pos hn]
     cases ha:k9 N t.txt.toList with
     | none=>exact zz4 (by decide)
     | some a =>
      simp only
      by_cases h0:a=0
      ·rw [if_pos h0]
       have hune:t.txt.toList ≠ []:=by
        intro e;rw [e] at hn;exact absurd hn (by decide)
       exact je6 (hw.tail hune) (by simp)
      ·rw [if_neg h0];exact zz4 (by decide)
    ·rw [if_neg hn];exact qP5 (n+1) 4 _ hw hl
theorem ja6 (N:List Nm) (n:Nat):∀ d,Gd n (J9 N n d):=by
 induction n with
 | zero =>
  intro d ts hw hl
  cases ts with
  | nil=>exact absurd hw (by simp [TW])
  | cons t ts=>simp at hl
 | succ n ih =>
  intro d ts hw hl
  cases ts with
  | nil=>exact absurd hw (by simp [TW])
  | cons t ts =>
   unfold J9
   by_cases ho:t.txt.toList=[40]
   ·have h1:=hw.tail (by rw [ho];simp)
    rw [if_pos ho]
    by_cases hd:30<=d
    ·rw [if_pos hd];exact zz4 (by decide)
    ·rw [if_neg hd]
     cases ts with
     | nil=>exact absurd h1 (by simp [TW])
     | cons u us =>
      simp only
      cases hh:zl7 u.txt.toList with
      | none=>exact zz4 (by decide)
      | some ks =>
       simp only
       have hune:u.txt.toList ≠ []:=by
        intro e;rw [e,show zl7 []=none from by decide] at hh;cases hh
       have h2:=h1.tail hune
       have hus:us.length<=n:=by simp at hl;omega
       have hF:=ih (d+1)
       have hT:=ja5 N n (d+1)
       have hG:GdL (O3 ks.2 n (J9 N n (d+1)) (X0 N n (d+1)) (W7 5) us) us:=by
        unfold O3
        by_cases s0:ks.2=0
        ·rw [if_pos s0];exact zL4 n _ (by intro f hf;simp at hf;subst hf;exact hF) us h2 hus
        rw [if_neg s0]
        by_cases s1:ks.2=1
        ·rw [if_pos s1];exact zL4 n _ (by intro f hf;simp at hf;subst hf;exact hF) us h2 hus
        rw [if_neg s1]
        by_cases s3:ks.2=3
        ·rw [if_pos s3];exact zL4 n _ (by intro f hf;simp at hf;subst hf;exact hT) us h2 hus
        rw [if_neg s3]
        by_cases s4:ks.2=4
        ·rw [if_pos s4];exact zL4 n _ (by intro f hf;simp at hf;rcases hf with rfl | rfl <;> first | exact hT | exact qP5 n 5) us h2 hus
        rw [if_neg s4]
        exact ja4 n _ hF n us h2 hus hus
       have h3:=zS1 (k:=ks.1) (w:=u.txt) (by decide:(2:Int) ≠ 0) hG
       exact ⟨h3.1,fun nd ts' h'=>⟨(h3.2 nd ts' h').1,by have:=(h3.2 nd ts' h').2;simp;omega⟩⟩
   ·rw [if_neg ho]
    by_cases hq:t.txt.toList=zl6\/t.txt.toList=zg4
    ·rw [if_pos hq]
     exact je6 (hw.tail (by rcases hq with e | e <;> rw [e] <;> decide)) (by simp)
    ·rw [if_neg hq];exact zz4 (by decide)
end Ar
namespace Ar
def U7 (t:Bool) (k:Int):Bool:=if t then k == 3 || k == 4 else k == 2
mutual
def J5 (t:Bool):Nd->List Nd
 | .mk k w v ps=>(if U7 t k=true then [.mk k w v ps] else [])++Q8 t ps
def Q8 (t:Bool):List Nd->List Nd
 | []=>[]
 | p :: ps=>J5 t p++Q8 t ps
end
theorem zd8 (t:Bool) (as bs:List Nd):Q8 t (as++bs)=Q8 t as++Q8 t bs:=by
 induction as with
 | nil=>rfl
 | cons a as ih=>simp [Q8,ih]
theorem Y9 {t:Bool} {x:Nd} {ps:List Nd}:x∈Q8 t ps↔∃ p∈ps,x∈J5 t p:=by
 induction ps with
 | nil=>simp [Q8]
 | cons p ps ih=>simp [Q8,ih]
def qD8 (l:List (List UInt8)) (f:List UInt8):List (List UInt8):=if f∈l then l else l++[f]
def zw0 (l:List (List UInt8)) (xs:List Nd):List (List UInt8):=xs.foldl (fun l x=>qD8 l (Z1 x)) l
theorem zE2 (l:List (List UInt8)) (x:Nd) (xs:List Nd):zw0 l (x :: xs)=zw0 (qD8 l (Z1 x)) xs:=rfl
theorem qO2 {l:List (List UInt8)} {f g:List UInt8}:g∈qD8 l f↔g∈l\/g=f:=by
 unfold qD8
 split
 ·rename_i h
  constructor
  ·exact .inl
  ·rintro (h' | rfl)
   ·exact h'
   ·exact h
 ·simp
theorem qp1 {l:List (List UInt8)} {f:List UInt8} (h:l.Nodup):(qD8 l f).Nodup:=by
 unfold qD8
 split
 ·exact h
 ·rename_i hf
  rw [List.nodup_append]
  refine ⟨h,by simp,?_⟩
  intro a ha b hb e
  simp at hb
  subst hb e
  exact hf ha
theorem qp2 {xs:List Nd}:∀ {l:List (List UInt8)} {g:List UInt8},g∈zw0 l xs↔g∈l\/∃ x∈xs,g=Z1 x:=by
 induction xs with
 | nil=>intro l g;simp [zw0]
 | cons x xs ih =>
  intro l g
  rw [zE2,ih,qO2]
  simp [or_assoc]
theorem zX1 {xs:List Nd}:∀ {l:List (List UInt8)},l.Nodup->(zw0 l xs).Nodup:=by
 induction xs with
 | nil=>intro l h;exact h
 | cons x xs ih=>intro l h;rw [zE2];exact ih (qp1 h)
theorem qf3 {α:Type} [DecidableEq α]:∀ {a b:List α},a.Nodup->b.Nodup->(∀ x,x∈a↔x∈b)->a.length=b.length:=by
 intro a
 induction a with
 | nil =>
  intro b _ _ h
  cases b with
  | nil=>rfl
  | cons y b=>exact absurd ((h y).2 (by simp)) (by simp)
 | cons x a ih =>
  intro b ha hb h
  have hx:x∈b:=(h x).1 (by simp)
  have h1:=ih (b:=b.erase x) (List.nodup_cons.1 ha).2 (hb.erase x) (fun y=>by
   rw [List.Nodup.mem_erase_iff hb]
   constructor
   ·intro hy
    exact ⟨fun e=>(List.nodup_cons.1 ha).1 (e ▸ hy),(h y).1 (List.mem_cons_of_mem _ hy)⟩
   ·rintro ⟨hne,hy⟩
    rcases List.mem_cons.1 ((h y).2 hy) with e | e
    ·exact absurd e hne
    ·exact e)
  rw [List.length_cons,h1,List.length_erase_of_mem hx]
  have:=List.length_pos_of_mem hx
  omega
theorem qD9 {α β:Type} {f : α -> β}:∀ {l:List α},l.Nodup->(∀ x∈l,∀ y∈l,f x=f y->x=y)->(l.map f).Nodup:=by
 intro l
 induction l with
 | nil=>intro _ _;simp
 | cons a l ih =>
  intro h hf
  rw [List.map_cons,List.nodup_cons]
  refine ⟨?_,ih (List.nodup_cons.1 h).2 (fun x hx y hy=>hf x (List.mem_cons_of_mem _ hx) y (List.mem_cons_of_mem _ hy))⟩
  intro hm
  obtain ⟨y,hy,e⟩:=List.mem_map.1 hm
  have:=hf y (List.mem_cons_of_mem _ hy) a (by simp) e
  subst this
  exact (List.nodup_cons.1 h).1 hy
theorem qO3 {xs T:List Nd} (hT:T.Nodup) (hm:∀ x,x∈T↔x∈xs) (hinj:∀ x∈xs,∀ y∈xs,Z1 x=Z1 y->x=y):(zw0 [] xs).length=T.length:=by
 rw [<- List.length_map (f:=Z1) (as:=T)]
 refine qf3 (zX1 List.nodup_nil) (qD9 hT (fun x hx y hy=>hinj x ((hm x).1 hx) y ((hm y).1 hy))) (fun g=>?_)
 rw [qp2]
 constructor
 ·rintro (h | ⟨x,hx,rfl⟩)
  ·exact absurd h (by simp)
  ·exact List.mem_map.2 ⟨x,(hm x).2 hx,rfl⟩
 ·intro h
  obtain ⟨x,hx,rfl⟩:=List.mem_map.1 h
  exact .inr ⟨x,(hm x).1 hx,rfl⟩
end Ar
end Go.Proofs.YtegbdaffhpiacaaGreatDoor

/- Bytes: lemmas on lists of bytes; Plain functions: the one form of a tree, and how long it can be; The tokens of a text: za8 functions and lemmas; Tokens, one after the other: za8 lemmas; Reading one part after the other: za8 lemmas; Reading any number of parts: za8 lemmas; Declaring a name: za8 functions; Plain lemmas: reading goes on as long as there are tokens, and an error is never 0; Plain: the terms and the atoms of trees; a list in which each stands once. -/
import Derived.Test.YtegbdaffhpiacaaGreatDoorBck01
import Derived.Test.YtegbdaffhpiacaaGreatDoorBck02
import Derived.Lib.Strings
namespace Go.Proofs.YtegbdaffhpiacaaGreatDoor
open Go.RowKit
theorem Z3 (s:ByteArray):s.toList.length=s.size:=by
 rw [ByteArray.toList_eq];exact (Lib.size_eq s).symm
theorem zj5 (s:ByteArray) (k:Nat) (h:k < s.size):s.toList.take (k+1)=s.toList.take k++[s[k]]:=by
 rw [ByteArray.toList_eq,List.take_succ_eq_append_getElem (by rw [<- Lib.size_eq];exact h)];rfl
theorem zy0 (s:ByteArray) (k:Nat) (h:s.size<=k):s.toList.take k=s.toList:=by
 rw [List.take_of_length_le];rw [Z3];exact h
theorem zb0 {a b:ByteArray} (h:a.toList=b.toList):a=b:=by
 rw [ByteArray.toList_eq,ByteArray.toList_eq] at h
 cases a;cases b;simp_all
theorem zj6 {p:UInt8->Bool} {l:List UInt8} {k:Nat} (h:(l.take k).all p=false):l.all p=false:=by
 rw [<- List.take_append_drop k l,List.all_append,h];rfl
theorem zy1 (s:ByteArray) (p:UInt8->Bool) (k:Nat) (h:k < s.size) (hp:p s[k]=false):s.toList.all p=false:=by
 apply zj6 (k:=k+1)
 rw [zj5 s k h,List.all_append];simp [hp]
theorem zO3 (s:ByteArray) (p:UInt8->Bool) (k:Nat) (h:k < s.size) (ha:(s.toList.take k).all p=true) (hp:p s[k]=true):(s.toList.take (k+1)).all p=true:=by
 rw [zj5 s k h,List.all_append,ha];simp [hp]
theorem zd6 {a b:Bool} (h:a=b):Ending.returned (.bool a)=.returned (.bool b):=by rw [h]
end Go.Proofs.YtegbdaffhpiacaaGreatDoor

namespace Go.Proofs.YtegbdaffhpiacaaGreatDoor
namespace Ar
def dig (n:Nat):UInt8:=UInt8.ofNat (48+n)
def zu6:Nat->Nat->List UInt8
 | 0,n=>[dig n]
 | f+1,n=>if n < 10 then [dig n] else zu6 f (n / 10)++[dig (n % 10)]
def zd4 (v:Int):List UInt8:=if v < 0 then 45 :: zu6 3 (-v).toNat else zu6 3 v.toNat
def U2 (k:Int) (w:ByteArray) (v:Int):List UInt8:=if k=4\/k=5 then zd4 v else w.toList
mutual
def Z1:Nd->List UInt8
 | .mk k w v ps=>if k=1\/k=2\/ps ≠ [] then 40 :: (U2 k w v++Q9 ps++[41]) else U2 k w v
def Q9:List Nd->List UInt8
 | []=>[]
 | p :: ps=>32 :: (Z1 p++Q9 ps)
end
theorem zW8 (ps:List Nd) (p:Nd):Q9 (ps++[p])=Q9 ps++32 :: Z1 p:=by
 induction ps with
 | nil=>simp [Q9]
 | cons q qs ih=>simp [Q9,ih]
theorem zh6 (f n:Nat):(zu6 f n).length<=f+1:=by
 induction f generalizing n with
 | zero=>simp [zu6]
 | succ f ih =>
  unfold zu6
  split
  ·simp
  ·have:=ih (n / 10)
   simp;omega
theorem qf4 (v:Int):(zd4 v).length<=5:=by
 unfold zd4
 split
 ·have:=zh6 3 (-v).toNat;simp;omega
 ·have:=zh6 3 v.toNat;omega
def TS (ts:List Tk):Prop:=∀ t∈ts,t.txt.size<=600
theorem TS.tail {t:Tk} {ts:List Tk} (h:TS (t :: ts)):TS ts:=fun u hu=>h u (List.mem_cons_of_mem _ hu)
def BD (nd:Nd) (ts ts':List Tk):Prop:=(Z1 nd).length+1+603 * ts'.length<=603 * ts.length/\TS ts'
def Fits (f:List Tk->Rs Nd):Prop:=∀ ts nd ts',TS ts->f ts=.ok nd ts'->BD nd ts ts'
theorem zq2 (fs:List (List Tk->Rs Nd)) (h:∀ f∈fs,Fits f):∀ ts ps ts',TS ts->J0 fs ts=.ok ps ts'->(Q9 ps).length+603 * ts'.length<=603 * ts.length/\TS ts':=by
 induction fs with
 | nil =>
  intro ts ps ts' hs e
  simp only [J0,Rs.ok.injEq] at e
  obtain ⟨rfl,rfl⟩:=e
  exact ⟨by simp [Q9],hs⟩
 | cons f fs ih =>
  intro ts ps ts' hs e
  unfold J0 at e
  split at e
  ·exact absurd e (by simp)
  ·rename_i a us hf
   split at e
   ·exact absurd e (by simp)
   ·rename_i as vs hr
    simp only [Rs.ok.injEq] at e
    obtain ⟨rfl,rfl⟩:=e
    have h1:=h f (List.mem_cons_self ..) ts a us hs hf
    have h2:=ih (fun g hg=>h g (List.mem_cons_of_mem _ hg)) us as vs h1.2 hr
    refine ⟨?_,h2.2⟩
    have:=h1.1
    have:=h2.1
    simp [Q9];omega
theorem qE2 (m:Nat) (f:List Tk->Rs Nd) (h:Fits f):∀ ts ps ts',TS ts->X6 m f ts=.ok ps ts'->(Q9 ps).length+603 * ts'.length<=603 * ts.length/\TS ts':=by
 induction m with
 | zero=>intro ts ps ts' _ e;exact absurd e (by simp [X6])
 | succ m ih =>
  intro ts ps ts' hs e
  cases ts with
  | nil=>exact absurd e (by simp [X6])
  | cons t ts =>
   unfold X6 at e
   split at e
   ·simp only [Rs.ok.injEq] at e
    obtain ⟨rfl,rfl⟩:=e
    exact ⟨by simp [Q9],hs⟩
   ·split at e
    ·exact absurd e (by simp)
    ·rename_i a us hf
     split at e
     ·exact absurd e (by simp)
     ·rename_i as vs hr
      simp only [Rs.ok.injEq] at e
      obtain ⟨rfl,rfl⟩:=e
      have h1:=h _ a us hs hf
      have h2:=ih us as vs h1.2 hr
      refine ⟨?_,h2.2⟩
      have:=h1.1
      have:=h2.1
      simp [Q9] at *;omega
theorem zs6 (s:ByteArray):s.toList.length=s.size:=Z3 s
theorem zm0 (k:Int) (hk:k=4\/k=5):Fits (W7 k):=by
 intro ts nd ts' hs e
 cases ts with
 | nil=>exact absurd e (by simp [W7])
 | cons t ts =>
  simp only [W7] at e
  split at e
  ·exact absurd e (by simp)
  ·rename_i v _
   split at e
   ·exact absurd e (by simp)
   ·simp only [Rs.ok.injEq] at e
    obtain ⟨rfl,rfl⟩:=e
    refine ⟨?_,hs.tail⟩
    have:=qf4 v
    have h1:¬(k=1\/k=2\/([]:List Nd) ≠ []):=by rcases hk with rfl | rfl <;> simp
    rw [Z1,if_neg h1,U2,if_pos hk]
    simp;omega
theorem jk4 (k:Int) (w:ByteArray) (v:Int) (h:w.size<=600):(U2 k w v).length<=600:=by
 unfold U2
 split
 ·have:=qf4 v;omega
 ·rw [zs6];exact h
theorem zW9 (k:Int) (w:ByteArray) (v:Int) (ps:List Nd) (h:w.size<=600):(Z1 (.mk k w v ps)).length<=602+(Q9 ps).length:=by
 have:=jk4 k w v h
 rw [Z1]
 split
 ·simp;omega
 ·omega
theorem zE3 {e k:Int} {w:ByteArray} {r:Rs (List Nd)} {nd:Nd} {ts ts':List Tk} (hw:w.size<=600) (hr:∀ ps us,r=.ok ps us->(Q9 ps).length+603 * us.length<=603 * ts.length/\TS us) (h:J6 e k w r=.ok nd ts') :
  (Z1 nd).length+603 * ts'.length<=603 * ts.length/\TS ts':=by
 cases r with
 | no e p=>exact absurd h (by simp [J6])
 | ok ps us =>
  obtain ⟨h1,h2⟩:=hr ps us rfl
  cases us with
  | nil=>exact absurd h (by simp [J6,zc4])
  | cons v vs =>
   simp only [J6,zc4] at h
   split at h
   ·simp only [Rs.ok.injEq] at h
    obtain ⟨rfl,rfl⟩:=h
    have:=zW9 k w 0 ps hw
    refine ⟨?_,h2.tail⟩
    simp at h1;omega
   ·split at h <;> exact absurd h (by simp)
theorem qf5 {f:List Tk->Rs Nd} (h:Fits f):Fits (za2 f):=by
 intro ts nd ts' hs e
 cases ts with
 | nil=>exact absurd e (by simp [za2])
 | cons t ts =>
  simp only [za2] at e
  split at e
  ·exact absurd e (by simp)
  ·exact h _ _ _ hs e
theorem zs7 (N:List Nm) (n:Nat):∀ d,Fits (X0 N n d):=by
 induction n with
 | zero=>intro d ts nd ts' _ e;exact absurd e (by simp [X0])
 | succ n ih =>
  intro d ts nd ts' hs e
  cases ts with
  | nil=>exact absurd e (by simp [X0])
  | cons t ts =>
   unfold X0 at e
   split at e
   ·split at e
    ·exact absurd e (by simp)
    ·split at e
     ·exact absurd e (by simp)
     ·rename_i u us
      split at e
      ·split at e
       ·exact absurd e (by simp)
       ·rename_i a _
        split at e
        ·exact absurd e (by simp)
        ·have hus:TS us:=hs.tail.tail
         have h1:=zE3 (ts:=us) (hs.tail u (List.mem_cons_self ..)) (fun ps vs hr=>zq2 _ (fun f hf=>by rw [(List.mem_replicate.1 hf).2];exact qf5 (ih (d+1))) us ps vs hus hr) e
         refine ⟨?_,h1.2⟩
         have:=h1.1
         simp;omega
      ·exact absurd e (by simp)
   ·split at e
    ·split at e
     ·exact absurd e (by simp)
     ·split at e
      ·simp only [Rs.ok.injEq] at e
       obtain ⟨rfl,rfl⟩:=e
       refine ⟨?_,hs.tail⟩
       have:=zW9 3 t.txt 0 [] (hs t (List.mem_cons_self ..))
       simp [Q9] at *;omega
      ·exact absurd e (by simp)
    ·exact zm0 4 (Or.inl rfl) _ _ _ hs e
theorem zS0 (N:List Nm) (n:Nat):∀ d,Fits (K6 N n d):=by
 induction n with
 | zero=>intro d ts nd ts' _ e;exact absurd e (by simp [K6])
 | succ n ih =>
  intro d ts nd ts' hs e
  cases ts with
  | nil=>exact absurd e (by simp [K6])
  | cons t ts =>
   unfold K6 at e
   split at e
   ·split at e
    ·exact absurd e (by simp)
    ·split at e
     ·exact absurd e (by simp)
     ·rename_i u us
      split at e
      ·exact absurd e (by simp)
      ·rename_i ks _
       have hus:TS us:=hs.tail.tail
       have hp:∀ ps vs,O4 ks.2 n (K6 N n (d+1)) (X0 N n (d+1)) (W7 5) us=.ok ps vs->(Q9 ps).length+603 * vs.length<=603 * us.length/\TS vs:=by
        intro ps vs hr
        unfold O4 at hr
        split at hr
        ·exact zq2 _ (by intro f hf;simp at hf;subst hf;exact ih (d+1)) us ps vs hus hr
        ·split at hr
         ·exact zq2 _ (by intro f hf;simp at hf;subst hf;exact ih (d+1)) us ps vs hus hr
         ·split at hr
          ·exact zq2 _ (by intro f hf;simp at hf;subst hf;exact zs7 N n (d+1)) us ps vs hus hr
          ·split at hr
           ·exact zq2 _ (by intro f hf;simp at hf;rcases hf with rfl | rfl;exact zs7 N n (d+1);exact zm0 5 (Or.inr rfl)) us ps vs hus hr
           ·exact qE2 n _ (ih (d+1)) us ps vs hus hr
       have h1:=zE3 (ts:=us) (hs.tail u (List.mem_cons_self ..)) hp e
       refine ⟨?_,h1.2⟩
       have:=h1.1
       simp;omega
   ·split at e
    ·simp only [Rs.ok.injEq] at e
     obtain ⟨rfl,rfl⟩:=e
     refine ⟨?_,hs.tail⟩
     have:=zW9 0 t.txt 0 [] (hs t (List.mem_cons_self ..))
     simp [Q9] at *;omega
    ·exact absurd e (by simp)
end Ar
namespace Ar
def zb3 (i:Nat) (wd:List UInt8):List Tk:=if wd=[] then [] else [⟨i - wd.length,⟨wd.toArray⟩⟩]
def zb6:Nat->List UInt8->List UInt8->List Tk
 | i,wd,[]=>zb3 i wd++[⟨i,ByteArray.empty⟩]
 | i,wd,c :: r=>if zo9 c then zb3 i wd++⟨i,⟨#[c]⟩⟩ :: zb6 (i+1) [] r else if zq1 c then zb3 i wd++zb6 (i+1) [] r else zb6 (i+1) (wd++[c]) r
def toks (l:List UInt8):List Tk:=zb6 0 [] l
theorem zC7 (i:Nat) (wd:List UInt8):(zb3 i wd).length=if wd=[] then 0 else 1:=by
 unfold zb3;split <;> rfl
theorem jk6 (l:List UInt8):∀ i wd,(zb6 i wd l).length<=l.length+1+(if wd=[] then 0 else 1):=by
 induction l with
 | nil=>intro i wd;simp [zb6,zC7];omega
 | cons c r ih =>
  intro i wd
  unfold zb6
  split
  ·have:=ih (i+1) []
   simp [zC7] at this ⊢;omega
  ·split
   ·have:=ih (i+1) []
    simp [zC7] at this ⊢;omega
   ·have:=ih (i+1) (wd++[c])
    simp at this ⊢;split <;> omega
theorem qg1 (l:List UInt8):(toks l).length<=l.length+1:=by
 have:=jk6 l 0 []
 simpa [toks] using this
theorem zd2 (l:List UInt8):(ByteArray.mk l.toArray).toList=l:=by
 rw [ByteArray.toList_eq]
theorem qP4 {t:Tk} {ts:List Tk} (h:TW ts) (ht:t.txt.toList ≠ []):TW (t :: ts):=by
 cases ts with
 | nil=>exact absurd rfl h.ne
 | cons u us=>exact ⟨ht,h⟩
theorem zL2 {i:Nat} {wd:List UInt8} {ts:List Tk} (h:TW ts):TW (zb3 i wd++ts):=by
 unfold zb3
 split
 ·exact h
 ·rename_i hw
  exact qP4 h (by rw [zd2];exact hw)
theorem ze1:ByteArray.empty.toList=[]:=by rw [ByteArray.toList_eq];rfl
theorem qP5 (l:List UInt8):∀ i wd,TW (zb6 i wd l):=by
 induction l with
 | nil=>intro i wd;exact zL2 ze1
 | cons c r ih =>
  intro i wd
  unfold zb6
  split
  ·exact zL2 (qP4 (ih _ _) (by rw [show (ByteArray.mk #[c]).toList=[c] from zd2 [c]];simp))
  ·split
   ·exact zL2 (ih _ _)
   ·exact ih _ _
theorem qg2 (l:List UInt8) (B:Nat):∀ i wd,wd.length+l.length<=B->1<=B->∀ t∈zb6 i wd l,t.txt.size<=B:=by
 have hfl:∀ i wd,wd.length<=B->∀ t∈zb3 i wd,t.txt.size<=B:=by
  intro i wd hB t ht
  unfold zb3 at ht
  split at ht
  ·exact absurd ht (by simp)
  ·simp at ht
   rw [ht,<- zs6,zd2]
   exact hB
 induction l with
 | nil =>
  intro i wd hB _ t ht
  unfold zb6 at ht
  rcases List.mem_append.1 ht with h | h
  ·exact hfl _ _ (by simp at hB;omega) t h
  ·simp at h
   rw [h,<- zs6,ze1];simp
 | cons c r ih =>
  intro i wd hB h1 t ht
  simp at hB
  unfold zb6 at ht
  split at ht
  ·rcases List.mem_append.1 ht with h | h
   ·exact hfl _ _ (by omega) t h
   ·rcases List.mem_cons.1 h with h | h
    ·rw [h,<- zs6,show (ByteArray.mk #[c]).toList=[c] from zd2 [c]];simpa using h1
    ·exact ih _ _ (by simp;omega) h1 t h
  ·split at ht
   ·rcases List.mem_append.1 ht with h | h
    ·exact hfl _ _ (by omega) t h
    ·exact ih _ _ (by simp;omega) h1 t h
   ·exact ih _ _ (by simp;omega) h1 t ht
end Ar
namespace Ar
def za8 (c:UInt8):Bool := !zq1 c && !zo9 c
def kOf (l:List UInt8):Int:=if l=[] then 0 else if l=[40] then 1 else if l=[41] then 2 else 3
theorem qP6 (u:List UInt8):∀ i wd rest,u.all za8=true->zb6 i wd (u++rest)=zb6 (i+u.length) (wd++u) rest:=by
 induction u with
 | nil=>intro i wd rest _;simp
 | cons c u ih =>
  intro i wd rest h
  simp only [List.all_cons,Bool.and_eq_true] at h
  obtain ⟨hc,hu⟩:=h
  simp only [za8,Bool.and_eq_true,Bool.not_eq_true'] at hc
  rw [List.cons_append,zb6,if_neg (by rw [hc.2];decide),if_neg (by rw [hc.1];decide),ih _ _ _ hu]
  simp
  have:i+1+u.length=i+(u.length+1):=by omega
  rw [this]
theorem ja8 (j:Nat) (wd rest:List UInt8) (hw:wd ≠ []) (hr:∀ c r,rest=c :: r->za8 c=false):zb6 j wd rest=⟨j - wd.length,⟨wd.toArray⟩⟩ :: zb6 j [] rest:=by
 have hf:zb3 j wd=[⟨j - wd.length,⟨wd.toArray⟩⟩]:=by rw [zb3,if_neg hw]
 have hf0:zb3 j []=[]:=rfl
 cases rest with
 | nil=>simp [zb6,hf,hf0]
 | cons c r =>
  have hc:=hr c r rfl
  cases hb:zo9 c with
  | true=>simp [zb6,hb,hf,hf0]
  | false =>
   have hl:zq1 c=true:=by
    cases h:zq1 c with
    | true=>rfl
    | false=>rw [za8,h,hb] at hc;exact absurd hc (by decide)
   simp [zb6,hb,hl,hf,hf0]
theorem ja9 (k:Nat) (u rest:List UInt8) (hu:u ≠ []) (hp:u.all za8=true) (hr:∀ c r,rest=c :: r->za8 c=false):zb6 k [] (u++rest)=⟨k,⟨u.toArray⟩⟩ :: zb6 (k+u.length) [] rest:=by
 rw [qP6 u k [] rest hp,List.nil_append,ja8 _ _ _ hu hr]
 have:k+u.length - u.length=k:=by omega
 rw [this]
theorem jo5 (k:Nat) (c:UInt8) (r:List UInt8) (h:zo9 c=true):zb6 k [] (c :: r)=⟨k,⟨#[c]⟩⟩ :: zb6 (k+1) [] r:=by
 rw [zb6,if_pos h];rfl
theorem jo6 (k:Nat) (c:UInt8) (r:List UInt8) (h:zq1 c=true):zb6 k [] (c :: r)=zb6 (k+1) [] r:=by
 have hb:zo9 c=false:=by
  unfold zq1 at h
  simp at h
  rcases h with (rfl | rfl) | rfl <;> decide
 rw [zb6,if_neg (by rw [hb];decide),if_pos h];rfl
theorem qP7 {u:List UInt8} (hu:u ≠ []) (hp:u.all za8=true):kOf u=3:=by
 have h1:u ≠ [40]:=by intro e;rw [e] at hp;exact absurd hp (by decide)
 have h2:u ≠ [41]:=by intro e;rw [e] at hp;exact absurd hp (by decide)
 rw [kOf,if_neg hu,if_neg h1,if_neg h2]
end Ar
namespace Ar
theorem qv9 (f1 f2:List (List Tk->Rs Nd)):∀ ts,J0 (f1++f2) ts=match J0 f1 ts with | .no e p=>.no e p | .ok as us=>match J0 f2 us with | .no e p=>.no e p | .ok bs vs=>.ok (as++bs) vs:=by
 induction f1 with
 | nil =>
  intro ts
  simp only [List.nil_append,J0]
  cases J0 f2 ts <;> simp
 | cons f fs ih =>
  intro ts
  simp only [List.cons_append,J0]
  cases f ts with
  | no e p=>simp
  | ok a us =>
   simp only [ih us]
   cases J0 fs us with
   | no e p=>simp
   | ok as vs =>
    simp only
    cases J0 f2 vs <;> simp
theorem row_len (fs:List (List Tk->Rs Nd)):∀ ts ps ts',J0 fs ts=.ok ps ts'->ps.length=fs.length:=by
 induction fs with
 | nil=>intro ts ps ts' e;simp only [J0,Rs.ok.injEq] at e;rw [<- e.1];rfl
 | cons f fs ih =>
  intro ts ps ts' e
  unfold J0 at e
  split at e
  ·exact absurd e (by simp)
  ·split at e
   ·exact absurd e (by simp)
   ·rename_i as vs hr
    simp only [Rs.ok.injEq] at e
    rw [<- e.1,List.length_cons,List.length_cons,ih _ _ _ hr]
end Ar
namespace Ar
def zu7 (ps:List Nd):Rs (List Nd)->Rs (List Nd)
 | .no e p=>.no e p
 | .ok qs ts=>.ok (ps++qs) ts
theorem ja6 (r:Rs (List Nd)):zu7 [] r=r:=by cases r <;> simp [zu7]
theorem qF1 {F:List Tk->Rs Nd} {m:Nat} {ps:List Nd} {v:Tk} {vs us':List Tk} {nd:Nd} (hv:¬v.txt.toList=[41]) (hf:F (v :: vs)=.ok nd us'):zu7 ps (X6 (m+1) F (v :: vs))=zu7 (ps++[nd]) (X6 m F us'):=by
 simp only [X6,if_neg hv,hf]
 cases X6 m F us' <;> simp [zu7]
theorem ja7 {F:List Tk->Rs Nd} {m:Nat} {ps:List Nd} {v:Tk} {vs:List Tk} {e:Int} {p:Nat} (hv:¬v.txt.toList=[41]) (hf:F (v :: vs)=.no e p):zu7 ps (X6 (m+1) F (v :: vs))=.no e p:=by
 rw [X6,if_neg hv,hf];rfl
theorem qP3 {F:List Tk->Rs Nd} {m:Nat} {ps:List Nd} {v:Tk} {vs:List Tk} (hv:v.txt.toList=[41]):zu7 ps (X6 (m+1) F (v :: vs))=.ok ps (v :: vs):=by
 rw [X6,if_pos hv];simp [zu7]
theorem zL1 {f:List Tk->Rs Nd} (h:Fits f) {ts ts':List Tk} {nd:Nd} (hs:TS ts) (e:f ts=.ok nd ts'):ts'.length+1<=ts.length:=by
 have:=(h ts nd ts' hs e).1
 omega
theorem qF2 (fs:List (List Tk->Rs Nd)) (h:∀ f∈fs,Fits f):∀ ts ps ts',TS ts->J0 fs ts=.ok ps ts'->fs.length+ts'.length<=ts.length:=by
 induction fs with
 | nil =>
  intro ts ps ts' hs e
  simp only [J0,Rs.ok.injEq] at e
  obtain ⟨rfl,rfl⟩:=e
  simp
 | cons f fs ih =>
  intro ts ps ts' hs e
  unfold J0 at e
  split at e
  ·exact absurd e (by simp)
  ·rename_i a us hf
   split at e
   ·exact absurd e (by simp)
   ·rename_i as vs hr
    simp only [Rs.ok.injEq] at e
    obtain ⟨rfl,rfl⟩:=e
    have h1:=zL1 (h f (List.mem_cons_self ..)) hs hf
    have h2:=ih (fun g hg=>h g (List.mem_cons_of_mem _ hg)) us as vs (h f (List.mem_cons_self ..) ts a us hs hf).2 hr
    simp;omega
end Ar
namespace Ar
def J8 (N:List Nm) (l:List UInt8) (a:Int):Int :=
 if X4 l=false then 3 else if a < 0\/3 < a then 4 else if (za0 N l).isSome=true then 7 else if 20<=N.length then 8 else 0
def U7 (N:List Nm) (F:Int) (s:ByteArray) (a:Int):List Nm:=if J8 N s.toList a=0 then N++[⟨s,a,F⟩] else N
end Ar
namespace Ar
def Gd (n:Nat) (f:List Tk->Rs Nd):Prop:=∀ ts,TW ts->ts.length<=n->(∀ e p,f ts=.no e p->e ≠ 0)/\(∀ nd ts',f ts=.ok nd ts'->TW ts'/\ts'.length < ts.length)
def GdL (r:Rs (List Nd)) (ts:List Tk):Prop:=(∀ e p,r=.no e p->e ≠ 0)/\(∀ ps ts',r=.ok ps ts'->TW ts'/\ts'.length<=ts.length)
theorem zL4 (n:Nat) (fs:List (List Tk->Rs Nd)) (h:∀ f∈fs,Gd n f):∀ ts,TW ts->ts.length<=n->GdL (J0 fs ts) ts:=by
 induction fs with
 | nil=>intro ts hw _;exact ⟨fun e p h=>by simp [J0] at h,fun ps ts' h=>by simp [J0] at h;obtain ⟨_,rfl⟩:=h;exact ⟨hw,Nat.le_refl _⟩⟩
 | cons f fs ih =>
  intro ts hw hl
  have hf:=h f (List.mem_cons_self ..) ts hw hl
  have ih':=ih (fun g hg=>h g (List.mem_cons_of_mem _ hg))
  unfold J0
  cases hr:f ts with
  | no e p=>exact ⟨fun e' p' h'=>by simp at h';obtain ⟨rfl,rfl⟩:=h';exact hf.1 _ _ hr,fun ps ts' h'=>by simp at h'⟩
  | ok a us =>
   have h1:=hf.2 _ _ hr
   have h2:=ih' us h1.1 (by omega)
   cases hq:J0 fs us with
   | no e p=>exact ⟨fun e' p' h'=>by simp [hq] at h';obtain ⟨rfl,rfl⟩:=h';exact h2.1 _ _ hq,fun ps ts' h'=>by simp [hq] at h'⟩
   | ok as vs =>
    have h3:=h2.2 _ _ hq
    exact ⟨fun e' p' h'=>by simp [hq] at h',fun ps ts' h'=>by simp [hq] at h';obtain ⟨_,rfl⟩:=h';exact ⟨h3.1,by omega⟩⟩
theorem jb2 (n:Nat) (f:List Tk->Rs Nd) (h:Gd n f) (m:Nat):∀ ts,TW ts->ts.length<=n->ts.length<=m->GdL (X6 m f ts) ts:=by
 induction m with
 | zero =>
  intro ts hw _ hl
  cases ts with
  | nil=>exact absurd hw (by simp [TW])
  | cons t ts=>simp at hl
 | succ m ih =>
  intro ts hw hl hm
  cases ts with
  | nil=>exact absurd hw (by simp [TW])
  | cons t ts =>
   have hf:=h (t :: ts) hw hl
   unfold X6
   by_cases hc:t.txt.toList=[41]
   ·rw [if_pos hc]
    exact ⟨fun e' p' h'=>by simp at h',fun ps ts' h'=>by simp at h';obtain ⟨_,rfl⟩:=h';exact ⟨hw,Nat.le_refl _⟩⟩
   ·rw [if_neg hc]
    cases hr:f (t :: ts) with
    | no e p=>exact ⟨fun e' p' h'=>by simp at h';obtain ⟨rfl,rfl⟩:=h';exact hf.1 _ _ hr,fun ps ts' h'=>by simp at h'⟩
    | ok a us =>
     have h1:=hf.2 _ _ hr
     have h2:=ih us h1.1 (by omega) (by omega)
     cases hq:X6 m f us with
     | no e p=>exact ⟨fun e' p' h'=>by simp [hq] at h';obtain ⟨rfl,rfl⟩:=h';exact h2.1 _ _ hq,fun ps ts' h'=>by simp [hq] at h'⟩
     | ok as vs =>
      have h3:=h2.2 _ _ hq
      exact ⟨fun e' p' h'=>by simp [hq] at h',fun ps ts' h'=>by simp [hq] at h';obtain ⟨_,rfl⟩:=h';exact ⟨h3.1,by omega⟩⟩
theorem qQ1 (n:Nat) (k:Int):Gd n (W7 k):=by
 intro ts hw _
 cases ts with
 | nil=>exact absurd hw (by simp [TW])
 | cons t ts =>
  simp only [W7]
  cases hn:numOf t.txt.toList with
  | none=>exact ⟨fun e' p' h'=>by simp at h';obtain ⟨rfl,rfl⟩:=h';decide,fun ps ts' h'=>by simp at h'⟩
  | some v =>
   have hne:t.txt.toList ≠ []:=by
    intro e;rw [e,show numOf []=none from by decide] at hn;cases hn
   by_cases hv:v < -1000\/1000 < v
   ·simp only [if_pos hv]
    exact ⟨fun e' p' h'=>by simp at h';obtain ⟨rfl,rfl⟩:=h';decide,fun ps ts' h'=>by simp at h'⟩
   ·simp only [if_neg hv]
    exact ⟨fun e' p' h'=>by simp at h',fun ps ts' h'=>by simp at h';obtain ⟨_,rfl⟩:=h';exact ⟨hw.tail hne,by simp⟩⟩
theorem zS3 {e k:Int} {w:ByteArray} {r:Rs (List Nd)} {ts:List Tk} (he:e ≠ 0) (h:GdL r ts):(∀ e' p,J6 e k w r=.no e' p->e' ≠ 0)/\(∀ nd ts',J6 e k w r=.ok nd ts'->TW ts'/\ts'.length < ts.length):=by
 cases r with
 | no e1 p1=>exact ⟨fun e' p' h'=>by simp [J6] at h';obtain ⟨rfl,rfl⟩:=h';exact h.1 _ _ rfl,fun ps ts' h'=>by simp [J6] at h'⟩
 | ok ps us =>
  have h1:=h.2 _ _ rfl
  cases us with
  | nil=>exact absurd h1.1 (by simp [TW])
  | cons v vs =>
   simp only [J6,zc4]
   by_cases hc:v.txt.toList=[41]
   ·rw [if_pos hc]
    refine ⟨fun e' p' h'=>by simp at h',fun nd ts' h'=>?_⟩
    simp at h'
    obtain ⟨_,rfl⟩:=h'
    have h2:=h1.2
    exact ⟨h1.1.tail (by rw [hc];simp),by simp at h2;omega⟩
   ·rw [if_neg hc]
    by_cases hv:v.txt.toList=[]
    ·rw [if_pos hv]
     exact ⟨fun e' p' h'=>by simp at h';obtain ⟨rfl,rfl⟩:=h';decide,fun ps ts' h'=>by simp at h'⟩
    ·rw [if_neg hv]
     exact ⟨fun e' p' h'=>by simp at h';obtain ⟨rfl,rfl⟩:=h';exact he,fun ps ts' h'=>by simp at h'⟩
theorem jk7 {n:Nat} {f:List Tk->Rs Nd} (h:Gd n f):Gd n (za2 f):=by
 intro ts hw hl
 cases ts with
 | nil=>exact absurd hw (by simp [TW])
 | cons t ts =>
  simp only [za2]
  by_cases hc:t.txt.toList=[41]
  ·rw [if_pos hc]
   exact ⟨fun e' p' h'=>by simp at h';obtain ⟨rfl,rfl⟩:=h';decide,fun ps ts' h'=>by simp at h'⟩
  ·rw [if_neg hc];exact h _ hw hl
theorem zz6 {e:Int} {p:Nat} {ts:List Tk} (he:e ≠ 0):(∀ e' p',(Rs.no e p:Rs Nd)=.no e' p'->e' ≠ 0)/\(∀ nd ts',(Rs.no e p:Rs Nd)=.ok nd ts'->TW ts'/\ts'.length < ts.length) :=
 ⟨fun e' p' h'=>by simp at h';obtain ⟨rfl,rfl⟩:=h';exact he,fun ps ts' h'=>by simp at h'⟩
theorem jf5 {nd:Nd} {us ts:List Tk} (h:TW us) (hl:us.length < ts.length):(∀ e' p',(Rs.ok nd us:Rs Nd)=.no e' p'->e' ≠ 0)/\(∀ nd' ts',(Rs.ok nd us:Rs Nd)=.ok nd' ts'->TW ts'/\ts'.length < ts.length) :=
 ⟨fun e' p' h'=>by simp at h',fun ps ts' h'=>by simp at h';obtain ⟨_,rfl⟩:=h';exact ⟨h,hl⟩⟩
theorem jb3 (N:List Nm) (n:Nat):∀ d,Gd n (X0 N n d):=by
 induction n with
 | zero =>
  intro d ts hw hl
  cases ts with
  | nil=>exact absurd hw (by simp [TW])
  | cons t ts=>simp at hl
 | succ n ih =>
  intro d ts hw hl
  cases ts with
  | nil=>exact absurd hw (by simp [TW])
  | cons t ts =>
   unfold X0
   by_cases ho:t.txt.toList=[40]
   ·have h1:=hw.tail (by rw [ho];simp)
    rw [if_pos ho]
    by_cases hd:30<=d
    ·rw [if_pos hd];exact zz6 (by decide)
    ·rw [if_neg hd]
     cases ts with
     | nil=>exact absurd h1 (by simp [TW])
     | cons u us =>
      simp only
      by_cases hn:X4 u.txt.toList=true
      ·rw [if_pos hn]
       cases ha:za0 N u.txt.toList with
       | none=>exact zz6 (by decide)
       | some a =>
        simp only
        by_cases h0:a=0
        ·rw [if_pos h0];exact zz6 (by decide)
        ·rw [if_neg h0]
         have hune:u.txt.toList ≠ []:=by
          intro e;rw [e] at hn;exact absurd hn (by decide)
         have h2:=h1.tail hune
         have h3:=zS3 (k:=3) (w:=u.txt) (by decide:(4:Int) ≠ 0) (zL4 n (List.replicate a.toNat (za2 (X0 N n (d+1)))) (fun f hf=>by rw [(List.mem_replicate.1 hf).2];exact jk7 (ih (d+1))) us h2 (by simp at hl;omega))
         exact ⟨h3.1,fun nd ts' h'=>⟨(h3.2 nd ts' h').1,by have:=(h3.2 nd ts' h').2;simp;omega⟩⟩
      ·rw [if_neg hn];exact zz6 (by decide)
   ·rw [if_neg ho]
    by_cases hn:X4 t.txt.toList=true
    ·rw [if_pos hn]
     cases ha:za0 N t.txt.toList with
     | none=>exact zz6 (by decide)
     | some a =>
      simp only
      by_cases h0:a=0
      ·rw [if_pos h0]
       have hune:t.txt.toList ≠ []:=by
        intro e;rw [e] at hn;exact absurd hn (by decide)
       exact jf5 (hw.tail hune) (by simp)
      ·rw [if_neg h0];exact zz6 (by decide)
    ·rw [if_neg hn];exact qQ1 (n+1) 4 _ hw hl
theorem jb4 (N:List Nm) (n:Nat):∀ d,Gd n (K6 N n d):=by
 induction n with
 | zero =>
  intro d ts hw hl
  cases ts with
  | nil=>exact absurd hw (by simp [TW])
  | cons t ts=>simp at hl
 | succ n ih =>
  intro d ts hw hl
  cases ts with
  | nil=>exact absurd hw (by simp [TW])
  | cons t ts =>
   unfold K6
   by_cases ho:t.txt.toList=[40]
   ·have h1:=hw.tail (by rw [ho];simp)
    rw [if_pos ho]
    by_cases hd:30<=d
    ·rw [if_pos hd];exact zz6 (by decide)
    ·rw [if_neg hd]
     cases ts with
     | nil=>exact absurd h1 (by simp [TW])
     | cons u us =>
      simp only
      cases hh:zl9 u.txt.toList with
      | none=>exact zz6 (by decide)
      | some ks =>
       simp only
       have hune:u.txt.toList ≠ []:=by
        intro e;rw [e,show zl9 []=none from by decide] at hh;cases hh
       have h2:=h1.tail hune
       have hus:us.length<=n:=by simp at hl;omega
       have hF:=ih (d+1)
       have hT:=jb3 N n (d+1)
       have hG:GdL (O4 ks.2 n (K6 N n (d+1)) (X0 N n (d+1)) (W7 5) us) us:=by
        unfold O4
        by_cases s0:ks.2=0
        ·rw [if_pos s0];exact zL4 n _ (by intro f hf;simp at hf;subst hf;exact hF) us h2 hus
        rw [if_neg s0]
        by_cases s1:ks.2=1
        ·rw [if_pos s1];exact zL4 n _ (by intro f hf;simp at hf;subst hf;exact hF) us h2 hus
        rw [if_neg s1]
        by_cases s3:ks.2=3
        ·rw [if_pos s3];exact zL4 n _ (by intro f hf;simp at hf;subst hf;exact hT) us h2 hus
        rw [if_neg s3]
        by_cases s4:ks.2=4
        ·rw [if_pos s4];exact zL4 n _ (by intro f hf;simp at hf;rcases hf with rfl | rfl <;> first | exact hT | exact qQ1 n 5) us h2 hus
        rw [if_neg s4]
        exact jb2 n _ hF n us h2 hus hus
       have h3:=zS3 (k:=ks.1) (w:=u.txt) (by decide:(2:Int) ≠ 0) hG
       exact ⟨h3.1,fun nd ts' h'=>⟨(h3.2 nd ts' h').1,by have:=(h3.2 nd ts' h').2;simp;omega⟩⟩
   ·rw [if_neg ho]
    by_cases hq:t.txt.toList=zl8\/t.txt.toList=zg6
    ·rw [if_pos hq]
     exact jf5 (hw.tail (by rcases hq with e | e <;> rw [e] <;> decide)) (by simp)
    ·rw [if_neg hq];exact zz6 (by decide)
end Ar
namespace Ar
def U9 (t:Bool) (k:Int):Bool:=if t then k == 3 || k == 4 else k == 2
mutual
def J5 (t:Bool):Nd->List Nd
 | .mk k w v ps=>(if U9 t k=true then [.mk k w v ps] else [])++Q8 t ps
def Q8 (t:Bool):List Nd->List Nd
 | []=>[]
 | p :: ps=>J5 t p++Q8 t ps
end
theorem ze0 (t:Bool) (as bs:List Nd):Q8 t (as++bs)=Q8 t as++Q8 t bs:=by
 induction as with
 | nil=>rfl
 | cons a as ih=>simp [Q8,ih]
theorem Y9 {t:Bool} {x:Nd} {ps:List Nd}:x∈Q8 t ps↔∃ p∈ps,x∈J5 t p:=by
 induction ps with
 | nil=>simp [Q8]
 | cons p ps ih=>simp [Q8,ih]
def qE3 (l:List (List UInt8)) (f:List UInt8):List (List UInt8):=if f∈l then l else l++[f]
def zw1 (l:List (List UInt8)) (xs:List Nd):List (List UInt8):=xs.foldl (fun l x=>qE3 l (Z1 x)) l
theorem zE4 (l:List (List UInt8)) (x:Nd) (xs:List Nd):zw1 l (x :: xs)=zw1 (qE3 l (Z1 x)) xs:=rfl
theorem qO8 {l:List (List UInt8)} {f g:List UInt8}:g∈qE3 l f↔g∈l\/g=f:=by
 unfold qE3
 split
 ·rename_i h
  constructor
  ·exact .inl
  ·rintro (h' | rfl)
   ·exact h'
   ·exact h
 ·simp
theorem qp0 {l:List (List UInt8)} {f:List UInt8} (h:l.Nodup):(qE3 l f).Nodup:=by
 unfold qE3
 split
 ·exact h
 ·rename_i hf
  rw [List.nodup_append]
  refine ⟨h,by simp,?_⟩
  intro a ha b hb e
  simp at hb
  subst hb e
  exact hf ha
theorem qp1 {xs:List Nd}:∀ {l:List (List UInt8)} {g:List UInt8},g∈zw1 l xs↔g∈l\/∃ x∈xs,g=Z1 x:=by
 induction xs with
 | nil=>intro l g;simp [zw1]
 | cons x xs ih =>
  intro l g
  rw [zE4,ih,qO8]
  simp [or_assoc]
theorem zX0 {xs:List Nd}:∀ {l:List (List UInt8)},l.Nodup->(zw1 l xs).Nodup:=by
 induction xs with
 | nil=>intro l h;exact h
 | cons x xs ih=>intro l h;rw [zE4];exact ih (qp0 h)
theorem qf6 {α:Type} [DecidableEq α]:∀ {a b:List α},a.Nodup->b.Nodup->(∀ x,x∈a↔x∈b)->a.length=b.length:=by
 intro a
 induction a with
 | nil =>
  intro b _ _ h
  cases b with
  | nil=>rfl
  | cons y b=>exact absurd ((h y).2 (by simp)) (by simp)
 | cons x a ih =>
  intro b ha hb h
  have hx:x∈b:=(h x).1 (by simp)
  have h1:=ih (b:=b.erase x) (List.nodup_cons.1 ha).2 (hb.erase x) (fun y=>by
   rw [List.Nodup.mem_erase_iff hb]
   constructor
   ·intro hy
    exact ⟨fun e=>(List.nodup_cons.1 ha).1 (e ▸ hy),(h y).1 (List.mem_cons_of_mem _ hy)⟩
   ·rintro ⟨hne,hy⟩
    rcases List.mem_cons.1 ((h y).2 hy) with e | e
    ·exact absurd e hne
    ·exact e)
  rw [List.length_cons,h1,List.length_erase_of_mem hx]
  have:=List.length_pos_of_mem hx
  omega
theorem qE4 {α β:Type} {f : α -> β}:∀ {l:List α},l.Nodup->(∀ x∈l,∀ y∈l,f x=f y->x=y)->(l.map f).Nodup:=by
 intro l
 induction l with
 | nil=>intro _ _;simp
 | cons a l ih =>
  intro h hf
  rw [List.map_cons,List.nodup_cons]
  refine ⟨?_,ih (List.nodup_cons.1 h).2 (fun x hx y hy=>hf x (List.mem_cons_of_mem _ hx) y (List.mem_cons_of_mem _ hy))⟩
  intro hm
  obtain ⟨y,hy,e⟩:=List.mem_map.1 hm
  have:=hf y (List.mem_cons_of_mem _ hy) a (by simp) e
  subst this
  exact (List.nodup_cons.1 h).1 hy
theorem qO9 {xs T:List Nd} (hT:T.Nodup) (hm:∀ x,x∈T↔x∈xs) (hinj:∀ x∈xs,∀ y∈xs,Z1 x=Z1 y->x=y):(zw1 [] xs).length=T.length:=by
 rw [<- List.length_map (f:=Z1) (as:=T)]
 refine qf6 (zX0 List.nodup_nil) (qE4 hT (fun x hx y hy=>hinj x ((hm x).1 hx) y ((hm y).1 hy))) (fun g=>?_)
 rw [qp1]
 constructor
 ·rintro (h | ⟨x,hx,rfl⟩)
  ·exact absurd h (by simp)
  ·exact List.mem_map.2 ⟨x,(hm x).2 hx,rfl⟩
 ·intro h
  obtain ⟨x,hx,rfl⟩:=List.mem_map.1 h
  exact .inr ⟨x,(hm x).1 hx,rfl⟩
end Ar
end Go.Proofs.YtegbdaffhpiacaaGreatDoor

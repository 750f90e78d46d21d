/- Bytes: lemmas on lists of bytes; Plain functions: the one form of a tree, and how long it can be; The tokens of a text: plain functions and lemmas; Tokens, one after the other: plain lemmas; Reading one part after the other: plain lemmas; Reading any number of parts: plain lemmas; Declaring a name: plain functions; Plain lemmas: reading goes on as long as there are tokens, and an error is never 0; Plain: the terms and the atoms of trees; a list in which each stands once. -/
import Derived.Test.YtegbdaffhpiacaaGreatDoorChn01
import Derived.Test.YtegbdaffhpiacaaGreatDoorChn02
import Derived.Lib.Strings
namespace Go.Proofs.YtegbdaffhpiacaaGreatDoor
open Go.RowKit
theorem len_toList (s:ByteArray):s.toList.length=s.size:=by
 rw [ByteArray.toList_eq];exact (Lib.size_eq s).symm
theorem toList_snoc (s:ByteArray) (k:Nat) (h:k < s.size):s.toList.take (k+1)=s.toList.take k++[s[k]]:=by
 rw [ByteArray.toList_eq,List.take_succ_eq_append_getElem (by rw [<- Lib.size_eq];exact h)];rfl
theorem toList_whole (s:ByteArray) (k:Nat) (h:s.size<=k):s.toList.take k=s.toList:=by
 rw [List.take_of_length_le];rw [len_toList];exact h
theorem bytes_ext {a b:ByteArray} (h:a.toList=b.toList):a=b:=by
 rw [ByteArray.toList_eq,ByteArray.toList_eq] at h
 cases a;cases b;simp_all
theorem all_false_of_take {p:UInt8->Bool} {l:List UInt8} {k:Nat} (h:(l.take k).all p=false):l.all p=false:=by
 rw [<- List.take_append_drop k l,List.all_append,h];rfl
theorem all_false_at (s:ByteArray) (p:UInt8->Bool) (k:Nat) (h:k < s.size) (hp:p s[k]=false):s.toList.all p=false:=by
 apply all_false_of_take (k:=k+1)
 rw [toList_snoc s k h,List.all_append];simp [hp]
theorem all_true_snoc (s:ByteArray) (p:UInt8->Bool) (k:Nat) (h:k < s.size) (ha:(s.toList.take k).all p=true) (hp:p s[k]=true):(s.toList.take (k+1)).all p=true:=by
 rw [toList_snoc s k h,List.all_append,ha];simp [hp]
theorem ret_bool {a b:Bool} (h:a=b):Ending.returned (.bool a)=.returned (.bool b):=by rw [h]
end Go.Proofs.YtegbdaffhpiacaaGreatDoor

namespace Go.Proofs.YtegbdaffhpiacaaGreatDoor
namespace Ar
def dig (n:Nat):UInt8:=UInt8.ofNat (48+n)
def itoaN:Nat->Nat->List UInt8
 | 0,n=>[dig n]
 | f+1,n=>if n < 10 then [dig n] else itoaN f (n / 10)++[dig (n % 10)]
def itoa (v:Int):List UInt8:=if v < 0 then 45 :: itoaN 3 (-v).toNat else itoaN 3 v.toNat
def tokOf (k:Int) (w:ByteArray) (v:Int):List UInt8:=if k=4\/k=5 then itoa v else w.toList
mutual
def formOf:Nd->List UInt8
 | .mk k w v ps=>if k=1\/k=2\/ps ≠ [] then 40 :: (tokOf k w v++formsOf ps++[41]) else tokOf k w v
def formsOf:List Nd->List UInt8
 | []=>[]
 | p :: ps=>32 :: (formOf p++formsOf ps)
end
theorem itoaN_len (f n:Nat):(itoaN f n).length<=f+1:=by
 induction f generalizing n with
 | zero=>simp [itoaN]
 | succ f ih =>
  unfold itoaN
  split
  ·simp
  ·have:=ih (n / 10)
   simp;omega
theorem itoa_len (v:Int):(itoa v).length<=5:=by
 unfold itoa
 split
 ·have:=itoaN_len 3 (-v).toNat;simp;omega
 ·have:=itoaN_len 3 v.toNat;omega
def TS (ts:List Tk):Prop:=∀ t∈ts,t.txt.size<=600
theorem TS.tail {t:Tk} {ts:List Tk} (h:TS (t :: ts)):TS ts:=fun u hu=>h u (List.mem_cons_of_mem _ hu)
def BD (nd:Nd) (ts ts':List Tk):Prop:=(formOf nd).length+1+603 * ts'.length<=603 * ts.length/\TS ts'
def Fits (f:List Tk->Rs Nd):Prop:=∀ ts nd ts',TS ts->f ts=.ok nd ts'->BD nd ts ts'
theorem row_fits (fs:List (List Tk->Rs Nd)) (h:∀ f∈fs,Fits f):∀ ts ps ts',TS ts->rdRow fs ts=.ok ps ts'->(formsOf ps).length+603 * ts'.length<=603 * ts.length/\TS ts':=by
 induction fs with
 | nil =>
  intro ts ps ts' hs e
  simp only [rdRow,Rs.ok.injEq] at e
  obtain ⟨rfl,rfl⟩:=e
  exact ⟨by simp [formsOf],hs⟩
 | cons f fs ih =>
  intro ts ps ts' hs e
  unfold rdRow at e
  split at e
  ·exact absurd e (by simp)
  ·rename_i a us hf
   split at e
   ·exact absurd e (by simp)
   ·rename_i as vs hr
    simp only [Rs.ok.injEq] at e
    obtain ⟨rfl,rfl⟩:=e
    have h1:=h f (List.mem_cons_self ..) ts a us hs hf
    have h2:=ih (fun g hg=>h g (List.mem_cons_of_mem _ hg)) us as vs h1.2 hr
    refine ⟨?_,h2.2⟩
    have:=h1.1
    have:=h2.1
    simp [formsOf];omega
theorem upTo_fits (m:Nat) (f:List Tk->Rs Nd) (h:Fits f):∀ ts ps ts',TS ts->rdUpTo m f ts=.ok ps ts'->(formsOf ps).length+603 * ts'.length<=603 * ts.length/\TS ts':=by
 induction m with
 | zero=>intro ts ps ts' _ e;exact absurd e (by simp [rdUpTo])
 | succ m ih =>
  intro ts ps ts' hs e
  cases ts with
  | nil=>exact absurd e (by simp [rdUpTo])
  | cons t ts =>
   unfold rdUpTo at e
   split at e
   ·simp only [Rs.ok.injEq] at e
    obtain ⟨rfl,rfl⟩:=e
    exact ⟨by simp [formsOf],hs⟩
   ·split at e
    ·exact absurd e (by simp)
    ·rename_i a us hf
     split at e
     ·exact absurd e (by simp)
     ·rename_i as vs hr
      simp only [Rs.ok.injEq] at e
      obtain ⟨rfl,rfl⟩:=e
      have h1:=h _ a us hs hf
      have h2:=ih us as vs h1.2 hr
      refine ⟨?_,h2.2⟩
      have:=h1.1
      have:=h2.1
      simp [formsOf] at *;omega
theorem size_list (s:ByteArray):s.toList.length=s.size:=len_toList s
theorem num_fits (k:Int) (hk:k=4\/k=5):Fits (rdNum k):=by
 intro ts nd ts' hs e
 cases ts with
 | nil=>exact absurd e (by simp [rdNum])
 | cons t ts =>
  simp only [rdNum] at e
  split at e
  ·exact absurd e (by simp)
  ·rename_i v _
   split at e
   ·exact absurd e (by simp)
   ·simp only [Rs.ok.injEq] at e
    obtain ⟨rfl,rfl⟩:=e
    refine ⟨?_,hs.tail⟩
    have:=itoa_len v
    have h1:¬(k=1\/k=2\/([]:List Nd) ≠ []):=by rcases hk with rfl | rfl <;> simp
    rw [formOf,if_neg h1,tokOf,if_pos hk]
    simp;omega
theorem tok_le (k:Int) (w:ByteArray) (v:Int) (h:w.size<=600):(tokOf k w v).length<=600:=by
 unfold tokOf
 split
 ·have:=itoa_len v;omega
 ·rw [size_list];exact h
theorem form_le (k:Int) (w:ByteArray) (v:Int) (ps:List Nd) (h:w.size<=600):(formOf (.mk k w v ps)).length<=602+(formsOf ps).length:=by
 have:=tok_le k w v h
 rw [formOf]
 split
 ·simp;omega
 ·omega
theorem closes_fits {e k:Int} {w:ByteArray} {r:Rs (List Nd)} {nd:Nd} {ts ts':List Tk} (hw:w.size<=600) (hr:∀ ps us,r=.ok ps us->(formsOf ps).length+603 * us.length<=603 * ts.length/\TS us) (h:rdCloses e k w r=.ok nd ts') :
  (formOf nd).length+603 * ts'.length<=603 * ts.length/\TS ts':=by
 cases r with
 | no e p=>exact absurd h (by simp [rdCloses])
 | ok ps us =>
  obtain ⟨h1,h2⟩:=hr ps us rfl
  cases us with
  | nil=>exact absurd h (by simp [rdCloses,rdShut])
  | cons v vs =>
   simp only [rdCloses,rdShut] at h
   split at h
   ·simp only [Rs.ok.injEq] at h
    obtain ⟨rfl,rfl⟩:=h
    have:=form_le k w 0 ps hw
    refine ⟨?_,h2.tail⟩
    simp at h1;omega
   ·split at h <;> exact absurd h (by simp)
theorem arg_fits {f:List Tk->Rs Nd} (h:Fits f):Fits (rdArg f):=by
 intro ts nd ts' hs e
 cases ts with
 | nil=>exact absurd e (by simp [rdArg])
 | cons t ts =>
  simp only [rdArg] at e
  split at e
  ·exact absurd e (by simp)
  ·exact h _ _ _ hs e
theorem term_fits (N:List Nm) (n:Nat):∀ d,Fits (rdTerm N n d):=by
 induction n with
 | zero=>intro d ts nd ts' _ e;exact absurd e (by simp [rdTerm])
 | succ n ih =>
  intro d ts nd ts' hs e
  cases ts with
  | nil=>exact absurd e (by simp [rdTerm])
  | cons t ts =>
   unfold rdTerm at e
   split at e
   ·split at e
    ·exact absurd e (by simp)
    ·split at e
     ·exact absurd e (by simp)
     ·rename_i u us
      split at e
      ·split at e
       ·exact absurd e (by simp)
       ·rename_i a _
        split at e
        ·exact absurd e (by simp)
        ·have hus:TS us:=hs.tail.tail
         have h1:=closes_fits (ts:=us) (hs.tail u (List.mem_cons_self ..)) (fun ps vs hr=>row_fits _ (fun f hf=>by rw [(List.mem_replicate.1 hf).2];exact arg_fits (ih (d+1))) us ps vs hus hr) e
         refine ⟨?_,h1.2⟩
         have:=h1.1
         simp;omega
      ·exact absurd e (by simp)
   ·split at e
    ·split at e
     ·exact absurd e (by simp)
     ·split at e
      ·simp only [Rs.ok.injEq] at e
       obtain ⟨rfl,rfl⟩:=e
       refine ⟨?_,hs.tail⟩
       have:=form_le 3 t.txt 0 [] (hs t (List.mem_cons_self ..))
       simp [formsOf] at *;omega
      ·exact absurd e (by simp)
    ·exact num_fits 4 (Or.inl rfl) _ _ _ hs e
theorem form_fits (N:List Nm) (n:Nat):∀ d,Fits (rdForm N n d):=by
 induction n with
 | zero=>intro d ts nd ts' _ e;exact absurd e (by simp [rdForm])
 | succ n ih =>
  intro d ts nd ts' hs e
  cases ts with
  | nil=>exact absurd e (by simp [rdForm])
  | cons t ts =>
   unfold rdForm at e
   split at e
   ·split at e
    ·exact absurd e (by simp)
    ·split at e
     ·exact absurd e (by simp)
     ·rename_i u us
      split at e
      ·exact absurd e (by simp)
      ·rename_i ks _
       have hus:TS us:=hs.tail.tail
       have hp:∀ ps vs,rdParts ks.2 n (rdForm N n (d+1)) (rdTerm N n (d+1)) (rdNum 5) us=.ok ps vs->(formsOf ps).length+603 * vs.length<=603 * us.length/\TS vs:=by
        intro ps vs hr
        unfold rdParts at hr
        split at hr
        ·exact row_fits _ (by intro f hf;simp at hf;subst hf;exact ih (d+1)) us ps vs hus hr
        ·split at hr
         ·exact row_fits _ (by intro f hf;simp at hf;subst hf;exact ih (d+1)) us ps vs hus hr
         ·split at hr
          ·exact row_fits _ (by intro f hf;simp at hf;subst hf;exact term_fits N n (d+1)) us ps vs hus hr
          ·split at hr
           ·exact row_fits _ (by intro f hf;simp at hf;rcases hf with rfl | rfl;exact term_fits N n (d+1);exact num_fits 5 (Or.inr rfl)) us ps vs hus hr
           ·exact upTo_fits n _ (ih (d+1)) us ps vs hus hr
       have h1:=closes_fits (ts:=us) (hs.tail u (List.mem_cons_self ..)) hp e
       refine ⟨?_,h1.2⟩
       have:=h1.1
       simp;omega
   ·split at e
    ·simp only [Rs.ok.injEq] at e
     obtain ⟨rfl,rfl⟩:=e
     refine ⟨?_,hs.tail⟩
     have:=form_le 0 t.txt 0 [] (hs t (List.mem_cons_self ..))
     simp [formsOf] at *;omega
    ·exact absurd e (by simp)
end Ar
namespace Ar
def tkFlush (i:Nat) (wd:List UInt8):List Tk:=if wd=[] then [] else [⟨i - wd.length,⟨wd.toArray⟩⟩]
def tkGo:Nat->List UInt8->List UInt8->List Tk
 | i,wd,[]=>tkFlush i wd++[⟨i,ByteArray.empty⟩]
 | i,wd,c :: r=>if isBr c then tkFlush i wd++⟨i,⟨#[c]⟩⟩ :: tkGo (i+1) [] r else if isBl c then tkFlush i wd++tkGo (i+1) [] r else tkGo (i+1) (wd++[c]) r
def toks (l:List UInt8):List Tk:=tkGo 0 [] l
theorem flush_len (i:Nat) (wd:List UInt8):(tkFlush i wd).length=if wd=[] then 0 else 1:=by
 unfold tkFlush;split <;> rfl
theorem go_len (l:List UInt8):∀ i wd,(tkGo i wd l).length<=l.length+1+(if wd=[] then 0 else 1):=by
 induction l with
 | nil=>intro i wd;simp [tkGo,flush_len];omega
 | cons c r ih =>
  intro i wd
  unfold tkGo
  split
  ·have:=ih (i+1) []
   simp [flush_len] at this ⊢;omega
  ·split
   ·have:=ih (i+1) []
    simp [flush_len] at this ⊢;omega
   ·have:=ih (i+1) (wd++[c])
    simp at this ⊢;split <;> omega
theorem toks_len (l:List UInt8):(toks l).length<=l.length+1:=by
 have:=go_len l 0 []
 simpa [toks] using this
theorem mk_toList (l:List UInt8):(ByteArray.mk l.toArray).toList=l:=by
 rw [ByteArray.toList_eq]
theorem TW_app {t:Tk} {ts:List Tk} (h:TW ts) (ht:t.txt.toList ≠ []):TW (t :: ts):=by
 cases ts with
 | nil=>exact absurd rfl h.ne
 | cons u us=>exact ⟨ht,h⟩
theorem TW_flush {i:Nat} {wd:List UInt8} {ts:List Tk} (h:TW ts):TW (tkFlush i wd++ts):=by
 unfold tkFlush
 split
 ·exact h
 ·rename_i hw
  exact TW_app h (by rw [mk_toList];exact hw)
theorem empty_toList:ByteArray.empty.toList=[]:=by rw [ByteArray.toList_eq];rfl
theorem go_wf (l:List UInt8):∀ i wd,TW (tkGo i wd l):=by
 induction l with
 | nil=>intro i wd;exact TW_flush empty_toList
 | cons c r ih =>
  intro i wd
  unfold tkGo
  split
  ·exact TW_flush (TW_app (ih _ _) (by rw [show (ByteArray.mk #[c]).toList=[c] from mk_toList [c]];simp))
  ·split
   ·exact TW_flush (ih _ _)
   ·exact ih _ _
theorem go_short (l:List UInt8) (B:Nat):∀ i wd,wd.length+l.length<=B->1<=B->∀ t∈tkGo i wd l,t.txt.size<=B:=by
 have hfl:∀ i wd,wd.length<=B->∀ t∈tkFlush i wd,t.txt.size<=B:=by
  intro i wd hB t ht
  unfold tkFlush at ht
  split at ht
  ·exact absurd ht (by simp)
  ·simp at ht
   rw [ht,<- size_list,mk_toList]
   exact hB
 induction l with
 | nil =>
  intro i wd hB _ t ht
  unfold tkGo at ht
  rcases List.mem_append.1 ht with h | h
  ·exact hfl _ _ (by simp at hB;omega) t h
  ·simp at h
   rw [h,<- size_list,empty_toList];simp
 | cons c r ih =>
  intro i wd hB h1 t ht
  simp at hB
  unfold tkGo at ht
  split at ht
  ·rcases List.mem_append.1 ht with h | h
   ·exact hfl _ _ (by omega) t h
   ·rcases List.mem_cons.1 h with h | h
    ·rw [h,<- size_list,show (ByteArray.mk #[c]).toList=[c] from mk_toList [c]];simpa using h1
    ·exact ih _ _ (by simp;omega) h1 t h
  ·split at ht
   ·rcases List.mem_append.1 ht with h | h
    ·exact hfl _ _ (by omega) t h
    ·exact ih _ _ (by simp;omega) h1 t h
   ·exact ih _ _ (by simp;omega) h1 t ht
end Ar
namespace Ar
def plain (c:UInt8):Bool := !isBl c && !isBr c
def kOf (l:List UInt8):Int:=if l=[] then 0 else if l=[40] then 1 else if l=[41] then 2 else 3
theorem go_plain (u:List UInt8):∀ i wd rest,u.all plain=true->tkGo i wd (u++rest)=tkGo (i+u.length) (wd++u) rest:=by
 induction u with
 | nil=>intro i wd rest _;simp
 | cons c u ih =>
  intro i wd rest h
  simp only [List.all_cons,Bool.and_eq_true] at h
  obtain ⟨hc,hu⟩:=h
  simp only [plain,Bool.and_eq_true,Bool.not_eq_true'] at hc
  rw [List.cons_append,tkGo,if_neg (by rw [hc.2];decide),if_neg (by rw [hc.1];decide),ih _ _ _ hu]
  simp
  have:i+1+u.length=i+(u.length+1):=by omega
  rw [this]
theorem go_stop (j:Nat) (wd rest:List UInt8) (hw:wd ≠ []) (hr:∀ c r,rest=c :: r->plain c=false):tkGo j wd rest=⟨j - wd.length,⟨wd.toArray⟩⟩ :: tkGo j [] rest:=by
 have hf:tkFlush j wd=[⟨j - wd.length,⟨wd.toArray⟩⟩]:=by rw [tkFlush,if_neg hw]
 have hf0:tkFlush j []=[]:=rfl
 cases rest with
 | nil=>simp [tkGo,hf,hf0]
 | cons c r =>
  have hc:=hr c r rfl
  cases hb:isBr c with
  | true=>simp [tkGo,hb,hf,hf0]
  | false =>
   have hl:isBl c=true:=by
    cases h:isBl c with
    | true=>rfl
    | false=>rw [plain,h,hb] at hc;exact absurd hc (by decide)
   simp [tkGo,hb,hl,hf,hf0]
theorem go_word (k:Nat) (u rest:List UInt8) (hu:u ≠ []) (hp:u.all plain=true) (hr:∀ c r,rest=c :: r->plain c=false):tkGo k [] (u++rest)=⟨k,⟨u.toArray⟩⟩ :: tkGo (k+u.length) [] rest:=by
 rw [go_plain u k [] rest hp,List.nil_append,go_stop _ _ _ hu hr]
 have:k+u.length - u.length=k:=by omega
 rw [this]
theorem go_br (k:Nat) (c:UInt8) (r:List UInt8) (h:isBr c=true):tkGo k [] (c :: r)=⟨k,⟨#[c]⟩⟩ :: tkGo (k+1) [] r:=by
 rw [tkGo,if_pos h];rfl
theorem go_bl (k:Nat) (c:UInt8) (r:List UInt8) (h:isBl c=true):tkGo k [] (c :: r)=tkGo (k+1) [] r:=by
 have hb:isBr c=false:=by
  unfold isBl at h
  simp at h
  rcases h with (rfl | rfl) | rfl <;> decide
 rw [tkGo,if_neg (by rw [hb];decide),if_pos h];rfl
theorem kOf_word {u:List UInt8} (hu:u ≠ []) (hp:u.all plain=true):kOf u=3:=by
 have h1:u ≠ [40]:=by intro e;rw [e] at hp;exact absurd hp (by decide)
 have h2:u ≠ [41]:=by intro e;rw [e] at hp;exact absurd hp (by decide)
 rw [kOf,if_neg hu,if_neg h1,if_neg h2]
end Ar
namespace Ar
theorem row_app (f1 f2:List (List Tk->Rs Nd)):∀ ts,rdRow (f1++f2) ts=match rdRow f1 ts with | .no e p=>.no e p | .ok as us=>match rdRow f2 us with | .no e p=>.no e p | .ok bs vs=>.ok (as++bs) vs:=by
 induction f1 with
 | nil =>
  intro ts
  simp only [List.nil_append,rdRow]
  cases rdRow f2 ts <;> simp
 | cons f fs ih =>
  intro ts
  simp only [List.cons_append,rdRow]
  cases f ts with
  | no e p=>simp
  | ok a us =>
   simp only [ih us]
   cases rdRow fs us with
   | no e p=>simp
   | ok as vs =>
    simp only
    cases rdRow f2 vs <;> simp
theorem row_len (fs:List (List Tk->Rs Nd)):∀ ts ps ts',rdRow fs ts=.ok ps ts'->ps.length=fs.length:=by
 induction fs with
 | nil=>intro ts ps ts' e;simp only [rdRow,Rs.ok.injEq] at e;rw [<- e.1];rfl
 | cons f fs ih =>
  intro ts ps ts' e
  unfold rdRow at e
  split at e
  ·exact absurd e (by simp)
  ·split at e
   ·exact absurd e (by simp)
   ·rename_i as vs hr
    simp only [Rs.ok.injEq] at e
    rw [<- e.1,List.length_cons,List.length_cons,ih _ _ _ hr]
end Ar
namespace Ar
def rdPre (ps:List Nd):Rs (List Nd)->Rs (List Nd)
 | .no e p=>.no e p
 | .ok qs ts=>.ok (ps++qs) ts
theorem pre_nil (r:Rs (List Nd)):rdPre [] r=r:=by cases r <;> simp [rdPre]
theorem upTo_step {F:List Tk->Rs Nd} {m:Nat} {ps:List Nd} {v:Tk} {vs us':List Tk} {nd:Nd} (hv:¬v.txt.toList=[41]) (hf:F (v :: vs)=.ok nd us'):rdPre ps (rdUpTo (m+1) F (v :: vs))=rdPre (ps++[nd]) (rdUpTo m F us'):=by
 simp only [rdUpTo,if_neg hv,hf]
 cases rdUpTo m F us' <;> simp [rdPre]
theorem upTo_no {F:List Tk->Rs Nd} {m:Nat} {ps:List Nd} {v:Tk} {vs:List Tk} {e:Int} {p:Nat} (hv:¬v.txt.toList=[41]) (hf:F (v :: vs)=.no e p):rdPre ps (rdUpTo (m+1) F (v :: vs))=.no e p:=by
 rw [rdUpTo,if_neg hv,hf];rfl
theorem upTo_end {F:List Tk->Rs Nd} {m:Nat} {ps:List Nd} {v:Tk} {vs:List Tk} (hv:v.txt.toList=[41]):rdPre ps (rdUpTo (m+1) F (v :: vs))=.ok ps (v :: vs):=by
 rw [rdUpTo,if_pos hv];simp [rdPre]
theorem fits_short {f:List Tk->Rs Nd} (h:Fits f) {ts ts':List Tk} {nd:Nd} (hs:TS ts) (e:f ts=.ok nd ts'):ts'.length+1<=ts.length:=by
 have:=(h ts nd ts' hs e).1
 omega
theorem row_short (fs:List (List Tk->Rs Nd)) (h:∀ f∈fs,Fits f):∀ ts ps ts',TS ts->rdRow fs ts=.ok ps ts'->fs.length+ts'.length<=ts.length:=by
 induction fs with
 | nil =>
  intro ts ps ts' hs e
  simp only [rdRow,Rs.ok.injEq] at e
  obtain ⟨rfl,rfl⟩:=e
  simp
 | cons f fs ih =>
  intro ts ps ts' hs e
  unfold rdRow at e
  split at e
  ·exact absurd e (by simp)
  ·rename_i a us hf
   split at e
   ·exact absurd e (by simp)
   ·rename_i as vs hr
    simp only [Rs.ok.injEq] at e
    obtain ⟨rfl,rfl⟩:=e
    have h1:=fits_short (h f (List.mem_cons_self ..)) hs hf
    have h2:=ih (fun g hg=>h g (List.mem_cons_of_mem _ hg)) us as vs (h f (List.mem_cons_self ..) ts a us hs hf).2 hr
    simp;omega
end Ar
namespace Ar
def declCode (N:List Nm) (l:List UInt8) (a:Int):Int :=
 if isName l=false then 3 else if a < 0\/3 < a then 4 else if (arOf N l).isSome=true then 7 else if 20<=N.length then 8 else 0
def declNames (N:List Nm) (F:Int) (s:ByteArray) (a:Int):List Nm:=if declCode N s.toList a=0 then N++[⟨s,a,F⟩] else N
end Ar
namespace Ar
def Gd (n:Nat) (f:List Tk->Rs Nd):Prop:=∀ ts,TW ts->ts.length<=n->(∀ e p,f ts=.no e p->e ≠ 0)/\(∀ nd ts',f ts=.ok nd ts'->TW ts'/\ts'.length < ts.length)
def GdL (r:Rs (List Nd)) (ts:List Tk):Prop:=(∀ e p,r=.no e p->e ≠ 0)/\(∀ ps ts',r=.ok ps ts'->TW ts'/\ts'.length<=ts.length)
theorem row_gd (n:Nat) (fs:List (List Tk->Rs Nd)) (h:∀ f∈fs,Gd n f):∀ ts,TW ts->ts.length<=n->GdL (rdRow fs ts) ts:=by
 induction fs with
 | nil=>intro ts hw _;exact ⟨fun e p h=>by simp [rdRow] at h,fun ps ts' h=>by simp [rdRow] at h;obtain ⟨_,rfl⟩:=h;exact ⟨hw,Nat.le_refl _⟩⟩
 | cons f fs ih =>
  intro ts hw hl
  have hf:=h f (List.mem_cons_self ..) ts hw hl
  have ih':=ih (fun g hg=>h g (List.mem_cons_of_mem _ hg))
  unfold rdRow
  cases hr:f ts with
  | no e p=>exact ⟨fun e' p' h'=>by simp at h';obtain ⟨rfl,rfl⟩:=h';exact hf.1 _ _ hr,fun ps ts' h'=>by simp at h'⟩
  | ok a us =>
   have h1:=hf.2 _ _ hr
   have h2:=ih' us h1.1 (by omega)
   cases hq:rdRow fs us with
   | no e p=>exact ⟨fun e' p' h'=>by simp [hq] at h';obtain ⟨rfl,rfl⟩:=h';exact h2.1 _ _ hq,fun ps ts' h'=>by simp [hq] at h'⟩
   | ok as vs =>
    have h3:=h2.2 _ _ hq
    exact ⟨fun e' p' h'=>by simp [hq] at h',fun ps ts' h'=>by simp [hq] at h';obtain ⟨_,rfl⟩:=h';exact ⟨h3.1,by omega⟩⟩
theorem upTo_gd (n:Nat) (f:List Tk->Rs Nd) (h:Gd n f) (m:Nat):∀ ts,TW ts->ts.length<=n->ts.length<=m->GdL (rdUpTo m f ts) ts:=by
 induction m with
 | zero =>
  intro ts hw _ hl
  cases ts with
  | nil=>exact absurd hw (by simp [TW])
  | cons t ts=>simp at hl
 | succ m ih =>
  intro ts hw hl hm
  cases ts with
  | nil=>exact absurd hw (by simp [TW])
  | cons t ts =>
   have hf:=h (t :: ts) hw hl
   unfold rdUpTo
   by_cases hc:t.txt.toList=[41]
   ·rw [if_pos hc]
    exact ⟨fun e' p' h'=>by simp at h',fun ps ts' h'=>by simp at h';obtain ⟨_,rfl⟩:=h';exact ⟨hw,Nat.le_refl _⟩⟩
   ·rw [if_neg hc]
    cases hr:f (t :: ts) with
    | no e p=>exact ⟨fun e' p' h'=>by simp at h';obtain ⟨rfl,rfl⟩:=h';exact hf.1 _ _ hr,fun ps ts' h'=>by simp at h'⟩
    | ok a us =>
     have h1:=hf.2 _ _ hr
     have h2:=ih us h1.1 (by omega) (by omega)
     cases hq:rdUpTo m f us with
     | no e p=>exact ⟨fun e' p' h'=>by simp [hq] at h';obtain ⟨rfl,rfl⟩:=h';exact h2.1 _ _ hq,fun ps ts' h'=>by simp [hq] at h'⟩
     | ok as vs =>
      have h3:=h2.2 _ _ hq
      exact ⟨fun e' p' h'=>by simp [hq] at h',fun ps ts' h'=>by simp [hq] at h';obtain ⟨_,rfl⟩:=h';exact ⟨h3.1,by omega⟩⟩
theorem num_gd (n:Nat) (k:Int):Gd n (rdNum k):=by
 intro ts hw _
 cases ts with
 | nil=>exact absurd hw (by simp [TW])
 | cons t ts =>
  simp only [rdNum]
  cases hn:numOf t.txt.toList with
  | none=>exact ⟨fun e' p' h'=>by simp at h';obtain ⟨rfl,rfl⟩:=h';decide,fun ps ts' h'=>by simp at h'⟩
  | some v =>
   have hne:t.txt.toList ≠ []:=by
    intro e;rw [e,show numOf []=none from by decide] at hn;cases hn
   by_cases hv:v < -1000\/1000 < v
   ·simp only [if_pos hv]
    exact ⟨fun e' p' h'=>by simp at h';obtain ⟨rfl,rfl⟩:=h';decide,fun ps ts' h'=>by simp at h'⟩
   ·simp only [if_neg hv]
    exact ⟨fun e' p' h'=>by simp at h',fun ps ts' h'=>by simp at h';obtain ⟨_,rfl⟩:=h';exact ⟨hw.tail hne,by simp⟩⟩
theorem closes_gd {e k:Int} {w:ByteArray} {r:Rs (List Nd)} {ts:List Tk} (he:e ≠ 0) (h:GdL r ts):(∀ e' p,rdCloses e k w r=.no e' p->e' ≠ 0)/\(∀ nd ts',rdCloses e k w r=.ok nd ts'->TW ts'/\ts'.length < ts.length):=by
 cases r with
 | no e1 p1=>exact ⟨fun e' p' h'=>by simp [rdCloses] at h';obtain ⟨rfl,rfl⟩:=h';exact h.1 _ _ rfl,fun ps ts' h'=>by simp [rdCloses] at h'⟩
 | ok ps us =>
  have h1:=h.2 _ _ rfl
  cases us with
  | nil=>exact absurd h1.1 (by simp [TW])
  | cons v vs =>
   simp only [rdCloses,rdShut]
   by_cases hc:v.txt.toList=[41]
   ·rw [if_pos hc]
    refine ⟨fun e' p' h'=>by simp at h',fun nd ts' h'=>?_⟩
    simp at h'
    obtain ⟨_,rfl⟩:=h'
    have h2:=h1.2
    exact ⟨h1.1.tail (by rw [hc];simp),by simp at h2;omega⟩
   ·rw [if_neg hc]
    by_cases hv:v.txt.toList=[]
    ·rw [if_pos hv]
     exact ⟨fun e' p' h'=>by simp at h';obtain ⟨rfl,rfl⟩:=h';decide,fun ps ts' h'=>by simp at h'⟩
    ·rw [if_neg hv]
     exact ⟨fun e' p' h'=>by simp at h';obtain ⟨rfl,rfl⟩:=h';exact he,fun ps ts' h'=>by simp at h'⟩
theorem arg_gd {n:Nat} {f:List Tk->Rs Nd} (h:Gd n f):Gd n (rdArg f):=by
 intro ts hw hl
 cases ts with
 | nil=>exact absurd hw (by simp [TW])
 | cons t ts =>
  simp only [rdArg]
  by_cases hc:t.txt.toList=[41]
  ·rw [if_pos hc]
   exact ⟨fun e' p' h'=>by simp at h';obtain ⟨rfl,rfl⟩:=h';decide,fun ps ts' h'=>by simp at h'⟩
  ·rw [if_neg hc];exact h _ hw hl
theorem no_gd {e:Int} {p:Nat} {ts:List Tk} (he:e ≠ 0):(∀ e' p',(Rs.no e p:Rs Nd)=.no e' p'->e' ≠ 0)/\(∀ nd ts',(Rs.no e p:Rs Nd)=.ok nd ts'->TW ts'/\ts'.length < ts.length) :=
 ⟨fun e' p' h'=>by simp at h';obtain ⟨rfl,rfl⟩:=h';exact he,fun ps ts' h'=>by simp at h'⟩
theorem ok_gd {nd:Nd} {us ts:List Tk} (h:TW us) (hl:us.length < ts.length):(∀ e' p',(Rs.ok nd us:Rs Nd)=.no e' p'->e' ≠ 0)/\(∀ nd' ts',(Rs.ok nd us:Rs Nd)=.ok nd' ts'->TW ts'/\ts'.length < ts.length) :=
 ⟨fun e' p' h'=>by simp at h',fun ps ts' h'=>by simp at h';obtain ⟨_,rfl⟩:=h';exact ⟨h,hl⟩⟩
theorem term_gd (N:List Nm) (n:Nat):∀ d,Gd n (rdTerm N n d):=by
 induction n with
 | zero =>
  intro d ts hw hl
  cases ts with
  | nil=>exact absurd hw (by simp [TW])
  | cons t ts=>simp at hl
 | succ n ih =>
  intro d ts hw hl
  cases ts with
  | nil=>exact absurd hw (by simp [TW])
  | cons t ts =>
   unfold rdTerm
   by_cases ho:t.txt.toList=[40]
   ·have h1:=hw.tail (by rw [ho];simp)
    rw [if_pos ho]
    by_cases hd:30<=d
    ·rw [if_pos hd];exact no_gd (by decide)
    ·rw [if_neg hd]
     cases ts with
     | nil=>exact absurd h1 (by simp [TW])
     | cons u us =>
      simp only
      by_cases hn:isName u.txt.toList=true
      ·rw [if_pos hn]
       cases ha:arOf N u.txt.toList with
       | none=>exact no_gd (by decide)
       | some a =>
        simp only
        by_cases h0:a=0
        ·rw [if_pos h0];exact no_gd (by decide)
        ·rw [if_neg h0]
         have hune:u.txt.toList ≠ []:=by
          intro e;rw [e] at hn;exact absurd hn (by decide)
         have h2:=h1.tail hune
         have h3:=closes_gd (k:=3) (w:=u.txt) (by decide:(4:Int) ≠ 0) (row_gd n (List.replicate a.toNat (rdArg (rdTerm N n (d+1)))) (fun f hf=>by rw [(List.mem_replicate.1 hf).2];exact arg_gd (ih (d+1))) us h2 (by simp at hl;omega))
         exact ⟨h3.1,fun nd ts' h'=>⟨(h3.2 nd ts' h').1,by have:=(h3.2 nd ts' h').2;simp;omega⟩⟩
      ·rw [if_neg hn];exact no_gd (by decide)
   ·rw [if_neg ho]
    by_cases hn:isName t.txt.toList=true
    ·rw [if_pos hn]
     cases ha:arOf N t.txt.toList with
     | none=>exact no_gd (by decide)
     | some a =>
      simp only
      by_cases h0:a=0
      ·rw [if_pos h0]
       have hune:t.txt.toList ≠ []:=by
        intro e;rw [e] at hn;exact absurd hn (by decide)
       exact ok_gd (hw.tail hune) (by simp)
      ·rw [if_neg h0];exact no_gd (by decide)
    ·rw [if_neg hn];exact num_gd (n+1) 4 _ hw hl
theorem form_gd (N:List Nm) (n:Nat):∀ d,Gd n (rdForm N n d):=by
 induction n with
 | zero =>
  intro d ts hw hl
  cases ts with
  | nil=>exact absurd hw (by simp [TW])
  | cons t ts=>simp at hl
 | succ n ih =>
  intro d ts hw hl
  cases ts with
  | nil=>exact absurd hw (by simp [TW])
  | cons t ts =>
   unfold rdForm
   by_cases ho:t.txt.toList=[40]
   ·have h1:=hw.tail (by rw [ho];simp)
    rw [if_pos ho]
    by_cases hd:30<=d
    ·rw [if_pos hd];exact no_gd (by decide)
    ·rw [if_neg hd]
     cases ts with
     | nil=>exact absurd h1 (by simp [TW])
     | cons u us =>
      simp only
      cases hh:hdOf u.txt.toList with
      | none=>exact no_gd (by decide)
      | some ks =>
       simp only
       have hune:u.txt.toList ≠ []:=by
        intro e;rw [e,show hdOf []=none from by decide] at hh;cases hh
       have h2:=h1.tail hune
       have hus:us.length<=n:=by simp at hl;omega
       have hF:=ih (d+1)
       have hT:=term_gd N n (d+1)
       have hG:GdL (rdParts ks.2 n (rdForm N n (d+1)) (rdTerm N n (d+1)) (rdNum 5) us) us:=by
        unfold rdParts
        by_cases s0:ks.2=0
        ·rw [if_pos s0];exact row_gd n _ (by intro f hf;simp at hf;subst hf;exact hF) us h2 hus
        rw [if_neg s0]
        by_cases s1:ks.2=1
        ·rw [if_pos s1];exact row_gd n _ (by intro f hf;simp at hf;subst hf;exact hF) us h2 hus
        rw [if_neg s1]
        by_cases s3:ks.2=3
        ·rw [if_pos s3];exact row_gd n _ (by intro f hf;simp at hf;subst hf;exact hT) us h2 hus
        rw [if_neg s3]
        by_cases s4:ks.2=4
        ·rw [if_pos s4];exact row_gd n _ (by intro f hf;simp at hf;rcases hf with rfl | rfl <;> first | exact hT | exact num_gd n 5) us h2 hus
        rw [if_neg s4]
        exact upTo_gd n _ hF n us h2 hus hus
       have h3:=closes_gd (k:=ks.1) (w:=u.txt) (by decide:(2:Int) ≠ 0) hG
       exact ⟨h3.1,fun nd ts' h'=>⟨(h3.2 nd ts' h').1,by have:=(h3.2 nd ts' h').2;simp;omega⟩⟩
   ·rw [if_neg ho]
    by_cases hq:t.txt.toList=wTrue\/t.txt.toList=wFalse
    ·rw [if_pos hq]
     exact ok_gd (hw.tail (by rcases hq with e | e <;> rw [e] <;> decide)) (by simp)
    ·rw [if_neg hq];exact no_gd (by decide)
end Ar
namespace Ar
def isIt (t:Bool) (k:Int):Bool:=if t then k == 3 || k == 4 else k == 2
mutual
def subs (t:Bool):Nd->List Nd
 | .mk k w v ps=>(if isIt t k=true then [.mk k w v ps] else [])++subsAll t ps
def subsAll (t:Bool):List Nd->List Nd
 | []=>[]
 | p :: ps=>subs t p++subsAll t ps
end
theorem subsAll_append (t:Bool) (as bs:List Nd):subsAll t (as++bs)=subsAll t as++subsAll t bs:=by
 induction as with
 | nil=>rfl
 | cons a as ih=>simp [subsAll,ih]
theorem mem_subsAll {t:Bool} {x:Nd} {ps:List Nd}:x∈subsAll t ps↔∃ p∈ps,x∈subs t p:=by
 induction ps with
 | nil=>simp [subsAll]
 | cons p ps ih=>simp [subsAll,ih]
def add1 (l:List (List UInt8)) (f:List UInt8):List (List UInt8):=if f∈l then l else l++[f]
def addAll (l:List (List UInt8)) (xs:List Nd):List (List UInt8):=xs.foldl (fun l x=>add1 l (formOf x)) l
theorem addAll_cons (l:List (List UInt8)) (x:Nd) (xs:List Nd):addAll l (x :: xs)=addAll (add1 l (formOf x)) xs:=rfl
theorem mem_add1 {l:List (List UInt8)} {f g:List UInt8}:g∈add1 l f↔g∈l\/g=f:=by
 unfold add1
 split
 ·rename_i h
  constructor
  ·exact .inl
  ·rintro (h' | rfl)
   ·exact h'
   ·exact h
 ·simp
theorem nodup_add1 {l:List (List UInt8)} {f:List UInt8} (h:l.Nodup):(add1 l f).Nodup:=by
 unfold add1
 split
 ·exact h
 ·rename_i hf
  rw [List.nodup_append]
  refine ⟨h,by simp,?_⟩
  intro a ha b hb e
  simp at hb
  subst hb e
  exact hf ha
theorem mem_addAll {xs:List Nd}:∀ {l:List (List UInt8)} {g:List UInt8},g∈addAll l xs↔g∈l\/∃ x∈xs,g=formOf x:=by
 induction xs with
 | nil=>intro l g;simp [addAll]
 | cons x xs ih =>
  intro l g
  rw [addAll_cons,ih,mem_add1]
  simp [or_assoc]
theorem nodup_addAll {xs:List Nd}:∀ {l:List (List UInt8)},l.Nodup->(addAll l xs).Nodup:=by
 induction xs with
 | nil=>intro l h;exact h
 | cons x xs ih=>intro l h;rw [addAll_cons];exact ih (nodup_add1 h)
theorem same_length {α:Type} [DecidableEq α]:∀ {a b:List α},a.Nodup->b.Nodup->(∀ x,x∈a↔x∈b)->a.length=b.length:=by
 intro a
 induction a with
 | nil =>
  intro b _ _ h
  cases b with
  | nil=>rfl
  | cons y b=>exact absurd ((h y).2 (by simp)) (by simp)
 | cons x a ih =>
  intro b ha hb h
  have hx:x∈b:=(h x).1 (by simp)
  have h1:=ih (b:=b.erase x) (List.nodup_cons.1 ha).2 (hb.erase x) (fun y=>by
   rw [List.Nodup.mem_erase_iff hb]
   constructor
   ·intro hy
    exact ⟨fun e=>(List.nodup_cons.1 ha).1 (e ▸ hy),(h y).1 (List.mem_cons_of_mem _ hy)⟩
   ·rintro ⟨hne,hy⟩
    rcases List.mem_cons.1 ((h y).2 hy) with e | e
    ·exact absurd e hne
    ·exact e)
  rw [List.length_cons,h1,List.length_erase_of_mem hx]
  have:=List.length_pos_of_mem hx
  omega
theorem nodup_map {α β:Type} {f : α -> β}:∀ {l:List α},l.Nodup->(∀ x∈l,∀ y∈l,f x=f y->x=y)->(l.map f).Nodup:=by
 intro l
 induction l with
 | nil=>intro _ _;simp
 | cons a l ih =>
  intro h hf
  rw [List.map_cons,List.nodup_cons]
  refine ⟨?_,ih (List.nodup_cons.1 h).2 (fun x hx y hy=>hf x (List.mem_cons_of_mem _ hx) y (List.mem_cons_of_mem _ hy))⟩
  intro hm
  obtain ⟨y,hy,e⟩:=List.mem_map.1 hm
  have:=hf y (List.mem_cons_of_mem _ hy) a (by simp) e
  subst this
  exact (List.nodup_cons.1 h).1 hy
theorem count_eq {xs T:List Nd} (hT:T.Nodup) (hm:∀ x,x∈T↔x∈xs) (hinj:∀ x∈xs,∀ y∈xs,formOf x=formOf y->x=y):(addAll [] xs).length=T.length:=by
 rw [<- List.length_map (f:=formOf) (as:=T)]
 refine same_length (nodup_addAll List.nodup_nil) (nodup_map hT (fun x hx y hy=>hinj x ((hm x).1 hx) y ((hm y).1 hy))) (fun g=>?_)
 rw [mem_addAll]
 constructor
 ·rintro (h | ⟨x,hx,rfl⟩)
  ·exact absurd h (by simp)
  ·exact List.mem_map.2 ⟨x,(hm x).2 hx,rfl⟩
 ·intro h
  obtain ⟨x,hx,rfl⟩:=List.mem_map.1 h
  exact .inr ⟨x,(hm x).1 hx,rfl⟩
end Ar
end Go.Proofs.YtegbdaffhpiacaaGreatDoor

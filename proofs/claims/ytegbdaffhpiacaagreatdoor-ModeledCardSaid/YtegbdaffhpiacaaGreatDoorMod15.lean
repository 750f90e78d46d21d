/- A part of the proof. -/
import Derived.Test.YtegbdaffhpiacaaGreatDoorMod14
import Derived.Maps.OwnSet
import Derived.Maps.Views
import Derived.DeepKeys4
namespace Go.Proofs.YtegbdaffhpiacaaGreatDoor
open Go.RowKit Go.Maps Ar
structure zj4{α:Type}(kl:α->Lit)(Ok:α->Prop)(S:α->Prop)(K:List α)(D:DataW Unit)(c:Nat):Prop where
 yes:∀ (i:Nat) (x:α),K[i]?=some x->S x->(∀ z,D.atKey (kl x) z=.lit (.int .i64 i))/\Maps.has D (kl x)=true
 no:∀ x:α,Ok x->¬(x∈K/\S x)->Maps.has D (kl x)=false
 size:Maps.size D=c
section
variable{α:Type}{kl:α->Lit}{Ok:α->Prop}
theorem qh6:zj4 kl Ok (fun _=>True) [] (.map []) 0 :=
 ⟨fun i x h=>absurd h (by simp),fun x _ _=>rfl,rfl⟩
theorem qh7{K:List α}{D:DataW Unit}{x:α}(h:zj4 kl Ok (fun _=>True) K D K.length)(hD:Maps.Tidy D)(hk:WideAt.IsKeyLit (kl x))(hok:∀ y∈K,Ok y)(hx:Ok x)(hinj:∀ y,Ok y->kl y=kl x->y=x)(hn:¬x∈K):
  zj4 kl Ok (fun _=>True) (K++[x]) (D.put (kl x) (.lit (.int .i64 K.length))) (K++[x]).length:=by
 refine⟨?_,?_,?_⟩
 ·intro i y hy _;by_cases hi:i<K.length
  ·rw[List.getElem?_append_left hi] at hy;have hm:=List.mem_of_getElem? hy;have hne:kl y≠kl x:=fun e=>hn (hinj y (hok y hm) e▸hm)
   exact⟨fun z=>by rw[atKey_put_other hne];exact(h.yes i y hy trivial).1 z,by rw[has_put_other hne];exact(h.yes i y hy trivial).2⟩
  ·rw[List.getElem?_append_right (by omega)] at hy;have hi0:i=K.length:=by
    have:=(List.getElem?_eq_some_iff.1 hy).1;simp at this;omega
   subst hi0;simp at hy;subst hy;exact⟨fun z=>atKey_put_same hD.isMap hk _ z,has_put_same hD.isMap hk _⟩
 ·intro y hy hno;have hne:y≠x:=fun e=>hno ⟨by simp[e],trivial⟩
  rw[has_put_other (fun e=>hne (hinj y hy e))];exact h.no y hy (fun hc=>hno ⟨List.mem_append_left _ hc.1,trivial⟩)
 ·rw[size_put hD,h.no x hx (fun hc=>hn hc.1),h.size];simp
def zD6{α:Type}(K:List α)(n j:Nat)(x:α):Prop:=x∈K.take n\/x∈K.drop j
theorem zn4{K:List α}{D:DataW Unit}{n:Nat}(h:zj4 kl Ok (fun _=>True) K D K.length)(hn:n<=K.length):zj4 kl Ok (zD6 K n n) K D (n+(K.length-n)):=by refine⟨fun i x hx _=>h.yes i x hx trivial,fun x hx hno=>h.no x hx (fun hc=>hno ⟨hc.1,?_⟩),by rw[h.size];omega⟩;have hm:=hc.1;rw[<- List.take_append_drop n K] at hm;exact List.mem_append.1 hm
theorem qh8{K:List α}{D:DataW Unit}{n j:Nat}{x:α}(h:zj4 kl Ok (zD6 K n j) K D (n+(K.length-j)))(hD:Maps.Tidy D)(hnd:K.Nodup)(hok:∀ y∈K,Ok y)(hinj:∀ y,Ok y->kl y=kl x->y=x)(hnj:n<=j)(hx:K[j]?=some x):
  zj4 kl Ok (zD6 K n (j+1)) K (D.del (kl x)) (n+(K.length-(j+1))):=by
 have hj:=(List.getElem?_eq_some_iff.1 hx).1;have hdrop:K.drop j=x::K.drop (j+1):=by have e:=(List.getElem?_eq_some_iff.1 hx).2;rw[List.drop_eq_getElem_cons hj,e]
 have hnotake:¬x∈K.take n:=by intro hm;have hp:=hnd;rw[<- List.take_append_drop j K,List.nodup_append] at hp;exact hp.2.2 x ((List.take_subset_take_left K hnj) hm) x (by rw[hdrop];simp) rfl
 have hnodrop:¬x∈K.drop (j+1):=by have hp:=hnd.sublist (List.drop_sublist j K);rw[hdrop] at hp;exact(List.nodup_cons.1 hp).1
 refine⟨?_,?_,?_⟩
 ·intro i y hy hs;have hne:y≠x:=by
   rintro rfl;exact hs.elim hnotake hnodrop
  have hm:=List.mem_of_getElem? hy;have hne2:kl y≠kl x:=fun e=>hne (hinj y (hok y hm) e)
  have hs':zD6 K n j y:=hs.imp id (fun e=>by rw[hdrop];exact List.mem_cons_of_mem _ e);exact⟨fun z=>by rw[atKey_del_other hne2];exact(h.yes i y hy hs').1 z,by rw[has_del_other hne2];exact(h.yes i y hy hs').2⟩
 ·intro y hy hno;by_cases he:y=x
  ·subst he;exact has_del_same
  ·rw[has_del_other (fun e=>he (hinj y hy e))];refine h.no y hy (fun hc=>hno ⟨hc.1,hc.2.imp id (fun e=>?_)⟩);rw[hdrop] at e;exact(List.mem_cons.1 e).resolve_left he
 ·have h1:=size_del (k:=kl x) hD;rw[(h.yes j x hx (.inr (by rw[hdrop];simp))).2,h.size] at h1;simp at h1;omega
theorem zU4{K:List α}{D:DataW Unit}{n:Nat}(h:zj4 kl Ok (zD6 K n K.length) K D (n+(K.length-K.length)))(hn:n<=K.length):zj4 kl Ok (fun _=>True) (K.take n) D (K.take n).length:=by
 refine⟨?_,?_,?_⟩
 ·intro i x hx _;have hi:=(List.getElem?_eq_some_iff.1 hx).1;simp at hi;have hx2:K[i]?=some x:=by rw[List.getElem?_take_of_lt (by omega)] at hx;exact hx
  exact h.yes i x hx2 (.inl (List.mem_of_getElem? hx))
 ·intro x hx hno;refine h.no x hx (fun hc=>hno ⟨?_,trivial⟩);rcases hc.2 with e|e
  ·exact e
  ·rw[List.drop_of_length_le (Nat.le_refl _)] at e;exact absurd e (by simp)
 ·rw[h.size];simp;omega
end
end Go.Proofs.YtegbdaffhpiacaaGreatDoor

/- Plain: sets of worlds, a bit each, in words; Plain: the search: open atoms, votes, what a row that stands says; Plain: how far a search has come, as one number; Plain: values can be brought near to each other: what no bound can tell apart is taken out. -/
import Derived.Test.YtegbdaffhpiacaaGreatDoorBck12
import Derived.Test.YtegbdaffhpiacaaGreatDoorBck01
namespace Go.Proofs.YtegbdaffhpiacaaGreatDoor
namespace Ar
def Z8 (l:List (BitVec 64)) (n:Nat):Bool:=(l.getD (n / 64) 0).getLsbD (n % 64)
theorem jf7 {l:List (BitVec 64)} {n:Nat} (h:n < 64 * l.length):n / 64 < l.length:=by omega
theorem zw3 {l:List (BitVec 64)} {n:Nat} (h:n < 64 * l.length):∃ x,l[n / 64]?=some x/\Z8 l n=x.getLsbD (n % 64):=by
 have h1:=jf7 h
 refine ⟨l[n / 64],List.getElem?_eq_getElem h1,?_⟩
 unfold Z8
 rw [List.getD_eq_getElem?_getD,List.getElem?_eq_getElem h1]
 rfl
theorem zT1 {l:List (BitVec 64)} {n:Nat} {x:BitVec 64} (h:l[n / 64]?=some x):Z8 l n=x.getLsbD (n % 64):=by
 unfold Z8
 rw [List.getD_eq_getElem?_getD,h]
 rfl
def V9 (l:List (BitVec 64)):List (BitVec 64):=l.map (~~~ ·)
def W8 (l m:List (BitVec 64)):List (BitVec 64):=List.zipWith (· &&& ·) l m
def zY0 (l m:List (BitVec 64)):List (BitVec 64):=List.zipWith (· ||| ·) l m
def ze3 (k:Nat):List (BitVec 64):=List.replicate k 0
theorem zf4 {l:List (BitVec 64)} {n:Nat} (h:n < 64 * l.length):Z8 (V9 l) n = !Z8 l n:=by
 obtain ⟨x,h1,h2⟩:=zw3 h
 rw [h2,zT1 (x := ~~~x) (by simp [V9,h1])]
 simp [show n % 64 < 64 by omega]
theorem zh7 {l m:List (BitVec 64)} {n:Nat} (h:n < 64 * l.length) (he:m.length=l.length):Z8 (W8 l m) n=(Z8 l n && Z8 m n):=by
 obtain ⟨x,h1,h2⟩:=zw3 h
 obtain ⟨y,h3,h4⟩:=zw3 (l:=m) (n:=n) (by omega)
 rw [h2,h4,zT1 (x:=x &&& y) (by simp [W8,List.getElem?_zipWith,h1,h3])]
 simp
theorem zA5 {l m:List (BitVec 64)} {n:Nat} (h:n < 64 * l.length) (he:m.length=l.length):Z8 (zY0 l m) n=(Z8 l n || Z8 m n):=by
 obtain ⟨x,h1,h2⟩:=zw3 h
 obtain ⟨y,h3,h4⟩:=zw3 (l:=m) (n:=n) (by omega)
 rw [h2,h4,zT1 (x:=x ||| y) (by simp [zY0,List.getElem?_zipWith,h1,h3])]
 simp
theorem zo0 (k n:Nat):Z8 (ze3 k) n=false:=by
 unfold Z8 ze3
 rw [List.getD_eq_getElem?_getD,List.getElem?_replicate]
 split <;> simp
theorem H7 (l:List (BitVec 64)):(V9 l).length=l.length:=by simp [V9]
theorem zc3 {l m:List (BitVec 64)} (h:m.length=l.length):(W8 l m).length=l.length:=by simp [W8,h]
theorem zj1 {l m:List (BitVec 64)} (h:m.length=l.length):(zY0 l m).length=l.length:=by simp [zY0,h]
theorem U1 (k:Nat):(ze3 k).length=k:=by simp [ze3]
def pat (i a:Nat):BitVec 64 :=
 if a < 6 then (match a with
  | 0=>0xAAAAAAAAAAAAAAAA#64
  | 1=>0xCCCCCCCCCCCCCCCC#64
  | 2=>0xF0F0F0F0F0F0F0F0#64
  | 3=>0xFF00FF00FF00FF00#64
  | 4=>0xFFFF0000FFFF0000#64
  | _=>0xFFFFFFFF00000000#64)
 else if i.testBit (a - 6)=true then BitVec.allOnes 64 else 0
theorem jc4:∀ a,a < 6->∀ b,b < 64->(pat 0 a).getLsbD b=b.testBit a:=by decide
theorem zG4 (n a:Nat):(pat (n / 64) a).getLsbD (n % 64)=n.testBit a:=by
 by_cases h:a < 6
 ·have h1:=jc4 a h (n % 64) (by omega)
  have h2:pat (n / 64) a=pat 0 a:=by unfold pat;rw [if_pos h,if_pos h]
  rw [h2,h1]
  rw [show (64:Nat)=2 ^ 6 from rfl,Nat.testBit_mod_two_pow]
  simp [h]
 ·unfold pat
  rw [if_neg h]
  have h1:(n / 64).testBit (a - 6)=n.testBit a:=by
   rw [show (64:Nat)=2 ^ 6 from rfl,Nat.testBit_div_two_pow]
   congr 1
   omega
  rw [h1]
  cases n.testBit a with
  | true =>
   show (BitVec.allOnes 64).getLsbD (n % 64)=true
   rw [BitVec.getLsbD_allOnes]
   exact decide_eq_true (by omega)
  | false=>simp
def X1 (k a:Nat) (yes:Bool):List (BitVec 64):=(List.range k).map (fun i=>if yes=true then pat i a else ~~~pat i a)
theorem O7 (k a:Nat) (yes:Bool):(X1 k a yes).length=k:=by simp [X1]
theorem zr0 {k a n:Nat} {yes:Bool} (h:n < 64 * k):Z8 (X1 k a yes) n=(n.testBit a == yes):=by
 have h1:n / 64 < k:=by omega
 rw [zT1 (x:=if yes=true then pat (n / 64) a else ~~~pat (n / 64) a) (by simp [X1,List.getElem?_map,List.getElem?_range h1])]
 cases yes with
 | true=>simp only [if_true];rw [zG4];simp
 | false =>
  simp only [Bool.false_eq_true,if_false]
  rw [BitVec.getLsbD_not,zG4]
  simp [show n % 64 < 64 by omega]
theorem qR4 {l:List (BitVec 64)}:(∀ x∈l,x=0)↔∀ n,n < 64 * l.length->Z8 l n=false:=by
 constructor
 ·intro h n hn
  obtain ⟨x,h1,h2⟩:=zw3 hn
  rw [h2,h x (List.mem_of_getElem? h1)]
  simp
 ·intro h x hx
  obtain ⟨i,hi,e⟩:=List.getElem_of_mem hx
  apply BitVec.eq_of_getLsbD_eq
  intro b hb
  have h1:=h (64 * i+b) (by omega)
  rw [zT1 (x:=x) (by rw [show (64 * i+b) / 64=i by omega,List.getElem?_eq_getElem hi,e]),show (64 * i+b) % 64=b by omega] at h1
  rw [h1]
  simp
def qg9 (p:Nat->Bool):Nat->Nat
 | 0=>0
 | n+1=>qg9 p n+(if p n=true then 1 else 0)
theorem qw7 (p q:Nat->Bool):∀ n,(∀ x,x < n->q x=true->p x=true)->qg9 q n<=qg9 p n
 | 0,_=>Nat.le_refl _
 | n+1,h=>by
  have h1:=qw7 p q n (fun x hx=>h x (by omega))
  have h2:=h n (by omega)
  simp only [qg9]
  cases e1:q n <;> cases e2:p n <;> simp_all <;> omega
theorem qw8 (p q:Nat->Bool):∀ n,(∀ x,x < n->q x=true->p x=true)->(∃ x,x < n/\p x=true/\q x=false)->qg9 q n < qg9 p n
 | 0,_,h=>by obtain ⟨x,hx,_⟩:=h;omega
 | n+1,h,hx=>by
  obtain ⟨x,hx1,hx2,hx3⟩:=hx
  have h1:=qw7 p q n (fun x hx=>h x (by omega))
  simp only [qg9]
  by_cases e:x=n
  ·subst e
   simp [hx2,hx3]
   omega
  ·have h2:=qw8 p q n (fun x hx=>h x (by omega)) ⟨x,by omega,hx2,hx3⟩
   have h3:=h n (by omega)
   cases e1:q n <;> cases e2:p n <;> simp_all <;> omega
end Ar
namespace Ar
theorem zw4:∀ (M:Nat) (l:List Nat),l.Nodup->(∀ q∈l,q < M)->l.length<=M
 | 0,l,_,hl=>by
  cases l with
  | nil=>simp
  | cons a b=>exact absurd (hl a (by simp)) (by omega)
 | M+1,l,hn,hl=>by
  by_cases hm:M∈l
  ·have e:=List.length_erase_of_mem hm
   have:=zw4 M (l.erase M) (hn.erase M) (fun q hq=>by
    have h1:=hl q (List.mem_of_mem_erase hq)
    have h2:q ≠ M:=fun e=>by subst e;exact (List.Nodup.not_mem_erase hn) hq
    omega)
   have:=List.length_pos_of_mem hm
   omega
  ·have:=zw4 M l hn (fun q hq=>by
    have h1:=hl q hq
    have h2:q ≠ M:=fun e=>by subst e;exact hm hq
    omega)
   omega
theorem zT3:∀ (M:Nat) (l:List Nat),(∀ q,q < M->q∈l)->M<=l.length
 | 0,_,_=>Nat.zero_le _
 | M+1,l,h=>by
  have hm:=h M (by omega)
  have e:=List.length_erase_of_mem hm
  have:=zT3 M (l.erase M) (fun q hq=>by
   rw [List.mem_erase_of_ne (by omega)]
   exact h q (by omega))
  have:=List.length_pos_of_mem hm
  omega
def opn (tr:List St) (k:Nat):List Nat:=(List.range k).filter (fun a=>decide (a ∉ tr.map (·.q)))
theorem qR8 (tr:List St):opn tr 0=[]:=rfl
theorem qh3 (tr:List St) (k:Nat):opn tr (k+1)=if k∈tr.map (·.q) then opn tr k else opn tr k++[k]:=by
 unfold opn
 rw [List.range_succ,List.filter_append]
 split
 ·rename_i h;simp only [List.filter_cons,List.filter_nil];rw [if_neg (by simpa using h)];simp
 ·rename_i h;simp only [List.filter_cons,List.filter_nil];rw [if_pos (by simpa using h)]
theorem zY2 {tr:List St} {k a:Nat}:a∈opn tr k↔a < k/\a ∉ tr.map (·.q):=by
 unfold opn
 rw [List.mem_filter,List.mem_range]
 simp
theorem zY3 (tr:List St) (k:Nat):(opn tr k).length<=k:=by
 unfold opn
 exact Nat.le_trans (List.length_filter_le _ _) (by simp)
section
variable {F:Fx} {A:List At} {W:Nat} {al l0:Nat->Bool} {tr:List St} {left:List (Nat->Bool)}
theorem za6.open_lt (h:za6 F A W al tr left l0) {a:Nat} (ha:a < A.length) (hn:a ∉ tr.map (·.q)):tr.length < A.length:=by
 rcases Nat.lt_or_ge tr.length A.length with hlt | hge
 ·exact hlt
 ·exfalso
  have h1:(a :: (tr.take A.length).map (·.q)).Nodup:=by
   rw [List.nodup_cons]
   refine ⟨fun hm=>hn ?_,?_⟩
   ·rw [List.map_take] at hm
    exact List.mem_of_mem_take hm
   ·rw [List.map_take]
    exact h.nd.sublist (List.take_sublist _ _)
  have h2:=zw4 A.length _ h1 (fun q hq=>by
   rcases List.mem_cons.1 hq with e | e
   ·omega
   ·obtain ⟨s,hs,rfl⟩:=List.mem_map.1 e
    obtain ⟨k,hk⟩:=List.getElem?_of_mem hs
    obtain ⟨hk1,hk2⟩:=U4 hk
    exact (h.ats k s hk2).1 hk1)
  simp at h2
  omega
theorem za6.none_open (hn:∀ a,a < A.length->a∈tr.map (·.q)):A.length<=tr.length:=by
 have:=zT3 A.length _ hn
 simpa using this
theorem za6.vote (h:za6 F A W al tr left l0) (hl:tr.length < A.length) {last:Nat->Bool} (hlast:left[left.length - 1]?=some last) {q:Nat} {yes:Bool} (hx:∃ x,x < W/\last x=true/\x.testBit q=yes):∃ x,x < W/\l0 x=true/\zO6 tr A.length x/\x.testBit q=yes:=by
 obtain ⟨x,h1,h2,h3⟩:=hx
 have hlen:=h.len
 obtain ⟨h4,h5⟩:=(h.lf _ _ hlast x h1).1 h2
 refine ⟨x,h1,h4,fun k s hk e=>h5 k s ?_ e,h3⟩
 have:=(List.getElem?_eq_some_iff.1 e).1
 omega
theorem za6.last_some (h:za6 F A W al tr left l0) {last:Nat->Bool} (hlast:left[left.length - 1]?=some last):∃ x,x < W/\last x=true:=by
 obtain ⟨x,h1,h2,h3⟩:=h.some_
 have hlen:=h.len
 exact ⟨x,h1,(h.lf _ _ hlast x h1).2 ⟨h2,fun k s hk e=>h3 k s (by omega) e⟩⟩
theorem za6.stands (h:za6 F A W al tr left l0) (hn:∀ a,a < A.length->a∈tr.map (·.q)) {v:Nat->Int} (hh:∀ y∈ans A tr,y.1.tr v=y.2):∃ x,x < W/\al x=true/\isW A v x:=by
 obtain ⟨x,h1,h2,h3⟩:=h.some_
 refine ⟨x,h1,h.sub x h1 h2,fun k a ha=>?_⟩
 have hk:=(List.getElem?_eq_some_iff.1 ha).1
 obtain ⟨s,hs,e⟩:=List.mem_map.1 (hn k hk)
 obtain ⟨j,hj⟩:=List.getElem?_of_mem hs
 subst e
 have hj2:=(h.ats j s hj).2 hk
 rw [h3 j s hj2 hj]
 have:=hh (atQ A s.q,s.yes) (List.mem_of_getElem? (i:=j) (by rw [zG2,hj];rfl))
 simp only [atQ,ha] at this
 exact this.symm
end
end Ar
namespace Ar
def enc (P K a b e:Nat):Nat:=(a * (P+1)+b) * K+e
theorem jo7 {P K a b e e':Nat} (h:e' < e):enc P K a b e' < enc P K a b e:=by unfold enc;omega
theorem jf8 {P K a b b' e e':Nat} (h:b' < b) (he:e' < K):enc P K a b' e' < enc P K a b e:=by
 unfold enc
 have h1:(a * (P+1)+b'+1) * K<=(a * (P+1)+b) * K:=Nat.mul_le_mul_right K (by omega)
 rw [Nat.add_mul (a * (P+1)+b') 1 K] at h1
 omega
theorem jo8 {P K a a' b b' e e':Nat} (h:a' < a) (hb:b'<=P) (he:e' < K):enc P K a' b' e' < enc P K a b e:=by
 unfold enc
 have h0:(a'+1) * (P+1)<=a * (P+1):=Nat.mul_le_mul_right _ (by omega)
 rw [Nat.add_mul a' 1 (P+1)] at h0
 have h1:(a' * (P+1)+b'+1) * K<=(a * (P+1)+b) * K:=Nat.mul_le_mul_right K (by omega)
 rw [Nat.add_mul (a' * (P+1)+b') 1 K] at h1
 omega
def mx (A:List At):Nat:=A.length+150
def qh4 (A:List At) (tr:List St):Nat:=3 ^ mx A - pot (mx A) tr
theorem jd3 (A:List At) (tr:List St):qh4 A tr<=3 ^ mx A:=Nat.sub_le _ _
theorem qG4 {A:List At} {tr:List St} (s:St) (h:tr.length<=A.length+144):qh4 A (tr++[s]) < qh4 A tr:=by
 have h1:=qg7 (mx A) tr s (by unfold mx;omega)
 have h2:=zX9 (mx A) (tr++[s])
 unfold qh4
 omega
theorem qG5 {A:List At} {tr:List St} {p:Nat} {s t:St} (h:tr.length<=A.length+145) (hs:tr[p]?=some s) (h1:s.turned=false) (h2:t.turned=true):qh4 A (tr.take p++[t]) < qh4 A tr:=by
 have h3:=qg8 (mx A) tr p s t (by unfold mx;omega) hs h1 h2
 have h4:=zX9 (mx A) (tr.take p++[t])
 unfold qh4
 omega
def zg9 (A:List At) (W:Nat) (l0:Nat->Bool) (tr:List St) (e:Nat):Nat:=enc (3 ^ mx A) (mx A+20) (qg9 l0 W) (qh4 A tr) e
section
variable {F:Fx} {A:List At} {W:Nat} {al l0 l1:Nat->Bool} {tr:List St} {left:List (Nat->Bool)}
theorem qq3 {e e':Nat} (h:e' < e):zg9 A W l0 tr e' < zg9 A W l0 tr e:=jo7 h
theorem zt3 {e e':Nat} (s:St) (h:tr.length<=A.length+144) (he:e' < mx A+20):zg9 A W l0 (tr++[s]) e' < zg9 A W l0 tr e:=jf8 (qG4 s h) he
theorem zT4 {p e e':Nat} {s t:St} (h:tr.length<=A.length+145) (hs:tr[p]?=some s) (h1:s.turned=false) (h2:t.turned=true) (he:e' < mx A+20):zg9 A W l0 (tr.take p++[t]) e' < zg9 A W l0 tr e:=jf8 (qG5 h hs h1 h2) he
theorem qR9 {B:M3} {same:Nat->Bool} {tr':List St} {e e':Nat} (h:za6 F A W al tr left l0) (hat:∀ k,B.has k=true->k < A.length) (hs:∀ x,x < W->(same x=true↔∀ k s,B.has k=true->tr[k]?=some s->x.testBit s.q=s.yes)) (hl1:∀ x,x < W->l1 x=(l0 x && !same x)) (he:e' < mx A+20) (tr0:List St):zg9 A W l1 tr' e' < zg9 A W l0 tr0 e:=by
 refine jo8 (qw8 l0 l1 W (fun x hx hh=>?_) ?_) (jd3 _ _) he
 ·rw [hl1 x hx] at hh
  simp only [Bool.and_eq_true] at hh
  exact hh.1
 ·obtain ⟨x,hx,h1,h2⟩:=h.some_
  refine ⟨x,hx,h1,?_⟩
  have:same x=true:=(hs x hx).2 (fun k s hk hks=>h2 k s (hat k hk) hks)
  rw [hl1 x hx,h1,this]
  rfl
end
end Ar
end Go.Proofs.YtegbdaffhpiacaaGreatDoor

namespace Go.Proofs.YtegbdaffhpiacaaGreatDoor
namespace Ar
theorem zt0 (f:Nat->Nat) (n:Nat):∀ k,l8 f (n+k)=l8 f n+l8 (fun i=>f (n+i)) k
 | 0=>rfl
 | k+1=>by
  have:=zt0 f n k
  show l8 f (n+k)+f (n+k)=_
  simp only [l8]
  omega
theorem qg6 (f g:Nat->Nat):∀ n,l8 (fun i=>f i+g i) n=l8 f n+l8 g n
 | 0=>rfl
 | n+1=>by have:=qg6 f g n;simp only [l8];omega
theorem zL9 (f:Nat->Nat):∀ n,(∀ i,i < n->f i=1)->l8 f n=n
 | 0,_=>rfl
 | n+1,h=>by have:=zL9 f n (fun i hi=>h i (by omega));have:=h n (by omega);simp only [l8];omega
theorem zm4 (f:Nat->Nat):∀ n,(∀ i,i < n->f i=0)->l8 f n=0
 | 0,_=>rfl
 | n+1,h=>by have:=zm4 f n (fun i hi=>h i (by omega));have:=h n (by omega);simp only [l8];omega
theorem zA1 (f:Nat->Nat) (h1:∀ i,f i<=1):∀ n,l8 f n<=n
 | 0=>Nat.le_refl _
 | n+1=>by have:=zA1 f h1 n;have:=h1 n;simp only [l8];omega
def za9 (G:Nat) (s y:Int):Nat:=if s < y/\y<=s+G then 1 else 0
def O5 (G:Nat) (S:List Int) (y:Int):Nat:=if S.any (fun s=>decide (s < y/\y<=s+G))=true then 1 else 0
def O6 (G:Nat):List Int->Int->Nat
 | [],_=>0
 | s :: S,y=>za9 G s y+O6 G S y
variable {G:Nat}
theorem zA2 (s y:Int):za9 G s y<=1:=by unfold za9;split <;> omega
theorem qq0 (S:List Int) (y:Int):O5 G S y<=O6 G S y:=by
 induction S with
 | nil=>simp [O5,O6]
 | cons s S ih =>
  simp only [O6]
  by_cases h:s < y/\y<=s+G
  ·have:za9 G s y=1:=by unfold za9;rw [if_pos h]
   have:O5 G (s :: S) y<=1:=by unfold O5;split <;> omega
   omega
  ·have h1:O5 G (s :: S) y=O5 G S y:=by unfold O5;simp [h]
   omega
theorem qF7 (s m:Int) (n:Nat):l8 (fun i=>za9 G s (m+1+i)) n<=G:=by
 by_cases h:s < m
 ·-- the za9 begins below: those up to s+G
  obtain ⟨k,hk⟩:∃ k:Nat,(k:Int)=max 0 (s+G - m):=⟨(max 0 (s+G - m)).toNat,by omega⟩
  have hkb:k<=G:=by omega
  by_cases hn:n<=k
  ·have:=zA1 (fun i=>za9 G s (m+1+i)) (fun i=>zA2 _ _) n
   omega
  ·obtain ⟨r,hr⟩:∃ r,n=k+r:=⟨n - k,by omega⟩
   rw [hr,zt0]
   have h1:=zA1 (fun i=>za9 G s (m+1+i)) (fun i=>zA2 _ _) k
   have h2:=zm4 (fun i=>za9 G s (m+1+((k+i:Nat):Int))) r (fun i _=>by unfold za9;rw [if_neg (by omega)])
   omega
 ·obtain ⟨d,hd⟩:∃ d:Nat,(d:Int)=s - m:=⟨(s - m).toNat,by omega⟩
  by_cases hn:n<=d
  ·have:=zm4 (fun i=>za9 G s (m+1+i)) n (fun i hi=>by unfold za9;rw [if_neg (by omega)])
   omega
  ·obtain ⟨r,hr⟩:∃ r,n=d+r:=⟨n - d,by omega⟩
   rw [hr,zt0]
   have h1:=zm4 (fun i=>za9 G s (m+1+i)) d (fun i hi=>by unfold za9;rw [if_neg (by omega)])
   have h3:l8 (fun i=>za9 G s (m+1+((d+i:Nat):Int))) r<=G:=by
    by_cases hr2:r<=G
    ·have:=zA1 (fun i=>za9 G s (m+1+((d+i:Nat):Int))) (fun i=>zA2 _ _) r
     omega
    ·obtain ⟨q,hq⟩:∃ q,r=G+q:=⟨r - G,by omega⟩
     rw [hq,zt0]
     have h4:=zA1 (fun i=>za9 G s (m+1+((d+i:Nat):Int))) (fun i=>zA2 _ _) G
     have h5:=zm4 (fun i=>za9 G s (m+1+((d+(G+i):Nat):Int))) q (fun i _=>by unfold za9;rw [if_neg (by omega)])
     omega
   omega
theorem zS7 (m:Int) (n:Nat):∀ S:List Int,l8 (fun i=>O6 G S (m+1+i)) n<=G * S.length
 | []=>by simp only [O6];rw [zm4 _ _ (fun _ _=>rfl)];omega
 | s :: S=>by
  have h1:=zS7 m n S
  have h2:=qF7 (G:=G) s m n
  have h3:=qg6 (fun i=>za9 G s (m+1+i)) (fun i=>O6 G S (m+1+i)) n
  have h4:l8 (fun i=>O6 G (s :: S) (m+1+i)) n=l8 (fun i=>za9 G s (m+1+i)+O6 G S (m+1+i)) n:=rfl
  rw [h4,h3,List.length_cons,Nat.mul_succ]
  omega
theorem zM0 {S:List Int} {M y:Int} (hM:M∈S) (hy:y<=M):O6 G S y=O6 G (S.erase M) y:=by
 induction S with
 | nil=>simp at hM
 | cons s S ih =>
  by_cases e:s=M
  ·subst e
   rw [List.erase_cons_head]
   simp only [O6]
   have:za9 G s y=0:=by unfold za9;rw [if_neg (by omega)]
   omega
  ·rw [List.erase_cons_tail (by simpa using e)]
   simp only [O6]
   rw [ih ((List.mem_cons.1 hM).resolve_left (fun h=>e h.symm))]
def near (G:Nat) (S:List Int) (m x:Int):Int:=(l8 (fun i=>O5 G S (m+1+i)) (x - m).toNat:Nat)
theorem qF8 {S:List Int} {m a b:Int} (hm:m<=a) (hab:a<=b):near G S m b - near G S m a=(l8 (fun i=>O5 G S (a+1+i)) (b - a).toNat:Nat):=by
 unfold near
 obtain ⟨p,hp⟩:∃ p:Nat,(p:Int)=a - m:=⟨(a - m).toNat,by omega⟩
 obtain ⟨k,hk⟩:∃ k:Nat,(k:Int)=b - a:=⟨(b - a).toNat,by omega⟩
 rw [show (b - m).toNat=p+k by omega,show (a - m).toNat=p by omega,show (b - a).toNat=k by omega,zt0]
 have:(fun i:Nat=>O5 G S (m+1+((p+i:Nat):Int)))=(fun i:Nat=>O5 G S (a+1+(i:Int))):=by
  funext i
  congr 1
  omega
 rw [this]
 omega
theorem zM1 {S:List Int} {m a b:Int} (ha:a∈S) (hm:m<=a) (hab:a<=b):(b - a<=G->near G S m b - near G S m a=b - a)/\(G<=b - a->G<=near G S m b - near G S m a):=by
 have h1:∀ i:Nat,i < G->O5 G S (a+1+i)=1:=by
  intro i hi
  unfold O5
  rw [if_pos]
  exact List.any_eq_true.2 ⟨a,ha,by simp;omega⟩
 rw [qF8 hm hab]
 constructor
 ·intro h
  rw [zL9 _ _ (fun i hi=>h1 i (by omega))]
  omega
 ·intro h
  obtain ⟨q,hq⟩:∃ q:Nat,(b - a).toNat=G+q:=⟨(b - a).toNat - G,by omega⟩
  rw [hq,zt0,zL9 _ _ (fun i hi=>h1 i hi)]
  omega
theorem zS8 {S:List Int} {m M:Int} (hM:M∈S) {x:Int} (hx:x<=M):0<=near G S m x/\near G S m x<=((G * (S.length - 1):Nat):Int):=by
 refine ⟨by unfold near;omega,?_⟩
 unfold near
 have h1:l8 (fun i=>O5 G S (m+1+i)) (x - m).toNat<=l8 (fun i=>O6 G (S.erase M) (m+1+i)) (x - m).toNat:=by
  refine qQ7 fun i hi=>?_
  rw [<- zM0 hM (by omega)]
  exact qq0 _ _
 have h2:=zS7 (G:=G) m (x - m).toNat (S.erase M)
 rw [List.length_erase_of_mem hM] at h2
 omega
theorem qR0 {S:List Int} (h:S ≠ []):∃ m∈S,∀ s∈S,m<=s:=by
 induction S with
 | nil=>exact absurd rfl h
 | cons s S ih =>
  by_cases e:S=[]
  ·subst e;exact ⟨s,by simp,by simp⟩
  ·obtain ⟨m,hm,hle⟩:=ih e
   by_cases h2:s<=m
   ·exact ⟨s,by simp,fun x hx=>by rcases List.mem_cons.1 hx with rfl | hx;omega;have:=hle x hx;omega⟩
   ·exact ⟨m,by simp [hm],fun x hx=>by rcases List.mem_cons.1 hx with rfl | hx;omega;exact hle x hx⟩
theorem jb9 {S:List Int} (h:S ≠ []):∃ m∈S,∀ s∈S,s<=m:=by
 induction S with
 | nil=>exact absurd rfl h
 | cons s S ih =>
  by_cases e:S=[]
  ·subst e;exact ⟨s,by simp,by simp⟩
  ·obtain ⟨m,hm,hle⟩:=ih e
   by_cases h2:m<=s
   ·exact ⟨s,by simp,fun x hx=>by rcases List.mem_cons.1 hx with rfl | hx;omega;have:=hle x hx;omega⟩
   ·exact ⟨m,by simp [hm],fun x hx=>by rcases List.mem_cons.1 hx with rfl | hx;omega;exact hle x hx⟩
theorem qR1 (G:Nat) (S:List Int) (h0:0∈S):∃ φ:Int->Int,φ 0=0/\(∀ a∈S,∀ b∈S,∀ c:Int,-(G:Int)<=c->c+1<=G->(a<=b+c ↔ φ a <= φ b+c))/\(∀ a∈S,∀ b∈S,φ a - φ b<=((G * (S.length - 1):Nat):Int)):=by
 have hne:S ≠ []:=fun e=>by rw [e] at h0;simp at h0
 obtain ⟨m,hm,hle⟩:=qR0 hne
 obtain ⟨M,hM,hge⟩:=jb9 hne
 refine ⟨fun x=>near G S m x - near G S m 0,by simp,fun a ha b hb c h1 h2=>?_,fun a ha b hb=>?_⟩
 ·have la:=hle a ha
  have lb:=hle b hb
  show a<=b+c↔near G S m a - near G S m 0<=near G S m b - near G S m 0+c
  by_cases hab:a<=b
  ·have h3:=zM1 (G:=G) (m:=m) ha la hab
   by_cases hd:b - a<=G
   ·have:=h3.1 hd;omega
   ·have:=h3.2 (by omega);omega
  ·have h3:=zM1 (G:=G) (m:=m) hb lb (by omega:b<=a)
   by_cases hd:a - b<=G
   ·have:=h3.1 hd;omega
   ·have:=h3.2 (by omega);omega
 ·have h1:=zS8 (G:=G) (m:=m) hM (hge a ha)
  have h2:=zS8 (G:=G) (m:=m) hM (hge b hb)
  show near G S m a - near G S m 0 - (near G S m b - near G S m 0)<=_
  omega
theorem qF9 {T A:List Nd} {v:Nd->Int} (hg:Good T v) (hcl:∀ x∈T,∀ p∈parts x,p∈T) (hA:∀ x∈A,zq4 x/\∀ p∈(parts x).take 2,p∈T) (g:Nat) (hnum:∀ n,.mk 4 ByteArray.empty n []∈T -> -(g:Int)<=n/\n<=g) (hbd:∀ x∈A,-(g:Int)<=bnd ((parts x).drop 2)/\bnd ((parts x).drop 2)<=g):∃ v',Good T v'/\(∀ x∈A,zq9 v' x=zq9 v x)/\(∀ x∈T,∀ y∈T,v' x - v' y<=(((g+1) * T.length:Nat):Int))/\(∀ x∈T,v' x<=(((g+1) * T.length:Nat):Int) /\ -((((g+1) * T.length:Nat):Int))<=v' x):=by
 obtain ⟨φ,h0,hk,hs⟩:=qR1 (g+1) (0 :: T.map v) (by simp)
 have hm:∀ x∈T,v x∈0 :: T.map v:=fun x hx=>List.mem_cons_of_mem _ (List.mem_map_of_mem hx)
 have hz:(0:Int)∈0 :: T.map v:=by simp
 have hinj:∀ a∈0 :: T.map v,∀ b∈0 :: T.map v,φ a = φ b->a=b:=by
  intro a ha b hb e
  have h1:=(hk a ha b hb 0 (by omega) (by omega)).2 (by omega)
  have h2:=(hk b hb a ha 0 (by omega) (by omega)).2 (by omega)
  omega
 have hl:(0 :: T.map v).length - 1=T.length:=by simp
 refine ⟨fun x => φ (v x),⟨fun n hn=>?_,fun w ps qs hp hq he=>?_⟩,fun x hx=>?_,fun x hx y hy=>?_,fun x hx=>?_⟩
 ·have e:=hg.num n hn
  have hb:=hnum n hn
  have hmn:=hm _ hn
  rw [e] at hmn
  have h1:=(hk n hmn 0 hz n (by omega) (by omega)).1 (by omega)
  have h2:=(hk 0 hz n hmn (-n) (by omega) (by omega)).1 (by omega)
  show φ (v _)=n
  rw [e]
  omega
 ·show φ (v _) = φ (v _)
  have:ps.map v=qs.map v:=by
   have hpc:∀ p∈ps,p∈T:=fun p h=>hcl _ hp p h
   have hqc:∀ p∈qs,p∈T:=fun p h=>hcl _ hq p h
   clear hp hq
   induction ps generalizing qs with
   | nil=>cases qs with
    | nil=>rfl
    | cons _ _=>simp at he
   | cons p ps ih=>cases qs with
    | nil=>simp at he
    | cons q qs =>
     simp only [List.map_cons,List.cons.injEq] at he ⊢
     exact ⟨hinj _ (hm p (hpc p (by simp))) _ (hm q (hqc q (by simp))) he.1,ih qs he.2 (fun r hr=>hpc r (by simp [hr])) (fun r hr=>hqc r (by simp [hr]))⟩
  rw [hg.fn w ps qs hp hq this]
 ·have hrel:∀ (w:List UInt8) (a b c:Int),a∈0 :: T.map v->b∈0 :: T.map v -> -(g:Int)<=c->c<=g->zn9 w (φ a) (φ b) c=zn9 w a b c:=by
   intro w a b c ha hb h1 h2
   have k0:=hk a ha b hb 0 (by omega) (by omega)
   have k1:=hk b hb a ha 0 (by omega) (by omega)
   have k2:=hk a ha b hb (-1) (by omega) (by omega)
   have k3:=hk a ha b hb c (by omega) (by omega)
   unfold zn9
   split
   ·rw [decide_eq_decide];omega
   ·split
    ·rw [decide_eq_decide];omega
    ·split <;> (rw [decide_eq_decide];omega)
  obtain ⟨hao,he⟩:=hA x hx
  have hbx:=hbd x hx
  cases hao with
  | two hw ha hb=>exact hrel _ _ _ _ (hm _ (he _ (by simp [parts]))) (hm _ (he _ (by simp [parts]))) hbx.1 hbx.2
  | le hw ha hb h1 h2=>exact hrel _ _ _ _ (hm _ (he _ (by simp [parts]))) (hm _ (he _ (by simp [parts]))) hbx.1 hbx.2
 ·have:=hs _ (hm x hx) _ (hm y hy)
  rw [hl] at this
  exact this
 ·have h1:=hs _ (hm x hx) 0 hz
  have h2:=hs 0 hz _ (hm x hx)
  rw [hl,h0] at h1 h2
  show φ (v x)<=_/\_ <= φ (v x)
  omega
end Ar
end Go.Proofs.YtegbdaffhpiacaaGreatDoor

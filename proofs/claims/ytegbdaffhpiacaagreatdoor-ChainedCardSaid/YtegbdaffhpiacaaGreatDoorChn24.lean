/- Plain: the search: answers in a row, worlds that are left, what each turn of it keeps; Plain: sets of worlds, a bit each, in words; Plain: the search: open atoms, votes, what a row that stands says; Plain: how far a search has come, as one number. -/
import Derived.Test.YtegbdaffhpiacaaGreatDoorChn12
namespace Go.Proofs.YtegbdaffhpiacaaGreatDoor
namespace Ar
structure St where
 q:Nat
 yes:Bool
 turned:Bool
 blame:M3
def atQ (A:List At) (q:Nat):At:=match A[q]? with
 | some x=>x
 | none=>⟨[60],(q - A.length) / 12,(q - A.length) % 12,0⟩
def ans (A:List At) (tr:List St):List (At × Bool):=tr.map (fun s=>(atQ A s.q,s.yes))
theorem ans_len (A:List At) (tr:List St):(ans A tr).length=tr.length:=by simp [ans]
theorem ans_get (A:List At) (tr:List St) (k:Nat):(ans A tr)[k]?=(tr[k]?).map (fun s=>(atQ A s.q,s.yes)):=by simp [ans]
theorem ans_app (A:List At) (tr us:List St):ans A (tr++us)=ans A tr++ans A us:=by simp [ans]
theorem ans_take (A:List At) (tr:List St) (k:Nat):ans A (tr.take k)=(ans A tr).take k:=by simp [ans]
def fits (tr:List St) (n:Nat) (x:Nat):Prop:=∀ k s,k < n->tr[k]?=some s->x.testBit s.q=s.yes
def isW (A:List At) (v:Nat->Int) (x:Nat):Prop:=∀ k a,A[k]?=some a->x.testBit k=a.tr v
structure SInv (F:Fx) (A:List At) (W:Nat) (allowed:Nat->Bool) (tr:List St) (left:List (Nat->Bool)) (l0:Nat->Bool):Prop where
 len:left.length=min tr.length A.length+1
 ats:∀ k s,tr[k]?=some s->(k < A.length↔s.q < A.length)
 nd:(tr.map (·.q)).Nodup
 qlt:∀ s∈tr,s.q < A.length+144
 lf:∀ n l,left[n]?=some l->∀ x,x < W->(l x=true↔l0 x=true/\fits tr n x)
 sub:∀ x,x < W->l0 x=true->allowed x=true
 snd:∀ v,F.V v->∀ x,x < W->allowed x=true->isW A v x->l0 x=true
 tn:∀ k s,tr[k]?=some s->Below3 k s.blame/\(s.turned=true->∀ v,F.V v->Hs (HA (ans A tr)) s.blame v->(atQ A s.q).tr v=s.yes)/\(s.turned=false->s.blame=M3.none)
 some_:∃ x,x < W/\l0 x=true/\fits tr A.length x
theorem SInv.few {F:Fx} {A:List At} {W:Nat} {al l0:Nat->Bool} {tr:List St} {left:List (Nat->Bool)} (h:SInv F A W al tr left l0):tr.length<=A.length+144:=by
 have h1:=h.nd
 have h2:∀ q∈tr.map (·.q),q < A.length+144:=by
  intro q hq
  obtain ⟨s,hs,rfl⟩:=List.mem_map.1 hq
  exact h.qlt s hs
 have key:∀ (M:Nat) (l:List Nat),l.Nodup->(∀ q∈l,q < M)->l.length<=M:=by
  intro M
  induction M with
  | zero =>
   intro l _ hl
   cases l with
   | nil=>simp
   | cons a b=>exact absurd (hl a (by simp)) (by omega)
  | succ M ih =>
   intro l hn hl
   by_cases hm:M∈l
   ·have e:=List.length_erase_of_mem hm
    have:=ih (l.erase M) (hn.erase M) (fun q hq=>by
     have h1:=hl q (List.mem_of_mem_erase hq)
     have h2:q ≠ M:=fun e=>by subst e;exact (List.Nodup.not_mem_erase hn) hq
     omega)
    have:=List.length_pos_of_mem hm
    omega
   ·have:=ih l hn (fun q hq=>by
     have h1:=hl q hq
     have h2:q ≠ M:=fun e=>by subst e;exact hm hq
     omega)
    omega
 have:=key _ _ h1 h2
 simpa using this
theorem SInv.start (F:Fx) (A:List At) (W:Nat) (al:Nat->Bool) (h:∃ x,x < W/\al x=true):SInv F A W al [] [al] al:=by
 obtain ⟨x,hx,ha⟩:=h
 refine ⟨by simp,by simp,by simp,by simp,?_,fun _ _ e=>e,fun _ _ _ _ e _=>e,by simp,x,hx,ha,fun k s hk e=>by simp at e⟩
 intro n l hl x _
 have:n=0:=by
  rcases Nat.eq_zero_or_pos n with e | e
  ·exact e
  ·rw [List.getElem?_eq_none (by simp;omega)] at hl;simp at hl
 subst this
 simp at hl
 subst hl
 exact ⟨fun e=>⟨e,fun k s hk=>by omega⟩,fun e=>e.1⟩
theorem get_snoc {α:Type} {l:List α} {x y : α} {k:Nat} (h:(l++[x])[k]?=some y):(k < l.length/\l[k]?=some y)\/(k=l.length/\y=x):=by
 by_cases hk:k < l.length
 ·rw [List.getElem?_append_left hk] at h;exact .inl ⟨hk,h⟩
 ·rw [List.getElem?_append_right (by omega)] at h
  have h2:k - l.length=0:=by
   rcases Nat.eq_zero_or_pos (k - l.length) with e | e
   ·exact e
   ·rw [List.getElem?_eq_none (by simp;omega)] at h;simp at h
  rw [h2] at h
  simp at h
  exact .inr ⟨by omega,h.symm⟩
theorem fits_snoc {tr:List St} {s:St} {n x:Nat} (hn:n<=tr.length):fits (tr++[s]) n x↔fits tr n x:=by
 constructor
 ·intro h k t hk e
  exact h k t hk (by rw [List.getElem?_append_left (by omega)];exact e)
 ·intro h k t hk e
  rw [List.getElem?_append_left (by omega)] at e
  exact h k t hk e
theorem fits_snoc_all {tr:List St} {s:St} {n x:Nat} (hn:tr.length < n):fits (tr++[s]) n x↔fits tr n x/\x.testBit s.q=s.yes:=by
 constructor
 ·intro h
  refine ⟨fun k t hk e=>?_,h tr.length s hn (by simp)⟩
  have hk2:k < tr.length:=(List.getElem?_eq_some_iff.1 e).1
  exact h k t hk (by rw [List.getElem?_append_left hk2];exact e)
 ·rintro ⟨h1,h2⟩ k t hk e
  rcases get_snoc e with ⟨_,e⟩ | ⟨_,rfl⟩
  ·exact h1 k t hk e
  ·exact h2
theorem nodup_snoc {l:List Nat} {x:Nat} (h:l.Nodup) (hx:x ∉ l):(l++[x]).Nodup:=by
 rw [List.nodup_append]
 refine ⟨h,by simp,fun a ha b hb e=>?_⟩
 simp at hb
 subst hb e
 exact hx ha
theorem tn_snoc {F:Fx} {A:List At} {W:Nat} {al l0:Nat->Bool} {tr:List St} {left:List (Nat->Bool)} (h:SInv F A W al tr left l0) {s:St} (hb:Below3 tr.length s.blame) (ht:s.turned=true->∀ v,F.V v->Hs (HA (ans A tr)) s.blame v->(atQ A s.q).tr v=s.yes) (ht0:s.turned=false->s.blame=M3.none) :
  ∀ k t,(tr++[s])[k]?=some t->Below3 k t.blame/\(t.turned=true->∀ v,F.V v->Hs (HA (ans A (tr++[s]))) t.blame v->(atQ A t.q).tr v=t.yes)/\(t.turned=false->t.blame=M3.none):=by
 intro k t e
 rcases get_snoc e with ⟨hk,e⟩ | ⟨rfl,rfl⟩
 ·obtain ⟨h1,h2,h3⟩:=h.tn k t e
  refine ⟨h1,fun et v hv hh=>h2 et v hv (fun j hj=>?_),h3⟩
  have hj2:=h1 j hj
  have:=hh j hj
  rw [ans_app,HA.app (by rw [ans_len];omega)] at this
  exact this
 ·refine ⟨hb,fun et v hv hh=>ht et v hv (fun j hj=>?_),ht0⟩
  have hj2:=hb j hj
  have:=hh j hj
  rw [ans_app,HA.app (by rw [ans_len];omega)] at this
  exact this
theorem SInv.atom {F:Fx} {A:List At} {W:Nat} {al l0 l:Nat->Bool} {tr:List St} {left:List (Nat->Bool)} (h:SInv F A W al tr left l0) {s:St} (hq:s.q < A.length) (hl:tr.length < A.length) (hf:s.q ∉ tr.map (·.q)) (ht:s.turned=false) (hb:s.blame=M3.none)
  (hx:∃ x,x < W/\l0 x=true/\fits tr A.length x/\x.testBit s.q=s.yes) {last:Nat->Bool} (hlast:left[left.length - 1]?=some last) (hle:∀ x,x < W->(l x=true↔last x=true/\x.testBit s.q=s.yes)):SInv F A W al (tr++[s]) (left++[l]) l0:=by
 have hlen:=h.len
 refine ⟨by simp;omega,?_,?_,?_,?_,h.sub,h.snd,?_,?_⟩
 ·intro k t e
  rcases get_snoc e with ⟨_,e⟩ | ⟨rfl,rfl⟩
  ·exact h.ats k t e
  ·exact ⟨fun _=>hq,fun _=>hl⟩
 ·rw [List.map_append]
  exact nodup_snoc h.nd hf
 ·intro t hm
  rcases List.mem_append.1 hm with e | e
  ·exact h.qlt t e
  ·simp at e;subst e;omega
 ·intro n m hm x hxw
  rcases get_snoc hm with ⟨hn,e⟩ | ⟨hn,rfl⟩
  ·rw [fits_snoc (by omega)]
   exact h.lf n m e x hxw
  ·rw [hle x hxw,h.lf _ _ hlast x hxw]
   have e1:n=tr.length+1:=by omega
   have e2:left.length - 1=tr.length:=by omega
   rw [e1,e2,fits_snoc_all (by omega)]
   constructor
   ·rintro ⟨⟨a,b⟩,c⟩
    exact ⟨a,⟨fun k t hk e=>b k t (by have:=(List.getElem?_eq_some_iff.1 e).1;omega) e,c⟩⟩
   ·rintro ⟨a,b,c⟩
    exact ⟨⟨a,fun k t hk e=>b k t (by omega) e⟩,c⟩
 ·exact tn_snoc h (by rw [hb];exact Below3.none _) (fun e=>by rw [ht] at e;simp at e) (fun _=>hb)
 ·obtain ⟨x,h1,h2,h3,h4⟩:=hx
  exact ⟨x,h1,h2,(fits_snoc_all (by omega)).2 ⟨h3,h4⟩⟩
theorem SInv.split {F:Fx} {A:List At} {W:Nat} {al l0:Nat->Bool} {tr:List St} {left:List (Nat->Bool)} (h:SInv F A W al tr left l0) {s:St} (hq:A.length<=s.q) (hq2:s.q < A.length+144) (hl:A.length<=tr.length) (hf:s.q ∉ tr.map (·.q)) (hb:Below3 tr.length s.blame)
  (ht:s.turned=true->∀ v,F.V v->Hs (HA (ans A tr)) s.blame v->(atQ A s.q).tr v=s.yes) (ht0:s.turned=false->s.blame=M3.none):SInv F A W al (tr++[s]) left l0:=by
 have hlen:=h.len
 refine ⟨by simp;omega,?_,?_,?_,?_,h.sub,h.snd,tn_snoc h hb ht ht0,?_⟩
 ·intro k t e
  rcases get_snoc e with ⟨_,e⟩ | ⟨rfl,rfl⟩
  ·exact h.ats k t e
  ·omega
 ·rw [List.map_append]
  exact nodup_snoc h.nd hf
 ·intro t hm
  rcases List.mem_append.1 hm with e | e
  ·exact h.qlt t e
  ·simp at e;subst e;omega
 ·intro n m hm x hxw
  have:n < left.length:=(List.getElem?_eq_some_iff.1 hm).1
  rw [fits_snoc (by omega)]
  exact h.lf n m hm x hxw
 ·obtain ⟨x,h1,h2,h3⟩:=h.some_
  exact ⟨x,h1,h2,(fits_snoc (by omega)).2 h3⟩
theorem take_get {α:Type} {l:List α} {c k:Nat} {x : α} (h:(l.take c)[k]?=some x):k < c/\l[k]?=some x:=by
 rw [List.getElem?_take] at h
 split at h
 ·rename_i hk;exact ⟨hk,h⟩
 ·simp at h
theorem fits_take {tr:List St} {c n x:Nat}:fits (tr.take c) n x↔fits tr (min c n) x:=by
 constructor
 ·intro h k s hk e
  exact h k s (by omega) (by rw [List.getElem?_take,if_pos (by omega)];exact e)
 ·intro h k s hk e
  obtain ⟨h1,h2⟩:=take_get e
  exact h k s (by omega) h2
theorem ha_take {A:List At} {tr:List St} {c k:Nat} (hk:k < c) (v:Nat->Int):HA (ans A (tr.take c)) k v↔HA (ans A tr) k v:=by
 unfold HA
 rw [ans_take,List.getElem?_take,if_pos hk]
theorem SInv.leave {F:Fx} {A:List At} {W:Nat} {al l0:Nat->Bool} {tr:List St} {left:List (Nat->Bool)} (h:SInv F A W al tr left l0) (c:Nat) (hc:c<=tr.length):SInv F A W al (tr.take c) (left.take (min c A.length+1)) l0:=by
 have hlen:=h.len
 refine ⟨by simp;omega,?_,?_,?_,?_,h.sub,h.snd,?_,?_⟩
 ·intro k s e
  exact h.ats k s (take_get e).2
 ·rw [List.map_take]
  exact h.nd.sublist (List.take_sublist _ _)
 ·intro s hs
  exact h.qlt s (List.mem_of_mem_take hs)
 ·intro n l e x hx
  obtain ⟨h1,h2⟩:=take_get e
  rw [fits_take,show min c n=n by omega]
  exact h.lf n l h2 x hx
 ·intro k s e
  obtain ⟨hk,e⟩:=take_get e
  obtain ⟨h1,h2,h3⟩:=h.tn k s e
  refine ⟨h1,fun et v hv hh=>h2 et v hv (fun j hj=>?_),h3⟩
  have:=h1 j hj
  exact (ha_take (by omega) v).1 (hh j hj)
 ·obtain ⟨x,h1,h2,h3⟩:=h.some_
  refine ⟨x,h1,h2,?_⟩
  rw [fits_take]
  intro k s hk e
  exact h3 k s (by omega) e
theorem SInv.exclude {F:Fx} {A:List At} {W:Nat} {al l0 l1:Nat->Bool} {tr:List St} {left left':List (Nat->Bool)} (h:SInv F A W al tr left l0) {B:M3} (hat:∀ k,B.has k=true->k < A.length) (hbad:∀ v,F.V v->¬Hs (HA (ans A tr)) B v)
  (same:Nat->Bool) (hs:∀ x,x < W->(same x=true↔∀ k s,B.has k=true->tr[k]?=some s->x.testBit s.q=s.yes))
  (hlen:left'.length=left.length) (hl:∀ (n:Nat) (l l':Nat->Bool),left[n]?=some l->left'[n]?=some l'->∀ x,x < W->l' x=(l x && !same x)) (hl1:∀ x,x < W->l1 x=(l0 x && !same x))
  (c:Nat) (hc:c < left'.length) (hx:∃ x,x < W/\∃ l,left'[c]?=some l/\l x=true):SInv F A W al (tr.take c) (left'.take (c+1)) l1:=by
 have hln:=h.len
 refine ⟨by simp;omega,?_,?_,?_,?_,?_,?_,?_,?_⟩
 ·intro k s e
  exact h.ats k s (take_get e).2
 ·rw [List.map_take]
  exact h.nd.sublist (List.take_sublist _ _)
 ·intro s hs'
  exact h.qlt s (List.mem_of_mem_take hs')
 ·intro n l e x hxw
  obtain ⟨h1,h2⟩:=take_get e
  obtain ⟨m,hm⟩:∃ m,left[n]?=some m:=⟨left[n]'(by omega),List.getElem?_eq_getElem (by omega)⟩
  rw [fits_take,show min c n=n by omega,hl n m l hm h2 x hxw,hl1 x hxw]
  have:=h.lf n m hm x hxw
  simp only [Bool.and_eq_true]
  rw [this]
  constructor
  ·rintro ⟨⟨a,b⟩,d⟩;exact ⟨⟨a,d⟩,b⟩
  ·rintro ⟨⟨a,d⟩,b⟩;exact ⟨⟨a,b⟩,d⟩
 ·intro x hxw e
  rw [hl1 x hxw] at e
  simp only [Bool.and_eq_true] at e
  exact h.sub x hxw e.1
 ·intro v hv x hxw ha hw
  rw [hl1 x hxw]
  simp only [Bool.and_eq_true,Bool.not_eq_true']
  refine ⟨h.snd v hv x hxw ha hw,?_⟩
  cases e:same x with
  | false=>rfl
  | true =>
   exfalso
   refine hbad v hv (fun k hk=>?_)
   intro y hy
   rw [ans_get] at hy
   cases e2:tr[k]? with
   | none=>rw [e2] at hy;simp at hy
   | some s =>
    rw [e2] at hy
    simp at hy
    subst hy
    have hq:=(h.ats k s e2).1 (hat k hk)
    have h3:=(hs x hxw).1 e k s hk e2
    obtain ⟨a,ha'⟩:∃ a,A[s.q]?=some a:=⟨A[s.q]'hq,List.getElem?_eq_getElem hq⟩
    have h4:=hw s.q a ha'
    show (atQ A s.q).tr v=s.yes
    unfold atQ
    rw [ha']
    show a.tr v=s.yes
    rw [<- h4,h3]
 ·intro k s e
  obtain ⟨hk,e⟩:=take_get e
  obtain ⟨h1,h2,h3⟩:=h.tn k s e
  refine ⟨h1,fun et v hv hh=>h2 et v hv (fun j hj=>?_),h3⟩
  have:=h1 j hj
  exact (ha_take (by omega) v).1 (hh j hj)
 ·obtain ⟨x,hxw,l,hl',e⟩:=hx
  obtain ⟨m,hm⟩:∃ m,left[c]?=some m:=⟨left[c]'(by omega),List.getElem?_eq_getElem (by omega)⟩
  rw [hl c m l hm hl' x hxw] at e
  simp only [Bool.and_eq_true] at e
  have h5:=(h.lf c m hm x hxw).1 e.1
  refine ⟨x,hxw,?_,?_⟩
  ·rw [hl1 x hxw];simp only [Bool.and_eq_true];exact ⟨h5.1,e.2⟩
  ·rw [fits_take]
   intro k s hk e3
   exact h5.2 k s (by omega) e3
theorem SInv.none_left {F:Fx} {A:List At} {W:Nat} {al l0:Nat->Bool} {tr:List St} {left:List (Nat->Bool)} (h:SInv F A W al tr left l0) {B:M3} (hat:∀ k,B.has k=true->k < A.length) (hbad:∀ v,F.V v->¬Hs (HA (ans A tr)) B v)
  (same:Nat->Bool) (hs:∀ x,x < W->(same x=true↔∀ k s,B.has k=true->tr[k]?=some s->x.testBit s.q=s.yes)) (hn:∀ x,x < W->(l0 x && !same x)=false):∀ v,F.V v->∀ x,x < W->al x=true->¬isW A v x:=by
 intro v hv x hxw ha hw
 have h1:=h.snd v hv x hxw ha hw
 have h2:=hn x hxw
 rw [h1] at h2
 simp at h2
 refine hbad v hv (fun k hk=>?_)
 intro y hy
 rw [ans_get] at hy
 cases e2:tr[k]? with
 | none=>rw [e2] at hy;simp at hy
 | some s =>
  rw [e2] at hy
  simp at hy
  subst hy
  have hq:=(h.ats k s e2).1 (hat k hk)
  have h3:=(hs x hxw).1 h2 k s hk e2
  obtain ⟨a,ha'⟩:∃ a,A[s.q]?=some a:=⟨A[s.q]'hq,List.getElem?_eq_getElem hq⟩
  have h4:=hw s.q a ha'
  show (atQ A s.q).tr v=s.yes
  unfold atQ
  rw [ha']
  show a.tr v=s.yes
  rw [<- h4,h3]
theorem blame_rest {F:Fx} {A:List At} {W:Nat} {al l0:Nat->Bool} {tr:List St} {left:List (Nat->Bool)} (h:SInv F A W al tr left l0) {B:M3} (hbad:∀ v,F.V v->¬Hs (HA (ans A tr)) B v) {p:Nat} {s:St} (hp:tr[p]?=some s) (hlast:∀ k,B.has k=true->k<=p) :
  Below3 p ((B.sub (M3.of p)).or s.blame)/\(∀ v,F.V v->Hs (HA (ans A (tr.take p))) ((B.sub (M3.of p)).or s.blame) v->(atQ A s.q).tr v = !s.yes)/\(s.turned=true->∀ v,F.V v->¬Hs (HA (ans A (tr.take p))) ((B.sub (M3.of p)).or s.blame) v):=by
 obtain ⟨h1,h2,h3⟩:=h.tn p s hp
 have hbl:Below3 p ((B.sub (M3.of p)).or s.blame):=by
  refine Below3.or (fun k hk=>?_) h1
  rw [M3.has_sub] at hk
  simp only [Bool.and_eq_true,Bool.not_eq_true'] at hk
  have h4:=hlast k hk.1
  have h5:=M3.has_lt hk.1
  by_cases e:k=p
  ·subst e
   rw [M3.has_of h5] at hk
   simp at hk
  ·omega
 have key:∀ v,F.V v->Hs (HA (ans A (tr.take p))) ((B.sub (M3.of p)).or s.blame) v->¬(atQ A s.q).tr v=s.yes:=by
  intro v hv hh e
  refine hbad v hv (fun k hk=>?_)
  by_cases ek:k=p
  ·subst ek
   intro y hy
   rw [ans_get,hp] at hy
   simp at hy
   subst hy
   exact e
  ·have hk2:=hlast k hk
   have h5:=M3.has_lt hk
   refine (ha_take (c:=p) (by omega) v).1 (hh k ?_)
   rw [M3.has_or,M3.has_sub,hk]
   have:(M3.of p).has k=false:=by
    by_cases hp2:p < 192
    ·rw [M3.has_of hp2];simpa using ek
    ·have e3:M3.of p=⟨0,0,BitVec.twoPow 64 (p - 128)⟩:=by unfold M3.of;rw [if_neg (by omega),if_neg (by omega)]
     rw [e3]
     unfold M3.has
     split
     ·simp
     ·split
      ·simp
      ·simp [BitVec.getLsbD_twoPow];omega
   rw [this]
   rfl
 refine ⟨hbl,fun v hv hh=>?_,fun et v hv hh=>?_⟩
 ·have:=key v hv hh
  cases e1:(atQ A s.q).tr v <;> cases e2:s.yes <;> simp_all
 ·refine key v hv hh (h2 et v hv (fun k hk=>?_))
  have:=h1 k hk
  refine (ha_take (c:=p) (by omega) v).1 (hh k ?_)
  rw [M3.has_or,hk]
  simp
def pot:Nat->List St->Nat
 | _,[]=>0
 | 0,_ :: _=>0
 | m+1,s :: tr=>(if s.turned=true then 2 else 1) * 3 ^ m+pot m tr
theorem pot_lt:∀ (m:Nat) (tr:List St),pot m tr < 3 ^ m
 | 0,[]=>by simp [pot]
 | 0,_ :: _=>by simp [pot]
 | m+1,[]=>by simp [pot];exact Nat.pos_of_ne_zero (by simp)
 | m+1,s :: tr=>by
  have:=pot_lt m tr
  simp only [pot,Nat.pow_succ]
  split <;> omega
theorem pot_snoc:∀ (m:Nat) (tr:List St) (s:St),tr.length < m->pot m tr < pot m (tr++[s])
 | 0,_,_,h=>by omega
 | m+1,[],s,_=>by
  have:0 < 3 ^ m:=Nat.pos_of_ne_zero (by simp)
  simp only [pot,List.nil_append]
  split <;> omega
 | m+1,t :: tr,s,h=>by
  have:=pot_snoc m tr s (by simp at h;omega)
  simp only [pot,List.cons_append]
  omega
theorem pot_turn:∀ (m:Nat) (tr:List St) (p:Nat) (s t:St),tr.length<=m->tr[p]?=some s->s.turned=false->t.turned=true->pot m tr < pot m (tr.take p++[t])
 | 0,[],_,_,_,_,e,_,_=>by simp at e
 | 0,_ :: _,_,_,_,h,_,_,_=>by simp at h
 | m+1,[],_,_,_,_,e,_,_=>by simp at e
 | m+1,u :: tr,0,s,t,h,e,e1,e2=>by
  simp at e
  subst e
  have:=pot_lt m tr
  simp only [pot,List.take_zero,List.nil_append]
  rw [e1,e2]
  simp
  omega
 | m+1,u :: tr,p+1,s,t,h,e,e1,e2=>by
  have:=pot_turn m tr p s t (by simp at h;omega) (by simpa using e) e1 e2
  simp only [pot,List.take_succ_cons,List.cons_append]
  omega
end Ar
namespace Ar
def wsHas (l:List (BitVec 64)) (n:Nat):Bool:=(l.getD (n / 64) 0).getLsbD (n % 64)
theorem ws_lt {l:List (BitVec 64)} {n:Nat} (h:n < 64 * l.length):n / 64 < l.length:=by omega
theorem ws_ext {l:List (BitVec 64)} {n:Nat} (h:n < 64 * l.length):∃ x,l[n / 64]?=some x/\wsHas l n=x.getLsbD (n % 64):=by
 have h1:=ws_lt h
 refine ⟨l[n / 64],List.getElem?_eq_getElem h1,?_⟩
 unfold wsHas
 rw [List.getD_eq_getElem?_getD,List.getElem?_eq_getElem h1]
 rfl
theorem ws_at {l:List (BitVec 64)} {n:Nat} {x:BitVec 64} (h:l[n / 64]?=some x):wsHas l n=x.getLsbD (n % 64):=by
 unfold wsHas
 rw [List.getD_eq_getElem?_getD,h]
 rfl
def wsNot (l:List (BitVec 64)):List (BitVec 64):=l.map (~~~ ·)
def wsAnd (l m:List (BitVec 64)):List (BitVec 64):=List.zipWith (· &&& ·) l m
def wsOr (l m:List (BitVec 64)):List (BitVec 64):=List.zipWith (· ||| ·) l m
def wsNone (k:Nat):List (BitVec 64):=List.replicate k 0
theorem has_wsNot {l:List (BitVec 64)} {n:Nat} (h:n < 64 * l.length):wsHas (wsNot l) n = !wsHas l n:=by
 obtain ⟨x,h1,h2⟩:=ws_ext h
 rw [h2,ws_at (x := ~~~x) (by simp [wsNot,h1])]
 simp [show n % 64 < 64 by omega]
theorem has_wsAnd {l m:List (BitVec 64)} {n:Nat} (h:n < 64 * l.length) (he:m.length=l.length):wsHas (wsAnd l m) n=(wsHas l n && wsHas m n):=by
 obtain ⟨x,h1,h2⟩:=ws_ext h
 obtain ⟨y,h3,h4⟩:=ws_ext (l:=m) (n:=n) (by omega)
 rw [h2,h4,ws_at (x:=x &&& y) (by simp [wsAnd,List.getElem?_zipWith,h1,h3])]
 simp
theorem has_wsOr {l m:List (BitVec 64)} {n:Nat} (h:n < 64 * l.length) (he:m.length=l.length):wsHas (wsOr l m) n=(wsHas l n || wsHas m n):=by
 obtain ⟨x,h1,h2⟩:=ws_ext h
 obtain ⟨y,h3,h4⟩:=ws_ext (l:=m) (n:=n) (by omega)
 rw [h2,h4,ws_at (x:=x ||| y) (by simp [wsOr,List.getElem?_zipWith,h1,h3])]
 simp
theorem has_wsNone (k n:Nat):wsHas (wsNone k) n=false:=by
 unfold wsHas wsNone
 rw [List.getD_eq_getElem?_getD,List.getElem?_replicate]
 split <;> simp
theorem wsNot_len (l:List (BitVec 64)):(wsNot l).length=l.length:=by simp [wsNot]
theorem wsAnd_len {l m:List (BitVec 64)} (h:m.length=l.length):(wsAnd l m).length=l.length:=by simp [wsAnd,h]
theorem wsOr_len {l m:List (BitVec 64)} (h:m.length=l.length):(wsOr l m).length=l.length:=by simp [wsOr,h]
theorem wsNone_len (k:Nat):(wsNone k).length=k:=by simp [wsNone]
def pat (i a:Nat):BitVec 64 :=
 if a < 6 then (match a with
  | 0=>0xAAAAAAAAAAAAAAAA#64
  | 1=>0xCCCCCCCCCCCCCCCC#64
  | 2=>0xF0F0F0F0F0F0F0F0#64
  | 3=>0xFF00FF00FF00FF00#64
  | 4=>0xFFFF0000FFFF0000#64
  | _=>0xFFFFFFFF00000000#64)
 else if i.testBit (a - 6)=true then BitVec.allOnes 64 else 0
theorem pat_low:∀ a,a < 6->∀ b,b < 64->(pat 0 a).getLsbD b=b.testBit a:=by decide
theorem has_pat (n a:Nat):(pat (n / 64) a).getLsbD (n % 64)=n.testBit a:=by
 by_cases h:a < 6
 ·have h1:=pat_low a h (n % 64) (by omega)
  have h2:pat (n / 64) a=pat 0 a:=by unfold pat;rw [if_pos h,if_pos h]
  rw [h2,h1]
  rw [show (64:Nat)=2 ^ 6 from rfl,Nat.testBit_mod_two_pow]
  simp [h]
 ·unfold pat
  rw [if_neg h]
  have h1:(n / 64).testBit (a - 6)=n.testBit a:=by
   rw [show (64:Nat)=2 ^ 6 from rfl,Nat.testBit_div_two_pow]
   congr 1
   omega
  rw [h1]
  cases n.testBit a with
  | true =>
   show (BitVec.allOnes 64).getLsbD (n % 64)=true
   rw [BitVec.getLsbD_allOnes]
   exact decide_eq_true (by omega)
  | false=>simp
def wsWhere (k a:Nat) (yes:Bool):List (BitVec 64):=(List.range k).map (fun i=>if yes=true then pat i a else ~~~pat i a)
theorem wsWhere_len (k a:Nat) (yes:Bool):(wsWhere k a yes).length=k:=by simp [wsWhere]
theorem has_wsWhere {k a n:Nat} {yes:Bool} (h:n < 64 * k):wsHas (wsWhere k a yes) n=(n.testBit a == yes):=by
 have h1:n / 64 < k:=by omega
 rw [ws_at (x:=if yes=true then pat (n / 64) a else ~~~pat (n / 64) a) (by simp [wsWhere,List.getElem?_map,List.getElem?_range h1])]
 cases yes with
 | true=>simp only [if_true];rw [has_pat];simp
 | false =>
  simp only [Bool.false_eq_true,if_false]
  rw [BitVec.getLsbD_not,has_pat]
  simp [show n % 64 < 64 by omega]
theorem ws_empty {l:List (BitVec 64)}:(∀ x∈l,x=0)↔∀ n,n < 64 * l.length->wsHas l n=false:=by
 constructor
 ·intro h n hn
  obtain ⟨x,h1,h2⟩:=ws_ext hn
  rw [h2,h x (List.mem_of_getElem? h1)]
  simp
 ·intro h x hx
  obtain ⟨i,hi,e⟩:=List.getElem_of_mem hx
  apply BitVec.eq_of_getLsbD_eq
  intro b hb
  have h1:=h (64 * i+b) (by omega)
  rw [ws_at (x:=x) (by rw [show (64 * i+b) / 64=i by omega,List.getElem?_eq_getElem hi,e]),show (64 * i+b) % 64=b by omega] at h1
  rw [h1]
  simp
def cntW (p:Nat->Bool):Nat->Nat
 | 0=>0
 | n+1=>cntW p n+(if p n=true then 1 else 0)
theorem cntW_le (p q:Nat->Bool):∀ n,(∀ x,x < n->q x=true->p x=true)->cntW q n<=cntW p n
 | 0,_=>Nat.le_refl _
 | n+1,h=>by
  have h1:=cntW_le p q n (fun x hx=>h x (by omega))
  have h2:=h n (by omega)
  simp only [cntW]
  cases e1:q n <;> cases e2:p n <;> simp_all <;> omega
theorem cntW_lt (p q:Nat->Bool):∀ n,(∀ x,x < n->q x=true->p x=true)->(∃ x,x < n/\p x=true/\q x=false)->cntW q n < cntW p n
 | 0,_,h=>by obtain ⟨x,hx,_⟩:=h;omega
 | n+1,h,hx=>by
  obtain ⟨x,hx1,hx2,hx3⟩:=hx
  have h1:=cntW_le p q n (fun x hx=>h x (by omega))
  simp only [cntW]
  by_cases e:x=n
  ·subst e
   simp [hx2,hx3]
   omega
  ·have h2:=cntW_lt p q n (fun x hx=>h x (by omega)) ⟨x,by omega,hx2,hx3⟩
   have h3:=h n (by omega)
   cases e1:q n <;> cases e2:p n <;> simp_all <;> omega
end Ar
namespace Ar
theorem nodup_fewT:∀ (M:Nat) (l:List Nat),l.Nodup->(∀ q∈l,q < M)->l.length<=M
 | 0,l,_,hl=>by
  cases l with
  | nil=>simp
  | cons a b=>exact absurd (hl a (by simp)) (by omega)
 | M+1,l,hn,hl=>by
  by_cases hm:M∈l
  ·have e:=List.length_erase_of_mem hm
   have:=nodup_fewT M (l.erase M) (hn.erase M) (fun q hq=>by
    have h1:=hl q (List.mem_of_mem_erase hq)
    have h2:q ≠ M:=fun e=>by subst e;exact (List.Nodup.not_mem_erase hn) hq
    omega)
   have:=List.length_pos_of_mem hm
   omega
  ·have:=nodup_fewT M l hn (fun q hq=>by
    have h1:=hl q hq
    have h2:q ≠ M:=fun e=>by subst e;exact hm hq
    omega)
   omega
theorem range_few:∀ (M:Nat) (l:List Nat),(∀ q,q < M->q∈l)->M<=l.length
 | 0,_,_=>Nat.zero_le _
 | M+1,l,h=>by
  have hm:=h M (by omega)
  have e:=List.length_erase_of_mem hm
  have:=range_few M (l.erase M) (fun q hq=>by
   rw [List.mem_erase_of_ne (by omega)]
   exact h q (by omega))
  have:=List.length_pos_of_mem hm
  omega
def opn (tr:List St) (k:Nat):List Nat:=(List.range k).filter (fun a=>decide (a ∉ tr.map (·.q)))
theorem opn_zero (tr:List St):opn tr 0=[]:=rfl
theorem opn_succ (tr:List St) (k:Nat):opn tr (k+1)=if k∈tr.map (·.q) then opn tr k else opn tr k++[k]:=by
 unfold opn
 rw [List.range_succ,List.filter_append]
 split
 ·rename_i h;simp only [List.filter_cons,List.filter_nil];rw [if_neg (by simpa using h)];simp
 ·rename_i h;simp only [List.filter_cons,List.filter_nil];rw [if_pos (by simpa using h)]
theorem mem_opn {tr:List St} {k a:Nat}:a∈opn tr k↔a < k/\a ∉ tr.map (·.q):=by
 unfold opn
 rw [List.mem_filter,List.mem_range]
 simp
theorem opn_len (tr:List St) (k:Nat):(opn tr k).length<=k:=by
 unfold opn
 exact Nat.le_trans (List.length_filter_le _ _) (by simp)
section
variable {F:Fx} {A:List At} {W:Nat} {al l0:Nat->Bool} {tr:List St} {left:List (Nat->Bool)}
theorem SInv.open_lt (h:SInv F A W al tr left l0) {a:Nat} (ha:a < A.length) (hn:a ∉ tr.map (·.q)):tr.length < A.length:=by
 rcases Nat.lt_or_ge tr.length A.length with hlt | hge
 ·exact hlt
 ·exfalso
  have h1:(a :: (tr.take A.length).map (·.q)).Nodup:=by
   rw [List.nodup_cons]
   refine ⟨fun hm=>hn ?_,?_⟩
   ·rw [List.map_take] at hm
    exact List.mem_of_mem_take hm
   ·rw [List.map_take]
    exact h.nd.sublist (List.take_sublist _ _)
  have h2:=nodup_fewT A.length _ h1 (fun q hq=>by
   rcases List.mem_cons.1 hq with e | e
   ·omega
   ·obtain ⟨s,hs,rfl⟩:=List.mem_map.1 e
    obtain ⟨k,hk⟩:=List.getElem?_of_mem hs
    obtain ⟨hk1,hk2⟩:=take_get hk
    exact (h.ats k s hk2).1 hk1)
  simp at h2
  omega
theorem SInv.none_open (hn:∀ a,a < A.length->a∈tr.map (·.q)):A.length<=tr.length:=by
 have:=range_few A.length _ hn
 simpa using this
theorem SInv.vote (h:SInv F A W al tr left l0) (hl:tr.length < A.length) {last:Nat->Bool} (hlast:left[left.length - 1]?=some last) {q:Nat} {yes:Bool} (hx:∃ x,x < W/\last x=true/\x.testBit q=yes):∃ x,x < W/\l0 x=true/\fits tr A.length x/\x.testBit q=yes:=by
 obtain ⟨x,h1,h2,h3⟩:=hx
 have hlen:=h.len
 obtain ⟨h4,h5⟩:=(h.lf _ _ hlast x h1).1 h2
 refine ⟨x,h1,h4,fun k s hk e=>h5 k s ?_ e,h3⟩
 have:=(List.getElem?_eq_some_iff.1 e).1
 omega
theorem SInv.last_some (h:SInv F A W al tr left l0) {last:Nat->Bool} (hlast:left[left.length - 1]?=some last):∃ x,x < W/\last x=true:=by
 obtain ⟨x,h1,h2,h3⟩:=h.some_
 have hlen:=h.len
 exact ⟨x,h1,(h.lf _ _ hlast x h1).2 ⟨h2,fun k s hk e=>h3 k s (by omega) e⟩⟩
theorem SInv.stands (h:SInv F A W al tr left l0) (hn:∀ a,a < A.length->a∈tr.map (·.q)) {v:Nat->Int} (hh:∀ y∈ans A tr,y.1.tr v=y.2):∃ x,x < W/\al x=true/\isW A v x:=by
 obtain ⟨x,h1,h2,h3⟩:=h.some_
 refine ⟨x,h1,h.sub x h1 h2,fun k a ha=>?_⟩
 have hk:=(List.getElem?_eq_some_iff.1 ha).1
 obtain ⟨s,hs,e⟩:=List.mem_map.1 (hn k hk)
 obtain ⟨j,hj⟩:=List.getElem?_of_mem hs
 subst e
 have hj2:=(h.ats j s hj).2 hk
 rw [h3 j s hj2 hj]
 have:=hh (atQ A s.q,s.yes) (List.mem_of_getElem? (i:=j) (by rw [ans_get,hj];rfl))
 simp only [atQ,ha] at this
 exact this.symm
end
end Ar
namespace Ar
def enc (P K a b e:Nat):Nat:=(a * (P+1)+b) * K+e
theorem enc_e {P K a b e e':Nat} (h:e' < e):enc P K a b e' < enc P K a b e:=by unfold enc;omega
theorem enc_b {P K a b b' e e':Nat} (h:b' < b) (he:e' < K):enc P K a b' e' < enc P K a b e:=by
 unfold enc
 have h1:(a * (P+1)+b'+1) * K<=(a * (P+1)+b) * K:=Nat.mul_le_mul_right K (by omega)
 rw [Nat.add_mul (a * (P+1)+b') 1 K] at h1
 omega
theorem enc_a {P K a a' b b' e e':Nat} (h:a' < a) (hb:b'<=P) (he:e' < K):enc P K a' b' e' < enc P K a b e:=by
 unfold enc
 have h0:(a'+1) * (P+1)<=a * (P+1):=Nat.mul_le_mul_right _ (by omega)
 rw [Nat.add_mul a' 1 (P+1)] at h0
 have h1:(a' * (P+1)+b'+1) * K<=(a * (P+1)+b) * K:=Nat.mul_le_mul_right K (by omega)
 rw [Nat.add_mul (a' * (P+1)+b') 1 K] at h1
 omega
def mx (A:List At):Nat:=A.length+150
def togo (A:List At) (tr:List St):Nat:=3 ^ mx A - pot (mx A) tr
theorem togo_le (A:List At) (tr:List St):togo A tr<=3 ^ mx A:=Nat.sub_le _ _
theorem togo_snoc {A:List At} {tr:List St} (s:St) (h:tr.length<=A.length+144):togo A (tr++[s]) < togo A tr:=by
 have h1:=pot_snoc (mx A) tr s (by unfold mx;omega)
 have h2:=pot_lt (mx A) (tr++[s])
 unfold togo
 omega
theorem togo_turn {A:List At} {tr:List St} {p:Nat} {s t:St} (h:tr.length<=A.length+145) (hs:tr[p]?=some s) (h1:s.turned=false) (h2:t.turned=true):togo A (tr.take p++[t]) < togo A tr:=by
 have h3:=pot_turn (mx A) tr p s t (by unfold mx;omega) hs h1 h2
 have h4:=pot_lt (mx A) (tr.take p++[t])
 unfold togo
 omega
def left_ (A:List At) (W:Nat) (l0:Nat->Bool) (tr:List St) (e:Nat):Nat:=enc (3 ^ mx A) (mx A+20) (cntW l0 W) (togo A tr) e
section
variable {F:Fx} {A:List At} {W:Nat} {al l0 l1:Nat->Bool} {tr:List St} {left:List (Nat->Bool)}
theorem left_e {e e':Nat} (h:e' < e):left_ A W l0 tr e' < left_ A W l0 tr e:=enc_e h
theorem left_snoc {e e':Nat} (s:St) (h:tr.length<=A.length+144) (he:e' < mx A+20):left_ A W l0 (tr++[s]) e' < left_ A W l0 tr e:=enc_b (togo_snoc s h) he
theorem left_turn {p e e':Nat} {s t:St} (h:tr.length<=A.length+145) (hs:tr[p]?=some s) (h1:s.turned=false) (h2:t.turned=true) (he:e' < mx A+20):left_ A W l0 (tr.take p++[t]) e' < left_ A W l0 tr e:=enc_b (togo_turn h hs h1 h2) he
theorem left_cut {B:M3} {same:Nat->Bool} {tr':List St} {e e':Nat} (h:SInv F A W al tr left l0) (hat:∀ k,B.has k=true->k < A.length) (hs:∀ x,x < W->(same x=true↔∀ k s,B.has k=true->tr[k]?=some s->x.testBit s.q=s.yes)) (hl1:∀ x,x < W->l1 x=(l0 x && !same x)) (he:e' < mx A+20) (tr0:List St):left_ A W l1 tr' e' < left_ A W l0 tr0 e:=by
 refine enc_a (cntW_lt l0 l1 W (fun x hx hh=>?_) ?_) (togo_le _ _) he
 ·rw [hl1 x hx] at hh
  simp only [Bool.and_eq_true] at hh
  exact hh.1
 ·obtain ⟨x,hx,h1,h2⟩:=h.some_
  refine ⟨x,hx,h1,?_⟩
  have:same x=true:=(hs x hx).2 (fun k s hk hks=>h2 k s (hat k hk) hks)
  rw [hl1 x hx,h1,this]
  rfl
end
end Ar
end Go.Proofs.YtegbdaffhpiacaaGreatDoor

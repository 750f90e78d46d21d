/- Plain: what is written in its one form is read as it was; Plain: what is written in its one form is read as it was: reading. -/
import Derived.Test.YtegbdaffhpiacaaGreatDoorChn12
import Derived.Test.YtegbdaffhpiacaaGreatDoorChn10
namespace Go.Proofs.YtegbdaffhpiacaaGreatDoor
namespace Ar
def okc (c:UInt8):Bool := !isBr c && !isBl c
def wdsF (wd:List UInt8):List (List UInt8):=if wd=[] then [] else [wd]
def wds:List UInt8->List UInt8->List (List UInt8)
 | wd,[]=>wdsF wd++[[]]
 | wd,c :: r=>if isBr c then wdsF wd++[c] :: wds [] r else if isBl c then wdsF wd++wds [] r else wds (wd++[c]) r
def txL (t:Tk):List UInt8:=t.txt.toList
theorem flush_words (i:Nat) (wd:List UInt8):(tkFlush i wd).map txL=wdsF wd:=by
 unfold tkFlush wdsF
 split
 ·rfl
 ·simp [txL]
theorem toks_words (l:List UInt8):∀ i wd,(tkGo i wd l).map txL=wds wd l:=by
 induction l with
 | nil=>intro i wd;rw [tkGo,wds,List.map_append,flush_words];simp [txL]
 | cons c r ih =>
  intro i wd
  rw [tkGo,wds]
  split
  ·rw [List.map_append,flush_words,List.map_cons,ih]
   congr 2
   exact mk_toList [c]
  ·split
   ·rw [List.map_append,flush_words,ih]
   ·exact ih _ _
theorem wds_tok:∀ (a wd r:List UInt8),a.all okc=true->wds wd (a++r)=wds (wd++a) r
 | [],wd,r,_=>by simp
 | c :: a,wd,r,h=>by
  simp [okc] at h
  rw [List.cons_append,wds,if_neg (by simp [h.1.1]),if_neg (by simp [h.1.2]),wds_tok a _ r (by simpa [okc] using h.2)]
  simp
def Dl2 (r:List UInt8):Prop:=∀ c,r.head?=some c->okc c=false
theorem wds_end {wd r:List UInt8} (hw:wd ≠ []) (hr:Dl2 r):wds wd r=wd :: wds [] r:=by
 cases r with
 | nil=>simp [wds,wdsF,hw]
 | cons c r =>
  have h:=hr c rfl
  simp [okc] at h
  rw [wds,wds]
  by_cases hb:isBr c=true
  ·rw [if_pos hb,if_pos hb];simp [wdsF,hw]
  ·rw [if_neg hb,if_neg hb]
   have hl:isBl c=true:=by
    cases e:isBl c with
    | true=>rfl
    | false=>simp [e] at h;exact absurd h hb
   rw [if_pos hl,if_pos hl];simp [wdsF,hw]
mutual
def wsOf:Nd->List (List UInt8)
 | .mk k w v ps=>if k=1\/k=2\/ps ≠ [] then [40] :: tokOf k w v :: (wssOf ps++[[41]]) else [tokOf k w v]
def wssOf:List Nd->List (List UInt8)
 | []=>[]
 | p :: ps=>wsOf p++wssOf ps
end
inductive Tx:Nd->Prop
 | mk {k v:Int} {w:ByteArray} {ps:List Nd} (h1:tokOf k w v ≠ []) (h2:(tokOf k w v).all okc=true) (hp:∀ p∈ps,Tx p):Tx (.mk k w v ps)
theorem dl2_nil:Dl2 []:=fun c h=>by simp at h
theorem dl2_sp (r:List UInt8):Dl2 (32 :: r):=fun c h=>by simp at h;subst h;decide
theorem dl2_cl (r:List UInt8):Dl2 (41 :: r):=fun c h=>by simp at h;subst h;decide
theorem dl2_forms (ps:List Nd) {r:List UInt8} (h:Dl2 r):Dl2 (formsOf ps++r):=by
 cases ps with
 | nil=>exact h
 | cons p ps=>rw [formsOf];exact dl2_sp _
theorem wds_sp (r:List UInt8):wds [] (32 :: r)=wds [] r:=by
 rw [wds,if_neg (by decide),if_pos (by decide)];simp [wdsF]
theorem wds_op (r:List UInt8):wds [] (40 :: r)=[40] :: wds [] r:=by
 rw [wds,if_pos (by decide)];simp [wdsF]
theorem wds_cl (r:List UInt8):wds [] (41 :: r)=[41] :: wds [] r:=by
 rw [wds,if_pos (by decide)];simp [wdsF]
theorem wds_word {a r:List UInt8} (h1:a ≠ []) (h2:a.all okc=true) (hr:Dl2 r):wds [] (a++r)=a :: wds [] r:=by
 rw [wds_tok a [] r h2,List.nil_append,wds_end h1 hr]
theorem wds_forms {ps:List Nd} (h:∀ p∈ps,∀ r,Dl2 r->wds [] (formOf p++r)=wsOf p++wds [] r):∀ r,Dl2 r->wds [] (formsOf ps++r)=wssOf ps++wds [] r:=by
 induction ps with
 | nil=>intro r _;simp [formsOf,wssOf]
 | cons p ps ih =>
  intro r hr
  rw [formsOf,List.cons_append,wds_sp,List.append_assoc,h p (by simp) _ (dl2_forms ps hr),ih (fun q hq=>h q (by simp [hq])) r hr,wssOf,List.append_assoc]
theorem wds_form {nd:Nd} (h:Tx nd):∀ r,Dl2 r->wds [] (formOf nd++r)=wsOf nd++wds [] r:=by
 induction h with
 | @mk k v w ps h1 h2 hp ih =>
  intro r hr
  rw [formOf,wsOf]
  split
  ·rw [List.cons_append,wds_op,List.append_assoc,List.append_assoc,List.singleton_append,wds_word h1 h2 (dl2_forms ps (dl2_cl _)),wds_forms ih _ (dl2_cl _),wds_cl]
   simp
  ·rw [wds_word h1 h2 hr];rfl
theorem form_words {nd:Nd} (h:Tx nd):(toks (formOf nd)).map txL=wsOf nd++[[]]:=by
 have e:=wds_form h [] dl2_nil
 rw [List.append_nil] at e
 unfold toks
 rw [toks_words,e]
 rfl
end Ar
namespace Ar
inductive RT (N:List Nm):Nat->Nd->Prop
 | name {d:Nat} {w:ByteArray} (h:isName w.toList=true) (ha:arOf N w.toList=some 0):RT N d (.mk 3 w 0 [])
 | num {d:Nat} {v:Int} (h1 : -1000<=v) (h2:v<=1000):RT N d (.mk 4 ByteArray.empty v [])
 | app {d:Nat} {w:ByteArray} {ps:List Nd} (h:isName w.toList=true) (hne:ps ≠ []) (ha:arOf N w.toList=some (ps.length:Int)) (hd:d < 30) (hp:∀ p∈ps,RT N (d+1) p):RT N d (.mk 3 w 0 ps)
inductive RF (N:List Nm):Nat->Nd->Prop
 | truth {d:Nat} {w:ByteArray} (h:w.toList=wTrue\/w.toList=wFalse):RF N d (.mk 0 w 0 [])
 | con {d:Nat} {w:ByteArray} {s:Int} {ps:List Nd} (hw:hdOf w.toList=some (1,s)) (hs:(s=0/\ps.length=1)\/(s=1/\ps.length=2)\/s=2) (hd:d < 30) (hp:∀ p∈ps,RF N (d+1) p):RF N d (.mk 1 w 0 ps)
 | two {d:Nat} {w:ByteArray} {a b:Nd} (hw:hdOf w.toList=some (2,3)) (hd:d < 30) (ha:RT N (d+1) a) (hb:RT N (d+1) b):RF N d (.mk 2 w 0 [a,b])
 | le {d:Nat} {w:ByteArray} {a b:Nd} {v:Int} (hw:hdOf w.toList=some (2,4)) (hd:d < 30) (ha:RT N (d+1) a) (hb:RT N (d+1) b) (h1 : -1000<=v) (h2:v<=1000):RF N d (.mk 2 w 0 [a,b,.mk 5 ByteArray.empty v []])
theorem numOk_all:((List.range 2001).all fun i=>(itoa ((i:Int) - 1000)).all okc && !isName (itoa ((i:Int) - 1000)) && !(itoa ((i:Int) - 1000)).isEmpty)=true:=by decide +kernel
theorem numOk {v:Int} (h1 : -1000<=v) (h2:v<=1000):(itoa v).all okc=true/\isName (itoa v)=false/\itoa v ≠ []:=by
 have h:=List.all_eq_true.1 numOk_all (v+1000).toNat (List.mem_range.2 (by omega))
 rw [show (((v+1000).toNat:Nat):Int) - 1000=v by omega] at h
 simp only [Bool.and_eq_true,Bool.not_eq_true'] at h
 exact ⟨h.1.1,h.1.2,fun e=>by rw [e] at h;simp at h⟩
theorem num_read {v:Int} (h1 : -1000<=v) (h2:v<=1000):numOf (itoa v)=some v:=by
 have a:=numTx_of h1 h2
 simp only [numTx,Bool.and_eq_true] at a
 simpa using a.1.1
theorem letter_okc {c:UInt8} (h:letter c=true):okc c=true:=by
 unfold letter at h
 have h:=of_decide_eq_true h
 have h40:c ≠ 40:=by rintro rfl;simp at h
 have h41:c ≠ 41:=by rintro rfl;simp at h
 have h32:c ≠ 32:=by rintro rfl;simp at h
 have h9:c ≠ 9:=by rintro rfl;simp at h
 have h10:c ≠ 10:=by rintro rfl;simp at h
 simp [okc,isBr,isBl,h40,h41,h32,h9,h10]
theorem name_okc {l:List UInt8} (h:isName l=true):l ≠ []/\l.all okc=true:=by
 simp only [isName,Bool.and_eq_true] at h
 refine ⟨fun e=>?_,List.all_eq_true.2 (fun c hc=>letter_okc (List.all_eq_true.1 h.1.1 c hc))⟩
 rw [e] at h
 simp at h
theorem hd_okc {l:List UInt8} {ks:Int × Int} (h:hdOf l=some ks):l ≠ []/\l.all okc=true:=by
 unfold hdOf at h
 split at h
 ·rename_i e;subst e;decide
 split at h
 ·rename_i e;subst e;decide
 split at h
 ·rename_i e;subst e;decide
 split at h
 ·rename_i e;subst e;decide
 split at h
 ·rename_i e;subst e;decide
 split at h
 ·rename_i e;subst e;decide
 split at h
 ·rename_i e;subst e;decide
 split at h
 ·rename_i e;subst e;decide
 split at h
 ·rename_i e;subst e;decide
 simp at h
theorem two_of {ps:List Nd} (h:ps.length=2):∃ p q,ps=[p,q]:=by
 match ps,h with
 | [p,q],_=>exact ⟨p,q,rfl⟩
theorem tok_word (k v:Int) (w:ByteArray) (h:¬(k=4\/k=5)):tokOf k w v=w.toList:=by rw [tokOf,if_neg h]
section
variable {N:List Nm}
theorem RT.tx {d:Nat} {nd:Nd} (h:RT N d nd):Tx nd:=by
 induction h with
 | name h ha=>exact .mk (by rw [tok_word _ _ _ (by decide)];exact (name_okc h).1) (by rw [tok_word _ _ _ (by decide)];exact (name_okc h).2) (by simp)
 | num h1 h2=>exact .mk (by rw [tokOf,if_pos (by decide)];exact (numOk h1 h2).2.2) (by rw [tokOf,if_pos (by decide)];exact (numOk h1 h2).1) (by simp)
 | app h hne ha hd hp ih=>exact .mk (by rw [tok_word _ _ _ (by decide)];exact (name_okc h).1) (by rw [tok_word _ _ _ (by decide)];exact (name_okc h).2) ih
theorem RF.tx {d:Nat} {nd:Nd} (h:RF N d nd):Tx nd:=by
 induction h with
 | truth h=>exact .mk (by rw [tok_word _ _ _ (by decide)];rcases h with e | e <;> rw [e] <;> decide) (by rw [tok_word _ _ _ (by decide)];rcases h with e | e <;> rw [e] <;> decide) (by simp)
 | con hw hs hd hp ih=>exact .mk (by rw [tok_word _ _ _ (by decide)];exact (hd_okc hw).1) (by rw [tok_word _ _ _ (by decide)];exact (hd_okc hw).2) ih
 | two hw hd ha hb=>exact .mk (by rw [tok_word _ _ _ (by decide)];exact (hd_okc hw).1) (by rw [tok_word _ _ _ (by decide)];exact (hd_okc hw).2) (fun p hp=>by
   simp at hp
   rcases hp with rfl | rfl
   ·exact ha.tx
   ·exact hb.tx)
 | le hw hd ha hb h1 h2=>exact .mk (by rw [tok_word _ _ _ (by decide)];exact (hd_okc hw).1) (by rw [tok_word _ _ _ (by decide)];exact (hd_okc hw).2) (fun p hp=>by
   simp at hp
   rcases hp with rfl | rfl | rfl
   ·exact ha.tx
   ·exact hb.tx
   ·exact .mk (by rw [tokOf,if_pos (by decide)];exact (numOk h1 h2).2.2) (by rw [tokOf,if_pos (by decide)];exact (numOk h1 h2).1) (by simp))
def Is (ts:List Tk) (ws:List (List UInt8)):Prop:=ts.map txL=ws
theorem Is.app {ts:List Tk} {a b:List (List UInt8)} (h:Is ts (a++b)):∃ t1 t2,ts=t1++t2/\Is t1 a/\Is t2 b:=by
 obtain ⟨t1,t2,e,h1,h2⟩:=List.map_eq_append_iff.1 h
 exact ⟨t1,t2,e,h1,h2⟩
theorem Is.cons {ts:List Tk} {a:List UInt8} {b:List (List UInt8)} (h:Is ts (a :: b)):∃ t t2,ts=t :: t2/\t.txt.toList=a/\Is t2 b:=by
 obtain ⟨t,t2,e,h1,h2⟩:=List.map_eq_cons_iff.1 h
 exact ⟨t,t2,e,h1,h2⟩
theorem Is.nil {ts:List Tk} (h:Is ts []):ts=[]:=List.map_eq_nil_iff.1 h
theorem Tx.head {nd:Nd} (h:Tx nd):∃ a b,wsOf nd=a :: b/\a ≠ [41]:=by
 cases h with
 | @mk k v w ps h1 h2 hp =>
  rw [wsOf]
  split
  ·exact ⟨_,_,rfl,by decide⟩
  ·refine ⟨_,_,rfl,fun e=>?_⟩
   rw [e] at h2
   exact absurd h2 (by decide)
theorem row_read {f:List Tk->Rs Nd}:∀ (ps:List Nd) (ts rest:List Tk),(∀ p∈ps,Tx p/\∀ us r,Is us (wsOf p)->f (us++r)=.ok p r)->Is ts (wssOf ps)->rdRow (List.replicate ps.length (rdArg f)) (ts++rest)=.ok ps rest
 | [],ts,rest,_,h=>by
  rw [wssOf] at h
  rw [h.nil]
  rfl
 | p :: ps,ts,rest,hp,h=>by
  rw [wssOf] at h
  obtain ⟨t1,t2,rfl,h1,h2⟩:=h.app
  obtain ⟨htx,hf⟩:=hp p (by simp)
  obtain ⟨a,b,e,hne⟩:=htx.head
  have hf1:=hf t1 (t2++rest) h1
  rw [e] at h1
  obtain ⟨t,t3,rfl,ht,_⟩:=h1.cons
  rw [List.length_cons,List.replicate_succ,rdRow]
  have ha:rdArg f (t :: t3++t2++rest)=.ok p (t2++rest):=by
   rw [List.append_assoc,List.cons_append,rdArg,if_neg (by rw [ht];exact hne),<- List.cons_append]
   exact hf1
  rw [ha]
  simp only
  rw [row_read ps t2 rest (fun q hq=>hp q (by simp [hq])) h2]
theorem ws_len:∀ nd:Nd,1<=(wsOf nd).length
 | .mk k w v ps=>by rw [wsOf];split <;> simp
theorem wss_part:∀ {ps:List Nd} {p:Nd},p∈ps->(wsOf p).length<=(wssOf ps).length
 | q :: ps,p,h=>by
  rw [wssOf,List.length_append]
  rcases List.mem_cons.1 h with rfl | h
  ·omega
  ·have:=wss_part h;omega
theorem term_read {d:Nat} {nd:Nd} (h:RT N d nd):∀ (n:Nat) (ts rest:List Tk),(wsOf nd).length<=n->Is ts (wsOf nd)->rdTerm N n d (ts++rest)=.ok nd rest:=by
 induction h with
 | @name d w h ha =>
  intro n ts rest hn hi
  rw [wsOf,if_neg (by decide),tok_word _ _ _ (by decide)] at hi hn
  obtain ⟨t,t2,rfl,ht,h2⟩:=hi.cons
  rw [h2.nil]
  obtain ⟨m,rfl⟩:∃ m,n=m+1:=⟨n - 1,by simp at hn;omega⟩
  have h40:t.txt.toList ≠ [40]:=by
   rw [ht]
   intro e
   rw [e] at h
   exact absurd h (by decide)
  rw [List.singleton_append,rdTerm.eq_def]
  simp only
  rw [if_neg h40,ht,if_pos h,ha]
  simp only
  rw [if_pos trivial,bytes_eq ht]
 | @num d v h1 h2 =>
  intro n ts rest hn hi
  rw [wsOf,if_neg (by decide),tokOf,if_pos (by decide)] at hi hn
  obtain ⟨t,t2,rfl,ht,h3⟩:=hi.cons
  rw [h3.nil]
  obtain ⟨m,rfl⟩:∃ m,n=m+1:=⟨n - 1,by simp at hn;omega⟩
  obtain ⟨o1,o2,o3⟩:=numOk h1 h2
  have h40:t.txt.toList ≠ [40]:=by
   rw [ht]
   intro e
   rw [e] at o1
   exact absurd o1 (by decide)
  rw [List.singleton_append,rdTerm.eq_def]
  simp only
  rw [if_neg h40,ht,if_neg (by rw [o2];decide),rdNum,ht,num_read h1 h2]
  simp only
  rw [if_neg (by omega)]
 | @app d w ps h hne ha hd hp ih =>
  intro n ts rest hn hi
  rw [wsOf,if_pos (Or.inr (Or.inr hne)),tok_word _ _ _ (by decide)] at hi hn
  obtain ⟨t,t2,rfl,ht,h2⟩:=hi.cons
  obtain ⟨u,t3,rfl,hu,h3⟩:=h2.cons
  obtain ⟨t4,t5,rfl,h4,h5⟩:=h3.app
  obtain ⟨z,t6,rfl,hz,h6⟩:=h5.cons
  rw [h6.nil]
  obtain ⟨m,rfl⟩:∃ m,n=m+1:=⟨n - 1,by simp at hn;omega⟩
  have hrow:=row_read (f:=rdTerm N m (d+1)) ps t4 (z :: rest) (fun p hpm=>⟨(hp p hpm).tx,fun us r hus=>by
   have e:((d:Int)+1)=((d+1:Nat):Int):=by omega
   rw [e]
   refine ih p hpm m us r ?_ hus
   have:=wss_part hpm
   simp at hn
   omega⟩) h4
  have hl:0 < ps.length:=List.length_pos_iff.2 hne
  rw [List.cons_append,List.cons_append,rdTerm,if_pos ht,if_neg (by omega),hu,if_pos h,ha]
  simp only
  rw [if_neg (by omega),show ((ps.length:Int)).toNat=ps.length by omega,List.append_assoc,List.singleton_append,hrow,rdCloses,rdShut,if_pos hz,bytes_eq hu]
theorem upTo_read {f:List Tk->Rs Nd}:∀ (ps:List Nd) (m:Nat) (ts:List Tk) (z:Tk) (rest:List Tk),(∀ p∈ps,Tx p/\∀ us r,Is us (wsOf p)->f (us++r)=.ok p r)->Is ts (wssOf ps)->z.txt.toList=[41]->ps.length < m->rdUpTo m f (ts++z :: rest)=.ok ps (z :: rest)
 | [],m,ts,z,rest,_,h,hz,hm=>by
  rw [wssOf] at h
  rw [h.nil]
  obtain ⟨m,rfl⟩:∃ k,m=k+1:=⟨m - 1,by simp at hm;omega⟩
  rw [List.nil_append,rdUpTo,if_pos hz]
 | p :: ps,m,ts,z,rest,hp,h,hz,hm=>by
  rw [wssOf] at h
  obtain ⟨t1,t2,rfl,h1,h2⟩:=h.app
  obtain ⟨htx,hf⟩:=hp p (by simp)
  obtain ⟨a,b,e,hne⟩:=htx.head
  have hf1:=hf t1 (t2++z :: rest) h1
  rw [e] at h1
  obtain ⟨t,t3,rfl,ht,_⟩:=h1.cons
  obtain ⟨m,rfl⟩:∃ k,m=k+1:=⟨m - 1,by simp at hm;omega⟩
  rw [List.append_assoc,List.cons_append,rdUpTo,if_neg (by rw [ht];exact hne),<- List.cons_append,hf1]
  simp only
  rw [upTo_read ps m t2 z rest (fun q hq=>hp q (by simp [hq])) h2 hz (by simp at hm;omega)]
theorem wss_len:∀ ps:List Nd,ps.length<=(wssOf ps).length
 | []=>by simp [wssOf]
 | p :: ps=>by
  have h1:=ws_len p
  have h2:=wss_len ps
  rw [wssOf,List.length_append,List.length_cons]
  omega
theorem form_read {d:Nat} {nd:Nd} (h:RF N d nd):∀ (n:Nat) (ts rest:List Tk),(wsOf nd).length<=n->Is ts (wsOf nd)->rdForm N n d (ts++rest)=.ok nd rest:=by
 induction h with
 | @truth d w h =>
  intro n ts rest hn hi
  rw [wsOf,if_neg (by decide),tok_word _ _ _ (by decide)] at hi hn
  obtain ⟨t,t2,rfl,ht,h2⟩:=hi.cons
  rw [h2.nil]
  obtain ⟨m,rfl⟩:∃ m,n=m+1:=⟨n - 1,by simp at hn;omega⟩
  have h40:t.txt.toList ≠ [40]:=by
   rw [ht]
   intro e
   rcases h with h | h <;> rw [h] at e <;> exact absurd e (by decide)
  rw [List.singleton_append,rdForm.eq_def]
  simp only
  rw [if_neg h40,ht,if_pos h,bytes_eq ht]
 | @con d w s ps hw hs hd hp ih =>
  intro n ts rest hn hi
  rw [wsOf,if_pos (Or.inl rfl),tok_word _ _ _ (by decide)] at hi hn
  obtain ⟨t,t2,rfl,ht,h2⟩:=hi.cons
  obtain ⟨u,t3,rfl,hu,h3⟩:=h2.cons
  obtain ⟨t4,t5,rfl,h4,h5⟩:=h3.app
  obtain ⟨z,t6,rfl,hz,h6⟩:=h5.cons
  rw [h6.nil]
  obtain ⟨m,rfl⟩:∃ m,n=m+1:=⟨n - 1,by simp at hn;omega⟩
  have hlen:=wss_len ps
  have hread:∀ p∈ps,Tx p/\∀ us r,Is us (wsOf p)->rdForm N m ((d:Int)+1) (us++r)=.ok p r:=fun p hpm=>⟨(hp p hpm).tx,fun us r hus=>by
   have e:((d:Int)+1)=((d+1:Nat):Int):=by omega
   rw [e]
   refine ih p hpm m us r ?_ hus
   have:=wss_part hpm
   simp at hn
   omega⟩
  have hparts:rdParts s m (rdForm N m ((d:Int)+1)) (rdTerm N m ((d:Int)+1)) (rdNum 5) (t4++z :: rest)=.ok ps (z :: rest):=by
   unfold rdParts
   rcases hs with ⟨rfl,hl⟩ | ⟨rfl,hl⟩ | rfl
   ·rw [if_pos rfl]
    obtain ⟨p,rfl⟩:∃ p,ps=[p]:=List.length_eq_one_iff.1 hl
    rw [wssOf,wssOf,List.append_nil] at h4
    rw [rdRow,(hread p (by simp)).2 t4 (z :: rest) h4]
    rfl
   ·rw [if_neg (by decide),if_pos rfl]
    obtain ⟨p,q,rfl⟩:∃ p q,ps=[p,q]:=two_of hl
    rw [wssOf,wssOf,wssOf,List.append_nil] at h4
    obtain ⟨t7,t8,rfl,h7,h8⟩:=h4.app
    rw [rdRow,List.append_assoc,(hread p (by simp)).2 t7 (t8++z :: rest) h7]
    simp only
    rw [rdRow,(hread q (by simp)).2 t8 (z :: rest) h8]
    rfl
   ·rw [if_neg (by decide),if_neg (by decide),if_neg (by decide),if_neg (by decide)]
    exact upTo_read ps m t4 z rest hread h4 hz (by simp at hn;omega)
  rw [List.cons_append,List.cons_append,rdForm,if_pos ht,if_neg (by omega),hu,hw]
  simp only
  rw [List.append_assoc,List.singleton_append,hparts,rdCloses,rdShut,if_pos hz,bytes_eq hu]
 | @two d w a b hw hd ha hb =>
  intro n ts rest hn hi
  rw [wsOf,if_pos (Or.inr (Or.inl rfl)),tok_word _ _ _ (by decide),wssOf,wssOf,wssOf,List.append_nil] at hi hn
  obtain ⟨t,t2,rfl,ht,h2⟩:=hi.cons
  obtain ⟨u,t3,rfl,hu,h3⟩:=h2.cons
  obtain ⟨t4,t5,rfl,h4,h5⟩:=h3.app
  obtain ⟨t7,t8,rfl,h7,h8⟩:=h4.app
  obtain ⟨z,t6,rfl,hz,h6⟩:=h5.cons
  rw [h6.nil]
  obtain ⟨m,rfl⟩:∃ m,n=m+1:=⟨n - 1,by simp at hn;omega⟩
  have e:((d:Int)+1)=((d+1:Nat):Int):=by omega
  have r1:=term_read ha m t7 (t8++z :: rest) (by simp at hn;omega) h7
  have r2:=term_read hb m t8 (z :: rest) (by simp at hn;omega) h8
  rw [List.cons_append,List.cons_append,rdForm,if_pos ht,if_neg (by omega),hu,hw]
  simp only
  rw [rdParts,if_neg (by decide),if_neg (by decide),if_pos rfl,rdRow,e,List.append_assoc,List.append_assoc,List.singleton_append,r1]
  simp only
  rw [rdRow,r2]
  simp only [rdRow]
  rw [rdCloses,rdShut,if_pos hz,bytes_eq hu]
 | @le d w a b v hw hd ha hb h1 h2' =>
  intro n ts rest hn hi
  rw [wsOf,if_pos (Or.inr (Or.inl rfl)),tok_word _ _ _ (by decide),wssOf,wssOf,wssOf,wssOf,List.append_nil,wsOf,if_neg (by decide),tokOf,if_pos (by decide)] at hi hn
  obtain ⟨t,t2,rfl,ht,h2⟩:=hi.cons
  obtain ⟨u,t3,rfl,hu,h3⟩:=h2.cons
  obtain ⟨t4,t5,rfl,h4,h5⟩:=h3.app
  obtain ⟨t7,t9,rfl,h7,h9⟩:=h4.app
  obtain ⟨t8,t10,rfl,h8,h10⟩:=h9.app
  obtain ⟨y,t11,rfl,hy,h11⟩:=h10.cons
  obtain ⟨z,t6,rfl,hz,h6⟩:=h5.cons
  rw [h6.nil,h11.nil]
  obtain ⟨m,rfl⟩:∃ m,n=m+1:=⟨n - 1,by simp at hn;omega⟩
  have e:((d:Int)+1)=((d+1:Nat):Int):=by omega
  have r1:=term_read ha m t7 (t8++y :: z :: rest) (by simp at hn;omega) h7
  have r2:=term_read hb m t8 (y :: z :: rest) (by simp at hn;omega) h8
  rw [List.cons_append,List.cons_append,rdForm,if_pos ht,if_neg (by omega),hu,hw]
  simp only
  rw [rdParts,if_neg (by decide),if_neg (by decide),if_neg (by decide),if_pos rfl,rdRow,e]
  simp only [List.append_assoc,List.cons_append,List.nil_append]
  rw [r1]
  simp only
  rw [rdRow,r2]
  simp only
  rw [rdRow,rdNum,hy,num_read h1 h2']
  simp only
  rw [if_neg (by omega)]
  simp only [rdRow]
  rw [rdCloses,rdShut,if_pos hz,bytes_eq hu]
theorem read_back {nd:Nd} (h:RF N 0 nd):∃ us,rdWhole N (formOf nd)=.ok nd us:=by
 have hw:=form_words h.tx
 obtain ⟨ts,t2,e,h1,h2⟩:=Is.app hw
 obtain ⟨z,t3,rfl,hz,h3⟩:=h2.cons
 have h3:=h3.nil
 subst h3
 have hl:(wsOf nd).length<=(toks (formOf nd)).length:=by
  have:=congrArg List.length hw
  simp at this
  omega
 have hr:=form_read h (toks (formOf nd)).length ts [z] hl h1
 unfold rdWhole
 have e0:((0:Nat):Int)=0:=rfl
 rw [e0] at hr
 rw [e] at hr ⊢
 rw [hr]
 simp only
 rw [if_pos hz]
 exact ⟨_,rfl⟩
end
end Ar
end Go.Proofs.YtegbdaffhpiacaaGreatDoor

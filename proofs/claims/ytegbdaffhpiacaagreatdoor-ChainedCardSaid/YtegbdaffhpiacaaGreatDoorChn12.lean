/- Plain lemmas: the numbers in a tree that was read are small; a number's digits; Plain: of what shape a tree is that was read; Plain: a term, an atom is told by its form; Plain: trees that are kept once each, in the order in which they came, their parts ahead of them; Plain: what formulas mean, what can be true; values of terms in the place of functions; Plain: the shape of a formula that was read, strictly: which words, how many parts; names have as many arguments as were declared; Plain: what answers about atoms and twins say of a table; when the greatest values fit; a question that is new; Plain: values can be brought near to each other: what no bound can tell apart is taken out. -/
import Derived.Test.YtegbdaffhpiacaaGreatDoorChn03
import Derived.Test.YtegbdaffhpiacaaGreatDoorChn01
import Derived.Lib.ItoaNum
namespace Go.Proofs.YtegbdaffhpiacaaGreatDoor
namespace Ar
inductive NOk:Nd->Prop
 | mk {k v:Int} {w:ByteArray} {ps:List Nd} (h:k=4\/k=5 -> -1000<=v/\v<=1000) (hp:∀ p∈ps,NOk p):NOk (.mk k w v ps)
def Oks (f:List Tk->Rs Nd):Prop:=∀ ts nd ts',f ts=.ok nd ts'->NOk nd
theorem row_oks (fs:List (List Tk->Rs Nd)) (h:∀ f∈fs,Oks f):∀ ts ps ts',rdRow fs ts=.ok ps ts'->∀ p∈ps,NOk p:=by
 induction fs with
 | nil=>intro ts ps ts' e;simp [rdRow] at e;obtain ⟨rfl,rfl⟩:=e;intro p hp;exact absurd hp (by simp)
 | cons f fs ih =>
  intro ts ps ts' e
  unfold rdRow at e
  split at e
  ·exact absurd e (by simp)
  ·rename_i a us hf
   split at e
   ·exact absurd e (by simp)
   ·rename_i as vs hr
    simp only [Rs.ok.injEq] at e
    obtain ⟨rfl,rfl⟩:=e
    intro p hp
    rcases List.mem_cons.1 hp with rfl | hp
    ·exact h f (List.mem_cons_self ..) _ _ _ hf
    ·exact ih (fun g hg=>h g (List.mem_cons_of_mem _ hg)) _ _ _ hr p hp
theorem upTo_oks (m:Nat) (f:List Tk->Rs Nd) (h:Oks f):∀ ts ps ts',rdUpTo m f ts=.ok ps ts'->∀ p∈ps,NOk p:=by
 induction m with
 | zero=>intro ts ps ts' e;exact absurd e (by simp [rdUpTo])
 | succ m ih =>
  intro ts ps ts' e
  cases ts with
  | nil=>exact absurd e (by simp [rdUpTo])
  | cons t ts =>
   unfold rdUpTo at e
   split at e
   ·simp only [Rs.ok.injEq] at e
    obtain ⟨rfl,rfl⟩:=e
    intro p hp;exact absurd hp (by simp)
   ·split at e
    ·exact absurd e (by simp)
    ·rename_i a us hf
     split at e
     ·exact absurd e (by simp)
     ·rename_i as vs hr
      simp only [Rs.ok.injEq] at e
      obtain ⟨rfl,rfl⟩:=e
      intro p hp
      rcases List.mem_cons.1 hp with rfl | hp
      ·exact h _ _ _ hf
      ·exact ih _ _ _ hr p hp
theorem num_oks (k:Int):Oks (rdNum k):=by
 intro ts nd ts' e
 cases ts with
 | nil=>exact absurd e (by simp [rdNum])
 | cons t ts =>
  simp only [rdNum] at e
  split at e
  ·exact absurd e (by simp)
  ·split at e
   ·exact absurd e (by simp)
   ·rename_i v _ hv
    simp only [Rs.ok.injEq] at e
    obtain ⟨rfl,rfl⟩:=e
    exact .mk (fun _=>by omega) (fun p hp=>absurd hp (by simp))
theorem closes_oks {e k:Int} {w:ByteArray} {r:Rs (List Nd)} {nd:Nd} {ts':List Tk} (hk:¬(k=4\/k=5)) (hr:∀ ps us,r=.ok ps us->∀ p∈ps,NOk p) (h:rdCloses e k w r=.ok nd ts'):NOk nd:=by
 cases r with
 | no e p=>exact absurd h (by simp [rdCloses])
 | ok ps us =>
  simp only [rdCloses] at h
  cases us with
  | nil=>exact absurd h (by simp [rdShut])
  | cons v vs =>
   simp only [rdShut] at h
   split at h
   ·simp only [Rs.ok.injEq] at h
    obtain ⟨rfl,rfl⟩:=h
    exact .mk (fun h=>absurd h hk) (hr ps _ rfl)
   ·split at h <;> exact absurd h (by simp)
theorem arg_oks {f:List Tk->Rs Nd} (h:Oks f):Oks (rdArg f):=by
 intro ts nd ts' e
 cases ts with
 | nil=>exact absurd e (by simp [rdArg])
 | cons t ts =>
  simp only [rdArg] at e
  split at e
  ·exact absurd e (by simp)
  ·exact h _ _ _ e
theorem term_oks (N:List Nm) (n:Nat):∀ d,Oks (rdTerm N n d):=by
 induction n with
 | zero=>intro d ts nd ts' e;exact absurd e (by simp [rdTerm])
 | succ n ih =>
  intro d ts nd ts' e
  cases ts with
  | nil=>exact absurd e (by simp [rdTerm])
  | cons t ts =>
   unfold rdTerm at e
   split at e
   ·split at e
    ·exact absurd e (by simp)
    ·split at e
     ·exact absurd e (by simp)
     ·rename_i u us
      split at e
      ·split at e
       ·exact absurd e (by simp)
       ·rename_i a _
        split at e
        ·exact absurd e (by simp)
        ·exact closes_oks (by decide) (fun ps vs hr=>row_oks _ (fun f hf=>by rw [(List.mem_replicate.1 hf).2];exact arg_oks (ih (d+1))) us ps vs hr) e
      ·exact absurd e (by simp)
   ·split at e
    ·split at e
     ·exact absurd e (by simp)
     ·split at e
      ·simp only [Rs.ok.injEq] at e
       obtain ⟨rfl,rfl⟩:=e
       exact .mk (fun h=>absurd h (by decide)) (fun p hp=>absurd hp (by simp))
      ·exact absurd e (by simp)
    ·exact num_oks 4 _ _ _ e
theorem hd_kind {l:List UInt8} {ks:Int × Int} (h:hdOf l=some ks):¬(ks.1=4\/ks.1=5):=by
 unfold hdOf at h
 repeat' (split at h)
 all_goals first | (simp only [Option.some.injEq] at h;subst h;decide) | exact absurd h (by simp)
theorem form_oks (N:List Nm) (n:Nat):∀ d,Oks (rdForm N n d):=by
 induction n with
 | zero=>intro d ts nd ts' e;exact absurd e (by simp [rdForm])
 | succ n ih =>
  intro d ts nd ts' e
  cases ts with
  | nil=>exact absurd e (by simp [rdForm])
  | cons t ts =>
   unfold rdForm at e
   split at e
   ·split at e
    ·exact absurd e (by simp)
    ·split at e
     ·exact absurd e (by simp)
     ·rename_i u us
      split at e
      ·exact absurd e (by simp)
      ·rename_i ks hks
       refine closes_oks (hd_kind hks) (fun ps vs hr=>?_) e
       unfold rdParts at hr
       have hT:=term_oks N n (d+1)
       have hF:=ih (d+1)
       split at hr
       ·exact row_oks _ (by intro f hf;simp at hf;subst hf;exact hF) us ps vs hr
       ·split at hr
        ·exact row_oks _ (by intro f hf;simp at hf;subst hf;exact hF) us ps vs hr
        ·split at hr
         ·exact row_oks _ (by intro f hf;simp at hf;subst hf;exact hT) us ps vs hr
         ·split at hr
          ·exact row_oks _ (by intro f hf;simp at hf;rcases hf with rfl | rfl <;> first | exact hT | exact num_oks 5) us ps vs hr
          ·exact upTo_oks _ _ hF us ps vs hr
   ·split at e
    ·simp only [Rs.ok.injEq] at e
     obtain ⟨rfl,rfl⟩:=e
     exact .mk (fun h=>absurd h (by decide)) (fun p hp=>absurd hp (by simp))
    ·exact absurd e (by simp)
end Ar
namespace Ar
inductive TmOk:Nd->Prop
 | num {v:Int} (h1 : -1000<=v) (h2:v<=1000):TmOk (.mk 4 ByteArray.empty v [])
 | app {w:ByteArray} {ps:List Nd} (hw:isName w.toList=true) (hl:ps.length<=3) (hp:∀ p∈ps,TmOk p):TmOk (.mk 3 w 0 ps)
def AtW (l:List UInt8):Prop:=l=[61]\/l=[60]\/l=[60,61]\/l=wLe
instance (l:List UInt8):Decidable (AtW l):=inferInstanceAs (Decidable (l=[61]\/l=[60]\/l=[60,61]\/l=wLe))
inductive FmOk:Nd->Prop
 | truth {w:ByteArray} (hw:¬AtW w.toList):FmOk (.mk 0 w 0 [])
 | con {w:ByteArray} {ps:List Nd} (hw:¬AtW w.toList) (hp:∀ p∈ps,FmOk p):FmOk (.mk 1 w 0 ps)
 | two {w:ByteArray} {a b:Nd} (hw:w.toList=[61]\/w.toList=[60]\/w.toList=[60,61]) (ha:TmOk a) (hb:TmOk b):FmOk (.mk 2 w 0 [a,b])
 | le {w:ByteArray} {a b:Nd} {v:Int} (hw:w.toList=wLe) (ha:TmOk a) (hb:TmOk b) (h1 : -1000<=v) (h2:v<=1000):FmOk (.mk 2 w 0 [a,b,.mk 5 ByteArray.empty v []])
theorem row_all {P:Nd->Prop} (fs:List (List Tk->Rs Nd)) (h:∀ f∈fs,∀ ts nd ts',f ts=.ok nd ts'->P nd):∀ ts ps ts',rdRow fs ts=.ok ps ts'->(∀ p∈ps,P p)/\ps.length=fs.length:=by
 induction fs with
 | nil=>intro ts ps ts' e;simp [rdRow] at e;obtain ⟨rfl,rfl⟩:=e;exact ⟨fun p hp=>absurd hp (by simp),rfl⟩
 | cons f fs ih =>
  intro ts ps ts' e
  unfold rdRow at e
  split at e
  ·exact absurd e (by simp)
  ·rename_i a us hf
   split at e
   ·exact absurd e (by simp)
   ·rename_i as vs hr
    simp only [Rs.ok.injEq] at e
    obtain ⟨rfl,rfl⟩:=e
    obtain ⟨h1,h2⟩:=ih (fun g hg=>h g (List.mem_cons_of_mem _ hg)) us as _ hr
    refine ⟨fun p hp=>?_,by simp [h2]⟩
    rcases List.mem_cons.1 hp with rfl | hp
    ·exact h f (by simp) _ _ _ hf
    ·exact h1 p hp
theorem row2 {P Q:Nd->Prop} {f g:List Tk->Rs Nd} (hf:∀ ts nd ts',f ts=.ok nd ts'->P nd) (hg:∀ ts nd ts',g ts=.ok nd ts'->Q nd) {ts ts':List Tk} {ps:List Nd} (e:rdRow [f,g] ts=.ok ps ts'):∃ a b,ps=[a,b]/\P a/\Q b:=by
 simp only [rdRow] at e
 split at e
 ·exact absurd e (by simp)
 ·rename_i a us h1
  split at e
  ·exact absurd e (by simp)
  ·rename_i as vs h2
   split at h2
   ·exact absurd h2 (by simp)
   ·rename_i b xs h3
    simp only [Rs.ok.injEq] at e h2
    obtain ⟨rfl,rfl⟩:=h2
    obtain ⟨rfl,rfl⟩:=e
    exact ⟨a,b,rfl,hf _ _ _ h1,hg _ _ _ h3⟩
theorem row3 {P Q R:Nd->Prop} {f g h:List Tk->Rs Nd} (hf:∀ ts nd ts',f ts=.ok nd ts'->P nd) (hg:∀ ts nd ts',g ts=.ok nd ts'->Q nd) (hh:∀ ts nd ts',h ts=.ok nd ts'->R nd) {ts ts':List Tk} {ps:List Nd} (e:rdRow [f,g,h] ts=.ok ps ts'):∃ a b c,ps=[a,b,c]/\P a/\Q b/\R c:=by
 unfold rdRow at e
 split at e
 ·exact absurd e (by simp)
 ·rename_i a us h1
  split at e
  ·exact absurd e (by simp)
  ·rename_i as vs h2
   simp only [Rs.ok.injEq] at e
   obtain ⟨rfl,rfl⟩:=e
   obtain ⟨b,c,rfl,hb,hc⟩:=row2 hg hh h2
   exact ⟨a,b,c,rfl,hf _ _ _ h1,hb,hc⟩
theorem upTo_all {P:Nd->Prop} {f:List Tk->Rs Nd} (h:∀ ts nd ts',f ts=.ok nd ts'->P nd) (m:Nat):∀ ts ps ts',rdUpTo m f ts=.ok ps ts'->∀ p∈ps,P p:=by
 induction m with
 | zero=>intro ts ps ts' e;simp [rdUpTo] at e
 | succ m ih =>
  intro ts ps ts' e
  cases ts with
  | nil=>simp [rdUpTo] at e
  | cons t ts =>
   unfold rdUpTo at e
   split at e
   ·simp only [Rs.ok.injEq] at e
    obtain ⟨rfl,rfl⟩:=e
    exact fun p hp=>absurd hp (by simp)
   ·split at e
    ·exact absurd e (by simp)
    ·rename_i a us hf
     split at e
     ·exact absurd e (by simp)
     ·rename_i as vs hr
      simp only [Rs.ok.injEq] at e
      obtain ⟨rfl,rfl⟩:=e
      intro p hp
      rcases List.mem_cons.1 hp with rfl | hp
      ·exact h _ _ _ hf
      ·exact ih us as _ hr p hp
theorem closes_ok {e k:Int} {w:ByteArray} {r:Rs (List Nd)} {nd:Nd} {ts':List Tk} (h:rdCloses e k w r=.ok nd ts'):∃ ps us,r=.ok ps us/\nd=.mk k w 0 ps:=by
 cases r with
 | no e p=>exact absurd h (by simp [rdCloses])
 | ok ps us =>
  simp only [rdCloses] at h
  cases us with
  | nil=>exact absurd h (by simp [rdShut])
  | cons v vs =>
   simp only [rdShut] at h
   split at h
   ·simp only [Rs.ok.injEq] at h
    obtain ⟨rfl,rfl⟩:=h
    exact ⟨ps,_,rfl,rfl⟩
   ·split at h <;> exact absurd h (by simp)
theorem num_ok {k:Int} {ts ts':List Tk} {nd:Nd} (e:rdNum k ts=.ok nd ts'):∃ v,nd=.mk k ByteArray.empty v [] /\ -1000<=v/\v<=1000:=by
 cases ts with
 | nil=>exact absurd e (by simp [rdNum])
 | cons t ts =>
  simp only [rdNum] at e
  split at e
  ·exact absurd e (by simp)
  ·split at e
   ·exact absurd e (by simp)
   ·rename_i v _ hv
    simp only [Rs.ok.injEq] at e
    obtain ⟨rfl,rfl⟩:=e
    exact ⟨v,rfl,by omega,by omega⟩
theorem arg_ok {f:List Tk->Rs Nd} {ts ts':List Tk} {nd:Nd} (e:rdArg f ts=.ok nd ts'):∃ us,f us=.ok nd ts':=by
 cases ts with
 | nil=>exact absurd e (by simp [rdArg])
 | cons t ts =>
  simp only [rdArg] at e
  split at e
  ·exact absurd e (by simp)
  ·exact ⟨_,e⟩
def FewAr (N:List Nm):Prop:=∀ x∈N,0<=x.ar/\x.ar<=3
theorem arOf_few {N:List Nm} (h:FewAr N) {l:List UInt8} {a:Int} (e:arOf N l=some a):a<=3:=by
 unfold arOf at e
 obtain ⟨x,hx,rfl⟩:=Option.map_eq_some_iff.1 e
 exact (h x (List.mem_of_find?_eq_some hx)).2
theorem term_shape {N:List Nm} (hN:FewAr N) (n:Nat):∀ d ts nd ts',rdTerm N n d ts=.ok nd ts'->TmOk nd:=by
 induction n with
 | zero=>intro d ts nd ts' e;exact absurd e (by simp [rdTerm])
 | succ n ih =>
  intro d ts nd ts' e
  cases ts with
  | nil=>exact absurd e (by simp [rdTerm])
  | cons t ts =>
   unfold rdTerm at e
   split at e
   ·split at e
    ·exact absurd e (by simp)
    ·split at e
     ·exact absurd e (by simp)
     ·rename_i u us
      split at e
      ·rename_i hnm
       split at e
       ·exact absurd e (by simp)
       ·rename_i a ha
        split at e
        ·exact absurd e (by simp)
        ·obtain ⟨ps,vs,hr,rfl⟩:=closes_ok e
         obtain ⟨h1,h2⟩:=row_all (P:=TmOk) _ (fun f hf ts nd ts' he=>by
          rw [(List.mem_replicate.1 hf).2] at he
          obtain ⟨us',he'⟩:=arg_ok he
          exact ih (d+1) _ _ _ he') us ps vs hr
         have:=arOf_few hN ha
         rw [List.length_replicate] at h2
         exact .app hnm (by omega) h1
      ·exact absurd e (by simp)
   ·split at e
    ·rename_i hnm
     split at e
     ·exact absurd e (by simp)
     ·split at e
      ·simp only [Rs.ok.injEq] at e
       obtain ⟨rfl,rfl⟩:=e
       exact .app hnm (by simp) (fun p hp=>absurd hp (by simp))
      ·exact absurd e (by simp)
    ·obtain ⟨v,rfl,h1,h2⟩:=num_ok e
     exact .num h1 h2
theorem hd_cases {l:List UInt8} {ks:Int × Int} (h:hdOf l=some ks):((ks=(1,0)\/ks=(1,1)\/ks=(1,2))/\¬AtW l)\/(ks=(2,3)/\(l=[61]\/l=[60]\/l=[60,61]))\/(ks=(2,4)/\l=wLe):=by
 unfold hdOf at h
 repeat' (split at h)
 all_goals first | (simp at h;done) | (simp only [Option.some.injEq] at h;subst h)
 all_goals first | (rename_i e;subst e;(refine .inl ⟨?_,?_⟩ <;> first | decide | (simp;done))) | (rename_i e;subst e;refine .inr (.inl ⟨rfl,?_⟩);(simp;done)) | (rename_i e;subst e;exact .inr (.inr ⟨rfl,rfl⟩))
theorem form_shape {N:List Nm} (hN:FewAr N) (n:Nat):∀ d ts nd ts',rdForm N n d ts=.ok nd ts'->FmOk nd:=by
 induction n with
 | zero=>intro d ts nd ts' e;exact absurd e (by simp [rdForm])
 | succ n ih =>
  intro d ts nd ts' e
  cases ts with
  | nil=>exact absurd e (by simp [rdForm])
  | cons t ts =>
   unfold rdForm at e
   split at e
   ·split at e
    ·exact absurd e (by simp)
    ·split at e
     ·exact absurd e (by simp)
     ·rename_i u us
      split at e
      ·exact absurd e (by simp)
      ·rename_i ks hks
       obtain ⟨ps,vs,hr,rfl⟩:=closes_ok e
       have hT:=term_shape hN n (d+1)
       have hF:=ih (d+1)
       rcases hd_cases hks with ⟨(rfl | rfl | rfl),hw⟩ | ⟨rfl,hw⟩ | ⟨rfl,hw⟩
       ·exact .con hw (row_all [_] (fun f hf=>by simp at hf;subst hf;exact hF) us ps vs hr).1
       ·exact .con hw (row_all [_,_] (fun f hf=>by simp at hf;subst hf;exact hF) us ps vs hr).1
       ·exact .con hw (upTo_all hF _ us ps vs hr)
       ·obtain ⟨a,b,rfl,ha,hb⟩:=row2 hT hT (ts:=us) hr
        exact .two hw ha hb
       ·obtain ⟨a,b,c,rfl,ha,hb,hc⟩:=row3 (R:=fun nd=>∃ v,nd=.mk 5 ByteArray.empty v [] /\ -1000<=v/\v<=1000) hT hT (fun ts nd ts' e=>num_ok e) (ts:=us) hr
        obtain ⟨v,rfl,h1,h2⟩:=hc
        exact .le hw ha hb h1 h2
   ·split at e
    ·rename_i hw
     simp only [Rs.ok.injEq] at e
     obtain ⟨rfl,rfl⟩:=e
     refine .truth ?_
     rcases hw with hw | hw <;> (rw [hw];decide)
    ·exact absurd e (by simp)
end Ar
namespace Ar
def tokCh (c:UInt8):Bool:=c != 32 && c != 40 && c != 41
def Dl (r:List UInt8):Prop:=∀ c∈r.head?,tokCh c=false
theorem tok_split:∀ {a b r s:List UInt8},a.all tokCh=true->b.all tokCh=true->Dl r->Dl s->a++r=b++s->a=b/\r=s:=by
 intro a
 induction a with
 | nil =>
  intro b r s _ hb hr _ h
  cases b with
  | nil=>exact ⟨rfl,h⟩
  | cons c b =>
   simp at h hb
   subst h
   exact absurd (hr c (by simp)) (by rw [hb.1];decide)
 | cons c a ih =>
  intro b r s ha hb hr hs h
  cases b with
  | nil =>
   simp at h ha
   subst h
   exact absurd (hs c (by simp)) (by rw [ha.1];decide)
  | cons d b =>
   simp only [List.all_cons,Bool.and_eq_true] at ha hb
   simp only [List.cons_append,List.cons.injEq] at h
   obtain ⟨rfl,h⟩:=h
   obtain ⟨rfl,rfl⟩:=ih ha.2 hb.2 hr hs h
   exact ⟨rfl,rfl⟩
def numTx (v:Int):Bool:=numOf (itoa v) == some v && (itoa v).all tokCh && ((itoa v).head?.any (fun c => !letter c))
theorem numTx_all:((List.range 2001).all fun i=>numTx ((i:Int) - 1000))=true:=by decide +kernel
theorem numTx_of {v:Int} (h1 : -1000<=v) (h2:v<=1000):numTx v=true:=by
 have h:=List.all_eq_true.1 numTx_all (v+1000).toNat (List.mem_range.2 (by omega))
 have e:(((v+1000).toNat:Nat):Int) - 1000=v:=by omega
 rwa [e] at h
theorem itoa_inj {v u:Int} (h1 : -1000<=v) (h2:v<=1000) (h3 : -1000<=u) (h4:u<=1000) (h:itoa v=itoa u):v=u:=by
 have a:=numTx_of h1 h2
 have b:=numTx_of h3 h4
 simp only [numTx,Bool.and_eq_true,beq_iff_eq] at a b
 have:=a.1.1
 rw [h,b.1.1] at this
 exact (Option.some.inj this).symm
theorem itoa_tok {v:Int} (h1 : -1000<=v) (h2:v<=1000):(itoa v).all tokCh=true:=by
 have a:=numTx_of h1 h2
 simp only [numTx,Bool.and_eq_true] at a
 exact a.1.2
theorem itoa_head {v:Int} (h1 : -1000<=v) (h2:v<=1000):∃ c l,itoa v=c :: l/\letter c=false/\c ≠ 40:=by
 have a:=numTx_of h1 h2
 simp only [numTx,Bool.and_eq_true] at a
 cases hi:itoa v with
 | nil=>rw [hi] at a;exact absurd a.2 (by simp)
 | cons c l =>
  rw [hi] at a
  refine ⟨c,l,rfl,by simpa using a.2,?_⟩
  intro e
  subst e
  exact absurd a.1.2 (by simp [tokCh])
theorem letter_tok {c:UInt8} (h:letter c=true):tokCh c=true:=by
 simp only [letter,decide_eq_true_eq] at h
 simp only [tokCh,Bool.and_eq_true,bne_iff_ne]
 refine ⟨⟨?_,?_⟩,?_⟩ <;> (intro e;subst e;exact absurd h (by decide))
theorem name_tok {l:List UInt8} (h:isName l=true):l.all tokCh=true/\∃ c r,l=c :: r/\letter c=true/\c ≠ 40:=by
 simp only [isName,Bool.and_eq_true,decide_eq_true_eq] at h
 have ha:=h.1.1
 refine ⟨List.all_eq_true.2 (fun c hc=>letter_tok (List.all_eq_true.1 ha c hc)),?_⟩
 cases l with
 | nil=>exact absurd h.2.1 (by decide)
 | cons c r =>
  have hc:=List.all_eq_true.1 ha c (by simp)
  refine ⟨c,r,rfl,hc,?_⟩
  intro e
  subst e
  exact absurd hc (by decide)
theorem dl_sp (r:List UInt8):Dl (32 :: r):=by intro c hc;simp at hc;subst hc;decide
theorem dl_cl (r:List UInt8):Dl (41 :: r):=by intro c hc;simp at hc;subst hc;decide
theorem dl_forms (p:Nd) (ps:List Nd) (r:List UInt8):Dl (formsOf (p :: ps)++r):=by
 rw [formsOf]
 exact dl_sp _
theorem form_num (v:Int):formOf (.mk 4 ByteArray.empty v [])=itoa v:=by
 rw [formOf,if_neg (by decide),tokOf,if_pos (by decide)]
theorem form_name (w:ByteArray):formOf (.mk 3 w 0 [])=w.toList:=by
 rw [formOf,if_neg (by decide),tokOf,if_neg (by decide)]
theorem form_app (w:ByteArray) (p:Nd) (ps:List Nd):formOf (.mk 3 w 0 (p :: ps))=40 :: (w.toList++(formsOf (p :: ps)++[41])):=by
 rw [formOf,if_pos (Or.inr (Or.inr (by simp))),tokOf,if_neg (by decide)]
 simp
theorem form_bound (v:Int):formOf (.mk 5 ByteArray.empty v [])=itoa v:=by
 rw [formOf,if_neg (by decide),tokOf,if_pos (by decide)]
theorem form_atom (w:ByteArray) (ps:List Nd):formOf (.mk 2 w 0 ps)=40 :: (w.toList++(formsOf ps++[41])):=by
 rw [formOf,if_pos (Or.inr (Or.inl rfl)),tokOf,if_neg (by decide)]
 simp
theorem forms_inj {ps:List Nd} (h:∀ p∈ps,∀ q r s,TmOk q->Dl r->Dl s->formOf p++r=formOf q++s->p=q/\r=s):∀ {qs:List Nd} {r s:List UInt8},(∀ q∈qs,TmOk q)->formsOf ps++41 :: r=formsOf qs++41 :: s->ps=qs/\r=s:=by
 induction ps with
 | nil =>
  intro qs r s _ e
  cases qs with
  | nil=>simp [formsOf] at e;exact ⟨rfl,e⟩
  | cons q qs=>simp [formsOf] at e
 | cons p ps ih =>
  intro qs r s hq e
  cases qs with
  | nil=>simp [formsOf] at e
  | cons q qs =>
   simp only [formsOf,List.cons_append,List.append_assoc,List.cons.injEq,true_and] at e
   have d1:Dl (formsOf ps++41 :: r):=by
    cases ps with
    | nil=>exact dl_cl _
    | cons a as=>exact dl_forms a as _
   have d2:Dl (formsOf qs++41 :: s):=by
    cases qs with
    | nil=>exact dl_cl _
    | cons a as=>exact dl_forms a as _
   obtain ⟨rfl,e2⟩:=h p (by simp) q _ _ (hq q (by simp)) d1 d2 e
   obtain ⟨rfl,rfl⟩:=ih (fun x hx=>h x (List.mem_cons_of_mem _ hx)) (fun x hx=>hq x (List.mem_cons_of_mem _ hx)) e2
   exact ⟨rfl,rfl⟩
theorem term_inj {a:Nd} (ha:TmOk a):∀ b r s,TmOk b->Dl r->Dl s->formOf a++r=formOf b++s->a=b/\r=s:=by
 induction ha with
 | num h1 h2 =>
  intro b r s hb hr hs e
  cases hb with
  | num h3 h4 =>
   rw [form_num,form_num] at e
   obtain ⟨e1,rfl⟩:=tok_split (itoa_tok h1 h2) (itoa_tok h3 h4) hr hs e
   rw [itoa_inj h1 h2 h3 h4 e1]
   exact ⟨rfl,rfl⟩
  | @app w ps hw _ _ =>
   obtain ⟨c,l,hc,hlc,hc40⟩:=itoa_head h1 h2
   obtain ⟨d,l2,hd,hld,_⟩:=(name_tok hw).2
   cases ps with
   | nil =>
    rw [form_num,form_name,hc,hd] at e
    simp only [List.cons_append,List.cons.injEq] at e
    rw [e.1,hld] at hlc
    exact absurd hlc (by decide)
   | cons p ps =>
    rw [form_num,form_app,hc] at e
    simp only [List.cons_append,List.cons.injEq] at e
    exact absurd e.1 hc40
 | @app w ps hw _ hp ih =>
  intro b r s hb hr hs e
  obtain ⟨hwt,d,l2,hd,hld,hd40⟩:=name_tok hw
  cases hb with
  | num h3 h4 =>
   obtain ⟨c,l,hc,hlc,hc40⟩:=itoa_head h3 h4
   cases ps with
   | nil =>
    rw [form_num,form_name,hc,hd] at e
    simp only [List.cons_append,List.cons.injEq] at e
    rw [<- e.1,hld] at hlc
    exact absurd hlc (by decide)
   | cons p ps =>
    rw [form_num,form_app,hc] at e
    simp only [List.cons_append,List.cons.injEq] at e
    exact absurd e.1.symm hc40
  | @app w' qs hw' _ hq =>
   obtain ⟨hwt',d',l2',hd',hld',hd40'⟩:=name_tok hw'
   cases ps with
   | nil =>
    cases qs with
    | nil =>
     rw [form_name,form_name] at e
     obtain ⟨e1,rfl⟩:=tok_split hwt hwt' hr hs e
     rw [bytes_ext e1]
     exact ⟨rfl,rfl⟩
    | cons q qs =>
     rw [form_name,form_app,hd] at e
     simp only [List.cons_append,List.cons.injEq] at e
     exact absurd e.1 hd40
   | cons p ps =>
    cases qs with
    | nil =>
     rw [form_name,form_app,hd'] at e
     simp only [List.cons_append,List.cons.injEq] at e
     exact absurd e.1.symm hd40'
    | cons q qs =>
     rw [form_app,form_app] at e
     simp only [List.cons_append,List.append_assoc,List.cons.injEq,true_and] at e
     obtain ⟨e1,e2⟩:=tok_split hwt hwt' (dl_forms p ps _) (dl_forms q qs _) e
     obtain ⟨e3,rfl⟩:=forms_inj (ps:=p :: ps) ih hq e2
     rw [bytes_ext e1,e3]
     exact ⟨rfl,rfl⟩
theorem term_form {a b:Nd} (ha:TmOk a) (hb:TmOk b) (h:formOf a=formOf b):a=b :=
 (term_inj ha b [] [] hb (by intro c hc;simp at hc) (by intro c hc;simp at hc) (by rw [h])).1
inductive AtOk:Nd->Prop
 | two {w:ByteArray} {a b:Nd} (hw:w.toList=[61]\/w.toList=[60]\/w.toList=[60,61]) (ha:TmOk a) (hb:TmOk b):AtOk (.mk 2 w 0 [a,b])
 | le {w:ByteArray} {a b:Nd} {v:Int} (hw:w.toList=wLe) (ha:TmOk a) (hb:TmOk b) (h1 : -1000<=v) (h2:v<=1000):AtOk (.mk 2 w 0 [a,b,.mk 5 ByteArray.empty v []])
theorem atom_parts {w w':ByteArray} {a b a' b':Nd} {xs ys:List Nd} (hw:w.toList.all tokCh=true) (hw':w'.toList.all tokCh=true) (ha:TmOk a) (hb:TmOk b) (ha':TmOk a') (hb':TmOk b') (e:formOf (.mk 2 w 0 (a :: b :: xs))=formOf (.mk 2 w' 0 (a' :: b' :: ys))) :
  w=w'/\a=a'/\b=b'/\formsOf xs++[41]=formsOf ys++[41]:=by
 rw [form_atom,form_atom] at e
 simp only [List.cons.injEq,true_and] at e
 obtain ⟨e1,e2⟩:=tok_split hw hw' (dl_forms _ _ _) (dl_forms _ _ _) e
 simp only [formsOf,List.cons_append,List.append_assoc,List.cons.injEq,true_and] at e2
 obtain ⟨rfl,e3⟩:=term_inj ha _ _ _ ha' (dl_sp _) (dl_sp _) e2
 simp only [List.cons.injEq,true_and] at e3
 have d:∀ zs:List Nd,Dl (formsOf zs++[41]):=by
  intro zs
  cases zs with
  | nil=>exact dl_cl _
  | cons z zs=>exact dl_forms z zs _
 obtain ⟨rfl,e4⟩:=term_inj hb _ _ _ hb' (d xs) (d ys) e3
 exact ⟨bytes_ext e1,rfl,rfl,e4⟩
theorem rel_tok {l:List UInt8} (h:l=[61]\/l=[60]\/l=[60,61]):l.all tokCh=true:=by
 rcases h with rfl | rfl | rfl <;> decide
theorem le_tok {l:List UInt8} (h:l=wLe):l.all tokCh=true:=by subst h;decide
theorem atom_form {x y:Nd} (hx:AtOk x) (hy:AtOk y) (e:formOf x=formOf y):x=y:=by
 cases hx with
 | two hw ha hb =>
  cases hy with
  | two hw' ha' hb' =>
   obtain ⟨rfl,rfl,rfl,_⟩:=atom_parts (rel_tok hw) (rel_tok hw') ha hb ha' hb' e
   rfl
  | le hw' ha' hb' _ _ =>
   obtain ⟨_,_,_,h⟩:=atom_parts (rel_tok hw) (le_tok hw') ha hb ha' hb' e
   simp [formsOf] at h
 | le hw ha hb h1 h2 =>
  cases hy with
  | two hw' ha' hb' =>
   obtain ⟨_,_,_,h⟩:=atom_parts (le_tok hw) (rel_tok hw') ha hb ha' hb' e
   simp [formsOf] at h
  | le hw' ha' hb' h3 h4 =>
   obtain ⟨rfl,rfl,rfl,h⟩:=atom_parts (le_tok hw) (le_tok hw') ha hb ha' hb' e
   simp only [formsOf,form_bound,List.cons_append,List.append_assoc,List.nil_append,List.cons.injEq,true_and] at h
   obtain ⟨e1,_⟩:=tok_split (itoa_tok h1 h2) (itoa_tok h3 h4) (dl_cl _) (dl_cl _) h
   rw [itoa_inj h1 h2 h3 h4 e1]
theorem term_subs {t:Nd} (h:TmOk t):∀ x∈subs true t,TmOk x:=by
 induction h with
 | num h1 h2 =>
  intro x hx
  simp [subs,subsAll,isIt] at hx
  subst hx
  exact .num h1 h2
 | app hw hl hp ih =>
  intro x hx
  simp only [subs,List.mem_append] at hx
  rcases hx with hx | hx
  ·simp [isIt] at hx
   subst hx
   exact .app hw hl hp
  ·obtain ⟨p,hp',hx⟩:=mem_subsAll.1 hx
   exact ih p hp' x hx
theorem term_atoms {t:Nd} (h:TmOk t):subs false t=[]:=by
 induction h with
 | num h1 h2=>simp [subs,subsAll,isIt]
 | @app w ps hw hl hp ih =>
  simp only [subs]
  rw [if_neg (by simp [isIt])]
  have:subsAll false ps=[]:=by
   clear hl hp
   induction ps with
   | nil=>rfl
   | cons p ps ih2=>rw [subsAll,ih p (by simp),ih2 (fun q hq=>ih q (List.mem_cons_of_mem _ hq))];rfl
  rw [this]
  rfl
theorem form_subs {f:Nd} (h:FmOk f):(∀ x∈subs true f,TmOk x)/\(∀ x∈subs false f,AtOk x):=by
 induction h with
 | truth _=>exact ⟨fun x hx=>by simp [subs,subsAll,isIt] at hx,fun x hx=>by simp [subs,subsAll,isIt] at hx⟩
 | con _ hp ih =>
  refine ⟨fun x hx=>?_,fun x hx=>?_⟩
  all_goals
   simp only [subs] at hx
   rw [if_neg (by simp [isIt])] at hx
   obtain ⟨p,hp',hx⟩:=mem_subsAll.1 (by simpa using hx)
  ·exact (ih p hp').1 x hx
  ·exact (ih p hp').2 x hx
 | two hw ha hb =>
  refine ⟨fun x hx=>?_,fun x hx=>?_⟩
  ·simp [subs,subsAll,isIt] at hx
   rcases hx with hx | hx
   ·exact term_subs ha x hx
   ·exact term_subs hb x hx
  ·simp [subs,subsAll,isIt,term_atoms ha,term_atoms hb] at hx
   subst hx
   exact .two hw ha hb
 | le hw ha hb h1 h2 =>
  refine ⟨fun x hx=>?_,fun x hx=>?_⟩
  ·simp [subs,subsAll,isIt] at hx
   rcases hx with hx | hx
   ·exact term_subs ha x hx
   ·exact term_subs hb x hx
  ·simp [subs,subsAll,isIt,term_atoms ha,term_atoms hb] at hx
   subst hx
   exact .le hw ha hb h1 h2
theorem term_few {x:Nd} (h:TmOk x) (t:Bool):(subs t x).length<=(formOf x).length:=by
 induction h with
 | @num v h1 h2 =>
  obtain ⟨c,l,e,_⟩:=itoa_head h1 h2
  rw [form_num,e]
  cases t <;> simp [subs,subsAll,isIt]
 | @app w ps hw hl hp ih =>
  have hs:(subsAll t ps).length<=(formsOf ps).length:=by
   clear hl hp
   induction ps with
   | nil=>simp [subsAll]
   | cons p ps ih2 =>
    have h1:=ih p (by simp)
    have h2:=ih2 (fun q hq=>ih q (List.mem_cons_of_mem _ hq))
    simp only [subsAll,formsOf,List.length_append,List.length_cons]
    omega
  obtain ⟨_,c,l,e,_⟩:=name_tok hw
  have h1:(subs t (.mk 3 w 0 ps)).length<=1+(subsAll t ps).length:=by
   simp only [subs,List.length_append]
   split <;> simp
  cases ps with
  | nil=>rw [form_name,e];simp [subsAll] at h1;simp;omega
  | cons p ps =>
   rw [form_app]
   simp only [List.length_cons,List.length_append] at *
   omega
theorem form_few {x:Nd} (h:FmOk x) (t:Bool):(subs t x).length<=(formOf x).length:=by
 induction h with
 | truth _=>cases t <;> simp [subs,subsAll,isIt]
 | @con w ps _ hp ih =>
  have hs:(subsAll t ps).length<=(formsOf ps).length:=by
   clear hp
   induction ps with
   | nil=>simp [subsAll]
   | cons p ps ih2 =>
    have h1:=ih p (by simp)
    have h2:=ih2 (fun q hq=>ih q (List.mem_cons_of_mem _ hq))
    simp only [subsAll,formsOf,List.length_append,List.length_cons]
    omega
  have h1:(subs t (.mk 1 w 0 ps)).length=(subsAll t ps).length:=by
   simp only [subs,List.length_append]
   cases t <;> simp [isIt]
  have h2:(formsOf ps).length<=(formOf (.mk 1 w 0 ps)).length:=by
   rw [formOf,if_pos (Or.inl rfl)]
   simp only [List.length_cons,List.length_append]
   omega
  omega
 | @two w a b hw ha hb =>
  have h1:=term_few ha t
  have h2:=term_few hb t
  have h3:(subs t (.mk 2 w 0 [a,b])).length<=1+(subs t a).length+(subs t b).length:=by
   simp only [subs,subsAll,List.length_append,List.length_nil]
   split <;> simp <;> omega
  rw [form_atom]
  simp only [formsOf,List.length_cons,List.length_append,List.length_nil]
  omega
 | @le w a b v hw ha hb _ _ =>
  have h1:=term_few ha t
  have h2:=term_few hb t
  have h3:(subs t (.mk 2 w 0 [a,b,.mk 5 ByteArray.empty v []])).length<=1+(subs t a).length+(subs t b).length:=by
   simp only [subs,subsAll,List.length_append,List.length_nil]
   rw [if_neg (c:=isIt t 5=true) (by cases t <;> decide)]
   split <;> simp <;> omega
  rw [form_atom]
  simp only [formsOf,List.length_cons,List.length_append,List.length_nil]
  omega
end Ar
namespace Ar
open Classical in
noncomputable def putN (T:List Nd) (x:Nd):List Nd:=if x∈T then T else T++[x]
theorem putN_in {T:List Nd} {x:Nd} (h:x∈T):putN T x=T:=by unfold putN;rw [if_pos h]
theorem putN_new {T:List Nd} {x:Nd} (h:¬x∈T):putN T x=T++[x]:=by unfold putN;rw [if_neg h]
theorem mem_putN {T:List Nd} {x y:Nd}:y∈putN T x↔y∈T\/y=x:=by
 by_cases h:x∈T
 ·rw [putN_in h]
  constructor
  ·exact .inl
  ·rintro (h' | rfl)
   ·exact h'
   ·exact h
 ·rw [putN_new h];simp
theorem putN_pre {T:List Nd} {x:Nd}:T <+: putN T x:=by
 by_cases h:x∈T
 ·rw [putN_in h]
  exact List.prefix_refl _
 ·rw [putN_new h]
  exact List.prefix_append _ _
theorem putN_nodup {T:List Nd} {x:Nd} (hT:T.Nodup):(putN T x).Nodup:=by
 by_cases h:x∈T
 ·rw [putN_in h];exact hT
 ·rw [putN_new h,List.nodup_append]
  refine ⟨hT,by simp,?_⟩
  intro a ha b hb e
  simp at hb
  subst hb e
  exact h ha
theorem putN_len {T:List Nd} {x:Nd}:(putN T x).length<=T.length+1:=by
 by_cases h:x∈T
 ·rw [putN_in h];omega
 ·rw [putN_new h];simp
mutual
noncomputable def addT:List Nd->Nd->List Nd
 | T,.mk k w v ps=>putN (addTs T ps) (.mk k w v ps)
noncomputable def addTs:List Nd->List Nd->List Nd
 | T,[]=>T
 | T,p :: ps=>addTs (addT T p) ps
end
theorem addTs_snoc (T:List Nd) (ps:List Nd) (p:Nd):addTs T (ps++[p])=addT (addTs T ps) p:=by
 induction ps generalizing T with
 | nil=>simp [addTs]
 | cons q qs ih=>simp [addTs,ih]
def parts:Nd->List Nd
 | .mk _ _ _ ps=>ps
def Cl (T:List Nd):Prop:=∀ (i:Nat) (x:Nd),T[i]?=some x->TmOk x/\∀ p∈parts x,p∈T.take i
theorem Cl.take {T:List Nd} (h:Cl T) (n:Nat):Cl (T.take n):=by
 intro i x hx
 have hi:=(List.getElem?_eq_some_iff.1 hx).1
 simp at hi
 rw [List.getElem?_take_of_lt (by omega)] at hx
 obtain ⟨h1,h2⟩:=h i x hx
 refine ⟨h1,fun p hp=>?_⟩
 rw [List.take_take,Nat.min_eq_left (by omega)]
 exact h2 p hp
theorem Cl.part {T:List Nd} (h:Cl T) {x p:Nd} (hx:x∈T) (hp:p∈parts x):p∈T:=by
 obtain ⟨i,hi⟩:=List.mem_iff_getElem?.1 hx
 exact List.mem_of_mem_take ((h i x hi).2 p hp)
theorem Cl.put {T:List Nd} (h:Cl T) {x:Nd} (hx:TmOk x) (hp:∀ p∈parts x,p∈T):Cl (putN T x):=by
 by_cases hin:x∈T
 ·rw [putN_in hin];exact h
 ·rw [putN_new hin]
  intro i y hy
  by_cases hi:i < T.length
  ·rw [List.getElem?_append_left hi] at hy
   obtain ⟨h1,h2⟩:=h i y hy
   refine ⟨h1,fun p hp'=>?_⟩
   rw [List.take_append_of_le_length (by omega)]
   exact h2 p hp'
  ·have hi2:=(List.getElem?_eq_some_iff.1 hy).1
   simp at hi2
   have:i=T.length:=by omega
   subst this
   rw [List.getElem?_append_right (Nat.le_refl _)] at hy
   simp at hy
   subst hy
   refine ⟨hx,fun p hp'=>?_⟩
   rw [List.take_append_of_le_length (Nat.le_refl _),List.take_of_length_le (Nat.le_refl _)]
   exact hp p hp'
structure Adds (T T':List Nd) (xs:List Nd):Prop where
 pre:T <+: T'
 nd:T.Nodup->T'.Nodup
 cl:Cl T->Cl T'
 mem:∀ y,y∈T'↔y∈T\/y∈xs
 len:T'.length<=T.length+xs.length
theorem Adds.trans {T T' T'':List Nd} {xs ys:List Nd} (h:Adds T T' xs) (k:Adds T' T'' ys):Adds T T'' (xs++ys) :=
 ⟨h.pre.trans k.pre,fun hn=>k.nd (h.nd hn),fun hc=>k.cl (h.cl hc),fun y=>by rw [k.mem,h.mem];simp [or_assoc],by rw [List.length_append];have:=h.len;have:=k.len;omega⟩
theorem Adds.refl (T:List Nd):Adds T T []:=⟨List.prefix_refl _,id,id,fun y=>by simp,by simp⟩
theorem adds_term {x:Nd} (h:TmOk x):∀ T,∃ xs,Adds T (addT T x) xs/\(∀ y,y∈xs↔y∈subs true x)/\xs.length=(subs true x).length:=by
 induction h with
 | @num v h1 h2 =>
  intro T
  refine ⟨[.mk 4 ByteArray.empty v []],⟨putN_pre,putN_nodup,fun hc=>?_,fun y=>?_,?_⟩,fun y=>by simp [subs,subsAll,isIt],by simp [subs,subsAll,isIt]⟩
  ·simp only [addT,addTs]
   exact hc.put (.num h1 h2) (fun p hp=>absurd hp (by simp [parts]))
  ·simp only [addT,addTs,mem_putN,List.mem_singleton]
  ·simp only [addT,addTs];exact putN_len
 | @app w ps hw hl hp ih =>
  intro T
  have hs:∀ (qs:List Nd),(∀ q∈qs,q∈ps)->∀ T,∃ xs,Adds T (addTs T qs) xs/\(∀ y,y∈xs↔y∈subsAll true qs)/\xs.length=(subsAll true qs).length:=by
   intro qs
   induction qs with
   | nil=>intro _ T;exact ⟨[],Adds.refl T,fun y=>by simp [subsAll],rfl⟩
   | cons q qs ih2 =>
    intro hq T
    obtain ⟨xs,h1,h2,h3⟩:=ih q (hq q (by simp)) T
    obtain ⟨ys,k1,k2,k3⟩:=ih2 (fun r hr=>hq r (List.mem_cons_of_mem _ hr)) (addT T q)
    exact ⟨xs++ys,h1.trans k1,fun y=>by simp only [subsAll,List.mem_append,h2,k2],by simp only [subsAll,List.length_append,h3,k3]⟩
  obtain ⟨xs,h1,h2,h3⟩:=hs ps (fun q hq=>hq) T
  have hself:∀ p∈ps,p∈subs true p:=by
   intro p hp'
   have hk:=hp p hp'
   cases hk <;> simp [subs,isIt]
  refine ⟨xs++[.mk 3 w 0 ps],⟨?_,?_,?_,?_,?_⟩,?_,?_⟩
  ·simp only [addT];exact h1.pre.trans putN_pre
  ·intro hn;simp only [addT];exact putN_nodup (h1.nd hn)
  ·intro hc
   simp only [addT]
   refine (h1.cl hc).put (.app hw hl hp) (fun p hp'=>?_)
   rw [h1.mem,h2,mem_subsAll]
   exact .inr ⟨p,hp',hself p hp'⟩
  ·intro y
   simp only [addT,mem_putN,h1.mem,List.mem_append,List.mem_singleton,or_assoc]
  ·simp only [addT,List.length_append]
   have:=putN_len (T:=addTs T ps) (x:=.mk 3 w 0 ps)
   have:=h1.len
   simp
   omega
  ·intro y
   simp only [List.mem_append,List.mem_singleton,h2,subs]
   rw [if_pos (by simp [isIt])]
   simp [or_comm]
  ·simp only [subs,List.length_append,h3]
   rw [if_pos (by simp [isIt])]
   simp
   omega
theorem addT_self (T:List Nd) (x:Nd):x∈addT T x:=by
 cases x
 simp only [addT,mem_putN]
 exact .inr trivial
/-! ### Where a tree stands -/
open Classical in
noncomputable def idx (T:List Nd) (x:Nd):Nat:=T.findIdx (fun y=>decide (y=x))
open Classical in
theorem idx_get {T:List Nd} {x:Nd} (h:x∈T):T[idx T x]?=some x:=by
 have hl:idx T x < T.length:=List.findIdx_lt_length_of_exists ⟨x,h,by simp⟩
 have h1:=List.findIdx_getElem (w:=hl)
 rw [List.getElem?_eq_getElem hl]
 have h2:T[idx T x]=x:=of_decide_eq_true h1
 exact congrArg some h2
theorem idx_at {T:List Nd} (hT:T.Nodup) {x:Nd} {i:Nat} (h:T[i]?=some x):idx T x=i:=by
 have h1:=idx_get (List.mem_of_getElem? h)
 obtain ⟨hi,e1⟩:=List.getElem?_eq_some_iff.1 h
 obtain ⟨hj,e2⟩:=List.getElem?_eq_some_iff.1 h1
 have hp:=List.pairwise_iff_getElem.1 hT
 rcases Nat.lt_trichotomy (idx T x) i with hlt | heq | hgt
 ·exact absurd (e2.trans e1.symm) (hp _ _ hj hi hlt)
 ·exact heq
 ·exact absurd (e1.trans e2.symm) (hp _ _ hi hj hgt)
theorem idx_pre {T T':List Nd} (h:T <+: T') {x:Nd} (hx:x∈T):idx T' x=idx T x:=by
 obtain ⟨r,rfl⟩:=h
 unfold idx
 rw [List.findIdx_append,if_pos (List.findIdx_lt_length_of_exists ⟨x,hx,by simp⟩)]
theorem idx_inj {T:List Nd} {x y:Nd} (hx:x∈T) (hy:y∈T) (h:idx T x=idx T y):x=y:=by
 have h1:=idx_get hx
 rw [h,idx_get hy] at h1
 exact (Option.some.inj h1).symm
end Ar
namespace Ar
abbrev Itp:=List UInt8->List Int->Int
mutual
def tval (I:Itp):Nd->Int
 | .mk k w v ps=>if k=4 then v else I w.toList (tvals I ps)
def tvals (I:Itp):List Nd->List Int
 | []=>[]
 | p :: ps=>tval I p :: tvals I ps
end
theorem tvals_map (I:Itp) (ps:List Nd):tvals I ps=ps.map (tval I):=by
 induction ps with
 | nil=>rfl
 | cons p ps ih=>simp [tvals,ih]
def relB (w:List UInt8) (a b c:Int):Bool :=
 if w=[61] then decide (a=b) else if w=[60] then decide (a < b) else if w=[60,61] then decide (a<=b) else decide (a<=b+c)
def bnd:List Nd->Int
 | [.mk _ _ c _]=>c
 | _=>0
def atomB (val:Nd->Int):Nd->Bool
 | .mk _ w _ (a :: b :: r)=>relB w.toList (val a) (val b) (bnd r)
 | _=>false
def con (w:List UInt8) (bs:List Bool):Bool :=
 if w=wNot then !(bs.getD 0 false) else if w=[61,62] then !(bs.getD 0 false) || bs.getD 1 false else if w=wIff then bs.getD 0 false == bs.getD 1 false
 else if w=wOr then bs.any id else bs.all id
mutual
def ftr (α:Nd->Bool):Nd->Bool
 | .mk k w v ps=>if k=2 then α (.mk k w v ps) else if k=0 then decide (w.toList=wTrue) else con w.toList (ftrs α ps)
def ftrs (α:Nd->Bool):List Nd->List Bool
 | []=>[]
 | p :: ps=>ftr α p :: ftrs α ps
end
theorem ftrs_map (α:Nd->Bool) (ps:List Nd):ftrs α ps=ps.map (ftr α):=by
 induction ps with
 | nil=>rfl
 | cons p ps ih=>simp [ftrs,ih]
def Sat (L:List Nd):Prop:=∃ I,∀ f∈L,ftr (atomB (tval I)) f=true
structure Good (T:List Nd) (v:Nd->Int):Prop where
 num:∀ n,.mk 4 ByteArray.empty n []∈T->v (.mk 4 ByteArray.empty n [])=n
 fn:∀ w ps qs,.mk 3 w 0 ps∈T->.mk 3 w 0 qs∈T->ps.map v=qs.map v->v (.mk 3 w 0 ps)=v (.mk 3 w 0 qs)
theorem bytes_eq {a b:ByteArray} (h:a.toList=b.toList):a=b:=by
 rw [ByteArray.toList_eq,ByteArray.toList_eq] at h
 cases a;cases b
 simp at h
 rw [h]
theorem good_of (I:Itp) (T:List Nd):Good T (tval I) :=
 ⟨fun n _=>by simp [tval],fun w ps qs _ _ h=>by simp only [tval,tvals_map];rw [h]⟩
open Classical in
noncomputable def itpOf (T:List Nd) (v:Nd->Int):Itp:=fun w as =>
 if h:∃ x:ByteArray × List Nd,.mk 3 x.1 0 x.2∈T/\x.1.toList=w/\x.2.map v=as then v (.mk 3 h.choose.1 0 h.choose.2) else 0
theorem itp_val {T:List Nd} {v:Nd->Int} (hg:Good T v) (hc:∀ x∈T,∀ p∈parts x,p∈T) {x:Nd} (hx:TmOk x):x∈T->tval (itpOf T v) x=v x:=by
 induction hx with
 | @num n _ _=>intro h;rw [hg.num n h];simp [tval]
 | @app w ps hw hl hp ih =>
  intro h
  have e:tvals (itpOf T v) ps=ps.map v:=by
   rw [tvals_map]
   exact List.map_congr_left fun p hp'=>ih p hp' (hc _ h p hp')
  simp only [tval]
  rw [if_neg (by decide),e]
  have hex:∃ x:ByteArray × List Nd,Nd.mk 3 x.1 0 x.2∈T/\x.1.toList=w.toList/\x.2.map v=ps.map v:=⟨(w,ps),h,rfl,rfl⟩
  unfold itpOf
  rw [dif_pos hex]
  have hs:=hex.choose_spec
  have hw':hex.choose.1=w:=bytes_eq hs.2.1
  have h1:=hs.1
  rw [hw'] at h1 ⊢
  exact hg.fn w _ _ h1 h hs.2.2
theorem atom_congr {u v:Nd->Int} {x:Nd} (h:∀ p∈(parts x).take 2,u p=v p):atomB u x=atomB v x:=by
 cases x with
 | mk k w n ps =>
  match ps,h with
  | [],_=>rfl
  | [_],_=>rfl
  | a :: b :: r,h =>
   have ha:=h a (by simp [parts])
   have hb:=h b (by simp [parts])
   simp only [atomB]
   rw [ha,hb]
theorem ftr_congr {α β:Nd->Bool} {f:Nd} (hf:FmOk f):(∀ x∈subs false f,α x = β x)->ftr α f=ftr β f:=by
 induction hf with
 | truth _=>intro _;simp [ftr]
 | @con w ps _ hp ih =>
  intro h
  simp only [ftr,ftrs_map]
  rw [if_neg (by decide),if_neg (by decide),if_neg (by decide),if_neg (by decide)]
  congr 1
  refine List.map_congr_left fun p hp'=>ih p hp' fun x hx=>h x ?_
  simp only [subs]
  exact List.mem_append_right _ (mem_subsAll.2 ⟨p,hp',hx⟩)
 | two hw ha hb=>intro h;simp only [ftr,if_pos];exact h _ (by simp [subs,isIt])
 | le hw ha hb h1 h2=>intro h;simp only [ftr,if_pos];exact h _ (by simp [subs,isIt])
end Ar
namespace Ar
def wImp:List UInt8:=[61,62]
inductive FmW:Nd->Prop
 | truth {w:ByteArray} (hw:w.toList=wTrue\/w.toList=wFalse):FmW (.mk 0 w 0 [])
 | neg {w:ByteArray} {p:Nd} (hw:w.toList=wNot) (hp:FmW p):FmW (.mk 1 w 0 [p])
 | imp {w:ByteArray} {p q:Nd} (hw:w.toList=wImp\/w.toList=wIff) (hp:FmW p) (hq:FmW q):FmW (.mk 1 w 0 [p,q])
 | many {w:ByteArray} {ps:List Nd} (hw:w.toList=wAnd\/w.toList=wOr) (hp:∀ p∈ps,FmW p):FmW (.mk 1 w 0 ps)
 | two {w:ByteArray} {a b:Nd} (hw:w.toList=[61]\/w.toList=[60]\/w.toList=[60,61]) (ha:TmOk a) (hb:TmOk b):FmW (.mk 2 w 0 [a,b])
 | le {w:ByteArray} {a b:Nd} {v:Int} (hw:w.toList=wLe) (ha:TmOk a) (hb:TmOk b) (h1 : -1000<=v) (h2:v<=1000):FmW (.mk 2 w 0 [a,b,.mk 5 ByteArray.empty v []])
theorem FmW.ok {f:Nd} (h:FmW f):FmOk f:=by
 induction h with
 | truth hw=>exact .truth (by rcases hw with hw | hw <;> (rw [hw];decide))
 | neg hw _ ih=>exact .con (by rw [hw];decide) (fun p hp=>by simp at hp;subst hp;exact ih)
 | imp hw _ _ ih1 ih2=>exact .con (by rcases hw with hw | hw <;> (rw [hw];decide)) (fun p hp=>by simp at hp;rcases hp with rfl | rfl;exact ih1;exact ih2)
 | many hw _ ih=>exact .con (by rcases hw with hw | hw <;> (rw [hw];decide)) ih
 | two hw ha hb=>exact .two hw ha hb
 | le hw ha hb h1 h2=>exact .le hw ha hb h1 h2
theorem hd_cases2 {l:List UInt8} {ks:Int × Int} (h:hdOf l=some ks):(ks=(1,0)/\l=wNot)\/(ks=(1,1)/\(l=wImp\/l=wIff))\/(ks=(1,2)/\(l=wAnd\/l=wOr))\/(ks=(2,3)/\(l=[61]\/l=[60]\/l=[60,61]))\/(ks=(2,4)/\l=wLe):=by
 unfold hdOf at h
 repeat' (split at h)
 all_goals first | (simp at h;done) | (simp only [Option.some.injEq] at h;subst h)
 ·exact .inl ⟨rfl,‹_›⟩
 ·exact .inr (.inr (.inl ⟨rfl,.inl ‹_›⟩))
 ·exact .inr (.inr (.inl ⟨rfl,.inr ‹_›⟩))
 ·exact .inr (.inl ⟨rfl,.inl ‹_›⟩)
 ·exact .inr (.inl ⟨rfl,.inr ‹_›⟩)
 ·exact .inr (.inr (.inr (.inl ⟨rfl,.inl ‹_›⟩)))
 ·exact .inr (.inr (.inr (.inl ⟨rfl,.inr (.inl ‹_›)⟩)))
 ·exact .inr (.inr (.inr (.inl ⟨rfl,.inr (.inr ‹_›)⟩)))
 ·exact .inr (.inr (.inr (.inr ⟨rfl,‹_›⟩)))
theorem form_strict {N:List Nm} (hN:FewAr N) (n:Nat):∀ d ts nd ts',rdForm N n d ts=.ok nd ts'->FmW nd:=by
 induction n with
 | zero=>intro d ts nd ts' e;exact absurd e (by simp [rdForm])
 | succ n ih =>
  intro d ts nd ts' e
  cases ts with
  | nil=>exact absurd e (by simp [rdForm])
  | cons t ts =>
   unfold rdForm at e
   split at e
   ·split at e
    ·exact absurd e (by simp)
    ·split at e
     ·exact absurd e (by simp)
     ·rename_i u us
      split at e
      ·exact absurd e (by simp)
      ·rename_i ks hks
       obtain ⟨ps,vs,hr,rfl⟩:=closes_ok e
       have hT:=term_shape hN n (d+1)
       have hF:=ih (d+1)
       rcases hd_cases2 hks with ⟨rfl,hw⟩ | ⟨rfl,hw⟩ | ⟨rfl,hw⟩ | ⟨rfl,hw⟩ | ⟨rfl,hw⟩
       ·obtain ⟨h1,h2⟩:=row_all [_] (fun f hf=>by simp at hf;subst hf;exact hF) us ps vs hr
        match ps,h1,h2 with
        | [p],h1,_=>exact .neg hw (h1 p (by simp))
       ·obtain ⟨a,b,rfl,ha,hb⟩:=row2 hF hF (ts:=us) hr
        exact .imp hw ha hb
       ·exact .many hw (upTo_all hF _ us ps vs hr)
       ·obtain ⟨a,b,rfl,ha,hb⟩:=row2 hT hT (ts:=us) hr
        exact .two hw ha hb
       ·obtain ⟨a,b,c,rfl,ha,hb,hc⟩:=row3 (R:=fun nd=>∃ v,nd=.mk 5 ByteArray.empty v [] /\ -1000<=v/\v<=1000) hT hT (fun ts nd ts' e=>num_ok e) (ts:=us) hr
        obtain ⟨v,rfl,h1,h2⟩:=hc
        exact .le hw ha hb h1 h2
   ·split at e
    ·rename_i hw
     simp only [Rs.ok.injEq] at e
     obtain ⟨rfl,rfl⟩:=e
     exact .truth hw
    ·exact absurd e (by simp)
end Ar
namespace Ar
structure At where
 wd:List UInt8
 i:Nat
 j:Nat
 b:Int
def At.tr (x:At) (v:Nat->Int):Bool:=relB x.wd (v x.i) (v x.j) x.b
def At.Ok (x:At):Prop:=(x.wd=[61]\/x.wd=[60]\/x.wd=[60,61]\/x.wd=wLe)/\(x.wd ≠ wLe->x.b=0)
def At.ex (x:At):Int:=if x.wd=[60] then -1 else x.b
theorem At.tr_eq {x:At} (v:Nat->Int) (h:x.wd=[61]):x.tr v=decide (v x.i=v x.j):=by
 unfold At.tr relB;rw [if_pos h]
theorem wLe_ne:wLe ≠ [61]/\wLe ≠ [60]/\wLe ≠ [60,61]:=by decide
theorem At.tr_ex {x:At} (v:Nat->Int) (ho:x.Ok) (h:x.wd ≠ [61]):x.tr v=decide (v x.i - v x.j<=x.ex):=by
 unfold At.tr relB At.ex
 rw [if_neg h]
 obtain ⟨h1,h2⟩:=ho
 rcases h1 with e | e | e | e
 ·exact absurd e h
 ·rw [if_pos e,if_pos e]
  rw [decide_eq_decide];omega
 ·have hb:=h2 (by rw [e];exact fun q=>wLe_ne.2.2 q.symm)
  rw [if_neg (by rw [e];decide),if_pos e,if_neg (by rw [e];decide)]
  rw [decide_eq_decide];omega
 ·rw [if_neg (by rw [e];exact wLe_ne.2.1),if_neg (by rw [e];exact wLe_ne.2.2),if_neg (by rw [e];exact wLe_ne.2.1)]
  rw [decide_eq_decide];omega
structure Fx where
 n:Nat
 num:Nat->Option Int
 tw:List (Nat × Nat)
 prs:Nat × Nat->List (Nat × Nat)
 far:Int
structure Fx.V (F:Fx) (v:Nat->Int):Prop where
 zero:v F.n=0
 num:∀ i x,i < F.n->F.num i=some x->v i=x
 fn:∀ p∈F.tw,(∀ q∈F.prs p,v q.1=v q.2)->v p.1=v p.2
 near:∀ i j,i<=F.n->j<=F.n->v i - v j<=F.far
def Fx.Ok (F:Fx):Prop:=∀ p∈F.tw,(p.1 < F.n/\p.2 < F.n)/\∀ q∈F.prs p,q.1 < F.n/\q.2 < F.n
def HA (As:List (At × Bool)) (k:Nat) (v:Nat->Int):Prop:=∀ x,As[k]?=some x->x.1.tr v=x.2
theorem HA.app {As Bs:List (At × Bool)} {k:Nat} (hk:k < As.length) (v:Nat->Int):HA (As++Bs) k v↔HA As k v:=by
 unfold HA
 rw [List.getElem?_append_left hk]
def Taken (T:Tb) (x:At × Bool):Prop :=
 if x.1.wd=[61] then (x.2=true->T.by_ x.1.i x.1.j<=0/\T.by_ x.1.j x.1.i<=0)
 else if x.2=true then T.by_ x.1.i x.1.j<=x.1.ex else T.by_ x.1.j x.1.i <= -x.1.ex - 1
theorem Taken.le {n:Nat} {T T':Tb} {x:At × Bool} (h:Taken T x) (hl:TLe n T' T) (hi:x.1.i < n) (hj:x.1.j < n):Taken T' x:=by
 have h1:=hl x.1.i x.1.j hi hj
 have h2:=hl x.1.j x.1.i hj hi
 unfold Taken at h ⊢
 split
 ·rename_i e
  rw [if_pos e] at h
  intro e2
  have:=h e2
  omega
 ·rename_i e
  rw [if_neg e] at h
  split
  ·rename_i e2;rw [if_pos e2] at h;omega
  ·rename_i e2;rw [if_neg e2] at h;omega
def Parted (T:Tb) (x:At × Bool):Prop:=x.1.wd=[61]->x.2=false->T.by_ x.1.i x.1.j ≠ 0/\T.by_ x.1.j x.1.i ≠ 0
def Mapped (F:Fx) (T:Tb) (p:Nat × Nat):Prop:=(∀ q∈F.prs p,T.by_ q.1 q.2<=0/\T.by_ q.2 q.1<=0)->T.by_ p.1 p.2<=0/\T.by_ p.2 p.1<=0
def Nums (F:Fx) (T:Tb):Prop:=∀ i x,i < F.n->F.num i=some x->T.by_ i F.n<=x/\T.by_ F.n i <= -x
theorem Nums.le {F:Fx} {T T':Tb} (h:Nums F T) (hl:TLe (F.n+1) T' T):Nums F T':=fun i x hi e=>by
 have:=h i x hi e
 have:=hl i F.n (by omega) (by omega)
 have:=hl F.n i (by omega) (by omega)
 omega
def gr (F:Fx) (T:Tb) (i:Nat):Int:=T.by_ i F.n
theorem gr_le {F:Fx} {H:Nat->(Nat->Int)->Prop} {K:Nat} {T:Tb} (h:TInv (F.n+1) F.far F.V H K T) {i j:Nat} (hi:i<=F.n) (hj:j<=F.n):gr F T i - gr F T j<=T.by_ i j:=by
 have:=h.tri i j F.n (by omega) (by omega) (by omega)
 unfold gr
 omega
theorem gr_fits {F:Fx} {As:List (At × Bool)} {K:Nat} {T:Tb} (h:TInv (F.n+1) F.far F.V (HA As) K T) (hn:Nums F T) (hF:F.Ok) (hm:∀ p∈F.tw,Mapped F T p)
  (htw:∀ p∈F.tw,gr F T p.1=gr F T p.2\/(∃ q∈F.prs p,gr F T q.1 ≠ gr F T q.2)\/(∀ q∈F.prs p,T.by_ q.1 q.2<=0/\T.by_ q.2 q.1<=0)):F.V (gr F T):=by
 refine ⟨h.diag F.n (by omega),fun i x hi e=>?_,fun p hp hq=>?_,fun i j hi hj=>?_⟩
 ·have h1:=hn i x hi e
  have h2:=h.tri i F.n i (by omega) (by omega) (by omega)
  have h3:=h.diag i (by omega)
  unfold gr
  omega
 ·rcases htw p hp with e | ⟨q,hq1,hq2⟩ | e
  ·exact e
  ·exact absurd (hq q hq1) hq2
  ·have h1:=hm p hp e
   have h2:=(hF p hp).1
   have h3:=gr_le h (i:=p.1) (j:=p.2) (by omega) (by omega)
   have h4:=gr_le h (i:=p.2) (j:=p.1) (by omega) (by omega)
   omega
 ·have h1:=gr_le h hi hj
  have h2:=h.hi i j (by omega) (by omega)
  omega
theorem against {F:Fx} {As:List (At × Bool)} {K:Nat} {T:Tb} (h:TInv (F.n+1) F.far F.V (HA As) K T) {x:At × Bool} (ho:x.1.Ok) (hi:x.1.i < F.n) (hj:x.1.j < F.n) (ht:Taken T x) (hp:Parted T x) (hx:x.1.tr (gr F T) ≠ x.2) :
  gr F T x.1.i=gr F T x.1.j/\(0 < T.by_ x.1.i x.1.j\/0 < T.by_ x.1.j x.1.i):=by
 have g1:=gr_le h (i:=x.1.i) (j:=x.1.j) (by omega) (by omega)
 have g2:=gr_le h (i:=x.1.j) (j:=x.1.i) (by omega) (by omega)
 by_cases e:x.1.wd=[61]
 ·rw [At.tr_eq _ e] at hx
  unfold Taken at ht
  rw [if_pos e] at ht
  cases e2:x.2 with
  | true =>
   rw [e2] at hx
   have:=ht e2
   exact absurd (decide_eq_true (by omega)) hx
  | false =>
   rw [e2] at hx
   have h1:=hp e e2
   have h2:=h.tri x.1.i x.1.j x.1.i (by omega) (by omega) (by omega)
   have h3:=h.diag x.1.i (by omega)
   refine ⟨by simpa using hx,?_⟩
   omega
 ·rw [At.tr_ex _ ho e] at hx
  unfold Taken at ht
  rw [if_neg e] at ht
  cases e2:x.2 with
  | true =>
   rw [e2] at hx
   rw [if_pos e2] at ht
   exact absurd (decide_eq_true (by omega)) hx
  | false =>
   rw [e2] at hx
   rw [if_neg (by rw [e2];decide)] at ht
   exact absurd (decide_eq_false (by omega)) hx
theorem fresh {F:Fx} {As:List (At × Bool)} {K:Nat} {T:Tb} (h:TInv (F.n+1) F.far F.V (HA As) K T) (ht:∀ x∈As,Taken T x) {o p:Nat} (ho:o < F.n) (hp:p < F.n) (hg:gr F T o=gr F T p) (hb:0 < T.by_ p o) (yes:Bool):((⟨[60],o,p,0⟩:At),yes) ∉ As/\o ≠ p:=by
 constructor
 ·intro hm
  have h1:=ht _ hm
  unfold Taken at h1
  rw [if_neg (by simp)] at h1
  have g1:=gr_le h (i:=o) (j:=p) (by omega) (by omega)
  cases yes with
  | true =>
   simp [At.ex] at h1
   omega
  | false =>
   simp [At.ex] at h1
   omega
 ·rintro rfl
  have:=h.diag o (by omega)
  omega
theorem taken_yes {x:At} {v:Nat->Int} (ho:x.Ok) (e:x.wd ≠ [61]) (h:x.tr v=true):v x.i - v x.j<=x.ex:=by
 rw [At.tr_ex _ ho e] at h
 simpa using h
theorem taken_no {x:At} {v:Nat->Int} (ho:x.Ok) (e:x.wd ≠ [61]) (h:x.tr v=false):v x.j - v x.i <= -x.ex - 1:=by
 rw [At.tr_ex _ ho e] at h
 have:¬(v x.i - v x.j<=x.ex):=by simpa using h
 omega
end Ar
end Go.Proofs.YtegbdaffhpiacaaGreatDoor

namespace Go.Proofs.YtegbdaffhpiacaaGreatDoor
namespace Ar
theorem sum_add (f:Nat->Nat) (n:Nat):∀ k,sumTo f (n+k)=sumTo f n+sumTo (fun i=>f (n+i)) k
 | 0=>rfl
 | k+1=>by
  have:=sum_add f n k
  show sumTo f (n+k)+f (n+k)=_
  simp only [sumTo]
  omega
theorem sum_plus (f g:Nat->Nat):∀ n,sumTo (fun i=>f i+g i) n=sumTo f n+sumTo g n
 | 0=>rfl
 | n+1=>by have:=sum_plus f g n;simp only [sumTo];omega
theorem sum_ones (f:Nat->Nat):∀ n,(∀ i,i < n->f i=1)->sumTo f n=n
 | 0,_=>rfl
 | n+1,h=>by have:=sum_ones f n (fun i hi=>h i (by omega));have:=h n (by omega);simp only [sumTo];omega
theorem sum_zero (f:Nat->Nat):∀ n,(∀ i,i < n->f i=0)->sumTo f n=0
 | 0,_=>rfl
 | n+1,h=>by have:=sum_zero f n (fun i hi=>h i (by omega));have:=h n (by omega);simp only [sumTo];omega
theorem sum_cap (f:Nat->Nat) (h1:∀ i,f i<=1):∀ n,sumTo f n<=n
 | 0=>Nat.le_refl _
 | n+1=>by have:=sum_cap f h1 n;have:=h1 n;simp only [sumTo];omega
def reach (G:Nat) (s y:Int):Nat:=if s < y/\y<=s+G then 1 else 0
def reachAny (G:Nat) (S:List Int) (y:Int):Nat:=if S.any (fun s=>decide (s < y/\y<=s+G))=true then 1 else 0
def reachSum (G:Nat):List Int->Int->Nat
 | [],_=>0
 | s :: S,y=>reach G s y+reachSum G S y
variable {G:Nat}
theorem reach_le (s y:Int):reach G s y<=1:=by unfold reach;split <;> omega
theorem any_le_sum (S:List Int) (y:Int):reachAny G S y<=reachSum G S y:=by
 induction S with
 | nil=>simp [reachAny,reachSum]
 | cons s S ih =>
  simp only [reachSum]
  by_cases h:s < y/\y<=s+G
  ·have:reach G s y=1:=by unfold reach;rw [if_pos h]
   have:reachAny G (s :: S) y<=1:=by unfold reachAny;split <;> omega
   omega
  ·have h1:reachAny G (s :: S) y=reachAny G S y:=by unfold reachAny;simp [h]
   omega
theorem reach_sum (s m:Int) (n:Nat):sumTo (fun i=>reach G s (m+1+i)) n<=G:=by
 by_cases h:s < m
 ·-- the reach begins below: those up to s+G
  obtain ⟨k,hk⟩:∃ k:Nat,(k:Int)=max 0 (s+G - m):=⟨(max 0 (s+G - m)).toNat,by omega⟩
  have hkb:k<=G:=by omega
  by_cases hn:n<=k
  ·have:=sum_cap (fun i=>reach G s (m+1+i)) (fun i=>reach_le _ _) n
   omega
  ·obtain ⟨r,hr⟩:∃ r,n=k+r:=⟨n - k,by omega⟩
   rw [hr,sum_add]
   have h1:=sum_cap (fun i=>reach G s (m+1+i)) (fun i=>reach_le _ _) k
   have h2:=sum_zero (fun i=>reach G s (m+1+((k+i:Nat):Int))) r (fun i _=>by unfold reach;rw [if_neg (by omega)])
   omega
 ·obtain ⟨d,hd⟩:∃ d:Nat,(d:Int)=s - m:=⟨(s - m).toNat,by omega⟩
  by_cases hn:n<=d
  ·have:=sum_zero (fun i=>reach G s (m+1+i)) n (fun i hi=>by unfold reach;rw [if_neg (by omega)])
   omega
  ·obtain ⟨r,hr⟩:∃ r,n=d+r:=⟨n - d,by omega⟩
   rw [hr,sum_add]
   have h1:=sum_zero (fun i=>reach G s (m+1+i)) d (fun i hi=>by unfold reach;rw [if_neg (by omega)])
   have h3:sumTo (fun i=>reach G s (m+1+((d+i:Nat):Int))) r<=G:=by
    by_cases hr2:r<=G
    ·have:=sum_cap (fun i=>reach G s (m+1+((d+i:Nat):Int))) (fun i=>reach_le _ _) r
     omega
    ·obtain ⟨q,hq⟩:∃ q,r=G+q:=⟨r - G,by omega⟩
     rw [hq,sum_add]
     have h4:=sum_cap (fun i=>reach G s (m+1+((d+i:Nat):Int))) (fun i=>reach_le _ _) G
     have h5:=sum_zero (fun i=>reach G s (m+1+((d+(G+i):Nat):Int))) q (fun i _=>by unfold reach;rw [if_neg (by omega)])
     omega
   omega
theorem reach_all (m:Int) (n:Nat):∀ S:List Int,sumTo (fun i=>reachSum G S (m+1+i)) n<=G * S.length
 | []=>by simp only [reachSum];rw [sum_zero _ _ (fun _ _=>rfl)];omega
 | s :: S=>by
  have h1:=reach_all m n S
  have h2:=reach_sum (G:=G) s m n
  have h3:=sum_plus (fun i=>reach G s (m+1+i)) (fun i=>reachSum G S (m+1+i)) n
  have h4:sumTo (fun i=>reachSum G (s :: S) (m+1+i)) n=sumTo (fun i=>reach G s (m+1+i)+reachSum G S (m+1+i)) n:=rfl
  rw [h4,h3,List.length_cons,Nat.mul_succ]
  omega
theorem reachSum_erase {S:List Int} {M y:Int} (hM:M∈S) (hy:y<=M):reachSum G S y=reachSum G (S.erase M) y:=by
 induction S with
 | nil=>simp at hM
 | cons s S ih =>
  by_cases e:s=M
  ·subst e
   rw [List.erase_cons_head]
   simp only [reachSum]
   have:reach G s y=0:=by unfold reach;rw [if_neg (by omega)]
   omega
  ·rw [List.erase_cons_tail (by simpa using e)]
   simp only [reachSum]
   rw [ih ((List.mem_cons.1 hM).resolve_left (fun h=>e h.symm))]
def near (G:Nat) (S:List Int) (m x:Int):Int:=(sumTo (fun i=>reachAny G S (m+1+i)) (x - m).toNat:Nat)
theorem near_step {S:List Int} {m a b:Int} (hm:m<=a) (hab:a<=b):near G S m b - near G S m a=(sumTo (fun i=>reachAny G S (a+1+i)) (b - a).toNat:Nat):=by
 unfold near
 obtain ⟨p,hp⟩:∃ p:Nat,(p:Int)=a - m:=⟨(a - m).toNat,by omega⟩
 obtain ⟨k,hk⟩:∃ k:Nat,(k:Int)=b - a:=⟨(b - a).toNat,by omega⟩
 rw [show (b - m).toNat=p+k by omega,show (a - m).toNat=p by omega,show (b - a).toNat=k by omega,sum_add]
 have:(fun i:Nat=>reachAny G S (m+1+((p+i:Nat):Int)))=(fun i:Nat=>reachAny G S (a+1+(i:Int))):=by
  funext i
  congr 1
  omega
 rw [this]
 omega
theorem near_close {S:List Int} {m a b:Int} (ha:a∈S) (hm:m<=a) (hab:a<=b):(b - a<=G->near G S m b - near G S m a=b - a)/\(G<=b - a->G<=near G S m b - near G S m a):=by
 have h1:∀ i:Nat,i < G->reachAny G S (a+1+i)=1:=by
  intro i hi
  unfold reachAny
  rw [if_pos]
  exact List.any_eq_true.2 ⟨a,ha,by simp;omega⟩
 rw [near_step hm hab]
 constructor
 ·intro h
  rw [sum_ones _ _ (fun i hi=>h1 i (by omega))]
  omega
 ·intro h
  obtain ⟨q,hq⟩:∃ q:Nat,(b - a).toNat=G+q:=⟨(b - a).toNat - G,by omega⟩
  rw [hq,sum_add,sum_ones _ _ (fun i hi=>h1 i hi)]
  omega
theorem near_span {S:List Int} {m M:Int} (hM:M∈S) {x:Int} (hx:x<=M):0<=near G S m x/\near G S m x<=((G * (S.length - 1):Nat):Int):=by
 refine ⟨by unfold near;omega,?_⟩
 unfold near
 have h1:sumTo (fun i=>reachAny G S (m+1+i)) (x - m).toNat<=sumTo (fun i=>reachSum G (S.erase M) (m+1+i)) (x - m).toNat:=by
  refine sum_le fun i hi=>?_
  rw [<- reachSum_erase hM (by omega)]
  exact any_le_sum _ _
 have h2:=reach_all (G:=G) m (x - m).toNat (S.erase M)
 rw [List.length_erase_of_mem hM] at h2
 omega
theorem least_of {S:List Int} (h:S ≠ []):∃ m∈S,∀ s∈S,m<=s:=by
 induction S with
 | nil=>exact absurd rfl h
 | cons s S ih =>
  by_cases e:S=[]
  ·subst e;exact ⟨s,by simp,by simp⟩
  ·obtain ⟨m,hm,hle⟩:=ih e
   by_cases h2:s<=m
   ·exact ⟨s,by simp,fun x hx=>by rcases List.mem_cons.1 hx with rfl | hx;omega;have:=hle x hx;omega⟩
   ·exact ⟨m,by simp [hm],fun x hx=>by rcases List.mem_cons.1 hx with rfl | hx;omega;exact hle x hx⟩
theorem most_of {S:List Int} (h:S ≠ []):∃ m∈S,∀ s∈S,s<=m:=by
 induction S with
 | nil=>exact absurd rfl h
 | cons s S ih =>
  by_cases e:S=[]
  ·subst e;exact ⟨s,by simp,by simp⟩
  ·obtain ⟨m,hm,hle⟩:=ih e
   by_cases h2:m<=s
   ·exact ⟨s,by simp,fun x hx=>by rcases List.mem_cons.1 hx with rfl | hx;omega;have:=hle x hx;omega⟩
   ·exact ⟨m,by simp [hm],fun x hx=>by rcases List.mem_cons.1 hx with rfl | hx;omega;exact hle x hx⟩
theorem near_map (G:Nat) (S:List Int) (h0:0∈S):∃ φ:Int->Int,φ 0=0/\(∀ a∈S,∀ b∈S,∀ c:Int,-(G:Int)<=c->c+1<=G->(a<=b+c ↔ φ a <= φ b+c))/\(∀ a∈S,∀ b∈S,φ a - φ b<=((G * (S.length - 1):Nat):Int)):=by
 have hne:S ≠ []:=fun e=>by rw [e] at h0;simp at h0
 obtain ⟨m,hm,hle⟩:=least_of hne
 obtain ⟨M,hM,hge⟩:=most_of hne
 refine ⟨fun x=>near G S m x - near G S m 0,by simp,fun a ha b hb c h1 h2=>?_,fun a ha b hb=>?_⟩
 ·have la:=hle a ha
  have lb:=hle b hb
  show a<=b+c↔near G S m a - near G S m 0<=near G S m b - near G S m 0+c
  by_cases hab:a<=b
  ·have h3:=near_close (G:=G) (m:=m) ha la hab
   by_cases hd:b - a<=G
   ·have:=h3.1 hd;omega
   ·have:=h3.2 (by omega);omega
  ·have h3:=near_close (G:=G) (m:=m) hb lb (by omega:b<=a)
   by_cases hd:a - b<=G
   ·have:=h3.1 hd;omega
   ·have:=h3.2 (by omega);omega
 ·have h1:=near_span (G:=G) (m:=m) hM (hge a ha)
  have h2:=near_span (G:=G) (m:=m) hM (hge b hb)
  show near G S m a - near G S m 0 - (near G S m b - near G S m 0)<=_
  omega
theorem good_near {T A:List Nd} {v:Nd->Int} (hg:Good T v) (hcl:∀ x∈T,∀ p∈parts x,p∈T) (hA:∀ x∈A,AtOk x/\∀ p∈(parts x).take 2,p∈T) (g:Nat) (hnum:∀ n,.mk 4 ByteArray.empty n []∈T -> -(g:Int)<=n/\n<=g) (hbd:∀ x∈A,-(g:Int)<=bnd ((parts x).drop 2)/\bnd ((parts x).drop 2)<=g):∃ v',Good T v'/\(∀ x∈A,atomB v' x=atomB v x)/\(∀ x∈T,∀ y∈T,v' x - v' y<=(((g+1) * T.length:Nat):Int))/\(∀ x∈T,v' x<=(((g+1) * T.length:Nat):Int) /\ -((((g+1) * T.length:Nat):Int))<=v' x):=by
 obtain ⟨φ,h0,hk,hs⟩:=near_map (g+1) (0 :: T.map v) (by simp)
 have hm:∀ x∈T,v x∈0 :: T.map v:=fun x hx=>List.mem_cons_of_mem _ (List.mem_map_of_mem hx)
 have hz:(0:Int)∈0 :: T.map v:=by simp
 have hinj:∀ a∈0 :: T.map v,∀ b∈0 :: T.map v,φ a = φ b->a=b:=by
  intro a ha b hb e
  have h1:=(hk a ha b hb 0 (by omega) (by omega)).2 (by omega)
  have h2:=(hk b hb a ha 0 (by omega) (by omega)).2 (by omega)
  omega
 have hl:(0 :: T.map v).length - 1=T.length:=by simp
 refine ⟨fun x => φ (v x),⟨fun n hn=>?_,fun w ps qs hp hq he=>?_⟩,fun x hx=>?_,fun x hx y hy=>?_,fun x hx=>?_⟩
 ·have e:=hg.num n hn
  have hb:=hnum n hn
  have hmn:=hm _ hn
  rw [e] at hmn
  have h1:=(hk n hmn 0 hz n (by omega) (by omega)).1 (by omega)
  have h2:=(hk 0 hz n hmn (-n) (by omega) (by omega)).1 (by omega)
  show φ (v _)=n
  rw [e]
  omega
 ·show φ (v _) = φ (v _)
  have:ps.map v=qs.map v:=by
   have hpc:∀ p∈ps,p∈T:=fun p h=>hcl _ hp p h
   have hqc:∀ p∈qs,p∈T:=fun p h=>hcl _ hq p h
   clear hp hq
   induction ps generalizing qs with
   | nil=>cases qs with
    | nil=>rfl
    | cons _ _=>simp at he
   | cons p ps ih=>cases qs with
    | nil=>simp at he
    | cons q qs =>
     simp only [List.map_cons,List.cons.injEq] at he ⊢
     exact ⟨hinj _ (hm p (hpc p (by simp))) _ (hm q (hqc q (by simp))) he.1,ih qs he.2 (fun r hr=>hpc r (by simp [hr])) (fun r hr=>hqc r (by simp [hr]))⟩
  rw [hg.fn w ps qs hp hq this]
 ·have hrel:∀ (w:List UInt8) (a b c:Int),a∈0 :: T.map v->b∈0 :: T.map v -> -(g:Int)<=c->c<=g->relB w (φ a) (φ b) c=relB w a b c:=by
   intro w a b c ha hb h1 h2
   have k0:=hk a ha b hb 0 (by omega) (by omega)
   have k1:=hk b hb a ha 0 (by omega) (by omega)
   have k2:=hk a ha b hb (-1) (by omega) (by omega)
   have k3:=hk a ha b hb c (by omega) (by omega)
   unfold relB
   split
   ·rw [decide_eq_decide];omega
   ·split
    ·rw [decide_eq_decide];omega
    ·split <;> (rw [decide_eq_decide];omega)
  obtain ⟨hao,he⟩:=hA x hx
  have hbx:=hbd x hx
  cases hao with
  | two hw ha hb=>exact hrel _ _ _ _ (hm _ (he _ (by simp [parts]))) (hm _ (he _ (by simp [parts]))) hbx.1 hbx.2
  | le hw ha hb h1 h2=>exact hrel _ _ _ _ (hm _ (he _ (by simp [parts]))) (hm _ (he _ (by simp [parts]))) hbx.1 hbx.2
 ·have:=hs _ (hm x hx) _ (hm y hy)
  rw [hl] at this
  exact this
 ·have h1:=hs _ (hm x hx) 0 hz
  have h2:=hs 0 hz _ (hm x hx)
  rw [hl,h0] at h1 h2
  show φ (v x)<=_/\_ <= φ (v x)
  omega
end Ar
end Go.Proofs.YtegbdaffhpiacaaGreatDoor

/- Part. -/
namespace Go.Proofs.YtegbdaffhpiacaaGreatDoor
variable{G:Prop}
theorem aF:type_of% @if_neg:=@if_neg
theorem aJ:type_of% @if_pos:=@if_pos
theorem aU:type_of% @List.getElem?_eq_getElem:=@List.getElem?_eq_getElem
theorem aW:type_of% @Nat.le_refl:=@Nat.le_refl
theorem aX:type_of% @List.getElem?_eq_some_iff:=@List.getElem?_eq_some_iff
theorem aY:type_of% @Nat.zero_le:=@Nat.zero_le
theorem bg:type_of% @List.mem_of_getElem?:=@List.mem_of_getElem?
theorem bk:type_of% @trivial:=@trivial
theorem bD:type_of% @Nat.lt_of_lt_of_le:=@Nat.lt_of_lt_of_le
theorem bK:type_of% @List.length_append:=@List.length_append
theorem cj:type_of% @List.take_of_length_le:=@List.take_of_length_le
theorem ct:type_of% @List.mem_append:=@List.mem_append
theorem cB:type_of% @List.getElem?_append_right:=@List.getElem?_append_right
theorem cM:type_of% @Nat.le_trans:=@Nat.le_trans
theorem dd:type_of% @List.length_take:=@List.length_take
theorem de:type_of% @List.getElem?_map:=@List.getElem?_map
theorem dn:type_of% @List.mem_map:=@List.mem_map
theorem dx:type_of% @List.getElem?_append_left:=@List.getElem?_append_left
theorem dI:type_of% @Option.some.inj:=@Option.some.inj
theorem eO:type_of% @List.mem_cons_of_mem:=@List.mem_cons_of_mem
theorem eP:type_of% @beq_iff_eq:=@beq_iff_eq
theorem fG:type_of% @List.mem_of_mem_take:=@List.mem_of_mem_take
theorem fR:type_of% @List.take_add_one:=@List.take_add_one
theorem fS:type_of% @decide_eq_true:=@decide_eq_true
theorem gh:type_of% @List.length_map:=@List.length_map
theorem gj:type_of% @decide_eq_false:=@decide_eq_false
theorem ig:type_of% @Nat.min_eq_left:=@Nat.min_eq_left
theorem iP:type_of% @List.take_append_drop:=@List.take_append_drop
theorem iQ:type_of% @List.getElem?_eq_none:=@List.getElem?_eq_none
theorem iR:type_of% @List.length_singleton:=@List.length_singleton
theorem jn:type_of% @congrArg:=@congrArg
theorem jo:type_of% @Bool.and_eq_true:=@Bool.and_eq_true
theorem kD:type_of% @List.take_length:=@List.take_length
theorem lD:type_of% @Nat.le_of_lt:=@Nat.le_of_lt
theorem mA:type_of% @beq_eq_false_iff_ne:=@beq_eq_false_iff_ne
theorem nE:type_of% @List.length_cons:=@List.length_cons
theorem oy:type_of% @Nat.zero_add:=@Nat.zero_add
theorem oz:type_of% @List.mem_cons:=@List.mem_cons
theorem oA:type_of% @Nat.lt_irrefl:=@Nat.lt_irrefl
theorem oB:type_of% @Nat.pow_le_pow_right:=@Nat.pow_le_pow_right
theorem oC:type_of% @Nat.mul_le_mul_right:=@Nat.mul_le_mul_right
theorem pE:type_of% @List.map_append:=@List.map_append
theorem qz:type_of% @List.nil_append:=@List.nil_append
theorem qA:type_of% @of_decide_eq_true:=@of_decide_eq_true
theorem qB:type_of% @List.drop_eq_getElem_cons:=@List.drop_eq_getElem_cons
theorem qC:type_of% @List.take_take:=@List.take_take
theorem qD:type_of% @List.getElem?_take:=@List.getElem?_take
theorem rQ:type_of% @List.nodup_nil:=@List.nodup_nil
theorem rR:type_of% @List.eq_nil_of_length_eq_zero:=@List.eq_nil_of_length_eq_zero
theorem rS:type_of% @List.length_replicate:=@List.length_replicate
theorem rT:type_of% @Nat.add_sub_cancel:=@Nat.add_sub_cancel
theorem rU:type_of% @Nat.add_sub_cancel_left:=@Nat.add_sub_cancel_left
theorem rV:type_of% @List.mem_append_left:=@List.mem_append_left
theorem rW:type_of% @List.mem_singleton:=@List.mem_singleton
theorem rX:type_of% @List.mem_filter:=@List.mem_filter
theorem tG:type_of% @if_true:=@if_true
theorem tH:type_of% @Classical.byContradiction:=@Classical.byContradiction
theorem tI:type_of% @Array.getElem?_eq_none:=@Array.getElem?_eq_none
theorem tJ:type_of% @List.mem_cons_self:=@List.mem_cons_self
theorem tL:type_of% @Nat.lt_or_ge:=@Nat.lt_or_ge
theorem tN:type_of% @List.all_eq_true:=@List.all_eq_true
theorem tO:type_of% @List.cons_append:=@List.cons_append
theorem tP:type_of% @List.take_append_of_le_length:=@List.take_append_of_le_length
theorem tQ:type_of% @List.mem_flatMap:=@List.mem_flatMap
theorem wB:type_of% @List.append_assoc:=@List.append_assoc
theorem wC:type_of% @List.map_take:=@List.map_take
theorem yF:type_of% @Int.le_refl:=@Int.le_refl
theorem yG:type_of% @Option.some.injEq:=@Option.some.injEq
theorem yH:type_of% @List.cons.injEq:=@List.cons.injEq
theorem yI:type_of% @Nat.mod_eq_of_lt:=@Nat.mod_eq_of_lt
theorem yJ:type_of% @List.getElem?_range:=@List.getElem?_range
theorem yK:type_of% @Array.getElem?_toList:=@Array.getElem?_toList
theorem yN:type_of% @List.length_eq_zero_iff:=@List.length_eq_zero_iff
theorem yP:type_of% @List.set_append_right:=@List.set_append_right
theorem BA:type_of% @Int.le_trans:=@Int.le_trans
theorem BC:type_of% @List.getElem_of_mem:=@List.getElem_of_mem
theorem BE:type_of% @List.mem_replicate:=@List.mem_replicate
theorem BF:type_of% @decide_eq_true_eq:=@decide_eq_true_eq
theorem BG:type_of% @List.getElem?_take_of_lt:=@List.getElem?_take_of_lt
theorem BH:type_of% @Int.toNat_of_nonneg:=@Int.toNat_of_nonneg
theorem BI:type_of% @BitVec.eq_of_toNat_eq:=@BitVec.eq_of_toNat_eq
theorem BJ:type_of% @List.mem_append_right:=@List.mem_append_right
theorem BK:type_of% @List.flatMap_cons:=@List.flatMap_cons
theorem BL:type_of% @List.range_succ:=@List.range_succ
theorem BM:type_of% @List.getElem?_of_mem:=@List.getElem?_of_mem
theorem BN:type_of% @Nat.add_mul:=@Nat.add_mul
theorem BO:type_of% @List.flatMap_append:=@List.flatMap_append
theorem BS:type_of% @List.size_toArray:=@List.size_toArray
theorem Fa:type_of% @List.nodup_append:=@List.nodup_append
theorem Fb:type_of% @List.foldl_append:=@List.foldl_append
theorem Fc:type_of% @List.take_zero:=@List.take_zero
theorem Fe:type_of% @List.mem_of_find?_eq_some:=@List.mem_of_find?_eq_some
theorem Fg:type_of% @Option.map_eq_some_iff:=@Option.map_eq_some_iff
theorem Fh:type_of% @List.mem_range:=@List.mem_range
theorem Fi:type_of% @List.mem_iff_getElem?:=@List.mem_iff_getElem?
theorem Fj:type_of% @List.pairwise_iff_getElem:=@List.pairwise_iff_getElem
theorem Fk:type_of% @Nat.lt_trichotomy:=@Nat.lt_trichotomy
theorem Fl:type_of% @List.map_congr_left:=@List.map_congr_left
theorem Fm:type_of% @BitVec.toNat_ofNat:=@BitVec.toNat_ofNat
theorem Fq:type_of% @List.ext_getElem?:=@List.ext_getElem?
theorem Fs:type_of% @List.take_sublist:=@List.take_sublist
theorem Fu:type_of% @List.length_filter_le:=@List.length_filter_le
theorem Fw:type_of% @List.mem_map_of_mem:=@List.mem_map_of_mem
theorem Fy:type_of% @List.append_nil:=@List.append_nil
theorem Fz:type_of% @List.length_nil:=@List.length_nil
theorem FA:type_of% @Array.replicate_succ:=@Array.replicate_succ
theorem FC:type_of% @Array.replicate_zero:=@Array.replicate_zero
theorem FD:type_of% @List.push_toArray:=@List.push_toArray
theorem FE:type_of% @List.append_toArray:=@List.append_toArray
theorem Lm:type_of% @List.take_succ_eq_append_getElem:=@List.take_succ_eq_append_getElem
theorem Ln:type_of% @List.drop_of_length_le:=@List.drop_of_length_le
theorem Lo:type_of% @List.getD_eq_getElem?_getD:=@List.getD_eq_getElem?_getD
theorem Lp:type_of% @List.getElem?_zipWith:=@List.getElem?_zipWith
theorem Lq:type_of% @List.length_erase_of_mem:=@List.length_erase_of_mem
theorem Lr:type_of% @List.length_pos_of_mem:=@List.length_pos_of_mem
theorem Ls:type_of% @Array.getElem?_eq_getElem:=@Array.getElem?_eq_getElem
theorem Lt:type_of% @List.pairwise_append:=@List.pairwise_append
theorem aA(h:G:=by omega):G:=h
theorem aE(h:G:=by decide):G:=h
theorem bR(h:G:=by show ¬w.heap.size=c.rb;omega):G:=h
theorem aM(h:G:=by simp;omega):G:=h
theorem bt(h:G:=by exact absurd e aC):G:=h
theorem bf(h:G:=by simp[intOf];omega):G:=h
theorem jF(h:G:=by rw[<-hW,heap_alloc_old _ _ aC];exact pB):G:=h
theorem bz(h:G:=by rw[hu];decide):G:=h
theorem Zm4(h:G:=by have h1:=bT.o.2.2.2.1;have h2:=fi.o;have h3:=O9 false hp;rw[N8 iY.o,bK,<-eK.o.1 false]at h2;exact SL):G:=h
theorem fq(h:G:=by have h1:i=w.heap.size:=e;omega):G:=h
theorem eG(h:G:=by show ¬c.rb=w.heap.size;omega):G:=h
theorem eH(h:G:=by show ¬c.tb=w.heap.size;omega):G:=h
theorem bS(h:G:=by unfold maxLen;omega):G:=h
theorem vV(h:G:=by intro q u di;match q,di with|0,di=>{exact qy}|1,di=>simp at di;subst di;simp[Addr.add]<;>rfl):G:=h
theorem eW(h:G:=by show ¬c.nb=w.heap.size;omega):G:=h
theorem Zm5(h:G:=by have h1:=oO.o i q p Ep di;have h2:=h1.ext bm (λk _ hk e=>SP);have h3:=h2.ext fe (λk _ hk e=>SP);exact h3.mono (λk _ hk=>lD hk.1)):G:=h
theorem iy(h:G:=by rw[<-hW];exact SO):G:=h
theorem qv(h:G:=by exact⟨0,_,aY _,rfl,by simpa[z8]using bT.o⟩):G:=h
theorem jk(h:G:=by rw[<-hW];exact E8):G:=h
theorem cw(h:G:=by rw[hw];decide):G:=h
theorem lC(h:G:=by first|(omega)|(simp;omega)):G:=h
theorem Rv(h:G:=by rcases h.map with e|⟨mb,D,e,ho,hm⟩;{exact .inl e};have hm2:=Nx hm (aY _);refine .inr ⟨mb,D,e,?_,?_⟩;{rw[show 0+(K.length-K.length)=K.length by omega];exact ho};rw[lk]at hm2⊢;exact hm2):G:=h
theorem gg(h:G:=by simp[Value.ownBlock]):G:=h
theorem tz(h:G:=by intro q u2 di;match q,di with|0,di=>exact qy):G:=h
theorem Zm6(h:G:=by have h1:=bT.2.2.2.1;have h2:=fi.o;have h3:=O9 true hp;rw[N9 iY.o,bK,<-eK.o.1 true]at h2;exact SL):G:=h
theorem Rw(h:G:=by show _<=_;have g1:=iu.o;have g2:=wQ.o.1;obtain⟨z0,z1,z2,z3,fz,hz,xj⟩:=uC.o.form;have ez:fa=fz:=SX;have g3:=mG xj;rw[<-ez]at g3;omega):G:=h
theorem Rx(h:G:=by rw[<-mH];have h9:=zl3 (w:=(wb.setCell (aD w.heap.size 1) (.slice (sA wb.heap.size) 2 2)).setCell (aD w.heap.size 4) (.string F)) (Obj.cells #[pT ba,pT bb] 172);rw[su]at h9;exact h9):G:=h
theorem jl(h:G:=by rw[eP.1 ho];decide):G:=h
theorem ot(h:G:=by simp[Value.ownBlock]at hk;omega):G:=h
theorem bI(h:G:=by simp at e):G:=h
theorem Zfy(h:G:=by exact j8 (j8 dB.o bm (λg hg e=>ZcW)) fe (λg hg e=>ZcW)):G:=h
theorem Zm7(h:G:=by cases cV:Z8 c.N n (d+1) (v::vs)with|ok nd ux=>(rw[cV]at q2;obtain⟨q6,q7⟩:=q5 nd ux cV;exact Or.inl ⟨ux,ps++[nd],kids++[b],⟨LL kQ.o cV,q2,q6,q4,q3,q7⟩,by rw[jJ.o,Gi.o,Td Zdd cV];rfl⟩)|no e p=>rw[cV]at q2;obtain⟨h0,bh,d',hr⟩:=q2;refine Or.inr ⟨e,p,h0,⟨bh,d',hr⟩,?_,by rw[jJ.o,Gi.o];exact Te Zdd cV⟩;have g1:=gA.o;have g2:=iu.o;simp only[ByteArray.size_append'];have g4:(ByteArray.mk #[32]).size=1:=rfl;omega):G:=h
theorem Zfz(h:G:=by simp only[ByteArray.size_append'];have g1:(ByteArray.mk #[40]).size=1:=rfl;exact ZjR):G:=h
theorem nB(h:G:=by intro u2 vo;simp at vo;subst vo;rfl):G:=h
theorem nC(h:G:=by rw[dd];omega):G:=h
theorem jG(h:G:=by simpa using hq):G:=h
theorem ZfA(h:G:=by obtain⟨q,hq,hz⟩:=Z9.1 hz;exact Z9.2 ⟨q,fG hq,hz⟩):G:=h
theorem vW(h:G:=by exact pJ cK aR ch (J9 _ _ _ _ _ _) bV bW cC fB):G:=h
theorem Zm8(h:G:=by rw[U9 false HP.o,<-wB];exact yo.o):G:=h
theorem vX(h:G:=by intro u hu;simp at hu;rcases hu with rfl|rfl<;>rfl):G:=h
theorem Bm(h:G:=by rw[<-hx,List.getElem_cons_drop,iP]):G:=h
theorem rL(h:G:=by simp at hv;exact⟨g',hv.1,j9 hh⟩):G:=h
theorem Ry(h:G:=by rw[<-mH];exact((((q9.refl (·=w.heap.size) wb).sc w.heap.size 1 _).sc w.heap.size 4 _).alloc _).drew):G:=h
theorem ou(h:G:=by simp[Act.eval,Act.put]):G:=h
theorem Rz(h:G:=by rw[<-mH];exact(Below.heap_alloc _ _ _ (by rw[su];exact qR)).trans (X6 (X6 F8.o 1 _) 4 _)):G:=h
theorem Zbm(h:G:=by exact(Q8 _ _ (by show ¬w.heap.size+1=w.heap.size;omega)).trans K1):G:=h
theorem Zbn(h:G:=by exact(Q8 _ _ (by show ¬w.heap.size+2=w.heap.size;omega)).trans K2):G:=h
theorem iN(h:G:=by decide+kernel):G:=h
theorem yq(h:G:=by show w.heap.size<=w.heap.size+1+1;omega):G:=h
theorem tA(h:G:=by have:=h.len;exact pC):G:=h
theorem rM(h:G:=by simp only[Z1,z8];simp[hx]):G:=h
theorem Ks(h:G:=by funext i;match i with|0=>{rfl}|1=>{rfl}|2=>{rfl}|3=>{rfl}|4=>rfl):G:=h
theorem ko(h:G:=by exact⟨rfl,rfl⟩):G:=h
theorem mu(h:G:=by have:=fi.o;omega):G:=h
theorem ZfD(h:G:=by exact(((((q9.refl (λk=>w.heap.size<=k/\k<V2.heap.size) w4).setCell (p:=(aD (w.heap.size+1) 0)) (λ_=>sT) _).setCell (p:=(aD (w.heap.size+1) 1)) (λ_=>sT) _).setCell (p:=(aD (w.heap.size+1) 2)) (λ_=>sT) _).setCell (p:=(aD (w.heap.size+1) 3)) (λ_=>sT) _)):G:=h
theorem ZfE(h:G:=by rcases h.2 with⟨e0,_⟩|⟨g',ff,cur,hv,hg,hh,hn,hc,hs,ht⟩;{cases e0};cases hv;intro j hj;have hjs:j<cur.size:=by{rw[hs];have:=oC size hn;omega};refine⟨?_,Q9 hh j⟩;rw[z7 hh j,Ls hjs];rfl):G:=h
theorem RA(h:G:=by by_cases h:cap=n;{exact⟨_,yE⟩};exact⟨_,by rw[aF h]⟩):G:=h
theorem RC(h:G:=by rcases aV with e|e;{exact λe3=>uX mb (e3▸e) rfl};have:=uW.o.lt;omega):G:=h
theorem rN(h:G:=by simpa using cF):G:=h
theorem RD(h:G:=by rcases H.o.2 with⟨e,e0⟩|⟨g,cap,cur,hv,_⟩;{cases e;rfl};cases hv):G:=h
theorem tB(h:G:=by show _=_;rw[X1,X9];simp):G:=h
theorem Kt(h:G:=by rw[(BE.1 hg).2];exact LG c.N n (d+1)):G:=h
theorem ZfF(h:G:=by rcases h.own.2 with⟨e,e0⟩|⟨g,cap,cur,hv,_,hh,h1,h2,_⟩;{exact .inl ⟨e,e0⟩};refine .inr ⟨g,cap,hv,h1,ZcT,j9 hh,λq hq=>?_⟩;have h3:=h.own;rw[hv]at h3;exact h3.cellAt q hq):G:=h
theorem RE(h:G:=by rcases H.o.2 with⟨e,e0⟩|⟨g,cap,cur,hv,_⟩;{exact e0};cases hv):G:=h
theorem rO(h:G:=by simp[Value.oneCell']):G:=h
theorem yr(h:G:=by rw[<-hV];exact(rr wr).alloc _):G:=h
theorem ZfG(h:G:=by have:=fX.o q hd;omega):G:=h
theorem Bn(h:G:=by rw[<-hV];exact pB):G:=h
theorem Bo(h:G:=by exact(rr w).alloc _):G:=h
theorem ES(h:G:=by simp at hf;subst hf;exact hF):G:=h
theorem ZfH(h:G:=by rw[Z0];split;{exact ZcQ};rename_i h;have:ps=[]:=by{cases ps with|nil=>(rfl)|cons p ps=>exact absurd (Or.inr (Or.inr aC)) h};subst this;simp[J0]):G:=h
theorem ZfI(h:G:=by intro q u di;match q,di with|0,di=>{exact qy}|1,di=>{exact qy}|2,di=>{exact qy}|3,di=>exact qy):G:=h
theorem iO(h:G:=by assumption):G:=h
theorem Zm9(h:G:=by rw[U9 true HP.o,<-wB];exact yo):G:=h
theorem RF(h:G:=by show ¬wb.heap.size=w.heap.size;omega):G:=h
theorem Bp(h:G:=by have:=(dB.o.lt g hg).1;omega):G:=h
theorem RG(h:G:=by rintro q (rfl|⟨i,e⟩);{exact h.vu};exact(h.fY i q e).2):G:=h
theorem ZfJ(h:G:=by intro n k hk hn;subst hk;rw[Bool.eq_iff_iff];simp only[eP];constructor;{intro e;exact Zjv};intro e;rw[e,UInt8.toNat_ofNat'];omega):G:=h
theorem ZfK(h:G:=by simp only[Z1];exact BJ _ hz):G:=h
theorem ZfL(h:G:=by obtain⟨a,b,c,rfl,ha,hb,hc⟩:=US (R:=λnd=>∃v,nd=.mk 5 ByteArray.empty v []/\ -1000<=v/\v<=1000) hT hT (λts nd bh e=>Gn e) (ts:=us) hr;obtain⟨v,rfl,h1,h2⟩:=hc;exact .le hw ha hb h1 h2):G:=h
theorem Ku(h:G:=by show w.heap.size<=w.heap.size+1+1+1+1;omega):G:=h
theorem Bq(h:G:=by show _=_;rw[X9];exact hq):G:=h
theorem ET(h:G:=by rw[<-hV];exact heap_alloc_new wr _):G:=h
theorem Br(h:G:=by simp only[J5,Cf.o,gT];rfl):G:=h
theorem ov(h:G:=by simpa using h):G:=h
theorem Zbo(h:G:=by rw[F9.o]at hy;simp at hy;exact hy.2.2.2.2):G:=h
theorem Zbp(h:G:=by simp only[ByteArray.size_append'];exact Zdh):G:=h
theorem ZfM(h:G:=by have h2:2=j:=by{have h1:=jJ.o;omega};rw[h2];exact kQ.o):G:=h
theorem jm(h:G:=by simp[J6]):G:=h
theorem RH(h:G:=by first|(omega)|exact aY _):G:=h
theorem ZfN(h:G:=by induction ps with|nil=>(simp[z8])|cons p ps ih2=>have h1:=ih p aC;have h2:=ih2 (λq hq=>ih q (eO _ hq));simp only[z8,J0,bK,nE];omega):G:=h
theorem Zbq(h:G:=by cases h with|node h2 fT hl hn hD hk=>exact⟨rfl,rfl,rfl,⟨_,fT,hl,hn,hD,hk⟩⟩):G:=h
theorem ZfO(h:G:=by intro v0 v1 v2 v3 v4 v5;obtain⟨a,b,c,d,e,f,rfl⟩:∃a b c d e f,C=#[a,b,c,d,e,f]:=by{obtain⟨l⟩:=C;match l,hC with|[a,b,c,d,e,f],_=>exact⟨a,b,c,d,e,f,rfl⟩};rfl):G:=h
theorem Zbr(h:G:=by exact⟨λe' p' h'=>Zjz,λps bh h'=>tF⟩):G:=h
theorem vZ(h:G:=by exact heap_alloc_new w1 _):G:=h
theorem ku(h:G:=by simpa using this):G:=h
theorem ZfP(h:G:=by refine⟨none,0,by rw[hv,e0],λi x hx=>?_⟩;exact ZjT):G:=h
theorem RI(h:G:=by obtain⟨_,Zm3,_,_,kb9⟩:=hw.shape;exact Q9 kb9 j):G:=h
theorem EU(h:G:=by show ¬w2.heap.size=c.rb;omega):G:=h
theorem Zbs(h:G:=by cases us with|nil=>(exact absurd rfl h1.ne)|cons u aP=>exact⟨u,aP,rfl⟩):G:=h
theorem ZfQ(h:G:=by refine⟨j8 h.own hx h1,h.nd,h.ok,?_,h.sep⟩;rcases h.map with e|⟨mb,D,rfl,ho,hm⟩;{exact .inl e};exact .inr ⟨mb,D,rfl,J8 ho hx (h2 mb rfl),hm⟩):G:=h
theorem Kv(h:G:=by show ¬w.heap.size=w1.heap.size;omega):G:=h
theorem EV(h:G:=by rw[ew];simp at nI⊢;omega):G:=h
theorem RK(h:G:=by rw[heap_alloc_old _ _ aC];exact pB):G:=h
theorem Bs(h:G:=by rw[gh];omega):G:=h
theorem Zmb(h:G:=by have h1:=bT.o.2.2.2.1;have h2:=fi.o;have h3:=O9 true hp;rw[N8 iY.o,bK,<-eK.o.1 true]at h2;exact SL):G:=h
theorem Zmc(h:G:=by have h1:=bT.2.2.2.1;have h2:=fi.o;have h3:=O9 false hp;rw[N9 iY.o,bK,<-eK.o.1 false]at h2;exact SL):G:=h
theorem Zbt(h:G:=by intro p hp;have h1:=k8 hp;have:=(aX.1 h1).1;omega):G:=h
theorem Zmd(h:G:=by rcases Zfv.o q hq with e|e;{exact oe.o q e};exact .inr (cM HE.o.size e)):G:=h
theorem RL(h:G:=by intro w;have:=il.o w;rw[cU]at this;exact cS):G:=h
theorem Kw(h:G:=by have h2:=gA.o;have h3:=iu.o;omega):G:=h
theorem ZfR(h:G:=by intro f bN;simp at bN;rcases bN with rfl|rfl<;>first|(exact HF)|(exact HT)|exact λw ts hl hP=>ZcO):G:=h
theorem Zbu(h:G:=by intro q h1 h2 h3;rcases qf q h3 with e|e;{have:=aZ q e;omega};omega):G:=h
theorem ZfS(h:G:=by have dt:=hm.no x hx (λhc=>lj hc.1);rw[atKey_of_not_has dt]at hv;obtain⟨a,rfl,e2,_⟩:=plainElem_int_inv underlying3 hv;simp at e2;rw[CT,dt,<-e2.1]):G:=h
theorem Zbv(h:G:=by exact⟨0,x,aY _,rfl,q9.refl _ _,by simpa[bo]using H.o,λ_ hq=>.inl hq⟩):G:=h
theorem Bt(h:G:=by exact .inl (.inr (.inr (.inl e)))):G:=h
theorem RO(h:G:=by show ¬w.heap.size+1+1+1=w.heap.size+1+1;omega):G:=h
theorem EW(h:G:=by show ¬w.heap.size=sb;omega):G:=h
theorem ZfT(h:G:=by refine up q p (h4.mono (λk hk hD=>⟨hD.1,hD.2,?_⟩));intro e;rcases aV with e2|e2;{exact hD.2 (e2.symm.trans e)};exact ZcV):G:=h
theorem ZfU(h:G:=by intro l;induction l with|nil=>(rfl)|cons a l ih=>simp only[BK,bK,nE,ih];simp[Z7.cells];omega):G:=h
theorem ZfV(h:G:=by intro l;induction l with|nil=>(rfl)|cons a l ih=>simp only[BK,bK,nE,ih];simp[U1.cells];omega):G:=h
theorem ZfW(h:G:=by rw[bK,iR,rT]at this;exact cS):G:=h
theorem Kx(h:G:=by rw[<-hW];exact pB):G:=h
theorem Zbw(h:G:=by rcases hF k e with e2|e2;{exact(h.dk k hk).2 e2};have:=(h.dk k hk).1;omega):G:=h
theorem nD(h:G:=by simp[Y3]):G:=h
theorem RP(h:G:=by simp only[Tb.df];rw[aF (λe=>hk e.2.2)]):G:=h
theorem wg(h:G:=by exact .inl (.inr (.inl e))):G:=h
theorem RQ(h:G:=by exact⟨0,aY _,rfl,bG,by rw[zF1];exact p8⟩):G:=h
theorem RR(h:G:=by rcases aV with e|e;{exact dV g e};omega):G:=h
theorem ZfZ(h:G:=by rw[bK,iR,rT]at this;exact this.mono (λe w' h=>⟨h.1,by rw[h.2];exact bm.drew,by rw[h.2];rfl⟩)):G:=h
theorem RS(h:G:=by simp[Value.ownBlock]at hk;have:=yd.o;omega):G:=h
theorem Ky(h:G:=by exact⟨rfl,((rr w).drewN _).trans hx,hr⟩):G:=h
theorem wj(h:G:=by rw[hl];omega):G:=h
theorem Zbz(h:G:=by have h1:w1.heap.size<=k:=hk;simp at ew;exact SV):G:=h
theorem Zg0(h:G:=by rw[(hm.yes i x hi bk).1]at hv;obtain⟨a,rfl,e2,_⟩:=plainElem_int_inv underlying3 hv;simp at e2;rw[CT,(hm.yes i x hi bk).2,e2.1]):G:=h
theorem Zg1(h:G:=by intro v0 v1 v2;obtain⟨a,b,c,rfl⟩:∃a b c,D=#[a,b,c]:=by{obtain⟨l⟩:=D;match l,hD with|[a,b,c],_=>exact⟨a,b,c,rfl⟩};rfl):G:=h
theorem RT(h:G:=by show ¬w.heap.size+3=w.heap.size+1+1;omega):G:=h
theorem Kz(h:G:=by have h1:i=w1.heap.size:=e;omega):G:=h
theorem wk(h:G:=by unfold mx;omega):G:=h
theorem yt(h:G:=by rw[e,e0]):G:=h
theorem RU(h:G:=by rw[<-BO,iP]):G:=h
theorem Zg2(h:G:=by refine((h.ext.trans' (hx.M) (λ_ _ e=>e)).trans' hE (λq hq e=>?_)).trans' oN (λq hq e=>?_);{rcases qf q e with e|e;{exact e};omega};omega):G:=h
theorem Zg3(h:G:=by have:=fX q hd;omega):G:=h
theorem RV(h:G:=by show w.heap.size<=w.heap.size+1+1+1;omega):G:=h
theorem EX(h:G:=by rw[A6.o];exact(h4 e).1):G:=h
theorem ZbA(h:G:=by show ¬wb.heap.size=c.rb;omega):G:=h
theorem ZbB(h:G:=by simp only[Addr.add];split;{rename_i h0;subst h0;exact h2};exact E'):G:=h
theorem qw(h:G:=by exact .inl (.inl e)):G:=h
theorem RW(h:G:=by rw[<-dQ];exact((rr w).alloc _).drewN nq):G:=h
theorem Zg4(h:G:=by have h2:z8 t qs=z8 t (qs.take (j+1))++z8 t (qs.drop (j+1)):=by{rw[<-FN,iP]};rw[h2,h1];simp only[bK];omega):G:=h
theorem ZbC(h:G:=by intro m;have:=Ty t.aB (h.drewN m);rw[ha]at this;exact cS):G:=h
theorem Bu(h:G:=by have:=oK _ e;omega):G:=h
theorem Zme(h:G:=by rw[jT.o];exact⟨rH.1.alloc _,rH.2.1.alloc _,rH.2.2⟩):G:=h
theorem KC(h:G:=by have:=wQ.o.1;omega):G:=h
theorem Zg5(h:G:=by rw[N8 iY.o];exact h1):G:=h
theorem RX(h:G:=by exact⟨0,aY _,rfl,q9.refl _ _,aC⟩):G:=h
theorem Zg6(h:G:=by intro l;induction l with|nil=>(rfl)|cons a l ih=>simp only[BK,bK];simp at ih⊢;omega):G:=h
theorem Zg7(h:G:=by rw[Zh HY.out,o5.out,Fy];exact⟨po.out.ext.drewN _,po.out.row.ext ((q9.refl (λ_=>False) wr).drewN _) (λ_ _ f=>f)⟩):G:=h
theorem Zg8(h:G:=by have h1:=hl q (List.mem_of_mem_erase hq);have h2:q≠M:=λe=>by{subst e;exact(List.Nodup.not_mem_erase hn) hq};omega):G:=h
theorem KH(h:G:=by cases e;exact⟨_,A9,rfl⟩):G:=h
theorem ZbD(h:G:=by have:=zT1 hx lx (hs v hv hh);rw[fP]at this;exact cS):G:=h
theorem ZbE(h:G:=by have:=qg2 hx lx (hs v hv hh);rw[fP]at this;exact cS):G:=h
theorem kv(h:G:=by congr 1;omega):G:=h
theorem Zmf(h:G:=by rw[show w.heap.size+2=(w.alloc (.cells #[u64 s.a,u64 s.b,u64 s.c] 197)).heap.size+1 by simp];exact heap_alloc2_new (w.alloc _) _ _):G:=h
theorem yu(h:G:=by simpa using aV):G:=h
theorem KI(h:G:=by cases e;exact⟨_,hK,rfl⟩):G:=h
theorem RY(h:G:=by simp at bN;subst bN;exact z7 mK 0):G:=h
theorem my(h:G:=by simpa using e):G:=h
theorem Zg9(h:G:=by unfold fC;split;{exact Lj};split;{exact Lj};split<;>(rw[decide_eq_decide];omega)):G:=h
theorem ZbF(h:G:=by exact World.ownsRow_made w #[] 0 (aY _) (aY _) rfl):G:=h
theorem Zga(h:G:=by rw[e,tP ZjQ,cj ZjQ]):G:=h
theorem RZ(h:G:=by rcases hw with hw|hw<;>(rw[hw];decide)):G:=h
theorem R1(h:G:=by simp[Value.ownBlock]at hk;subst hk;exact aV):G:=h
theorem Zgb(h:G:=by intro e;have:=hz (by rw[List.head?_append,e];rfl);cases q with|nil=>(exact wI rfl)|cons a b=>simp at this):G:=h
theorem R8(h:G:=by rw[<-nL];exact pB):G:=h
theorem Zgc(h:G:=by intro f bN;simp at bN;rcases bN with rfl|rfl<;>first|(exact ur)|(exact zd)|exact B3 5 (Or.inr rfl)):G:=h
theorem R9(h:G:=by rw[<-dQ];exact pB):G:=h
theorem Zgd(h:G:=by exact(e1.trans' h2 (λ_ _ e=>.inl e)).trans' h3 (λk hk e=>by subst e;rcases Hh with e2|e2;{exact .inr (.inr e2)};omega)):G:=h
theorem KJ(h:G:=by show _<=_;simp only;omega):G:=h
theorem yv(h:G:=by exact absurd h aC):G:=h
theorem fQ(h:G:=by simp at this):G:=h
theorem ZbH(h:G:=by simp only[NB,hf,Bool.and_self,tG,hc,hd,hl,Option.map_some]):G:=h
theorem EY(h:G:=by simp[World.setCell]):G:=h
theorem qx(h:G:=by simp[TW]):G:=h
theorem Zge(h:G:=by rintro g hg (e|e|e);{exact h.ts.s2 g hg e};{exact(h.ap g (.inr (.inr hg))).1 e};exact(h.ap g (.inr (.inr hg))).2 e):G:=h
theorem yw(h:G:=by rw[hn];decide):G:=h
theorem Zgf(h:G:=by have:=(FK s.toList 0 []).ne;cases h:bQ s.toList with|nil=>(exact absurd h this)|cons a b=>simp):G:=h
theorem yx(h:G:=by simpa using h1):G:=h
theorem ZbI(h:G:=by simp only[db];rw[aF (by rw[CC.o];decide)]):G:=h
theorem KK(h:G:=by exact⟨0,aY _,rfl,rfl⟩):G:=h
theorem Zgg(h:G:=by rw[heap_alloc_old _ _ aC];exact E8):G:=h
theorem ZbJ(h:G:=by rw[wC];exact h.nd.sublist (Fs _ _)):G:=h
theorem ZbK(h:G:=by have:=HX.o.size;have:=il.o.size;have:=HB.o.2;omega):G:=h
theorem ZbL(h:G:=by rw[heap_alloc_old _ _ (by simpa using CG)];exact X6 K0 0 _):G:=h
theorem Zgh(h:G:=by rw[uV hn];intro k hk;rcases ct.1 hk with hk|hk;{exact h.ok k hk};simp at hk;subst hk;exact hx):G:=h
theorem Zgi(h:G:=by exact⟨n,D,aW _,hn,aC,q9.refl _ _,by rw[show n+(K.length-n)=K.length by omega];exact HO,re⟩):G:=h
theorem Zgj(h:G:=by intro x hx;rcases ct.1 hx with hx|hx;{exact h.ok x hx};simp at hx;subst hx;exact⟨Mn,Vv⟩):G:=h
theorem Zgk(h:G:=by rw[uV hn,Fa];refine⟨h.nd,aC,?_⟩;intro a ha b hb e;simp at hb;subst hb e;exact hn ha):G:=h
theorem KL(h:G:=by exact .inl (.inr (.inr (.inr e)))):G:=h
theorem tC(h:G:=by rw[e];rfl):G:=h
theorem R'(h:G:=by have:=(H.own.lt _ e).2;omega):G:=h
theorem Zgl(h:G:=by exact((hE.mono (λ_ _ e=>.inr (.inr e))).trans' hx (λ_ _ e=>.inr (.inl e))).trans' hW (λ_ _ e=>.inl e)):G:=h
theorem Sa(h:G:=by rw[e2]at e;exact absurd e (by simp[cG])):G:=h
theorem Sb(h:G:=by simp[Value.ownBlock]at hq;omega):G:=h
theorem ZbN(h:G:=by show ¬w.heap.size+1=w.heap.size+1+1;omega):G:=h
theorem Zgm(h:G:=by cases hq:(Y6 l).all U5 with|true=>(rfl)|false=>exact absurd (Or.inr (Or.inl hq)) hc):G:=h
theorem Zgn(h:G:=by intro w;have:=il.o w;rw[cU]at this;exact this.mono (λe w' h=>⟨h.1,h.2.symm⟩)):G:=h
theorem Sc(h:G:=by have:=j9 ee;show _<_;omega):G:=h
theorem KO(h:G:=by have:=jS g hg;omega):G:=h
theorem yy(h:G:=by simp[Z1,Y3]):G:=h
theorem Zgo(h:G:=by first|(rfl)|exact World.drewN_drewN _ _ _):G:=h
theorem yz(h:G:=by simpa using ck):G:=h
theorem ZbO(h:G:=by rw[(BE.1 hv).2];exact HF):G:=h
theorem ZbP(h:G:=by rw[Bool.eq_iff_iff];simp[BitVec.getLsbD_twoPow];omega):G:=h
theorem tD(h:G:=by simp[Z8]):G:=h
theorem KQ(h:G:=by simpa using gO):G:=h
theorem Zgp(h:G:=by show ¬0=w.heap.size;have:=hr.B9;omega):G:=h
theorem wm(h:G:=by simp[intOf]<;>omega):G:=h
theorem Zgq(h:G:=by intro k hk h1 e;rcases aV k e with e2|e2;{exact h1 e2};have:=aZ k hk;omega):G:=h
theorem Zgr(h:G:=by exact⟨s,aC,λx hx=>by rcases oz.1 hx with rfl|hx;omega;have:=hle x hx;omega⟩):G:=h
theorem Zgs(h:G:=by apply Array.ext;{simp[madeCells]};intro i h1 h2;simp[madeCells,Nat.mod_one]):G:=h
theorem Zgt(h:G:=by have h1:=YP.o.ext cR.o (λ_ _ f=>f);unfold SR at h1;rw[pg.o]at h1;exact h1):G:=h
theorem Zgu(h:G:=by cases ts with|nil=>(exact absurd rfl h.wf.ne)|cons t us=>exact⟨t,us,rfl⟩):G:=h
theorem ZbQ(h:G:=by exact absurd (e1.trans e2.symm) (Hk _ _ hi hj aZ)):G:=h
theorem ZbR(h:G:=by exact absurd (e2.trans e1.symm) (Hk _ _ hj hi xH)):G:=h
theorem Zgv(h:G:=by exact⟨m,by simp[hm],λx hx=>by rcases oz.1 hx with rfl|hx;omega;exact hle x hx⟩):G:=h
theorem EZ(h:G:=by have:=hd.1;omega):G:=h
theorem ow(h:G:=by split<;>omega):G:=h
theorem yA(h:G:=by exact(rr w1).alloc _):G:=h
theorem E0(h:G:=by simpa using hx):G:=h
theorem Se(h:G:=by have:j<(n-m)*4:=hj;omega):G:=h
theorem Zgw(h:G:=by rw[e];refine h2.ext oN (λq hq e=>?_);rcases hf q hq with h|h;{have:=aZ q h;omega};omega):G:=h
theorem Zgx(h:G:=by rw[N9 iY.o];exact h1):G:=h
theorem ZbT(h:G:=by simp at bN;subst bN;exact z7 mK 1):G:=h
theorem Zgy(h:G:=by intro t hm;rcases ct.1 hm with e|e;{exact h.zA t e};simp at e;subst e;omega):G:=h
theorem Zmg(h:G:=by rw[heap_alloc_old _ _ mI];exact EH):G:=h
theorem Zgz(h:G:=by rw[M3.BU]at hk;rcases Bool.or_eq_true _ _▸hk with e|e;{exact h1 k e};exact h2 k e):G:=h
theorem Sf(h:G:=by rw[ByteArray.toList_eq]):G:=h
theorem ZgA(h:G:=by rw[show As.length=(H6 As).length by simp[H6],kD];exact hx):G:=h
theorem ZbU(h:G:=by rw[Em HZ.o];exact Ql.o aC):G:=h
theorem ZgB(h:G:=by rintro e w' ⟨rfl,hS,_⟩;refine⟨rfl,?_⟩;have:=hP.same hS hP.st;simpa[ll]using this):G:=h
theorem Zmi(h:G:=by rw[hl];exact J8 (J8 ho hx (λe=>h.sep mb e (by rw[e1];rfl))) hW (gu mb (by rw[e1];rfl))):G:=h
theorem ZgD(h:G:=by exact⟨0,aY _,rfl,X,H,q9.refl _ _,Ar.ep.refl HI,λ_ x hx=>by simp at hx⟩):G:=h
theorem ZbV(h:G:=by show ¬k=w.heap.size+1+1+1+1;omega):G:=h
theorem ZgE(h:G:=by simp[Value.ownBlock]at hk;subst hk;exact aV.imp (λe=>e) (λe=>cM h0.size e)):G:=h
theorem ZgF(h:G:=by have h3:=(aX.1 hj).1;rw[ck.1]at h3;exact h3):G:=h
theorem ZgG(h:G:=by rcases o5.o k hq with e|e;{exact mS k hd e};exact SU):G:=h
theorem ZgH(h:G:=by rw[hj]at hc;simp only[Addr.add];split;{rename_i h0;subst h0;exact hc};simpa using hc):G:=h
theorem ZbX(h:G:=by rw[dd,hP.len];omega):G:=h
theorem ZbY(h:G:=by exact⟨0,aY _,rfl,rfl,q9.refl _ _⟩):G:=h
theorem ZgI(h:G:=by intro p hp;simp at hp;rcases hp with rfl|rfl;{exact ha};exact hb):G:=h
theorem Sg(h:G:=by simp only[J5,cV];rfl):G:=h
theorem ZgJ(h:G:=by have h1:=hl q hq;have h2:q≠M:=λe=>by{subst e;exact hm hq};omega):G:=h
theorem ZbZ(h:G:=by have h1:i=b1:=e;omega):G:=h
theorem Sh(h:G:=by have:=HV.o.size;omega):G:=h
theorem ZgK(h:G:=by simp only[Z1];exact BJ _ (Z9.2 ⟨p,fh,hx⟩)):G:=h
theorem ZgL(h:G:=by have h1:w2.heap.size<=k:=hk;simp at ew;exact SV):G:=h
theorem E1(h:G:=by simp[nZ,J6]):G:=h
theorem ZgM(h:G:=by rw[e2]at e;simp[cG]at e;subst e;obtain⟨es,cl,h5,_⟩:=ho;rw[hc]at h5;simp at h5):G:=h
theorem ZgN(h:G:=by exact World.news_of_block (cs:=#[kp b]) (t:=172) (fr:=(0,0)) (heap_alloc_new w4 _)):G:=h
theorem wo(h:G:=by simp at h1;omega):G:=h
theorem Zca(h:G:=by rw[Em HZ.o];exact(ql.o rfl).1):G:=h
theorem ZgO(h:G:=by rw[dd,ig hn];exact j8 this hx (λk hk=>dt k (El hk))):G:=h
theorem yB(h:G:=by simp[Z4]):G:=h
theorem Si(h:G:=by show ¬ba=c.rb;omega):G:=h
theorem ZgP(h:G:=by rw[Up.o];exact qQ cK aR ch (PN.leaf 0 0 _) (J9 _ _ _ _ _ _) bV bW cC fB):G:=h
theorem ZgQ(h:G:=by simp[Z1,z8,Y3]at hx;rcases hx with hx|hx;{exact UX ha x hx};exact UX hb x hx):G:=h
theorem ZgR(h:G:=by exact HX.trans' (y' _ _ _ _ _) (λi hi e=>by have h1:i=w.heap.size+2:=e;omega)):G:=h
theorem Zcb(h:G:=by rw[Int.toNat_natCast,HN.o];rfl):G:=h
theorem ZgS(h:G:=by exact(oN.block _ (j9 kn) (by show ¬w.heap.size=w.heap.size+1;omega)).trans kn):G:=h
theorem ZgT(h:G:=by exact qH _ (by intro f hf;simp at hf;subst hf;exact ih (d+1)) us ps vs sd hr):G:=h
theorem Zcc(h:G:=by simp at hu;rcases hu with rfl|rfl|rfl<;>rfl):G:=h
theorem ZgU(h:G:=by rcases ct.1 hy with e|e;{exact HZ y e};simp at e;rw[e];exact HX):G:=h
theorem KU(h:G:=by simp[U5];omega):G:=h
theorem KY(h:G:=by simpa using hm):G:=h
theorem Zcd(h:G:=by rw[List.length_drop,Z6];omega):G:=h
theorem ZgV(h:G:=by have:=HI.o;exact pC):G:=h
theorem Sj(h:G:=by have:=ik _ e;omega):G:=h
theorem Zce(h:G:=by have:=(jL.o.lt g hg).1;omega):G:=h
theorem ZgW(h:G:=by show ¬c.sb=w.heap.size;omega):G:=h
theorem kz(h:G:=by simp[intOf]):G:=h
theorem Zcf(h:G:=by simp only[ld,M3.none_or];rfl):G:=h
theorem K4(h:G:=by simpa using hj):G:=h
theorem Zcg(h:G:=by rw[kD];exact hx):G:=h
theorem Sk(h:G:=by have:=fo.o.size;omega):G:=h
theorem ZgX(h:G:=by rw[mh,fR,h,List.filter_append];simp[mh,hf]):G:=h
theorem ZgY(h:G:=by rw[jy,fR,h,List.filter_append];simp[jy,hf]):G:=h
theorem ZgZ(h:G:=by have:=(aX.1 hz).1;exact pC):G:=h
theorem Zh0(h:G:=by exact qQ cK.o aR.o ch.o (qz7 Ul.o) (J9 _ _ _ _ _ _) bV bW cC fB.o):G:=h
theorem Zh1(h:G:=by exact(yZ.trans aR).trans ((rr w2).setCell (p:=(aD b 1)) (λ_=>.inl rfl) _)):G:=h
theorem Zch(h:G:=by have h2:=Xg true HP;have h3:=fi.o;omega):G:=h
theorem Zh2(h:G:=by rw[FP,bK,bK];exact eS):G:=h
theorem La(h:G:=by simpa using ho):G:=h
theorem Zh3(h:G:=by have h2:1=j:=by{have h1:=jJ.o;omega};rw[h2];exact kQ.o):G:=h
theorem Bv(h:G:=by exact aW _):G:=h
theorem Bw(h:G:=by exact zd8 aC):G:=h
theorem Zci(h:G:=by refine e.trans ?_;simp[sO,CK.cells,HA.o]):G:=h
theorem Zh4(h:G:=by simp[hq]at h';obtain⟨rfl,rfl⟩:=h';exact h2.1 _ _ hq):G:=h
theorem Zh5(h:G:=by show _=_;rw[pV,Z5,U0,aF hq];unfold y6;split<;>rfl):G:=h
theorem Zh6(h:G:=by exact⟨λz=>atKey_put_same hD.isMap hk _ z,has_put_same hD.isMap hk _⟩):G:=h
theorem E2(h:G:=by rw[hv];rfl):G:=h
theorem Zh7(h:G:=by intro f bN;simp at bN;rcases bN with rfl|rfl<;>simp):G:=h
theorem Zh8(h:G:=by rcases hk with hk|hk;{exact(hF k hk).imp .inl id};exact .inl (.inr hk)):G:=h
theorem Zh9(h:G:=by injection e with e1 e2;injection e2 with e3 e4;rw[e3]):G:=h
theorem Sl(h:G:=by have:=eK.o;omega):G:=h
theorem Sn(h:G:=by have:=oR.o;omega):G:=h
theorem Zha(h:G:=by simp only[Z1];exact BJ _ (Z9.2 ⟨p,Zf p hp,hz⟩)):G:=h
theorem So(h:G:=by have:=z.2.1;omega):G:=h
theorem Sp(h:G:=by have:=z.2.2;omega):G:=h
theorem Zhb(h:G:=by simp at h';obtain⟨rfl,rfl⟩:=h';exact hf.1 _ _ hr):G:=h
theorem Zhc(h:G:=by rw[bK];have:=h.len;have:=k.len;omega):G:=h
theorem Zhd(h:G:=by exact⟨v,⟨hv.1,λd hd=>hv.2 d (rV _ hd)⟩,ht⟩):G:=h
theorem Sq(h:G:=by simp at hl;omega):G:=h
theorem Sr(h:G:=by simp at hn;omega):G:=h
theorem Zmj(h:G:=by simp only[X1,X9,J0,ez,ey,xj,Ck];simp):G:=h
theorem Zhe(h:G:=by obtain⟨a,b,rfl,ha,hb⟩:=Gm hT hT (ts:=us) hr;exact .two hw ha hb):G:=h
theorem Zcj(h:G:=by have:=mR.o.size;omega):G:=h
theorem Zhf(h:G:=by simp[X2]at hp;rcases hp with rfl|rfl;{exact .inl ha};exact .inl hb):G:=h
theorem Zhg(h:G:=by have h5:w.heap.size<k:=hk;have h6:k=c.rb:=e;omega):G:=h
theorem gK(h:G:=by simp at h):G:=h
theorem Zhh(h:G:=by rw[<-gV];exact(q9.refl (λk=>k=sb) w2).sc sb 1 _):G:=h
theorem Zhi(h:G:=by rw[<-gV];exact(q9.refl (λk=>k=sb) w2).sc sb 3 _):G:=h
theorem Zmk(h:G:=by rw[U9 true HP.o,<-wB];exact yo.o):G:=h
theorem Zml(h:G:=by rw[dx hi]at hz;exact hr c z (hk i c z hc hz)):G:=h
theorem Zck(h:G:=by rw[eK.o false];exact hz):G:=h
theorem Zcl(h:G:=by have:=cJ _ e.symm;omega):G:=h
theorem Zcm(h:G:=by split at h<;>exact absurd h aC):G:=h
theorem Zhj(h:G:=by exact(h1.mono (λk _ hk=>Or.inr hk)).trans' hW (λi _ e=>Or.inl e)):G:=h
theorem Zcn(h:G:=by have:=Lr hm;omega):G:=h
theorem Zhk(h:G:=by exact⟨_,by rw[aF h],λ_=>rfl⟩):G:=h
theorem Zmm(h:G:=by rw[U9 false HP.o,<-wB];exact yo):G:=h
theorem Ss(h:G:=by simpa using wG):G:=h
theorem Zhl(h:G:=by intro w;have:=qN.o w;rw[qO]at this;exact cS):G:=h
theorem Zhm(h:G:=by intro j hj;rw[hv]at ck;exact ck.cellAt j hj):G:=h
theorem Zhn(h:G:=by have:=hh j hj;rw[qZ8,HA.app (by rw[qZ7];omega)]at this;exact cS):G:=h
theorem Zco(h:G:=by have:=h2.2.2 k hk;omega):G:=h
theorem Zcp(h:G:=by rw[eK.o true];exact hz):G:=h
theorem Su(h:G:=by rw[H7];exact hT):G:=h
theorem Zho(h:G:=by exact pJ cK aR ch ((J9 _ _ _ _ _ _).alloc _) bV bW cC fB):G:=h
theorem Zhp(h:G:=by have:=kL.o;simp only[oM]at this;exact cS):G:=h
theorem Zhq(h:G:=by simpa using Z9.2 ⟨q,hq,ih q hq x hx p fh⟩):G:=h
theorem Zhr(h:G:=by rw[hl];exact j8 ck hW (λk hk=>by rw[jd]at hk;exact eu k hk)):G:=h
theorem Zhs(h:G:=by show ¬w.heap.size+1+1=w.heap.size+1+1+1;omega):G:=h
theorem Zht(h:G:=by have:=(aX.1 hj).1;omega):G:=h
theorem E3(h:G:=by simp only[y8];omega):G:=h
theorem Zmn(h:G:=by have h1:g=w.heap.size:=e;have:=TP g hg;omega):G:=h
theorem Zhu(h:G:=by rcases aV with e|e;{exact h.sep g e};omega):G:=h
theorem Zcq(h:G:=by rw[Wl HL.o];exact aZ):G:=h
theorem Zhv(h:G:=by have EI:=hG.trans h6;exact⟨⟨EI.1,nv,Yl,h5,EI.2⟩,h4⟩):G:=h
theorem Zhw(h:G:=by rw[ji]at vQ;simp at vQ;exact vQ.1.symm):G:=h
theorem Zhx(h:G:=by show numOf TK j=_;unfold numOf;rw[h];simp[hx]):G:=h
theorem E4(h:G:=by simp[hy]):G:=h
theorem Zhy(h:G:=by exact pJ cK.o aR.o ch.o (J9 _ _ _ _ _ _) bV bW cC fB.o):G:=h
theorem Zhz(h:G:=by rw[uV hn];refine .inr ⟨mb,_,rfl,?_,Hi⟩;simpa using WU):G:=h
theorem ZhA(h:G:=by rw[dd,e];have:=oC 681 h4;omega):G:=h
theorem ZhB(h:G:=by subst e;have:=h.aL;rw[h1]at this;simp at this;exact n1 this.2):G:=h
theorem ZhC(h:G:=by show ¬w.heap.size+2=w.heap.size+1+1+1;omega):G:=h
theorem ZhD(h:G:=by rw[<-hZ];simp[zeroValue,typeInfo,hi,cA];rfl):G:=h
theorem ZhE(h:G:=by simp at h';obtain⟨rfl,rfl⟩:=h';exact he):G:=h
theorem ZhF(h:G:=by exact⟨rfl,(((rr w).drewN _).trans hx).drewN _,hr.drewN _⟩):G:=h
theorem ZhG(h:G:=by constructor;{exact .inl};rintro(h'|rfl);{exact h'};exact h):G:=h
theorem Zcr(h:G:=by show w.heap.size<=k;omega):G:=h
theorem ZhH(h:G:=by first|(exact q9.refl _ _)|exact(rr _).drew):G:=h
theorem Sv(h:G:=by simp[hq]at h'):G:=h
theorem Zmo(h:G:=by exact⟨_,cap,hv,h1,h2⟩):G:=h
theorem Sw(h:G:=by exact heap_alloc_new w2 _):G:=h
theorem Sx(h:G:=by have:=dq.o.size;omega):G:=h
theorem ZhI(h:G:=by rw[<-e];exact aU hi):G:=h
theorem Lb(h:G:=by simpa using hk):G:=h
theorem ZhJ(h:G:=by intro u hu;simp at hu;rcases hu with rfl|rfl|rfl|rfl<;>rfl):G:=h
theorem ZhK(h:G:=by have h1:=T4.o;rw[eZ.o]at h1;exact h1):G:=h
theorem Zcs(h:G:=by exact X6 (X6 (X6 K5 1 _) 2 _) 3 _):G:=h
theorem ZhL(h:G:=by intro k hk e;simp[Value.ownBlock]at hk;simp[cG]at e;omega):G:=h
theorem ZhM(h:G:=by rw[fR,hp];exact UY T _ p):G:=h
theorem Zmp(h:G:=by rw[Ip HP.o,Ip HP.o];exact sF.o):G:=h
theorem ZhN(h:G:=by rw[r9];exact λx hx=>h x (by simp[hx])):G:=h
theorem ZhO(h:G:=by intro f hf;simp at hf;subst hf;exact hT):G:=h
theorem ZhP(h:G:=by have h1:=oK _ e;have:=fB.o g hg;omega):G:=h
theorem ZhQ(h:G:=by have:=kL.o;rw[oM]at this;exact cS):G:=h
theorem E5(h:G:=by simp at hk;omega):G:=h
theorem Zct(h:G:=by rw[bK];omega):G:=h
theorem ox(h:G:=by simp[cf]):G:=h
theorem ZhR(h:G:=by simp at he;rcases he with rfl|rfl<;>simp<;>omega):G:=h
theorem Sy(h:G:=by rw[Z6];omega):G:=h
theorem ZhS(h:G:=by rw[FP,bK];exact eS):G:=h
theorem ZhT(h:G:=by simp only[z8,bK,h3,k3]):G:=h
theorem Sz(h:G:=by exact heap_alloc_new _ _):G:=h
theorem ZhU(h:G:=by have:=hs _ (rW.2 rfl);exact pC):G:=h
theorem ZhV(h:G:=by exact cM (Fu _ _) aC):G:=h
theorem ZhW(h:G:=by rcases h with rfl|rfl|rfl|rfl<;>decide):G:=h
theorem ZhX(h:G:=by simp only[db];rw[aJ OH.o,uG hy]):G:=h
theorem ZhY(h:G:=by simp only[db];rw[aJ OH.o,uH hy]):G:=h
theorem Zi0(h:G:=by obtain⟨n1,n2⟩:=F5.o.news hn;rw[n2];exact HQ.o n1 y e):G:=h
theorem Zi1(h:G:=by intro c hc;simp at hc;subst hc;decide):G:=h
theorem Zi2(h:G:=by rw[fR,hp,FN];simp[z8]):G:=h
theorem Zi3(h:G:=by simp[Value.ownBlock]at e;exact e.symm):G:=h
theorem Zcu(h:G:=by rw[rG.o];exact hn):G:=h
theorem Zmq(h:G:=by exact rV _ (rW.2 rfl)):G:=h
theorem Zcv(h:G:=by have:=aR.o.size;omega):G:=h
theorem Zi4(h:G:=by have:=(aX.1 e).1;omega):G:=h
theorem Zi5(h:G:=by rw[fR,h,FN];simp[z8]):G:=h
theorem Zi6(h:G:=by intro u2 vo;simp at vo;rcases vo with rfl|rfl<;>rfl):G:=h
theorem Zcw(h:G:=by have:=cR.o.size;omega):G:=h
theorem Zmr(h:G:=by rename_i h0;subst h0;exact cS):G:=h
theorem Zi8(h:G:=by have:=HA.o;rw[hw]at this;exact cS):G:=h
theorem Zcx(h:G:=by have:=gA.o;omega):G:=h
theorem SA(h:G:=by simp at bN):G:=h
theorem Zi9(h:G:=by simp only[z8,ct,h2,k2]):G:=h
theorem Zia(h:G:=by show _=_;unfold U2;rw[aF hs,hr]):G:=h
theorem Zib(h:G:=by exact(h3.block sb (j9 kW) (λe=>Hg e.symm)).trans kW):G:=h
theorem Zic(h:G:=by rcases k3 k hk with h|h;{have:=aZ k h;omega};omega):G:=h
theorem Zid(h:G:=by rw[<-dQ];exact heap_alloc_new wr _):G:=h
theorem Zie(h:G:=by rw[h3]at e;rw[dI e]at wG;exact wG rfl):G:=h
theorem Lc(h:G:=by rw[e];simp):G:=h
theorem Zif(h:G:=by simp[Value.ownBlock]at hk;subst hk;exact⟨cur,hh⟩):G:=h
theorem Zig(h:G:=by simp only[J5,Cf.o,Uu.o,dW];rfl):G:=h
theorem Zih(h:G:=by rcases h with rfl|rfl|rfl<;>decide):G:=h
theorem Zcy(h:G:=by exact⟨_,cap,hv⟩):G:=h
theorem Zii(h:G:=by show _<=_;simp[fM,dm,NU];omega):G:=h
theorem Zms(h:G:=by exact⟨g,u,rfl,j9 hh,by rw[hc,hu],h4 i u l hu hl⟩):G:=h
theorem Zij(h:G:=by exact⟨dZ u l this.1,λk hk=>hD k (this.2 k hk)⟩):G:=h
theorem Zik(h:G:=by rintro e w' ⟨rfl,rfl⟩;exact⟨rfl,cO.same h0⟩):G:=h
theorem Zcz(h:G:=by rw[qN.o];decide):G:=h
theorem Zil(h:G:=by rw[bK];exact ck):G:=h
theorem Zim(h:G:=by simpa[Value.ownBlock]using e.symm):G:=h
theorem Zin(h:G:=by rw[jJ.o];exact(mF [s[k]]).symm):G:=h
theorem Zio(h:G:=by unfold Addr.add;split<;>simp_all):G:=h
theorem Ziq(h:G:=by show _=_;rw[pV,Z5,U0,aJ hq]):G:=h
theorem Zir(h:G:=by obtain⟨p,hp,hm⟩:=Z9.1 hm;exact h p hp w' qs hm):G:=h
theorem Zis(h:G:=by rw[Array.toList_setIfInBounds,<-Wg,List.take_set]):G:=h
theorem ZcA(h:G:=by simpa using wL):G:=h
theorem ZcB(h:G:=by simpa using yY):G:=h
theorem Zit(h:G:=by show _=_;rw[lM.o,aF GK]):G:=h
theorem Ziu(h:G:=by show _=_;rw[U2,aF MR,hw]):G:=h
theorem Ziv(h:G:=by rcases hr with rfl|⟨v,rfl,_⟩<;>simp[z8,Z1,Y3]):G:=h
theorem Ziw(h:G:=by rw[<-og];exact(rr wr).drewN nq):G:=h
theorem wu(h:G:=by rw[this];rfl):G:=h
theorem Zix(h:G:=by have:=Uq.o;exact pC):G:=h
theorem Ziy(h:G:=by rw[k.mem,h.mem];simp[or_assoc]):G:=h
theorem Ziz(h:G:=by rw[aJ hc,aJ ⟨hf,ht,hc⟩];simp[Tb.put]):G:=h
theorem E6(h:G:=by exact CR.nil _ _):G:=h
theorem ZcC(h:G:=by exact h.bv k (.inr (.inl e))):G:=h
theorem ZcD(h:G:=by exact h.bv k (.inr (.inr e))):G:=h
theorem E7(h:G:=by exact(HF n).symm):G:=h
theorem ZiA(h:G:=by rw[<-dQ];exact(rr wr).alloc _):G:=h
theorem ZiB(h:G:=by have h2:=hv.zero;have h3:v TK.length=0:=h2;omega):G:=h
theorem ZcE(h:G:=by rw[zQ4 hq];rfl):G:=h
theorem SB(h:G:=by simp[lJ]):G:=h
theorem ZcF(h:G:=by simpa using h0):G:=h
theorem SC(h:G:=by simp[cu]):G:=h
theorem ZcG(h:G:=by simpa using hl):G:=h
theorem SD(h:G:=by simp[uP]):G:=h
theorem ZiC(h:G:=by simp[Z7.cells,Value.oneCell']):G:=h
theorem ZiD(h:G:=by rw[jd]at hk;exact h.sep k hk):G:=h
theorem ZiE(h:G:=by simp[U1.cells,Value.oneCell']):G:=h
theorem ZiF(h:G:=by simp[cf,ByteArray.toList_eq]):G:=h
theorem ZiG(h:G:=by rw[gh];exact jX):G:=h
theorem ZiH(h:G:=by show jh TK AK<=1000000;omega):G:=h
theorem ZiJ(h:G:=by show ¬tb=w1.heap.size;omega):G:=h
theorem ZiK(h:G:=by cases e1:q n<;>cases e2:p n<;>simp_all<;>omega):G:=h
theorem ZiL(h:G:=by have:=(aX.1 hp).1;omega):G:=h
theorem ZiM(h:G:=by rw[<-hV];exact(rr _).alloc _):G:=h
theorem ZiN(h:G:=by rw[de,hl];rfl):G:=h
theorem ZiO(h:G:=by have:w.heap.size<=i:=e;omega):G:=h
theorem ZiP(h:G:=by unfold nw at hx;rw[vT]at hx;exact hx):G:=h
theorem aC(h:G:=by simp):G:=h
theorem ZcH(h:G:=by intro nd bh e;injection e with e1 e2;subst e1;have Cm:=(eB.o.block _ (j9 wY.o) ZbA).trans wY.o;have My:=(fe.block _ (j9 Cm) RF).trans Cm;obtain⟨z0,z1,z2,z3,fz,hz,xj⟩:=uC.o.form;have ez:fa=fz:=SX;obtain⟨Uv,xk,Uw,Ux,fy,hy,Ck⟩:=F'.o.form;have ey:fb=fy:=Zbo;have up:∀q p,RN wb (w.heap.size<·) q p->RN (w5.setCell (aD w.heap.size 4) (.string (F++⟨#[41]⟩))) (w.heap.size<=·) q p:=by{intro q p h1;have h2:=h1.ext gB.o (λk _ hk e=>aA);have h3:=h2.ext eB.o (λk _ hk e=>aA);have h4:=h3.ext fe (λk _ hk e=>aA);exact h4.mono (λk _ hk=>aA)};have h6:=j9 ee.o;refine Ui (by':=0) (g:=wb.heap.size) (ba:=ba) (bb:=bb) (F:=F++ByteArray.mk #[41]) qR rfl kW My ?_ ?_ ?_;{rw[Z0,aJ (Or.inr (Or.inl rfl)),eY,aF aE,X1,<-ur.o,X9];exact Zmj};{exact ZjZ};exact up _ _ (F'.o.mono (λk _ hk=>aA))):G:=h
theorem ZcJ(h:G:=by have hW:q9 (·=w.heap.size) wa (((wa.setCell (aD w.heap.size 1) (.slice (sA g) (j+1) ff)).setCell (aD w.heap.size 4) (.string (f++⟨#[32]⟩++f'))).drew):=(((q9.refl (·=w.heap.size) wa).sc w.heap.size 1 _).sc w.heap.size 4 _).drew;have kW:=X6 (X6 KA 1 (.slice (sA g) (j+1) ff)) 4 (.string (f++⟨#[32]⟩++f'));obtain⟨q1,q2,q3,q4,q5⟩:=jT _ hW kW;refine⟨j+1,_,_,_,aA,q1,kW,?_⟩;cases cV:Z8 c.N n (d+1) (v::vs)with|ok nd ux=>(rw[cV]at q2;obtain⟨q6,q7⟩:=q5 nd ux cV;exact Or.inl ⟨ux,ps++[nd],kids++[b],⟨LL kQ.o cV,q2,q6,q4,q3,q7⟩,aA⟩)|no e p=>rw[cV]at q2;obtain⟨h0,bh,d',hr⟩:=q2;refine Or.inr ⟨e,p,h0,⟨bh,d',hr⟩,?_,LM kQ.o cV aA⟩;have g1:=gA.o;have g2:=iu.o;simp only[ByteArray.size_append'];have g4:(ByteArray.mk #[32]).size=1:=rfl;omega):G:=h
theorem bj(h:G:=by exact AllReadyIn.nil):G:=h
theorem ZiU(h:G:=by have hW:q9 (·=w.heap.size) wa (((wa.setCell (aD w.heap.size 1) (.slice (sA g) (j+1) ff)).setCell (aD w.heap.size 4) (.string (f++⟨#[32]⟩++f'))).drew):=(((q9.refl (·=w.heap.size) wa).sc w.heap.size 1 _).sc w.heap.size 4 _).drew;have kW:=X6 (X6 KA 1 (.slice (sA g) (j+1) ff)) 4 (.string (f++⟨#[32]⟩++f'));obtain⟨q1,q2,q3,q4,q5⟩:=jT _ hW kW;refine⟨j+1,_,_,_,aA,q1,kW,?_⟩;exact Zm7):G:=h
theorem SE(h:G:=by rcases h.2 with⟨e,e0⟩|⟨g,cap,cur,hv,_,_,h1,h2,_⟩;{exact⟨none,0,yt,aA,aY _⟩};exact Zmo):G:=h
theorem ZiV(h:G:=by rcases hk with q|q|q|q|q|q;{subst q;exact key h.th.aL aE aE};{subst q;obtain⟨_,C,_,hg,_⟩:=h.th.tb.ex;exact key hg aE aE};{obtain⟨cur,hc⟩:=O4 h.th.ts q;exact key hc aE aE};{obtain⟨cur,hc⟩:=O4 h.th.eU q;exact key hc aE aE};{obtain⟨cur,hc⟩:=O4 h.th.tw q;exact key hc aE aE};obtain⟨cur,hc⟩:=O4 h.th.ss q;exact key hc aE aE):G:=h
theorem ZiW(h:G:=by obtain⟨vs,h1,h2,h3,h4⟩:=h;have h0:=h2;rcases h2.2 with⟨hv,e0⟩|⟨g,cap,cur,hv,hg,hh,r⟩;{exact ZfP};refine⟨_,cap,hv,λi l hl=>?_⟩;have hi:=(aX.1 hl).1;obtain⟨u,hu⟩:∃u,vs[i]?=some u:=⟨_,aU aA⟩;rw[hv]at h0;have hc:=World.ownsRow.cellAt h0 i aA;exact Zms):G:=h
theorem qy(h:G:=by simp at di;subst di;simp[Addr.add]):G:=h
theorem pB(h:G:=by exact heap_alloc_new w _):G:=h
theorem tE(h:G:=by have:=HH.lp _ f;omega):G:=h
theorem ZiY(h:G:=by rcases hm with⟨e1,e2⟩|⟨mb,D,e1,ho,Hi⟩;{exact .inl ⟨e1,by rw[e2];simp⟩};refine .inr ⟨mb,D,e1,?_,ql9 Hi hn⟩;have hl:(K.take n).length=n+(K.length-K.length):=nC;exact Zmi):G:=h
theorem SG(h:G:=by rw[FP,(FV aA gO).2,bK];exact eS):G:=h
theorem ZcL(h:G:=by exact⟨0,aY _,rfl,q9.refl _ _,World.ownsRow_nil _ _ _ _,λk hk=>absurd hk gg⟩):G:=h
theorem ZiZ(h:G:=by rw[e2];constructor;{rw[cB wj,hl];have:i*2-i*2=0:=aA;exact wu};rw[cB wj,hl];have:i*2+1-i*2=1:=aA;exact wu):G:=h
theorem Zj0(h:G:=by intro k s e;obtain⟨hk,e⟩:=lO e;obtain⟨h1,h2,h3⟩:=h.tn k s e;refine⟨h1,λet v hv hh=>h2 et v hv (λj hj=>?_),h3⟩;have:=h1 j hj;exact(M8 aA v).1 (hh j hj)):G:=h
theorem ZcM(h:G:=by intro q hq;rcases bN q hq with e|e;{exact qf q e};exact wA):G:=h
theorem Bx(h:G:=by have:=h.sm;exact bS):G:=h
theorem By(h:G:=by rw[<-hV];exact Bo):G:=h
theorem wz(h:G:=by unfold maxLen;exact lC):G:=h
theorem pC(h:G:=by simp at this;omega):G:=h
theorem SH(h:G:=by rw[ef.o,U0,aF jG];split<;>rfl):G:=h
theorem Lg(h:G:=by unfold jj;rw[aF aA]):G:=h
theorem Zj8(h:G:=by rintro k (e|e|e);{exact qw};{exact(h1 k e).imp (λh=>.inr (.inl h)) id};exact(h2 k e).imp (λh=>.inr (.inr h)) id):G:=h
theorem tF(h:G:=by simp at h'):G:=h
theorem Bz(h:G:=by have:=HE.o.size;exact lC):G:=h
theorem Zj9(h:G:=by simp only[Tb.eC];by_cases h2:a<f\/a=f/\b<t;{rw[aJ h2,aJ aA]};rw[aF h2,aF aA]):G:=h
theorem ZcN(h:G:=by simp only[IntKind.wrap,IntKind.signed,IntKind.bits];exact aM):G:=h
theorem SI(h:G:=by simp only[ByteArray.size_append'];exact aM):G:=h
theorem rP(h:G:=by exact⟨aA,aA⟩):G:=h
theorem Zjb(h:G:=by rcases h.own.2 with⟨e,e0⟩|⟨g,cap,cur,hv,_⟩;{exact⟨none,0,yt⟩};exact Zcy):G:=h
theorem Zjd(h:G:=by simp at he;subst he;exact aM):G:=h
theorem Zje(h:G:=by rcases h.2 with⟨e,e0⟩|⟨g,cap,cur,hv,_⟩;{exact⟨none,0,yt⟩};exact Zcy):G:=h
theorem ZcO(h:G:=by obtain⟨t,us,rfl⟩:=hP.head;exact zW2 hP):G:=h
theorem E8(h:G:=by exact heap_alloc2_new w _ _):G:=h
theorem Zjf(h:G:=by rw[e,bK,iR];exact Zk2):G:=h
theorem Zjg(h:G:=by exact⟨rfl,hx,H.kI hx (H.wf.tail kJ) aA aA ⟨i+1,ZgV,hn,HT.2.2.2,X6 (X6 HB 2 _) 1 _⟩⟩):G:=h
theorem ZcP(h:G:=by simp only[Addr.add];split;{exact Zmr};exact ku):G:=h
theorem Li(h:G:=by rw[<-hW];exact Bo):G:=h
theorem ZcQ(h:G:=by simp only[nE,bK];omega):G:=h
theorem Zjh(h:G:=by rcases eT.o.2 with⟨e,e0⟩|⟨g',cap,cur,hv,_,hh,_⟩;{omega};exact rL):G:=h
theorem Zji(h:G:=by rcases HT.o.2 with⟨e,e0⟩|⟨g',cap,cur,hv,_,hh,_⟩;{omega};exact rL):G:=h
theorem cS(h:G:=by exact this):G:=h
theorem Zjj(h:G:=by exact((eR w).alloc _).grown HG (λk e hk=>by have h1:w.heap.size=k:=dI e;omega)):G:=h
theorem Zjk(h:G:=by by_cases h:tc=n;{exact⟨_,yE,λh2=>aA⟩};exact Zhk):G:=h
theorem Zjl(h:G:=by rw[uV hn];have ho:=j8 (j8 ck h2 (λk hk e=>ot)) h3 (λk hk e=>ot);exact La):G:=h
theorem SJ(h:G:=by intro f hf;exact ES):G:=h
theorem E'(h:G:=by simpa using h2):G:=h
theorem SK(h:G:=by have:=eA;exact KC):G:=h
theorem SL(h:G:=by rw[bK]at h1;omega):G:=h
theorem Zjm(h:G:=by intro k hk;simp[Value.ownBlock]at hk;subst hk;exact aV.imp id (λe=>aA)):G:=h
theorem ZcR(h:G:=by subst e;have:=h.aL;rw[hc]at this;exact fQ):G:=h
theorem Zjn(h:G:=by exact hr.ext pH eG (by have:=H.o.cH;exact eH) (by have:=H.o.kH;exact eW)):G:=h
theorem SM(h:G:=by rw[<-nL];exact Bo):G:=h
theorem Lj(h:G:=by rw[decide_eq_decide];omega):G:=h
theorem Zjo(h:G:=by have:=(TA hn).2.2;intro e;rw[e]at this;exact SY):G:=h
theorem SN(h:G:=by rw[<-hF];exact Zfz):G:=h
theorem ZcS(h:G:=by rw[gS false]at hz;exact ZfK):G:=h
theorem ZcT(h:G:=by unfold maxLen at h2;exact h2):G:=h
theorem ZcU(h:G:=by rw[gS true]at hz;exact ZfK):G:=h
theorem Zjp(h:G:=by exact(((cR.trans' (y' _ _ _ _ _) (λi hi e=>fq)).alloc _).alloc _).drew):G:=h
theorem Zjq(h:G:=by simp[hq]at h';obtain⟨_,rfl⟩:=h';exact⟨h3.1,aA⟩):G:=h
theorem Zjr(h:G:=by refine bodyPost_ret (results_none rfl _ _ _) rfl ?_;exact⟨rfl,_,rfl⟩):G:=h
theorem Lk(h:G:=by unfold maxLen;exact mu):G:=h
theorem SO(h:G:=by exact((rr w).alloc _).alloc _):G:=h
theorem Ll(h:G:=by intro k hk;exact ot):G:=h
theorem Zjs(h:G:=by exfalso;have h1:=HA.o;rw[cj aA]at h1;exact h1 HX):G:=h
theorem SP(h:G:=by have:=hk.1;omega):G:=h
theorem SQ(h:G:=by rw[g0];exact aM):G:=h
theorem Zjt(h:G:=by exact((EC.trans' (JX _ _ _ _ _ _ _ _) (λi hi e=>fq)).drew).drew):G:=h
theorem ZcV(h:G:=by rw[e2]at e;injection e with e3;omega):G:=h
theorem ZcW(h:G:=by have:=jS.o g hg;omega):G:=h
theorem SU(h:G:=by have:=fX k hd;omega):G:=h
theorem Zju(h:G:=by show _=_;rw[HT.o,cj aA]):G:=h
theorem Zjv(h:G:=by apply UInt8.toNat_inj.1;rw[UInt8.toNat_ofNat'];omega):G:=h
theorem ZcY(h:G:=by rw[<-pt];exact vZ):G:=h
theorem Zjw(h:G:=by exact(EC.trans' (JX _ _ _ _ _ _ _ _) (λi hi e=>fq)).drew):G:=h
theorem Zjx(h:G:=by have:=jn List.length mV;exact ku):G:=h
theorem Zjy(h:G:=by have:=KB.o;rw[<-e,KA.o]at this;exact fQ):G:=h
theorem Zjz(h:G:=by simp at h';obtain⟨rfl,rfl⟩:=h';decide):G:=h
theorem ZcZ(h:G:=by exact⟨none,0,yt,λh0=>aA⟩):G:=h
theorem ZjA(h:G:=by intro e;rw[e]at gO;exact absurd gO aE):G:=h
theorem ZjB(h:G:=by intro e;rw[e]at hp;exact absurd hp aE):G:=h
theorem ZjC(h:G:=by intro e;rw[e]at hn;exact absurd hn aE):G:=h
theorem SV(h:G:=by show w.heap.size<k;omega):G:=h
theorem ZjD(h:G:=by have h1:=(H.own.lt g hg).2;exact Zcj):G:=h
theorem ZjE(h:G:=by exact hr.ext hW eG eH ZgW (λg hg e=>Zmn) Zgp):G:=h
theorem ZjF(h:G:=by rw[iQ aA,iQ aA]):G:=h
theorem ZjG(h:G:=by rw[zU8,dd];exact kv):G:=h
theorem ZjH(h:G:=by rw[hl,dd];exact kv):G:=h
theorem ZjI(h:G:=by have:=(h3.2 nd bh h').2;exact aM):G:=h
theorem Zda(h:G:=by rw[e]at he;exact absurd he aE):G:=h
theorem Zdb(h:G:=by rw[Z6];exact aM):G:=h
theorem ZjK(h:G:=by simp only[Tb.eC];rw[aF aA]):G:=h
theorem Zdc(h:G:=by rw[h4]at e;exact absurd e aE):G:=h
theorem ZjL(h:G:=by rw[Z0,aF aE,eY,aJ aE]):G:=h
theorem ZjM(h:G:=by rw[dx aA]at hc;exact Zml):G:=h
theorem ZjN(h:G:=by have:=HR.o;unfold GE;exact ku):G:=h
theorem Zdd(h:G:=by simpa using aZ):G:=h
theorem ZjO(h:G:=by rw[Z1,aJ nD];exact Zmq):G:=h
theorem ZjP(h:G:=by simp only[Tb.df];exact ow):G:=h
theorem ZjQ(h:G:=by rw[hl,dd];omega):G:=h
theorem ZjR(h:G:=by have g2:(ByteArray.mk #[32]).size=1:=rfl;omega):G:=h
theorem ZjS(h:G:=by rw[rW]at he;subst he;exact aM):G:=h
theorem ZjT(h:G:=by have:=(aX.1 hx).1;omega):G:=h
theorem Zde(h:G:=by intro nd bh e;injection e with e1 e2;subst e1;refine RN.mk (pv:=.slice a j cap) (form:=f++⟨#[41]⟩) (kids:=kids) ?_ (aW _) ?_ ?_ (λg hg=>lD (jS.o g hg)) ?_;{exact kW};{rw[Z0,aJ (Or.inl rfl),eY,aF aE,X1,HF.o,X9];simp};{rw[X2,aF aE,eZ.o];exact Zfy};exact Zk4):G:=h
theorem Zdf(h:G:=by exact⟨0,none,0,_,rfl,aR,ee,Or.inl ⟨aP,[],[],⟨rfl,ch,jQ,World.ownsRow_nil _ _ _ _,λg hg=>absurd hg gg,λi b p hk=>absurd hk aC⟩,aY _⟩⟩):G:=h
theorem Zdg(h:G:=by rw[heap_alloc_old _ _ aM,heap_alloc_old _ _ aC];exact pB):G:=h
theorem yD(h:G:=by have:=gA.o;exact aM):G:=h
theorem ZjU(h:G:=by exact⟨0,none,0,_,rfl,aR,ee,Or.inl ⟨aP,[],[],⟨rfl,ch,jQ,World.ownsRow_nil _ _ _ _,λg hg=>absurd hg gg,λi b p hk=>absurd hk aC⟩,by rw[Tc];rfl⟩⟩):G:=h
theorem SX(h:G:=by rw[oP.o]at hz;simp at hz;exact hz.2.2.2.2):G:=h
theorem ZjV(h:G:=by split at e;{simp only[Rs.ok.injEq]at e;obtain⟨rfl,rfl⟩:=e;exact .mk (λh=>absurd h aE) (λp hp=>absurd hp aC)};exact bt):G:=h
theorem ZjW(h:G:=by by_cases hr:c.rb<w.heap.size;{exact hr};rw[tI aA]at hb;exact absurd hb aC):G:=h
theorem ZjX(h:G:=by simp at hw;rcases hw with rfl|rfl;{exact⟨λe he=>Zjd,aC⟩};exact⟨λe he=>Zjd,aC⟩):G:=h
theorem ZjY(h:G:=by intro W bm;have:=tg (h.ext bm (λ_ _ f=>f)) aC aM;exact ZfW):G:=h
theorem ZjZ(h:G:=by exact up _ _ ((uC.o.ext jW.o (λk _ hk e=>aA)).mono (λk _ hk=>aA))):G:=h
theorem Zk0(h:G:=by refine⟨λe he=>?_,aC⟩;simp at he;subst he;simp only;exact ow):G:=h
theorem yE(h:G:=by rw[aJ h]):G:=h
theorem Zk1(h:G:=by rw[ir.o,Z5,U0,aF jG];split<;>rfl):G:=h
theorem wA(h:G:=by exact .inr aA):G:=h
theorem Zk2(h:G:=by exact j8 ck hW (λk hk e=>K8 ck hH aE (e▸hk))):G:=h
theorem Zdh(h:G:=by simp at g1⊢;omega):G:=h
theorem SY(h:G:=by exact absurd this aE):G:=h
theorem Zk3(h:G:=by refine⟨0,aA,rfl,(((rr w).alloc _).alloc _).alloc _,?_,?_,?_⟩;{exact Zdg};{exact Zgg};exact Zmf):G:=h
theorem Zk4(h:G:=by intro i q p Ep di;rw[X2,aF aE]at di;exact Zm5):G:=h
end Go.Proofs.YtegbdaffhpiacaaGreatDoor

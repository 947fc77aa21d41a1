import PyProof.Rows.All
import Wide.All
import OpenK.AllK
import Wide.FinOn
import Lean
import PyProof.EqAt
import PyProof.EqKinds
import PyProof.TupleCall
import PyProof.ZipIter
import PyProof.LongRange
import PyProof.StrBlockL
import PyProof.StrCalls6
import PyProof.SliceStr
import PyProof.StrWalks
import PyProof.StrLawsIn
import PyProof.StrOps2
import PyProof.DelItemList
import PyProof.ListOps
import PyProof.FitsReplace
import PyProof.DictTable
import PyProof.DictKinds
import PyProof.DictStraight
import KE.KEqDict
import PyProof.InstStoreFacts
import PyProof.InstStore
import PySem.Challenge.RW_ullage_k98_whole_text_to_paper
set_option Elab.async false
set_option linter.all false
set_option bootstrap.genMatcherCode false
set_option compiler.extract_closed false
set_option maxRecDepth 100000
local macro_rules | `(command| abbrev $i:declId $s:optDeclSig $v:declVal)=>`(command| noncomputable def $i:declId $s:optDeclSig $v:declVal)
open List renaming mem_cons_of_mem->aL,length_map->aF,mem_cons_self->aP,mem_append->bw,mem_map->a8,mem_of_getElem?->cJ,mem_cons->bB,getElem?_eq_getElem->d_,mem_append_right->du,all_eq_true->cz,map_map->bH,replicate->aaq,getElem?_map->dg,mem_append_left->eO,length_append->eP,getElem?_eq_some_iff->gP,map_cons->cT,map_append->aax,size_toArray->eQ,map_congr_left->fN,getD_eq_getElem?_getD->iX,mem_singleton->gp,getElem?_set_ne->gY,all_cons->eR,length->aaI,mem_filterMap->gZ,range->dh,nodup_cons->gy,getElem?_append_right->kH,append_nil->iB,length_set->iD,eq_nil_iff_forall_not_mem->nS,append_assoc->jz,nil_append->aaX,cons_append->aaY,map_nil->iC,length_cons->jS,length_range->kI,getElem?_append_left->oF,length_singleton->nU,getElem?_cons_succ->abh,mem_or_eq_of_mem_set->qh,getElem?_replicate->qi,getElem?_cons_zero->abt,filterMap_cons->oG,length_drop->nV,map_replicate->oH,all_map->mK,getElem?_set_self'->qV,replicate_succ->qj,length_take->oI,not_mem_nil->oJ,mem_filter->oK,length_replicate->qW,mem_of_mem_drop->qX,mem_range->oM,set_eq_of_length_le->tI,map_set->nW,getElem_of_mem->qY,length_pos_iff->qZ,range'->nX,eq_nil_of_length_eq_zero->uZ,flatten_cons->q_,filter_cons->rd,mem_of_mem_take->tJ,map->acb,getElem?_range->tK,map_eq_nil_iff->tL,foldl_cons->rf,drop_eq_getElem_cons->u7,mem_replicate->tM,flatMap_cons->tN,find?_cons_of_pos->act,find?_cons_of_neg->u9,max?_eq_some_iff->u_,range_succ->tO,filter_map->tP,getElem?_drop->va,any_cons->tQ,ext_getElem?->vb,filter_congr->vc,mem_of_find?_eq_some->zx,getElem?_take_of_lt->zy,mem_reverse->vd,drop_length->ve,getElem_mem->vf,filterMap_cons_none->zz,set->acT,filter_cons_of_pos->zA,filter_cons_of_neg->zB,of_mem_zip->vg,getElem?_set_self->zC,range_succ_eq_map->zD,take_of_length_le->zE,getElem?_eq_none->zF,drop_left->vh,getElem_toArray->zG,getElem?_of_mem->zH,reverse_reverse->zI,map_take->vi,map_drop->vj,getElem_range->zJ,filter_append->zK,getElem?_take->zL,isEmpty->vk,nodup_append->zM,map_id->vm,foldl->vn
open Nat renaming le_trans->aS,le_of_lt->a6,le_refl->bx,zero_le->cK,lt_of_le_of_lt->fO,lt_of_lt_of_le->gQ,beq->cU,min_le_left->iE,ne_of_lt->g_,lt_irrefl->iY,le_of_succ_le_succ->m8,zero_add->aa5,succ_le_succ->kn,le_of_eq->i9,mul_le_mul_right->m9,min_le_right->kJ,pow_pos->i_,not_lt->iZ,le_of_lt_succ->m_,le_of_not_lt->nc,le_add_right->ng,le_div_iff_mul_le->qk,succ_mul->mL,mul_comm->mM,pow_succ->mO,min_eq_right->oN,lt_of_le_of_ne->rg,le_add_left->ql,min_eq_left->qm,le_succ_of_le->rj,not_le_of_lt->rl,mul_one->oO,le_antisymm->rm,div_add_mod->acl,succ_pos->qo,add_sub_cancel_left->vp,le_succ->qp,ne_of_gt->rn,pow_le_pow_right->vq,div_mul_le_self->vt,eq_zero_or_pos->vw,add_comm->tR,lt_or_ge->tS,lt_succ_self->vx,pow_zero->tU,le_mul_of_pos_right->zN,not_lt_zero->vy,log2_lt->tV,le_zero->tW,div_div_eq_div_mul->zO,add_mul->tX,eq_of_beq_eq_true->zP,sub_eq_zero_of_le->adc,add_le_add_right->zQ,div_eq_of_lt_le->zR,pow_le_pow_left->zS,add_sub_cancel'->zT,sub_self->vz,pos_of_ne_zero->zU,lt_trans->vA
open Option renaming map_eq_some_iff->fP,isSome_iff_exists->jD,map_some->abl,bind_some->nh,getD->tY,getD_none->zV
open Bool renaming and_eq_true->bg,false_and->aa0,true_and->aa4,false_eq_true->aba,or_eq_true_iff->oP,and_true->abF,not_false->abK,false_ne_true->qq,true_eq_false->abN,not_true->abQ,not_eq_true'->rq,and_false->ab7,or_false->qr,false_or->qt,eq_iff_iff->rA,or_eq_true->tZ,and_self->acG,true_or->vB
open Int renaming natCast_nonneg->gq,toNat_natCast->gR,ofNat_le->gS,toNat_of_nonneg->mP,natCast_mul->kK,not_le->i5,lt_of_le_of_lt->nY,emod_nonneg->ni,ofNat_lt->nZ,emod_lt_of_pos->rB,add_nonneg->rC,le_trans->rD,not_lt->qu,natCast_ediv->vC,natCast_zero->vD,ediv_nonneg->vE,sub_zero->vF,cast_ofNat_Int->adt,zero_add->vG
namespace Internal
theorem nF{P:Prop}(h:false=true):P:=Bool.noConfusion h
theorem nE{P:Prop}(h:False):P:=h.elim
theorem bS{α β:Type _}{o:Option α}{f:α->Option β}{b:β}(h:o.bind f=some b):∃a,o=some a/\f a=some b:=Option.bind_eq_some_iff.mp h
section
namespace L2
open PySem PySem.Spec PyProof.Rows
@[reducible]noncomputable def Key:=Sum Int Str
abbrev UP:Key->Value->Bool
 |.inl k,v=>Value.isInt k v
 |.inr x,v=>Value.isStrOf x v
abbrev AaU(w:World):Key->Int
 |.inl k=>hashInt k
 |.inr x=>hashStr w x
theorem Bb:∀{k:Key}{v:Value},UP k v=true->(∃i t,k=Sum.inl i/\v=Value.int i t)\/(∃x t,k=Sum.inr x/\v=Value.str x t)
 |.inl i,v,h=>by
  obtain⟨t,e⟩:=Value.isInt_shape (k:=i) (v:=v) h
  exact .inl ⟨i,t,rfl,e⟩
 |.inr x,v,h=>by
  obtain⟨t,e⟩:=Value.isStrOf_shape (x:=x) (v:=v) h
  exact .inr ⟨x,t,rfl,e⟩
theorem Xb(a b:Int):decide ((Sum.inl a:Key)=Sum.inl b)=(a==b):=by
 by_cases e:a=b
 ·subst e;simp
 have h:¬(Sum.inl a:Key)=Sum.inl b:=fun q=>e (Sum.inl.inj q)
 rw[decide_eq_false h]
 exact(beq_eq_false_iff_ne.mpr e).symm
theorem Xc(a b:Str):decide ((Sum.inr a:Key)=Sum.inr b)=decide (a=b):=by
 by_cases e:a=b
 ·subst e;simp
 have h:¬(Sum.inr a:Key)=Sum.inr b:=fun q=>e (Sum.inr.inj q)
 rw[decide_eq_false h,decide_eq_false e]
theorem Xd(a:Int)(b:Str):decide ((Sum.inl a:Key)=Sum.inr b)=false:=decide_eq_false (fun q=>nomatch q)
theorem Xe(a:Str)(b:Int):decide ((Sum.inr a:Key)=Sum.inl b)=false:=decide_eq_false (fun q=>nomatch q)
abbrev Ko(prog:Program)(w:World):PySem.KeyKind prog w Key where
 is:=UP
 hash:=AaU w
 inj:=fun v a b ha hb=>by
  rcases Bb ha with⟨i,t,rfl,rfl⟩|⟨x,t,rfl,rfl⟩
  ·rcases Bb hb with⟨j,u,rfl,e⟩|⟨y,u,rfl,e⟩
   ·injection e with e1 _;rw[e1]
   exact nomatch e
  rcases Bb hb with⟨j,u,rfl,e⟩|⟨y,u,rfl,e⟩
  ·exact nomatch e
  injection e with e1 _;rw[e1]
 byValue:=fun k v h=>by
  rcases Bb h with⟨i,t,rfl,rfl⟩|⟨x,t,rfl,rfl⟩<;>rfl
 pyHash:=fun hv h=>by
  rcases Bb hv with⟨i,t,rfl,rfl⟩|⟨x,t,rfl,rfl⟩
  ·exact wpAny_pyHash_int h
  exact wpAny_pyHash_str h
 eqBool:=fun hu hv h=>by
  rcases Bb hu with⟨i,t,rfl,rfl⟩|⟨x,t,rfl,rfl⟩
  ·rcases Bb hv with⟨j,u,rfl,rfl⟩|⟨y,u,rfl,rfl⟩
   ·rw[Xb]at h;exact wpAny_eqBool_int h
   rw[Xd]at h;exact SeqAt.EqAt.int_str i t y u _ _ _ _ h
  rcases Bb hv with⟨j,u,rfl,rfl⟩|⟨y,u,rfl,rfl⟩
  ·rw[Xe]at h;exact SeqAt.EqAt.str_int x t j u _ _ _ _ h
  rw[Xc]at h;exact wpAny_eqBool_str h
 «strs»:=fun k x t v h=>by
  rcases Bb h with⟨i,u,rfl,e⟩|⟨y,u,rfl,e⟩
  ·exact nomatch e
  injection e with e1 _
  subst e1
  cases v<;>rfl
end L2
namespace L2
open PySem PySem.Spec PyProof.Rows
inductive V where
 |aJ|bl (b:Bool)|int (i:Int)|str (x:Str)|qv (b:Array UInt8)|oQ (b:UInt64)|ref (a:Addr)|ty (n:String)
 deriving DecidableEq
abbrev RelV:V->Value->Prop
 |.aJ,u=>u=Value.none
 |.bl b,u=>u=Value.bool b
 |.int i,u=>∃t,u=Value.int i t
 |.str x,u=>∃t,u=Value.str x t
 |.qv b,u=>∃t,u=Value.bytes b t
 |.oQ b,u=>∃t,u=Value.float b t
 |.ref a,u=>u=Value.ref a
 |.ty n,u=>u=Value.type n
@[reducible]noncomputable def Vals:List V->List Value->Prop:=Paired RelV
theorem Vals.length(r:Vals xs us):xs.length=us.length:=Paired.length r
theorem Vals.get:∀{xs:List V}{us:List Value}{i:Nat}{x:V},Vals xs us->xs[i]?=some x->∃u,us[i]?=some u/\RelV x u
 |_,_,_,_,.nil,e=>by simp at e
 |_,_,0,_,.cons r _,e=>by simp at e;subst e;exact⟨_,rfl,r⟩
 |_,_,i+1,x,.cons _ t,e=>by
  obtain⟨u,h1,h2⟩:=Vals.get (i:=i) (x:=x) t (by simpa using e)
  exact⟨u,by simpa using h1,h2⟩
theorem Vals.set(r:RelV x u):∀{xs:List V}{us:List Value}(i:Nat),Vals xs us->Vals (xs.set i x) (us.set i u)
 |_,_,_,.nil=>.nil
 |_,_,0,.cons _ t=>.cons r t
 |_,_,i+1,.cons q t=>.cons q (Vals.set r i t)
theorem Vals.append:∀{xs ys:List V}{us ws:List Value},Vals xs us->Vals ys ws->Vals (xs++ys) (us++ws)
 |_,_,_,_,.nil,s=>s
 |_,_,_,_,.cons r t,s=>.cons r (Vals.append t s)
theorem Vals.take:∀{xs:List V}{us:List Value}(n:Nat),Vals xs us->Vals (xs.take n) (us.take n)
 |_,_,0,_=>.nil
 |_,_,_+1,.nil=>.nil
 |_,_,n+1,.cons r t=>.cons r (Vals.take n t)
theorem Vals.drop:∀{xs:List V}{us:List Value}(n:Nat),Vals xs us->Vals (xs.drop n) (us.drop n)
 |_,_,0,r=>r
 |_,_,_+1,.nil=>.nil
 |_,_,n+1,.cons _ t=>Vals.drop n t
abbrev SZ:Option V->Option Value->Prop
 |some v,some u=>RelV v u
 |none,none=>True
 |_,_=>False
abbrev KV{κ:Type}:List (κ×V)->List (κ×Value)->Prop:=Paired fun(p:κ×V) (q:κ×Value)=>p.1=q.1/\RelV p.2 q.2
abbrev kV:Key->V
 |.inl i=>.int i
 |.inr x=>.str x
inductive HO where
  |lst (xs:List V)
  |tup (xs:List V)
  |dK (cF:List (Key×V))|dT (cF:List (List Key×V))
  |set (S:Int->Bool) (n:Nat)
  |ins (C dx:Addr) (fs:List (Str×V))
  |own (x:Addr)
  |xd (fs:List (Str×V))
  |met (f x:Addr)
  |t_ (lo hi:Int)
  |fh (o:Obj) (u:HO)
  |i6 (ps:Array Value)
  |ext (φ:Heap->Prop)
@[reducible]noncomputable def Hp:=Addr->Option HO
abbrev upd(H:Hp)(a:Addr)(o:HO):Hp:=fun b=>if b=a then some o else H b
theorem AX:upd H a o a=some o:=by unfold upd;rw[if_pos rfl]
theorem Av(h:b≠a):upd H a o b=H b:=by unfold upd;rw[if_neg h]
theorem C4{H:Hp}{a b:Addr}{o:HO}(h:H a=some o)(h':H b=none):a≠b:=by
 intro e;subst e;rw[h]at h';cases h'
section
variable(P:Program)(w:World)
abbrev bf(H:Hp)(h:Heap)(a:Addr):HO->Prop
 |.lst xs=>xs.length<=sizeLine/\∃(ah:List Value)(n:Nat),Vals xs ah/\h.get? a=some {cls:=.type "list",data:=.seq ah.toArray n}
 |.tup xs=>xs.length<=sizeLine/\∃ah:List Value,Vals xs ah/\IsTup h a ah.toArray
 |.dK cF=>cF.length<=sizeLine/\(a==sysModules)=false/\∃vs,KV cF vs/\h.DictOf (Ko P w) a vs
 |.dT cF=>cF.length<=sizeLine/\(a==sysModules)=false/\∃xs:List (List Key×Addr×Value),
   Paired (fun(p:List Key×V) (q:List Key×Addr×Value)=>p.1=q.1/\H q.2.1=some (.tup (p.1.map kV))/\RelV p.2 q.2.2) cF xs /\
   ∃o es ep,h.get? a=some o/\o.ExactDict/\o.data=.dict es ep/\es.toList=xs.map (entryOfKey (tupleKind (Ko P w)))/\(xs.map (·.1)).Nodup
 |.set S n=>h.SetOf (intKind P w) a S n
 |.ins C dx fs=>H dx=some (.own a)/\fs.length<=1000/\dx≠a/\h.get? a=some (PySem.W.instObj C dx) /\
   ∃mA,h.Ns1 dx mA/\(∀f,SZ (fs.lookup f) (mA f))/\PySem.Within mA (fs.map (·.1))
 |.own _=>∃o,h.get? a=some o
 |.xd fs=>∃mA,h.Ns1 a mA/\∀f,SZ (fs.lookup f) (mA f)
 |.t_ lo hi=>∃t u v,h.get? a=some {cls:=.type "range",data:=.fields #[.int lo t,.int hi u,.int 1 v]}
 |.fh o u=>h.get? a=some o/\bf H h a u
 |.i6 ps=>h.get? a=some {cls:=.none,data:=.fields ps}
 |.met f x=>h.get? a=some (PySem.W.methodObj (.ref f) (.ref x))
 |.ext φ=>φ h/\(∃o,h.get? a=some o)/\∀h1 h2:Heap,φ h1->(∀o,h1.get? a=some o->h2.get? a=some o)->φ h2
abbrev dj(H:Hp)(h:Heap):Prop:=∀a o,H a=some o->bf P w H h a o
end
section
variable{P:Program}{w:World}{H H':Hp}{h h':Heap}{a:Addr}{o:HO}
theorem bf.lt(x:bf P w H h a o):a<h.objs.size:=by
 cases o with
 |lst xs=>obtain⟨_,_,_,_,e⟩:=x;exact Heap.lt_size e
 |tup xs=>obtain⟨_,_,_,p⟩:=x;exact p.lt
 |dK cF=>obtain⟨_,_,_,_,o,_,_,e,_⟩:=x;exact Heap.lt_size e
 |dT cF=>obtain⟨_,_,_,_,o,_,_,e,_⟩:=x;exact Heap.lt_size e
 |set S n=>obtain⟨o,_,_,_,e,_⟩:=x;exact Heap.lt_size e
 |ins C dx fs=>obtain⟨_,_,_,e,_⟩:=x;exact Heap.lt_size e
 |own y=>obtain⟨_,e⟩:=x;exact Heap.lt_size e
 |xd fs=>obtain⟨_,⟨_,_,_,e,_⟩,_⟩:=x;exact Heap.lt_size e
 |t_ lo hi=>obtain⟨_,_,_,e⟩:=x;exact Heap.lt_size e
 |fh ob u=>obtain⟨e,_⟩:=x;exact Heap.lt_size e
 |i6 ps=>exact Heap.lt_size (show h.get? a=some _ from x)
 |met f y=>exact Heap.lt_size (show h.get? a=some _ from x)
 |ext φ=>obtain⟨_,⟨_,e⟩,_⟩:=x;exact Heap.lt_size e
theorem Paired.rE{α β:Type}{F G:α->β->Prop}:∀{rF:List α}{rG:List β},Paired F rF rG->(∀a b,F a b->G a b)->Paired G rF rG
 |_,_,.nil,_=>.nil
 |_,_,.cons r t,f=>.cons (f _ _ r) (Paired.rE t f)
theorem bf.gA(x:bf P w H h a o)(k:∀b u,(b=a\/H b=some (.own a))->h.get? b=some u->h'.get? b=some u)
  (ho:∀b,H b=some (.own a)->H' b=some (.own a)) (ht:∀b xs,H b=some (.tup xs)->H' b=some (.tup xs)):bf P w H' h' a o:=by
 induction o with
 |lst xs=>obtain⟨z,ah,n,r,e⟩:=x;exact⟨z,ah,n,r,k _ _ (.inl rfl) e⟩
 |tup xs=>obtain⟨z,ah,r,ob,e,c⟩:=x;exact⟨z,ah,r,ob,k _ _ (.inl rfl) e,c⟩
 |dK cF=>obtain⟨z,y,vs,r,ob,es,ep,e,c⟩:=x;exact⟨z,y,vs,r,ob,es,ep,k _ _ (.inl rfl) e,c⟩
 |dT cF=>
  obtain⟨z,y,xs,r,ob,es,ep,e,c⟩:=x
  exact⟨z,y,xs,Paired.rE r fun p q z=>⟨z.1,ht _ _ z.2.1,z.2.2⟩,ob,es,ep,k _ _ (.inl rfl) e,c⟩
 |set S n=>obtain⟨ob,es,ep,t,e,c⟩:=x;exact⟨ob,es,ep,t,k _ _ (.inl rfl) e,c⟩
 |ins C dx fs=>
  obtain⟨d,z,ne,e,mA,⟨od,es,ep,e2,c⟩,r⟩:=x
  exact⟨ho _ d,z,ne,k _ _ (.inl rfl) e,mA,⟨od,es,ep,k _ _ (.inr d) e2,c⟩,r⟩
 |own y=>obtain⟨ob,e⟩:=x;exact⟨ob,k _ _ (.inl rfl) e⟩
 |xd fs=>obtain⟨mA,⟨od,es,ep,e,c⟩,r⟩:=x;exact⟨mA,⟨od,es,ep,k _ _ (.inl rfl) e,c⟩,r⟩
 |t_ lo hi=>obtain⟨t,u,v,e⟩:=x;exact⟨t,u,v,k _ _ (.inl rfl) e⟩
 |fh ob u ih=>obtain⟨e,q⟩:=x;exact⟨k _ _ (.inl rfl) e,ih q⟩
 |i6 ps=>
  have e:h.get? a=some {cls:=.none,data:=.fields ps}:=x
  show h'.get? a=some {cls:=.none,data:=.fields ps}
  exact k a _ (.inl rfl) e
 |met f y=>
  have e:h.get? a=some (PySem.W.methodObj (.ref f) (.ref y)):=x
  show h'.get? a=some (PySem.W.methodObj (.ref f) (.ref y))
  exact k a _ (.inl rfl) e
 |ext φ=>obtain⟨p,⟨o,e⟩,st⟩:=x;exact⟨st _ _ p fun o q=>k _ _ (.inl rfl) q,⟨o,k _ _ (.inl rfl) e⟩,st⟩
theorem dj.lt(x:dj P w H h)(e:H a=some o):a<h.objs.size:=(x a o e).lt
theorem dj.fresh(x:dj P w H h)(e:h.objs.size<=a):H a=none:=by
 cases q:H a with
 |none=>rfl
 |some u=>exact absurd (gQ (x.lt q) e) (iY _)
theorem dj.kept(x:dj P w H h)(k:∀b u,h.get? b=some u->h'.get? b=some u):dj P w H h':=fun a o e=>
 (x a o e).gA (fun b u _ q=>k b u q) (fun _ q=>q) fun _ _ q=>q
theorem dj.laid(x:dj P w H h)(k:∀b u,h.get? b=some u->h'.get? b=some u)(hp:h.objs.size<=a)(new:bf P w (upd H a o) h' a o):dj P w (upd H a o) h':=fun b u e=>by
 have hn:=x.fresh hp
 by_cases hb:b=a
 ·subst hb;rw[AX]at e;cases e;exact new
 rw[Av hb]at e
 exact(x b u e).gA (fun c v _ q=>k c v q) (fun c q=>by rw[Av (C4 q hn)];exact q) fun c xs q=>by rw[Av (C4 q hn)];exact q
end
abbrev Rd(H:Hp)(a:Addr)(u:HO):Prop:=H a=some u\/∃o,H a=some (.fh o u)
theorem Rd.ok(r:Rd H a u)(x:dj P w H h):bf P w H h a u:=by
 rcases r with r|⟨o,r⟩
 ·exact x a u r
 obtain⟨_,q⟩:=x a _ r
 exact q
abbrev ua:Option HO->Prop
 |some (.lst _)=>True
 |some (.dK _)=>True
 |some (.dT _)=>True
 |some (.set _ _)=>True
 |some (.ins _ _ _)=>True
 |some (.ext _)=>True
 |_=>False
section
variable{P:Program}{w:World}{H:Hp}{h h':Heap}{x e:Addr}{o':HO}
theorem dj.write(ok:dj P w H h)(mu:ua (H x))(he:e=x\/H e=some (.own x))(k:∀b u,b≠e->h.get? b=some u->h'.get? b=some u)(qw:∃u,h'.get? e=some u)
  (new:bf P w (upd H x o') h' x o'):dj P w (upd H x o') h':=fun b u q=>by
 have rH:∀c y,H c=some (.own y)->c≠x:=fun c y r z=>by subst z;rw[r]at mu;exact mu
 have vH:∀c xs,H c=some (.tup xs)->c≠x:=fun c xs r z=>by subst z;rw[r]at mu;exact mu
 by_cases hb:b=x
 ·subst hb;rw[AX]at q;cases q;exact new
 rw[Av hb]at q
 by_cases oR:b=e
 ·have q':H b=some (.own x):=by
   rcases he with z|z
   ·exact absurd (oR.trans z) hb
   rw[oR];exact z
  rw[q]at q';cases q'
  obtain⟨v,hv⟩:=qw
  exact⟨v,by rw[oR];exact hv⟩
 refine(ok b u q).gA (fun c v hc r=>k c v ?_ r) (fun c r=>by rw[Av (rH c b r)];exact r) fun c xs r=>by rw[Av (vH c xs r)];exact r
 rcases hc with rfl|hc
 ·exact oR
 rintro rfl
 rcases he with z|z
 ·exact rH c b hc z
 rw[hc]at z;cases z;exact hb rfl
end
structure Un(fs ex:List Addr)(H H':Hp)(h h':Heap):Prop where
 keep:∀b o,h.get? b=some o->H b=none->b∉fs->b∉ex->h'.get? b=some o
 slot:∀b o,h.get? b=some o->H b=none->b∈fs->b∉ex->∃sl,h'.get? b=some {o with slots:=sl}
 free:∀b o,h.get? b=some o->H b=none->b∉ex->H' b=none
 there:∀b o,h.get? b=some o->b∉ex->∃o',h'.get? b=some o'
 bO:∀b xs,H b=some (.tup xs)->H' b=some (.tup xs)
 bI:∀b o u,H b=some (.fh o u)->H' b=some (.fh o u)
 bP:∀b ps,H b=some (.i6 ps)->∃more,H' b=some (.i6 (ps++more))
section
variable{fs fs' ex zW:List Addr}{H H1 H2:Hp}{h h1 h2 h':Heap}{a x e:Addr}{o:HO}
theorem Un.any(u:Un fs ex H H1 h h1)(q:h.get? b=some ob)(n:H b=none)(hx:b∉ex):∃sl,h1.get? b=some {ob with slots:=sl}:=by
 by_cases hb:b∈fs
 ·exact u.slot b ob q n hb hx
 exact⟨ob.slots,u.keep b ob q n hb hx⟩
theorem Un.kept(k:∀b u,h.get? b=some u->h'.get? b=some u):Un fs ex H H h h' :=
 ⟨fun b ob q _ _ _=>k b ob q,fun b ob q _ _ _=>⟨ob.slots,k b ob q⟩,fun _ _ _ n _=>n,fun b ob q _=>⟨ob,k b ob q⟩,fun _ _ q=>q,fun _ _ _ q=>q,fun _ ps q=>⟨#[],by rw[q];simp⟩⟩
theorem Un.refl:Un fs ex H H h h:=Un.kept fun _ _ q=>q
theorem Un.laid(k:∀b u,h.get? b=some u->h'.get? b=some u)(hp:h.objs.size<=a)(hn:H a=none):Un fs ex H (upd H a o) h h' where
 keep:=fun b u q _ _ _=>k b u q
 slot:=fun b u q _ _ _=>⟨u.slots,k b u q⟩
 free:=fun b u q n _=>by rw[Av (g_ (gQ (Heap.lt_size q) hp))];exact n
 there:=fun b u q _=>⟨u,k b u q⟩
 bO:=fun b xs q=>by rw[Av (C4 q hn)];exact q
 bI:=fun b u xs q=>by rw[Av (C4 q hn)];exact q
 bP:=fun b ps q=>⟨#[],by rw[Av (C4 q hn),q];simp⟩
theorem Un.write(mu:ua (H x))(he:e=x\/H e=some (.own x))(k:∀b u,b≠e->h.get? b=some u->h'.get? b=some u)(qw:∃u,h'.get? e=some u):Un fs ex H (upd H x o) h h':=by
 have hx:∀b,H b=none->b≠x:=fun b n z=>by subst z;rw[n]at mu;exact mu
 have hb:∀b,H b=none->b≠e:=fun b n z=>by
  subst z
  rcases he with r|r
  ·exact hx b n r
  rw[n]at r;cases r
 have hm:∀b u,H b=some u->¬ua (some u)->b≠x:=fun b u q nm z=>by subst z;rw[q]at mu;exact nm mu
 refine⟨fun b u q n _ _=>k b u (hb b n) q,fun b u q n _ _=>⟨u.slots,k b u (hb b n) q⟩,fun b u q n _=>by rw[Av (hx b n)];exact n,fun b u q _=>?_,
  fun b xs q=>by rw[Av (hm b _ q fun z=>z)];exact q,fun b u xs q=>by rw[Av (hm b _ q fun z=>z)];exact q,fun b ps q=>⟨#[],by rw[Av (hm b _ q fun z=>z),q];simp⟩⟩
 by_cases oR:b=e
 ·subst oR;exact qw
 exact⟨u,k b u oR q⟩
end
abbrev ub(h:Heap)(H:Hp):List Addr:=(dh h.objs.size).filter fun a=>(H a).isSome
abbrev G8(h:Heap)(H:Hp):Heap:=PySem.W.hideAll h (ub h H)
theorem QG(h:Heap)(H:Hp):(G8 h H).objs.size=h.objs.size:=PySem.W.hideAll_size _ _
theorem S0(e:h.get? b=some o)(n:H b=none):(G8 h H).get? b=some o :=
 PySem.W.hideAll_get _ e fun hm=>by
  have q:(H b).isSome=true:=(oK.mp hm).2
  rw[n]at q;simp at q
theorem Vp(e:(G8 h H).get? b=some o):h.get? b=some o/\H b=none:=by
 have e':h.get? b=some o:=PySem.W.of_hideAll (ub h H) e
 refine⟨e',?_⟩
 cases q:H b with
 |none=>rfl
 |some x=>
 have hm:b∈ub h H:=oK.mpr ⟨oM.mpr (Heap.lt_size e'),by simp[q]⟩
 have z:(G8 h H).get? b=none:=PySem.W.hideAll_none (ub h H) hm
 rw[z]at e;cases e
structure Mod(K:PySem.W.Frag)(mg:Str->Option Value)(base:Heap):Prop where
 uc:K.In base
 glob:base.Ns mainGlobals mg
 blt:∃mb,base.Ns builtinsNs mb/\∀x:Str,x≠"__name__" -> mb x=bootBuiltins x
 nolimit:base.NoLimit
structure Cx where
 prog:Program
 w:World
 K:PySem.W.Frag
 mg:Str->Option Value
 base:Heap
 A:Around
 N:List Str
 aG:Shared
 bT:Hp
 env:Env
 outer:List Env
 stack:List Env
 ex:List Addr
 fn:Str->Bool
 calm:Bool
 pn:List (Addr×Obj)
 xe:Value->Shared->Prop
abbrev bK(l:List Env):List Addr:=l.filterMap (·.frame)
@[reducible]noncomputable def Cx.fs(X:Cx):List Addr:=bK X.outer
abbrev rJ(sc:Scope)(x:Str):Prop:=sc.names.lookup x=some .local\/sc.names.lookup x=some .cell\/sc.names.lookup x=some .free
abbrev Loc(sc:Scope)(x:Str):Prop:=sc.names.lookup x=some .local\/sc.names.lookup x=some .cell
abbrev AaV(env:Env)(h:Heap)(m:Str->Option Value)(x:Str)(u:Value):Prop :=
 (env.kindOf x=some .local/\m x=some u)\/((env.kindOf x=some .cell\/env.kindOf x=some .free)/\∃c,env.cells.lookup x=some c/\h.IsCell c (some u))
structure Cx.Ok(X:Cx):Prop where
 mod:Mod X.K X.mg X.base
 kind:X.env.scope.kind=.function
 glob:X.env.globals=mainGlobals
 blt:X.env.builtins=builtinsNs
 above:X.aG.heap.objs.size<=X.env.locals
 inj:∀x y c,X.env.cells.lookup x=some c->X.env.cells.lookup y=some c->x=y
 has:∀x,(X.env.kindOf x=some .cell\/X.env.kindOf x=some .free)->∃c,X.env.cells.lookup x=some c
 rK:∀x c,X.fn x=true->X.env.cells.lookup x=some c->X.aG.heap.objs.size<=c
 hd:X.calm=true->X.A.handled=none
 frames:X.A.frames=some X.stack
 n5:X.stack=X.outer\/(X.stack=X.env::X.outer/\X.env.frame=some X.env.locals)
 ud:∀b∈X.ex,b≠X.env.locals/\∀x c,X.env.cells.lookup x=some c->c≠b
 bs:∀b o,X.base.get? b=some o->X.aG.heap.get? b=some o/\X.bT b=none
 oS:X.base.objs.size<=X.aG.heap.objs.size
 kL:∀b o,X.base.get? b=some o->b∉X.ex
 kM:∀b∈X.ex,b∉X.fs
 fQ:X.aG.heap.FunFrames X.base X.outer
 qx:∀b∈X.fs,X.bT b=none
structure Inv(X:Cx)(pins:List (Addr×Obj))(U:List (Option V))(H:Hp)(s:Shared):Prop where
 ok:X.Ok
 os:s.os=X.aG.os
 bare:AllBare s.gens
 base:Un X.fs X.ex X.bT H X.aG.heap s.heap
 loc:∃m,s.heap.Ns X.env.locals m/\∀(i:Nat)(x:Str)(v:V),X.N[i]?=some x->U[i]?=some (some v)->rJ X.env.scope x->∃u,RelV v u/\AaV X.env s.heap m x u
 cell:∀x c,X.env.cells.lookup x=some c->∃v,s.heap.IsCell c v
 free:H X.env.locals=none
 cA:∀x c,X.env.cells.lookup x=some c->H c=none
 pin:∀p∈X.pn++pins,s.heap.get? p.1=some p.2/\H p.1=none/\p.1≠X.env.locals/\p.1∉X.fs/\∀v,p.2.data≠.cell v
 aI:dj X.prog X.w H s.heap
 len:U.length=X.N.length
section
variable{X:Cx}{pins:List (Addr×Obj)}{U:List (Option V)}{H H':Hp}{s:Shared}{h':Heap}
theorem Cx.Ok.vI(ok:X.Ok)(e:X.base.get? b=some o):b∉X.fs:=fun hb=>by
 have:=(ok.fQ.mem hb).1
 rw[e]at this;cases this
theorem Inv.bs(I:Inv X pins U H s):∀b o,X.base.get? b=some o->s.heap.get? b=some o/\H b=none:=fun b o e=>
 ⟨I.base.keep b o (I.ok.bs b o e).1 (I.ok.bs b o e).2 (I.ok.vI e) (I.ok.kL b o e),I.base.free b o (I.ok.bs b o e).1 (I.ok.bs b o e).2 (I.ok.kL b o e)⟩
theorem Inv.bk(I:Inv X pins U H s):∀b o,X.base.get? b=some o->s.heap.get? b=some o:=fun b o e=>(I.bs b o e).1
theorem Inv.mod(I:Inv X pins U H s):Mod X.K X.mg X.base:=I.ok.mod
theorem Inv.gB(I:Inv X pins U H s):X.K.In s.heap:=I.ok.mod.uc.keeps I.bk
theorem Inv.lt(I:Inv X pins U H s):X.env.locals<s.heap.objs.size:=let ⟨_,hn,_⟩:=I.loc;hn.lt
theorem Inv.sz(I:Inv X pins U H s):X.aG.heap.objs.size<=s.heap.objs.size:=aS I.ok.above (a6 I.lt)
theorem Inv.oU(I:Inv X pins U H s)(h:s.heap.objs.size<=a):a∉X.fs:=fun hb=>by
 obtain⟨_,o,ho,_⟩:=I.ok.fQ.mem hb
 exact absurd (gQ (Heap.lt_size ho) (aS I.sz h)) (iY _)
theorem Inv.oV(I:Inv X pins U H s):∀x c,X.env.cells.lookup x=some c->c≠X.env.locals:=fun x c e z=>by
 obtain⟨v,o,ho,hd⟩:=I.cell x c e
 obtain⟨m,⟨o',es,ep,kN,ey,_⟩,_⟩:=I.loc
 rw[z,kN]at ho;cases ho;rw[ey]at hd;cases hd
theorem Inv.fQ(I:Inv X pins U H s):s.heap.FunFrames X.base X.outer:=by
 have all:∀(l:List Env),(∀b∈bK l,b∈X.fs)->X.aG.heap.FunFrames X.base l->s.heap.FunFrames X.base l:=by
  intro l
  induction l with
  |nil=>intro _ _;trivial
  |cons env r ih=>
  intro hs hl
  obtain⟨hk,⟨L,o,hf,hn,ho,hd⟩,hr⟩:=hl
  have hL:L∈X.fs:=hs L (by unfold bK;rw[oG,hf];exact aP)
  obtain⟨sl,e⟩:=I.base.slot L o ho (I.ok.qx L hL) hL fun z=>I.ok.kM L z hL
  exact⟨hk,⟨L,_,hf,hn,e,hd⟩,ih (fun b hb=>hs b (by unfold bK;rw[oG,hf];exact aL _ hb)) hr⟩
 exact all X.outer (fun _ hb=>hb) I.ok.fQ
theorem Inv.stack(I:Inv X pins U H s):s.heap.FunFrames X.base X.stack:=by
 rcases I.ok.n5 with e|⟨e,hf⟩
 ·rw[e];exact I.fQ
 rw[e]
 obtain⟨m,hn,_⟩:=I.loc
 refine .cons (by rw[I.ok.kind];decide) hf hn ?_ I.fQ
 exact Heap.get?_none_of_le (aS I.ok.oS I.ok.above)
theorem Inv.fR(I:Inv X pins U H s):∀b∈bK X.stack,b∈X.env.locals::X.fs:=fun b hb=>by
 rcases I.ok.n5 with e|⟨e,hf⟩
 ·rw[e]at hb;exact aL _ hb
 rw[e]at hb
 unfold bK at hb
 rw[oG,hf]at hb
 exact hb
theorem Inv.fI(I:Inv X pins U H s):∀b∈bK X.stack,H b=none:=fun b hb=>by
 rcases bB.mp (I.fR b hb) with e|hb
 ·rw[e];exact I.free
 obtain⟨_,o,ho,_⟩:=I.ok.fQ.mem hb
 exact I.base.free b o ho (I.ok.qx b hb) fun z=>I.ok.kM b z hb
theorem Inv.step{g':Array GenState}{t':Nat}{d':Drawn}{ch:List Addr}(I:Inv X pins U H s)
  (ko:∀b∈ch,(b∈X.ex\/X.aG.heap.objs.size<=b)/\b≠X.env.locals/\(∀x c,X.env.cells.lookup x=some c->c≠b)/\∀p∈X.pn++pins,p.1≠b)
  (keep:∀b o,b≠X.env.locals->b∉X.fs->b∉ch->s.heap.get? b=some o->H b=none->h'.get? b=some o)
  (slot:∀b o,b≠X.env.locals->b∈X.fs->b∉ch->s.heap.get? b=some o->H b=none->∃sl,h'.get? b=some {o with slots:=sl}) (free:∀b o,b∉ch->s.heap.get? b=some o->H b=none->H' b=none)
  (there:∀b o,b∉ch->s.heap.get? b=some o->∃o',h'.get? b=some o')
  (bO:∀b xs,H b=some (.tup xs)->H' b=some (.tup xs)) (bI:∀b o u,H b=some (.fh o u)->H' b=some (.fh o u)) (bP:∀b ps,H b=some (.i6 ps)->∃more,H' b=some (.i6 (ps++more)))
  (ns:∀m,s.heap.Ns X.env.locals m->h'.Ns X.env.locals m) (aI:dj X.prog X.w H' h') (hg:AllBare g') :
  Inv X pins U H' {s with heap:=h',gens:=g',drawn:=d',toks:=t'}:=by
 have zX:∀b o,X.aG.heap.get? b=some o->b≠X.env.locals:=fun b o e=>g_ (gQ (Heap.lt_size e) I.ok.above)
 have ue:∀b o,X.aG.heap.get? b=some o->b∉X.ex->b∉ch:=fun b o e hx hb=>by
  rcases (ko b hb).1 with z|z
  ·exact hx z
  exact absurd (gQ (Heap.lt_size e) z) (iY _)
 have cellK:∀x c,X.env.cells.lookup x=some c->∀v,s.heap.IsCell c v->h'.IsCell c v:=fun x c e v ⟨o,ho,hd⟩=>by
  have rL:c∉ch:=fun z=>(ko c z).2.2.1 x c e rfl
  by_cases hc:c∈X.fs
  ·obtain⟨sl,q⟩:=slot c o (I.oV x c e) hc rL ho (I.cA x c e)
   exact⟨_,q,hd⟩
  exact⟨o,keep c o (I.oV x c e) hc rL ho (I.cA x c e),hd⟩
 refine⟨I.ok,I.os,hg,⟨fun b o e n hb hx=>?_,fun b o e n hb hx=>?_,fun b o e n hx=>?_,fun b o e hx=>?_,fun b xs e=>bO b xs (I.base.bO b xs e),fun b o xs e=>bI b o xs (I.base.bI b o xs e),fun b ps e=>?_⟩,?_,fun x c e=>?_,?_,fun x c e=>?_,fun p hp=>?_,aI,I.len⟩
 ·exact keep b o (zX b o e) hb (ue b o e hx) (I.base.keep b o e n hb hx) (I.base.free b o e n hx)
 ·obtain⟨sl,e1⟩:=I.base.slot b o e n hb hx
  obtain⟨sl',e2⟩:=slot b _ (zX b o e) hb (ue b o e hx) e1 (I.base.free b o e n hx)
  exact⟨sl',e2⟩
 ·obtain⟨o',e1⟩:=I.base.there b o e hx
  exact free b o' (ue b o e hx) e1 (I.base.free b o e n hx)
 ·obtain⟨o',e1⟩:=I.base.there b o e hx
  exact there b o' (ue b o e hx) e1
 ·obtain⟨m1,e1⟩:=I.base.bP b ps e
  obtain⟨m2,e2⟩:=bP b _ e1
  exact⟨m1++m2,by rw[e2,Array.append_assoc]⟩
 ·obtain⟨m,hn,hl⟩:=I.loc
  refine⟨m,ns m hn,fun i x v e1 e2 e3=>?_⟩
  obtain⟨u,r,l⟩:=hl i x v e1 e2 e3
  refine⟨u,r,?_⟩
  rcases l with l|⟨k,c,e,z⟩
  ·exact .inl l
  exact .inr ⟨k,c,e,cellK x c e _ z⟩
 ·obtain⟨v,z⟩:=I.cell x c e
  exact⟨v,cellK x c e v z⟩
 ·obtain⟨m,⟨o,_,_,ho,_⟩,_⟩:=I.loc
  exact free _ o (fun z=>(ko _ z).2.1 rfl) ho I.free
 ·obtain⟨v,o,ho,hd⟩:=I.cell x c e
  exact free c o (fun z=>(ko c z).2.2.1 x c e rfl) ho (I.cA x c e)
 obtain⟨e,n,ne,nf,d⟩:=I.pin p hp
 have rL:p.1∉ch:=fun z=>(ko p.1 z).2.2.2 p hp rfl
 exact⟨keep p.1 p.2 ne nf rL e n,free p.1 p.2 rL e n,ne,nf,d⟩
theorem Inv.un{t':Nat}(I:Inv X pins U H s)(u:Un X.fs [] H H' s.heap h')(aI:dj X.prog X.w H' h'):Inv X pins U H' {s with heap:=h',toks:=t'}:=by
 obtain⟨m,⟨o,es,ep,ho,r⟩,_⟩:=id I.loc
 obtain⟨sl,hL⟩:=u.any ho I.free (by simp)
 exact I.step (g':=s.gens) (d':=s.drawn) (ch:=[]) (fun _ z=>nomatch z) (fun b o _ hb _ e n=>u.keep b o e n hb (by simp)) (fun b o _ hb _ e n=>u.slot b o e n hb (by simp)) (fun b o _ e n=>u.free b o e n (by simp)) (fun b o _ e=>u.there b o e (by simp)) u.bO u.bI u.bP (fun m' hm=>by
  obtain⟨o',hJ,vJ,kN,r'⟩:=hm
  rw[ho]at kN;cases kN
  exact⟨_,hJ,vJ,hL,r'⟩) aI I.bare
theorem Inv.call{g':Array GenState}{t':Nat}{d':Drawn}{ch:List Addr}(I:Inv X pins U H s)(u:Un (bK X.stack) ch H H' s.heap h')(aI:dj X.prog X.w H' h')(hg:AllBare g')
  (ko:∀b∈ch,(b∈X.ex\/X.aG.heap.objs.size<=b)/\b≠X.env.locals/\(∀x c,X.env.cells.lookup x=some c->c≠b)/\∀p∈X.pn++pins,p.1≠b) :
  Inv X pins U H' {s with heap:=h',gens:=g',drawn:=d',toks:=t'}:=by
 obtain⟨m,⟨o,es,ep,ho,r⟩,_⟩:=id I.loc
 obtain⟨sl,hL⟩:=u.any ho I.free fun z=>(ko _ z).2.1 rfl
 exact I.step (ch:=ch) ko (fun b o hL hb hc e n=>u.keep b o e n (fun z=>(bB.mp (I.fR b z)).elim hL hb) hc) (fun b o _ _ hc e n=>u.any e n hc) (fun b o hc e n=>u.free b o e n hc) (fun b o hc e=>u.there b o e hc) u.bO u.bI u.bP (fun m' hm=>by
  obtain⟨o',hJ,vJ,kN,r'⟩:=hm
  rw[ho]at kN;cases kN
  exact⟨_,hJ,vJ,hL,r'⟩) aI hg
theorem Inv.turned{t':Nat}{it:Addr}(I:Inv X pins U H s)(k:∀b o,b≠it->s.heap.get? b=some o->h'.get? b=some o)(hn:H it=none)(hL:it≠X.env.locals)
  (h1:it∈X.ex\/X.aG.heap.objs.size<=it) (h2:∀x c,X.env.cells.lookup x=some c->c≠it) (h3:∀p∈X.pn++pins,p.1≠it):Inv X pins U H {s with heap:=h',toks:=t'}:=by
 have zY:∀b u,H b=some u->b≠it:=fun b u e z=>by rw[z,hn]at e;cases e
 refine I.step (g':=s.gens) (d':=s.drawn) (ch:=[it]) (fun b hb=>?_) (fun b o _ _ hc e _=>k b o (fun z=>hc (by simp[z])) e) (fun b o _ _ hc e _=>⟨o.slots,k b o (fun z=>hc (by simp[z])) e⟩) (fun _ _ _ _ n=>n)
  (fun b o hc e=>⟨o,k b o (fun z=>hc (by simp[z])) e⟩) (fun _ _ e=>e) (fun _ _ _ e=>e) (fun b ps e=>⟨#[],by rw[e];simp⟩) (fun m hm=>?_) (fun b u e=>?_) I.bare
 ·have e:b=it:=by simpa using hb
  subst e
  exact⟨h1,hL,h2,h3⟩
 ·obtain⟨o,es,ep,ho,r⟩:=hm
  exact⟨o,es,ep,k _ o (Ne.symm hL) ho,r⟩
 refine(I.aI b u e).gA (fun c v hc q=>k c v ?_ q) (fun _ q=>q) fun _ _ q=>q
 rcases hc with z|z
 ·rw[z];exact zY b u e
 exact zY c _ z
theorem Inv.tok(I:Inv X pins U H s)(t:Nat):Inv X pins U H {s with toks:=t}:=I.un (h':=s.heap) (t':=t) Un.refl I.aI
theorem Inv.kept{t':Nat}(I:Inv X pins U H s)(k:∀b u,s.heap.get? b=some u->h'.get? b=some u):Inv X pins U H {s with heap:=h',toks:=t'}:=I.un (Un.kept k) (I.aI.kept k)
theorem Inv.laid{t':Nat}(I:Inv X pins U H s)(k:∀b u,s.heap.get? b=some u->h'.get? b=some u)(hp:s.heap.objs.size<=a)(new:bf X.prog X.w (upd H a o) h' a o) :
  Inv X pins U (upd H a o) {s with heap:=h',toks:=t'}:=I.un (Un.laid k hp (I.aI.fresh hp)) (I.aI.laid k hp new)
theorem Inv.write{t':Nat}(I:Inv X pins U H s)(mu:ua (H x))(he:e=x\/H e=some (.own x))(k:∀b u,b≠e->s.heap.get? b=some u->h'.get? b=some u)(qw:∃u,h'.get? e=some u)
  (new:bf X.prog X.w (upd H x o) h' x o):Inv X pins U (upd H x o) {s with heap:=h',toks:=t'}:=I.un (Un.write mu he k qw) (I.aI.write mu he k qw new)
theorem Inv.weak(I:Inv X pins U H s)(hl:U'.length=U.length)(w:∀(i:Nat) v,U'[i]?=some (some v)->U[i]?=some (some v)):Inv X pins U' H s :=
 ⟨I.ok,I.os,I.bare,I.base,let ⟨m,hn,rM⟩:=I.loc;⟨m,hn,fun i x v e1 e2 e3=>rM i x v e1 (w i v e2) e3⟩,I.cell,I.free,I.cA,I.pin,I.aI,hl.trans I.len⟩
theorem Inv.jE(I:Inv X pins U H s)(h:∀p∈iF,s.heap.get? p.1=some p.2/\H p.1=none/\p.1≠X.env.locals/\p.1∉X.fs/\∀v,p.2.data≠.cell v):Inv X iF U H s :=
 ⟨I.ok,I.os,I.bare,I.base,I.loc,I.cell,I.free,I.cA,fun p hp=>(bw.mp hp).elim (fun z=>I.pin p (eO _ z)) (h p),I.aI,I.len⟩
theorem Mm{N:List Str}(hN:N.Nodup){i j:Nat}{x:Str}(a:N[i]?=some x)(b:N[j]?=some x):i=j:=by
 obtain⟨h1,e1⟩:=gP.mp a
 obtain⟨h2,e2⟩:=gP.mp b
 exact(List.getElem_inj hN).mp (e1.trans e2.symm)
theorem Ld{M:Model}{A:Around}{E:Value->Shared->Prop}{i:Nat}{x:Str}{v:V}{u:Value}{Q:Unit->Shared->Prop}(I:Inv X pins U H s)(hN:X.N.Nodup)(hi:X.N[i]?=some x)(hx:Loc X.env.scope x)(r:RelV v u)
  (h:∀s',Inv X pins (U.set i (some v)) H s'->(∃a,Heap.SameBut a s.heap s'.heap/\(a=X.env.locals\/X.env.cells.lookup x=some a))->Q () s') (hf:X.fn x=true\/X.env.scope.names.lookup x=some .local:=by first|exact .inl rfl|exact .inr rfl|assumption):wpAny M A (storeName X.env x u) Q E s:=by
 obtain⟨m,hn,hl⟩:=id I.loc
 have vK:(X.env.scope.kind==.class||(X.env.scope.kind==.module&&X.env.locals != X.env.globals))=false:=by rw[I.ok.kind];rfl
 have rN:i < U.length:=by rw[I.len];exact(gP.mp hi).1
 have oV:=I.oV
 have tracked:∀{a:Addr}{h':Heap},(∃o,s.heap.get? a=some o/\H a=none)->Heap.SameBut a s.heap h'->dj X.prog X.w H h':=fun {a h'} ha hs b ob e=>by
  obtain⟨_,_,cn⟩:=ha
  refine(I.aI b ob e).gA (fun c w' hc q=>(hs.2 c ?_).trans q) (fun _ q=>q) fun _ _ q=>q
  rintro rfl
  rcases hc with rfl|hc
  ·rw[cn]at e;cases e
  rw[cn]at hc;cases hc
 rcases hx with hk|hk
 ·refine wpAny_storeName_local hk hn (fun h' nj hs=>?_) vK
  obtain⟨oL,_,_,vL,_⟩:=id hn
  refine h _ ⟨I.ok,I.os,I.bare,⟨fun b o e n hb hx=>?_,fun b o e n hb hx=>?_,I.base.free,fun b o e hx=>?_,I.base.bO,I.base.bI,I.base.bP⟩,⟨_,nj,fun j y v' e1 e2 e3=>?_⟩,fun y c e=>?_,I.free,I.cA,fun p hp=>?_,tracked ⟨oL,vL,I.free⟩ hs,by simpa using I.len⟩ ⟨_,hs,.inl rfl⟩
  ·exact(hs.2 b (g_ (gQ (Heap.lt_size e) I.ok.above))).trans (I.base.keep b o e n hb hx)
  ·obtain⟨sl,e1⟩:=I.base.slot b o e n hb hx
   exact⟨sl,(hs.2 b (g_ (gQ (Heap.lt_size e) I.ok.above))).trans e1⟩
  ·obtain⟨o',e1⟩:=I.base.there b o e hx
   exact⟨o',(hs.2 b (g_ (gQ (Heap.lt_size e) I.ok.above))).trans e1⟩
  ·by_cases hj:j=i
   ·subst hj
    rw[hi]at e1;cases e1
    rw[zC rN]at e2
    cases e2
    exact⟨u,r,.inl ⟨hk,by simp⟩⟩
   rw[gY (Ne.symm hj)]at e2
   obtain⟨u',r',q⟩:=hl j y v' e1 e2 e3
   refine⟨u',r',?_⟩
   rcases q with⟨k,e⟩|⟨k,c,e,z⟩
   ·refine .inl ⟨k,?_⟩
    have:y≠x:=fun e=>hj (Mm hN e1 (e▸hi))
    simp[this,e]
   exact .inr ⟨k,c,e,z.sameBut hs (oV y c e)⟩
  ·obtain⟨w',z⟩:=I.cell y c e
   exact⟨w',z.sameBut hs (oV y c e)⟩
  obtain⟨e,n,ne,nf,d⟩:=I.pin p hp
  exact⟨(hs.2 p.1 ne).trans e,n,ne,nf,d⟩
 have vM:X.fn x=true:=by
  rcases hf with z|z
  ·exact z
  rw[z]at hk;cases hk
 obtain⟨c,hc⟩:=I.ok.has x (.inl hk)
 obtain⟨w',z⟩:=I.cell x c hc
 refine wpAny_storeName_cell I.ok.kind hk hc z (fun h' oW hs=>?_)
 obtain⟨oc,uf,vN⟩:=id z
 refine h {s with heap:=h'} ⟨I.ok,I.os,I.bare,⟨fun b o e n hb hx=>?_,fun b o e n hb hx=>?_,I.base.free,fun b o e hx=>?_,I.base.bO,I.base.bI,I.base.bP⟩,⟨m,hn.sameBut hs (Ne.symm (oV x c hc)),fun j y v' e1 e2 e3=>?_⟩,fun y c' e=>?_,I.free,I.cA,fun p hp=>?_,tracked ⟨oc,uf,I.cA x c hc⟩ hs,by simpa using I.len⟩ ⟨c,hs,.inr hc⟩
 ·exact(hs.2 b (g_ (gQ (Heap.lt_size e) (I.ok.rK x c vM hc)))).trans (I.base.keep b o e n hb hx)
 ·obtain⟨sl,e1⟩:=I.base.slot b o e n hb hx
  exact⟨sl,(hs.2 b (g_ (gQ (Heap.lt_size e) (I.ok.rK x c vM hc)))).trans e1⟩
 ·obtain⟨o',e1⟩:=I.base.there b o e hx
  exact⟨o',(hs.2 b (g_ (gQ (Heap.lt_size e) (I.ok.rK x c vM hc)))).trans e1⟩
 ·by_cases hj:j=i
  ·subst hj
   rw[hi]at e1;cases e1
   rw[zC rN]at e2
   cases e2
   exact⟨u,r,.inr ⟨.inl hk,c,hc,oW⟩⟩
  rw[gY (Ne.symm hj)]at e2
  obtain⟨u',r',q⟩:=hl j y v' e1 e2 e3
  refine⟨u',r',?_⟩
  rcases q with q|⟨k,c',e,z'⟩
  ·exact .inl q
  refine .inr ⟨k,c',e,z'.sameBut hs ?_⟩
  rintro rfl
  exact hj (Mm hN e1 (I.ok.inj _ _ _ e hc▸hi))
 ·by_cases ug:c'=c
  ·subst ug;exact⟨_,oW⟩
  obtain⟨w2,z2⟩:=I.cell y c' e
  exact⟨w2,z2.sameBut hs ug⟩
 obtain⟨e,n,ne,nf,d⟩:=I.pin p hp
 refine⟨(hs.2 p.1 ?_).trans e,n,ne,nf,d⟩
 intro q
 rw[q,uf]at e
 have q':oc=p.2:=Option.some.inj e
 exact d w' (by rw[<- q'];exact vN)
theorem Mn{E:Value->Shared->Prop}{i:Nat}{Q:Unit->Shared->Prop}(I:Inv X pins U H s)(hN:X.N.Nodup)(hi:X.N[i]?=some x)(hx:Loc X.env.scope x)(r:RelV v u)
  (h:∀s',Inv X pins (U.set i (some v)) H s'->Q () s') (hf:X.fn x=true\/X.env.scope.names.lookup x=some .local:=by first|exact .inl rfl|exact .inr rfl|assumption):wpAny M A (storeName X.env x u) Q E s :=
 Ld I hN hi hx r (fun s' I' _=>h s' I') hf
theorem Inv.kO(I:Inv X pins U H s)(ho:s'.os=s.os)(u:Un (bK X.stack) ch H H' s.heap s'.heap)(aI:dj X.prog X.w H' s'.heap)(hg:AllBare s'.gens)
  (ko:∀b∈ch,(b∈X.ex\/X.aG.heap.objs.size<=b)/\b≠X.env.locals/\(∀x c,X.env.cells.lookup x=some c->c≠b)/\∀p∈X.pn++pins,p.1≠b):Inv X pins U H' s':=by
 obtain⟨h',g',d',t',o'⟩:=s'
 have e:o'=s.os:=ho
 subst e
 exact I.call (g':=g') (t':=t') (d':=d') u aI hg ko
end
@[reducible]noncomputable def XK:=Value->Option Addr->Hp->Prop
@[reducible]noncomputable def St:=List (Option V)
@[reducible]noncomputable def VK:=V->Hp->Prop
@[reducible]noncomputable def TE:=St->Hp->VK->Prop
@[reducible]noncomputable def TT:=St->Hp->(Bool->Hp->Prop)->Prop
@[reducible]noncomputable def TA:=St->Hp->(List V->Hp->Prop)->Prop
structure Ends where
 nx:St->Hp->Prop
 rt:VK
 bk:St->Hp->Prop:=fun _ _=>False
 ct:St->Hp->Prop:=fun _ _=>False
@[reducible]noncomputable def TS:=Ends->St->Hp->Prop
abbrev EP(X:Cx)(pins:List (Addr×Obj))(U:St)(Q:VK)(u:Value)(s':Shared):Prop:=∃v H',Inv X pins U H' s'/\RelV v u/\Q v H'
abbrev TP(X:Cx)(pins:List (Addr×Obj))(U:St)(Q:Bool->Hp->Prop)(b:Bool)(s':Shared):Prop:=∃H',Inv X pins U H' s'/\Q b H'
abbrev AP(X:Cx)(pins:List (Addr×Obj))(U:St)(Q:List V->Hp->Prop)(us:List Value)(s':Shared):Prop:=∃vs H',Inv X pins U H' s'/\Vals vs us/\Q vs H'
abbrev SP(X:Cx)(pins:List (Addr×Obj))(D:Ends)(f:Flow)(s':Shared):Prop :=
 match f with
 |.next=>∃U' H',Inv X pins U' H' s'/\D.nx U' H'
 |.brk=>∃U' H',Inv X pins U' H' s'/\D.bk U' H'
 |.cont=>∃U' H',Inv X pins U' H' s'/\D.ct U' H'
 |.ret u=>∃v U' H',Inv X pins U' H' s'/\RelV v u/\D.rt v H'
abbrev PE(X:Cx)(e:Expr)(t:TE):Prop :=
 ∀(pins:List (Addr×Obj))(s:Shared)(U:St)(H:Hp)(Q:VK),Inv X pins U H s->t U H Q->wpAny (model X.prog X.w) X.A (eval e X.env) (EP X pins U Q) X.xe s
abbrev PT(X:Cx)(e:Expr)(t:TT):Prop :=
 ∀(pins:List (Addr×Obj))(s:Shared)(U:St)(H:Hp)(Q:Bool->Hp->Prop),Inv X pins U H s->t U H Q->wpAny (model X.prog X.w) X.A (isTrue e X.env (eval e X.env)) (TP X pins U Q) X.xe s
abbrev PW(X:Cx)(e:Expr)(t:TT):Prop :=
 ∀(whole:Sem Value)(pins:List (Addr×Obj))(s:Shared)(U:St)(H:Hp)(Q:Bool->Hp->Prop),Inv X pins U H s->t U H Q->wpAny (model X.prog X.w) X.A (isTrue e X.env whole) (TP X pins U Q) X.xe s
theorem PW.pt(h:PW X e t):PT X e t:=h _
abbrev PA(X:Cx)(es:List Expr)(t:TA):Prop :=
 ∀(pos:Pos)(pins:List (Addr×Obj))(s:Shared)(U:St)(H:Hp)(Q:List V->Hp->Prop),Inv X pins U H s->t U H Q->wpAny (model X.prog X.w) X.A (spliced (backTo pos (starEach es X.env))) (AP X pins U Q) X.xe s
abbrev PS(X:Cx)(st:Stmt)(t:TS):Prop :=
 ∀(pins:List (Addr×Obj))(s:Shared)(U:St)(H:Hp)(D:Ends),Inv X pins U H s->t D U H->wpAny (model X.prog X.w) X.A (exec st X.env) (SP X pins D) X.xe s
abbrev gu(X:Cx)(st:List Stmt)(t:TS):Prop :=
 ∀(pins:List (Addr×Obj))(s:Shared)(U:St)(H:Hp)(D:Ends),Inv X pins U H s->t D U H->wpAny (model X.prog X.w) X.A (execs st X.env) (SP X pins D) X.xe s
theorem aW{α:Type}{t:Sem α}{Q Q':α->Shared->Prop}{E:Value->Shared->Prop}(h:wpAny M A t Q E s)(hQ:∀a s,Q a s->Q' a s):wpAny M A t Q' E s:=wpAny_mono h hQ fun _ _ x=>x
section
variable{X:Cx}
abbrev S5(i:Nat):TE:=fun U H Q=>∃v,U[i]?=some (some v)/\Q v H
abbrev tC(v:V):TE:=fun _ H Q=>Q v H
theorem GK{i:Nat}(hN:X.N[i]?=some x)(hv:rJ X.env.scope x)(hd:(x==("__debug__" : Str))=false:=by decide)(fS:(x==("__classdict__" : Str))=false:=by decide):PE X (.Name x pos) (S5 i):=by
 intro pins s U H Q I h
 obtain⟨v,e,h⟩:=h
 obtain⟨m,hn,hl⟩:=I.loc
 obtain⟨u,r,l⟩:=hl i x v hN e hv
 have fin:EP X pins U Q u s:=⟨v,H,I,r,h⟩
 rcases l with⟨hk,hm⟩|⟨hk,c,hc,bW⟩
 ·exact wpAny_Name (wpAny_loadName_local I.ok.kind hk hn hm fin) hd
 rcases hk with hk|hk
 ·exact wpAny_Name (wpAny_loadName_cell I.ok.kind hk hc bW fin) hd
 exact wpAny_Name (wpAny_loadName_free I.ok.kind hk hc bW fin fS) hd
theorem Xf{i j pos}:PE X (.Constant (.int i) j pos) (tC (.int i)):=fun _ _ _ H _ I h=>wpAny_Constant_int ⟨.int i,H,I.tok _,⟨_,rfl⟩,h⟩
theorem ZK{b j pos}:PE X (.Constant (.bool b) j pos) (tC (.bl b)):=fun _ _ _ H _ I h=>Constant_bool ⟨.bl b,H,I,rfl,h⟩
theorem Xg{j pos}:PE X (.Constant .none j pos) (tC .aJ):=fun _ _ _ H _ I h=>Constant_none ⟨.aJ,H,I,rfl,h⟩
theorem Xh{x j pos}:PE X (.Constant (.str x) j pos) (tC (.str x)):=fun _ _ _ H _ I h=>Calls.Constant_str ⟨.str x,H,I.tok _,⟨_,rfl⟩,h⟩
abbrev Gl(X:Cx)(x:Str):Prop:=X.env.kindOf x=some .globalImplicit
theorem Ir{E:Value->Shared->Prop}{Q:Value->Shared->Prop}(I:Inv X pins U H s)(hg:Gl X x)(hm:X.mg x=some u)(h:Q u s)
  (hd:(x==("__debug__" : Str))=false:=by decide):wpAny (model X.prog X.w) X.A (eval (.Name x pos) X.env) Q E s :=
 Calls.Name_function_global I.ok.kind hg (Calls.loadGlobal_global (by rw[I.ok.glob];exact I.mod.glob.keeps I.bk) hm h) hd
theorem GL{E:Value->Shared->Prop}{Q:Value->Shared->Prop}(I:Inv X pins U H s)(hg:Gl X x)(hm:X.mg x=none)(hv:bootBuiltins x=some u)(h:Q u s)
  (hn:x≠"__name__":=by decide) (hd:(x==("__debug__" : Str))=false:=by decide):wpAny (model X.prog X.w) X.A (eval (.Name x pos) X.env) Q E s:=by
 obtain⟨mb,h1,h2⟩:=I.mod.blt
 exact Calls.Name_function_global I.ok.kind hg (Calls.loadGlobal_builtin (by rw[I.ok.glob];exact I.mod.glob.keeps I.bk) hm (by rw[I.ok.blt];exact h1.keeps I.bk) ((h2 x hn).trans hv) h) hd
theorem On(hg:Gl X x)(hm:X.mg x=some u)(r:RelV v u)(hd:(x==("__debug__" : Str))=false:=by decide):PE X (.Name x pos) (tC v) :=
 fun _ _ _ H _ I h=>Ir I hg hm ⟨v,H,I,r,h⟩ hd
theorem Vq(hg:Gl X x)(hm:X.mg x=none)(hv:bootBuiltins x=some u)(r:RelV v u)(hn:x≠"__name__":=by decide)(hd:(x==("__debug__" : Str))=false:=by decide):PE X (.Name x pos) (tC v) :=
 fun _ _ _ H _ I h=>GL I hg hm hv ⟨v,H,I,r,h⟩ hn hd
variable{a b:Expr}{ta tb:TE}{pos:Pos}
abbrev PC(X:Cx)(op:CmpOp)(a b:Expr)(t:TE):Prop :=
 ∀(pins:List (Addr×Obj))(s:Shared)(U:St)(H:Hp)(Q:VK),Inv X pins U H s->t U H Q->
  wpAny (model X.prog X.w) X.A (eval a X.env) (fun v aN=>wpAny (model X.prog X.w) X.A (eval b X.env) (fun u kP=>wpAny (model X.prog X.w) X.A (compareOp op v u) (EP X pins U Q) X.xe kP) X.xe aN) X.xe s
theorem Mo(b:Expr)(h:op≠.In)(h2:op≠.NotIn):behindInMarks op b=false:=by
 have e1:(op==CmpOp.In)=false:=by cases op<;>first|rfl|exact absurd rfl h
 have e2:(op==CmpOp.NotIn)=false:=by cases op<;>first|rfl|exact absurd rfl h2
 cases b<;>first|rfl|(show((_&&((op==.In)||(op==.NotIn)))&&_)=false;rw[e1,e2];simp)
abbrev AaW(ta:TE):TE:=fun U H Q=>ta U H fun x H1=>Q (.bl (decide (x=.aJ))) H1
abbrev ZL(ta:TE):TE:=fun U H Q=>ta U H fun x H1=>Q (.bl (!decide (x=.aJ))) H1
theorem RelV.iG(r:RelV x v):(v==Value.none)=decide (x=.aJ):=by
 cases x with
 |aJ=>cases r;rfl
 |bl _=>cases r;rfl
 |int _=>obtain⟨t,rfl⟩:=r;rfl
 |str _=>obtain⟨t,rfl⟩:=r;rfl
 |qv _=>obtain⟨t,rfl⟩:=r;rfl
 |oQ _=>obtain⟨t,rfl⟩:=r;rfl
 |ref _=>cases r;rfl
 |ty _=>cases r;rfl
theorem QH{j pos'}(ha:PE X a ta):PC X .Is a (.Constant .none j pos') (AaW ta):=by
 intro pins s U H Q I h
 refine aW (ha pins s U H _ I h) fun v s1 ⟨x,H1,I1,r1,q1⟩=>?_
 exact Constant_none (is_none_gen ⟨.bl _,H1,I1,by rw[r1.iG];rfl,q1⟩)
theorem Oo{j pos'}(ha:PE X a ta):PC X .IsNot a (.Constant .none j pos') (ZL ta):=by
 intro pins s U H Q I h
 refine aW (ha pins s U H _ I h) fun v s1 ⟨x,H1,I1,r1,q1⟩=>?_
 exact Constant_none (isnot_none_gen ⟨.bl _,H1,I1,by rw[r1.iG];rfl,q1⟩)
abbrev tB(t:TE):TT:=fun U H Q=>t U H fun x H1=>∃c,x=.bl c/\Q c H1
theorem QI(h:PC X op a b t)(h1:behindInMarks op b=false:=by first|exact Mo _ (by decide) (by decide)|rfl):PE X (.Compare a [op] [b] pos) t:=fun pins s U H Q I hw=>wpAny_Compare1 (h pins s U H Q I hw) h1
theorem QJ(h:PC X op a b t)(h1:behindInMarks op b=false:=by first|exact Mo _ (by decide) (by decide)|rfl):PT X (.Compare a [op] [b] pos) (tB t):=by
 intro pins s U H Q I hw
 refine wpAny_isTrue_Compare1 (aW (h pins s U H _ I hw) fun v s1 h1=>aW h1 fun u s2 h2=>aW h2 fun c s3 ⟨x,H1,I1,r1,q1⟩=>?_) h1
 obtain⟨d,rfl,q⟩:=q1
 cases r1
 exact wpAny_truthy_bool ⟨H1,I1,q⟩
variable{tA uh:TT}{rest:List Expr}
abbrev AaX(t u:TT):TT:=fun U H Q=>t U H fun c H1=>if c=true then u U H1 Q else Q false H1
abbrev tOr(t u:TT):TT:=fun U H Q=>t U H fun c H1=>if c=true then Q true H1 else u U H1 Q
abbrev AaY(t:TT):TT:=fun U H Q=>t U H fun c H1=>Q (!c) H1
theorem Vr(ha:PT X a tA):PW X (.BoolOp .And [a] pos) tA:=by
 intro wh pins s U H Q I h
 refine isTrue_and (aW (ha pins s U H Q I h) fun c s1 e=>?_)
 cases c with
 |true=>exact isTrue_and_nil e
 |false=>exact e
theorem Xi(ha:PT X a tA):PW X (.BoolOp .Or [a] pos) tA:=by
 intro wh pins s U H Q I h
 refine isTrue_or (aW (ha pins s U H Q I h) fun c s1 e=>?_)
 cases c with
 |false=>exact isTrue_or_nil e
 |true=>exact e
theorem Xj(ha:PT X a tA)(hb:PW X (.BoolOp .And (b::rest) pos) uh):PW X (.BoolOp .And (a::b::rest) pos) (AaX tA uh):=by
 intro wh pins s U H Q I h
 refine isTrue_and (aW (ha pins s U H _ I h) fun c s1 ⟨H1,I1,q1⟩=>?_)
 cases c with
 |true=>exact hb wh pins s1 U H1 Q I1 q1
 |false=>exact⟨H1,I1,q1⟩
theorem ZM(ha:PT X a tA)(hb:PW X (.BoolOp .Or (b::rest) pos) uh):PW X (.BoolOp .Or (a::b::rest) pos) (tOr tA uh):=by
 intro wh pins s U H Q I h
 refine isTrue_or (aW (ha pins s U H _ I h) fun c s1 ⟨H1,I1,q1⟩=>?_)
 cases c with
 |true=>exact⟨H1,I1,q1⟩
 |false=>exact hb wh pins s1 U H1 Q I1 q1
theorem Xk(ha:PT X a tA):PT X (.UnaryOp .Not a pos) (AaY tA):=by
 intro pins s U H Q I h
 exact isTrue_not (ha pins s U H (fun c H1=>Q (!c) H1) I h)
abbrev ZN(ta tb:TE):TE:=fun U H Q=>ta U H fun x H1=>∃c,x=.bl c/\if c=true then tb U H1 Q else Q (.bl false) H1
abbrev AaZ(ta tb:TE):TE:=fun U H Q=>ta U H fun x H1=>∃c,x=.bl c/\if c=true then Q (.bl true) H1 else tb U H1 Q
abbrev ZO(ta:TE):TE:=fun U H Q=>ta U H fun x H1=>∃c,x=.bl c/\Q (.bl (!c)) H1
theorem Xl{op}(h:PE X a t):PE X (.BoolOp op [a] pos) t:=fun pins s U H Q I hw=>BoolOp_one (h pins s U H Q I hw)
theorem Xm(ha:PE X a ta)(hb:PE X (.BoolOp .And (b::rest) pos) tb):PE X (.BoolOp .And (a::b::rest) pos) (ZN ta tb):=by
 intro pins s U H Q I h
 refine BoolOp_and (aW (ha pins s U H _ I h) fun v s1 ⟨x,H1,I1,r1,q1⟩=>?_)
 obtain⟨c,rfl,q1⟩:=q1
 cases r1
 refine wpAny_truthy_bool ?_
 cases c with
 |true=>exact hb pins s1 U H1 Q I1 q1
 |false=>exact⟨.bl false,H1,I1,rfl,q1⟩
theorem ZP(ha:PE X a ta)(hb:PE X (.BoolOp .Or (b::rest) pos) tb):PE X (.BoolOp .Or (a::b::rest) pos) (AaZ ta tb):=by
 intro pins s U H Q I h
 refine BoolOp_or (aW (ha pins s U H _ I h) fun v s1 ⟨x,H1,I1,r1,q1⟩=>?_)
 obtain⟨c,rfl,q1⟩:=q1
 cases r1
 refine wpAny_truthy_bool ?_
 cases c with
 |false=>exact hb pins s1 U H1 Q I1 q1
 |true=>exact⟨.bl true,H1,I1,rfl,q1⟩
theorem Xn(ha:PE X a ta):PE X (.UnaryOp .Not a pos) (ZO ta):=by
 intro pins s U H Q I h
 refine UnaryOp_ (aW (ha pins s U H _ I h) fun v s1 ⟨x,H1,I1,r1,q1⟩=>?_)
 obtain⟨c,rfl,q1⟩:=q1
 cases r1
 exact not_of (wpAny_truthy_bool ⟨.bl (!c),H1,I1,rfl,q1⟩)
end
abbrev fi(K:PySem.W.Frag)(H:Hp)(a:Addr)(xs:List V):Prop :=
 Rd H a (.lst xs) \/
  ∃(o:Obj)(ah:Array Value)(n:Nat),K.lookup a=some o/\o.cls=.type "list" /\ o.dict=none/\o.data=.seq ah n/\ah.size<=sizeLine/\Vals xs ah.toList
abbrev dP(K:PySem.W.Frag)(H:Hp)(a:Addr)(xs:List V):Prop :=
 Rd H a (.tup xs) \/
  ∃(o:Obj)(ah:Array Value)(n:Nat),K.lookup a=some o/\o.cls=.type "tuple" /\ o.data=.seq ah n/\ah.size<=sizeLine/\Vals xs ah.toList
abbrev Aa0:Value->Option V
 |.none=>some .aJ
 |.bool b=>some (.bl b)
 |.int i _=>some (.int i)
 |.str x _=>some (.str x)
 |.bytes b _=>some (.qv b)
 |.float b _=>some (.oQ b)
 |.ref a=>some (.ref a)
 |.type n=>some (.ty n)
 |_=>none
theorem RelV.abs(r:RelV x u):Aa0 u=some x:=by
 cases x with
 |aJ=>cases r;rfl
 |bl _=>cases r;rfl
 |int _=>obtain⟨t,rfl⟩:=r;rfl
 |str _=>obtain⟨t,rfl⟩:=r;rfl
 |qv _=>obtain⟨t,rfl⟩:=r;rfl
 |oQ _=>obtain⟨t,rfl⟩:=r;rfl
 |ref _=>cases r;rfl
 |ty _=>cases r;rfl
theorem RelV.inj(r:RelV x u)(q:RelV y u):x=y:=Option.some.inj (r.abs.symm.trans q.abs)
theorem Vals.inj:∀{xs ys:List V}{us:List Value},Vals xs us->Vals ys us->xs=ys
 |_,_,_,.nil,.nil=>rfl
 |_,_,_,.cons r t,.cons r' t'=>by rw[r.inj r',Vals.inj t t']
section
variable{X:Cx}{pins:List (Addr×Obj)}{U:St}{H:Hp}{s:Shared}{a:Addr}{xs ys:List V}
theorem fi.of{K:PySem.W.Frag}(h:H a=some (.lst xs)):fi K H a xs:=.inl (.inl h)
theorem dP.of{K:PySem.W.Frag}(h:H a=some (.tup xs)):dP K H a xs:=.inl (.inl h)
theorem Inv.list(I:Inv X pins U H s)(h:fi X.K H a xs):∃ah:List Value,Vals xs ah/\PlainL s.heap a ah.toArray/\xs.length<=sizeLine:=by
 rcases h with h|⟨o,ah,n,hk,hc,hd,hs,hz,r⟩
 ·obtain⟨z,ah,n,r,e⟩:=h.ok I.aI
  exact⟨ah,r,⟨_,n,e,rfl,rfl,rfl⟩,z⟩
 refine⟨ah.toList,r,⟨o,n,I.gB a o hk,hc,hd,by simpa using hs⟩,?_⟩
 have e:=r.length
 simp only[Array.length_toList]at e
 omega
theorem Inv.tuple(I:Inv X pins U H s)(h:dP X.K H a xs):∃ah:List Value,Vals xs ah/\IsTup s.heap a ah.toArray/\xs.length<=sizeLine:=by
 rcases h with h|⟨o,ah,n,hk,hc,hs,hz,r⟩
 ·obtain⟨z,ah,r,p⟩:=h.ok I.aI
  exact⟨ah,r,p,z⟩
 refine⟨ah.toList,r,⟨o,I.gB a o hk,hc,n,by simpa using hs⟩,?_⟩
 have e:=r.length
 simp only[Array.length_toList]at e
 omega
theorem Inv.kQ(I:Inv X pins U H s)(h:fi X.K H a xs)(h':fi X.K H a ys):xs=ys:=by
 obtain⟨ah,r,⟨o,n,e,_,_,d⟩,_⟩:=I.list h
 obtain⟨its',r',⟨o',n',e',_,_,d'⟩,_⟩:=I.list h'
 rw[e]at e';cases e'
 rw[d]at d'
 injection d' with d1 _
 have:ah=its':=by simpa using congrArg Array.toList d1
 subst this
 exact r.inj r'
theorem Inv.jT(I:Inv X pins U H s)(h:dP X.K H a xs)(h':dP X.K H a ys):xs=ys:=by
 obtain⟨ah,r,⟨o,e,_,n,d⟩,_⟩:=I.tuple h
 obtain⟨its',r',⟨o',e',_,n',d'⟩,_⟩:=I.tuple h'
 rw[e]at e';cases e'
 rw[d]at d'
 injection d' with d1 _
 have:ah=its':=by simpa using congrArg Array.toList d1
 subst this
 exact r.inj r'
end
section
variable{X:Cx}{st:Stmt}{rest:List Stmt}{t u:TS}{e:Expr}{te:TE}{pos:Pos}
abbrev ZQ:TS:=fun D U H=>D.nx U H
abbrev Aa1(t u:TS):TS:=fun D U H=>t {D with nx:=u D} U H
theorem Vs:gu X [] ZQ:=fun _ _ U H _ I h=>wpAny_execs_nil ⟨U,H,I,h⟩
theorem S6(h1:PS X st t)(h2:gu X rest u):gu X (st::rest) (Aa1 t u):=by
 intro pins s U H D I h
 refine wpAny_execs_cons (aW (h1 pins s U H {D with nx:=u D} I h) fun f s1 q=>?_)
 cases f with
 |next=>
  obtain⟨U',H',I',q⟩:=q
  exact h2 pins s1 U' H' D I' q
 |ret v=>exact q
 |brk=>exact q
 |cont=>exact q
theorem Inv.quiet(I:Inv X pins U H s):interactive X.env=false:=by simp[interactive,I.ok.kind]
abbrev UQ(te:TE):TS:=fun D U H=>te U H fun _ H1=>D.nx U H1
theorem GM(he:PE X e te)(hs:swapsWith e none pos.line X.env=pure false:=by rfl):PS X (.Expr e pos) (UQ te):=by
 intro pins s U H D I h
 exact wpAny_Expr_any (aW (he pins s U H _ I h) fun v s1 ⟨x,H1,I1,r1,q1⟩=>⟨U,H1,I1,q1⟩) I.quiet hs
abbrev Aa2(te:TE):TS:=fun D U H=>te U H D.rt
theorem Mp(he:PE X e te):PS X (.Return (some e) pos) (Aa2 te):=by
 intro pins s U H D I h
 exact wpAny_Return_some (aW (he pins s U H _ I h) fun v s1 ⟨x,H1,I1,r1,q1⟩=>⟨x,U,H1,I1,r1,q1⟩)
abbrev Xo(c:TT)(t u:TS):TS:=fun D U H=>c U H fun b H1=>if b=true then t D U H1 else u D U H1
theorem ZR(hc:PT X c tc)(ha:gu X a t)(hb:gu X b u):PS X (.If c a b pos) (Xo tc t u):=by
 intro pins s U H D I h
 refine wpAny_If (aW (hc pins s U H _ I h) fun d s1 ⟨H1,I1,q1⟩=>?_)
 cases d with
 |true=>exact ha pins s1 U H1 D I1 q1
 |false=>exact hb pins s1 U H1 D I1 q1
end
@[reducible]noncomputable def TG:=V->St->Hp->(St->Hp->Prop)->Prop
@[reducible]noncomputable def oX:=List V->St->Hp->(St->Hp->Prop)->Prop
abbrev PG(X:Cx)(target:Expr)(t:TG):Prop :=
 ∀(pins:List (Addr×Obj))(s:Shared)(U:St)(H:Hp)(v:V)(u:Value)(Q:St->Hp->Prop),Inv X pins U H s->RelV v u->t v U H Q->
  wpAny (model X.prog X.w) X.A (assign target X.env u) (fun _ s'=>∃U' H',Inv X pins U' H' s'/\Q U' H') X.xe s
abbrev qy(X:Cx)(ts:List Expr)(t:oX):Prop :=
 ∀(pins:List (Addr×Obj))(s:Shared)(U:St)(H:Hp)(vs:List V)(us:List Value)(Q:St->Hp->Prop),Inv X pins U H s->Vals vs us->t vs U H Q->
  wpAny (model X.prog X.w) X.A (assignInOrder ((assignEach ts X.env).map (·.2)) us) (fun _ s'=>∃U' H',Inv X pins U' H' s'/\Q U' H') X.xe s
@[reducible]noncomputable def Xp:=V->V->V->Hp->(Hp->Prop)->Prop
abbrev Xq(X:Cx)(t:Xp):Prop :=
 ∀(pins:List (Addr×Obj))(s:Shared)(U:St)(H:Hp)(o i v:V)(ov iv u:Value)(Q:Hp->Prop),Inv X pins U H s->RelV o ov->RelV i iv->RelV v u->t o i v H Q->
  wpAny (model X.prog X.w) X.A (setItem ov iv u) (fun _ s'=>∃H',Inv X pins U H' s'/\Q H') X.xe s
section
variable{X:Cx}{pos:Pos}
abbrev Gm(i:Nat):TG:=fun v U H Q=>Q (U.set i (some v)) H
theorem Op{i:Nat}(hN:X.N.Nodup)(hi:X.N[i]?=some x)(hx:Loc X.env.scope x)(hf:X.fn x=true\/X.env.scope.names.lookup x=some .local:=by first|exact .inl rfl|exact .inr rfl|assumption):PG X (.Name x pos) (Gm i):=by
 intro pins s U H v u Q I r h
 exact wpAny_assign_Name (Mn I hN hi hx r (fun s' I'=>⟨_,H,I',h⟩) hf)
abbrev Xr:oX:=fun vs U H Q=>vs=[]/\Q U H
abbrev UR(t:TG)(u:oX):oX:=fun vs U H Q=>∃v r,vs=v::r/\t v U H fun U' H'=>u r U' H' Q
theorem Vt:qy X [] Xr:=by
 intro pins s U H vs us Q I r h
 obtain⟨e,h⟩:=h
 subst e
 cases r
 exact assignInOrder_nil ⟨U,H,I,h⟩
theorem S7(h1:PG X e t)(h2:qy X es u)
  (hs:(assignEach (e::es) X.env).map (·.2)=assign e X.env::(assignEach es X.env).map (·.2):=by rfl):qy X (e::es) (UR t u):=by
 intro pins s U H vs us Q I r h
 obtain⟨v,vr,e1,h⟩:=h
 subst e1
 cases r with
 |cons r rr=>
 rw[hs]
 refine assignInOrder_cons (aW (h1 pins s U H _ _ _ I r h) fun _ s1 ⟨mQ,H1,I1,q1⟩=>?_)
 exact h2 pins s1 mQ H1 _ _ Q I1 rr q1
abbrev Xs(K:PySem.W.Frag)(n:Nat)(t:oX):TG:=fun v U H Q=>∃a xs,v=.ref a/\dP K H a xs/\xs.length=n/\t xs U H Q
theorem Xt{k:Nat}{n:Nat}(hc:X.calm=true)(h:qy X es t)
  (hn:(assignEach es X.env).length=n:=by rfl) (aT:(assignEach es X.env).findIdx? (·.1)=none:=by rfl):PG X (.Tuple es k pos) (Xs X.K n t):=by
 intro pins s U H v u Q I r hw
 obtain⟨a,xs,e1,hq,hl,hw⟩:=hw
 subst e1
 cases r
 obtain⟨ah,rv,ht,hz⟩:=I.tuple hq
 refine assign_Tuple_tuple (I.ok.hd hc) ht (by simp[hn,<- hl,rv.length]) aT fun h' hx=>?_
 have I1:Inv X pins U H {s with heap:=h'}:=I.kept (t':=s.toks) fun b o e=>hx b o (g_ (Heap.lt_size e)) e
 exact h pins _ U H xs _ Q I1 (by simpa using rv) hw
abbrev Xu(to ti:TE)(t:Xp):TG:=fun v U H Q=>to U H fun o H1=>ti U H1 fun i H2=>t o i v H2 fun H3=>Q U H3
theorem Xv(ho:PE X o to)(hi:PE X i ti)(hs:Xq X t)
  (ha:∀v,assign (.Subscript o i pos) X.env v=(do
   let ov <- holding [v] (eval o X.env)
   let iv <- holding [v,ov] (eval i X.env)
   standAt pos
   holding [v,ov,iv] (setItem ov iv v)
   release [v,ov,iv] []):=by intro _;rfl):PG X (.Subscript o i pos) (Xu to ti t):=by
 intro pins s U H v u Q I r h
 rw[ha]
 refine wpAny_bind (wpAny_holding (aW (ho pins s U H _ I h) fun ov s1 ⟨x,H1,I1,r1,q1⟩=>?_))
 refine wpAny_bind (wpAny_holding (aW (hi pins s1 U H1 _ I1 q1) fun iv s2 ⟨y,H2,I2,r2,q2⟩=>?_))
 refine wpAny_bind (wpAny_standAt (wpAny_bind (wpAny_holding (aW (hs pins s2 U H2 x y v ov iv u _ I2 r1 r2 r q2) fun _ s3 ⟨H3,I3,q3⟩=>?_))))
 exact wpAny_release ⟨U,H3,I3,q3⟩
abbrev HD(te:TE)(g:TG):TS:=fun D U H=>te U H fun x H1=>g x U H1 D.nx
theorem QK(he:PE X e te)(hg:PG X tg g)(hs:swapsWithSole [tg] e pos.line X.env=pure false:=by rfl)(hw:swappedStores [tg] e X.env=pure none:=by rfl)
  (h1:(assignEach [tg] X.env).map (·.2)=[assign tg X.env]:=by rfl):PS X (.Assign [tg] e pos) (HD te g):=by
 intro pins s U H D I h
 refine wpAny_Assign_stores (aW (he pins s U H _ I h) fun v s1 ⟨x,H1,I1,r1,q1⟩=>?_) hs hw
 rw[h1]
 exact aW (hg pins s1 U H1 x v _ I1 r1 q1) fun _ s2 q=>q
theorem QL{i:Nat}(hN:X.N.Nodup)(hi:X.N[i]?=some x)(hx:Loc X.env.scope x)(he:PE X e te)(hs:swapsWith e (some (.Name x pos')) pos.line X.env=pure false:=by rfl)(hf:X.fn x=true\/X.env.scope.names.lookup x=some .local:=by first|exact .inl rfl|exact .inr rfl|assumption) :
  PS X (.Assign [.Name x pos'] e pos) (HD te (Gm i)):=by
 intro pins s U H D I h
 refine wpAny_Assign_Name (aW (he pins s U H _ I h) fun v s1 ⟨y,H1,I1,r1,q1⟩=>?_) hs
 exact Mn I1 hN hi hx r1 (fun s2 I2=>⟨_,H1,I2,q1⟩) hf
end
section
variable{X:Cx}{pos:Pos}
abbrev QM(c:TT)(tb:TS):TS:=fun D U H=>∃W:Nat->St->Hp->Prop,(∃m,W m U H)/\∀m U H,W m U H->
 c U H fun b H1=>if b=true then ∃N:St->Hp->Prop,(∀U' H',N U' H'->∃m',m'<m/\W m' U' H')/\tb {D with nx:=N,ct:=N,bk:=D.nx} U H1 else D.nx U H1
theorem S8(hp:PassesOwn (model X.prog X.w) X.A X.env X.xe)(hc:PT X c tc)(hb:gu X body tb):PS X (.While c body [] pos) (QM tc tb):=by
 intro pins s U H D I h
 obtain⟨W,⟨m0,w0⟩,turn⟩:=h
 refine wpAny_While (codeAny_whileLoop (fun n s'=>∃U' H',Inv X pins U' H' s'/\W n U' H') ?_ m0 ⟨U,H,I,w0⟩)
 rintro n s1 ⟨mQ,H1,I1,w1⟩
 refine wpAny_passesOwn hp (aW (hc pins s1 mQ H1 _ I1 (turn n mQ H1 w1)) fun b s2 ⟨H2,I2,q2⟩=>?_)
 cases b with
 |true=>
  obtain⟨N,hN,q2⟩:=q2
  rw[if_pos rfl]
  refine wpAny_passesOwn hp (aW (hb pins s2 mQ H2 _ I2 q2) fun f s3 q3=>?_)
  cases f with
  |next=>
   obtain⟨kR,H3,I3,n3⟩:=q3
   obtain⟨m',hm,w3⟩:=hN kR H3 n3
   exact⟨m',hm,kR,H3,I3,w3⟩
  |cont=>
   obtain⟨kR,H3,I3,n3⟩:=q3
   obtain⟨m',hm,w3⟩:=hN kR H3 n3
   exact⟨m',hm,kR,H3,I3,w3⟩
  |brk=>exact q3
  |ret v=>exact q3
 |false=>
 rw[if_neg qq]
 exact wpAny_execs_nil ⟨mQ,H2,I2,q2⟩
end
structure It where
 go:Nat->Hp->Prop
 jF:Nat->Hp->V->Hp->Prop
 stop:Nat->Hp->Prop
abbrev Jb(X:Cx)(pins:List (Addr×Obj))(H:Hp)(b:Addr):Prop :=
 H b=none/\b≠X.env.locals/\b∉X.fs/\(b∈X.ex\/X.aG.heap.objs.size<=b)/\(∀x c,X.env.cells.lookup x=some c->c≠b)/\∀p∈X.pn++pins,p.1≠b
theorem Inv.kU(I:Inv X pins U H s)(hb:s.heap.objs.size<=b)(hn:H' b=none):Jb X pins H' b:=by
 refine⟨hn,rn (gQ I.lt hb),I.oU hb,.inr (aS I.sz hb),fun x c e z=>?_,fun p hp z=>?_⟩
 ·obtain⟨v,q⟩:=I.cell x c e
  exact absurd (gQ q.lt (by rw[z];exact hb)) (iY _)
 exact absurd (gQ (Heap.lt_size (I.pin p hp).1) (by rw[z];exact hb)) (iY _)
structure Turn(P:Program)(w:World)(K:PySem.W.Frag)(tg:Expr)(J:It)(fp:List Addr)(it:Addr)(tn:Nat->Heap->Prop):Prop where
 mem:it∈fp
 obj:∀i h,tn i h->∀b∈fp,∃o,h.get? b=some o/\∀v,o.data≠.cell v
 keep:∀i h h',tn i h->(∀b∈fp,∀o,h.get? b=some o->h'.get? b=some o)->tn i h'
 item:∀(X:Cx),X.prog=P->X.w=w->X.K=K->X.calm=true->∀(i:Nat)(pins:List (Addr×Obj))(s:Shared)(U:St)(H:Hp)(E:Value->Shared->Prop),Inv X pins U H s->(∀b∈fp,Jb X pins H b)->tn i s.heap->J.go i H->
  wpAny (model P w) X.A (pyNext (.ref it)) (fun r s1=>∃u,r=some u /\
   wpAny (model P w) X.A (letOwnedTupleGo tg (.ref it) u) (fun _ s2=>∃x H',Inv X pins U H' s2/\RelV x u/\J.jF i H x H'/\tn (i+1) s2.heap/\∀b∈fp,H' b=none) E s1) E s
 done:∀(X:Cx),X.prog=P->X.w=w->X.K=K->X.calm=true->∀(i:Nat)(pins:List (Addr×Obj))(s:Shared)(U:St)(H:Hp)(E:Value->Shared->Prop),Inv X pins U H s->(∀b∈fp,Jb X pins H b)->tn i s.heap->J.stop i H->
  wpAny (model P w) X.A (pyNext (.ref it)) (fun r s1=>r=none/\Inv X pins U H s1) E s
 self:∀(A:Around)(i:Nat)(s:Shared)(Q:Value->Shared->Prop)(E:Value->Shared->Prop),tn i s.heap->Q (.ref it) s->wpAny (model P w) A (pyIter (.ref it)) Q E s
@[reducible]noncomputable def TI:=St->Hp->(It->Hp->Prop)->Prop
abbrev vO(X:Cx)(pins:List (Addr×Obj))(U:St)(tg:Expr)(R:It->Hp->Prop)(vP:Value)(s2:Shared):Prop :=
 ∃(it:Addr)(fp:List Addr)(tn:Nat->Heap->Prop)(J:It)(H':Hp),vP=.ref it/\Inv X pins U H' s2/\Turn X.prog X.w X.K tg J fp it tn/\tn 0 s2.heap/\(∀b∈fp,Jb X pins H' b)/\R J H'
abbrev PI(X:Cx)(tg iter:Expr)(wi:TI):Prop :=
 ∀(pins:List (Addr×Obj))(s:Shared)(U:St)(H:Hp)(R:It->Hp->Prop),Inv X pins U H s->wi U H R->
  wpAny (model X.prog X.w) X.A (eval iter X.env) (fun v s1=>wpAny (model X.prog X.w) X.A (pyIter v) (vO X pins U tg R) X.xe s1) X.xe s
theorem Iu{E:Value->Shared->Prop}{Q:Unit->Shared->Prop}(ho:s.heap.get? it=some o)(hc:o.cls=.type n)(hd:o.data=.fields vs)
  (hn:["enumerate", "zip", "dict_itemiterator", "dict_reverseitemiterator", "odict_iterator", "itertools.zip_longest", "itertools.pairwise"].contains n=false) (hQ:Q () s):wpAny M A (letOwnedTupleGo tg (.ref it) u) Q E s:=by
 unfold letOwnedTupleGo
 cases tg<;>first
  |exact wpAny_pure hQ
  | (cases u<;>first
    |exact wpAny_pure hQ
    | (refine wpAny_bind (wpAny_load ho ?_)
       rw[hc,hd]
       show wpAny M A (if(["enumerate", "zip", "dict_itemiterator", "dict_reverseitemiterator", "odict_iterator", "itertools.zip_longest", "itertools.pairwise"].contains n&&vs[0]?==some (rawInt _))=true then _ else _) Q E s
       rw[if_neg (by intro h;rw[hn,aa0]at h;cases h)]
       exact wpAny_pure hQ))
abbrev qz(K:PySem.W.Frag)(a:Addr):It :=
 ⟨fun i H=>∃xs x,fi K H a xs/\xs[i]?=some x,fun i H x H'=>H'=H/\∀xs,fi K H a xs->xs[i]?=some x,fun i H=>∃xs,fi K H a xs/\xs.length<=i⟩
abbrev vQ(K:PySem.W.Frag)(a:Addr):It :=
 ⟨fun i H=>∃xs x,dP K H a xs/\xs[i]?=some x,fun i H x H'=>H'=H/\∀xs,dP K H a xs->xs[i]?=some x,fun i H=>∃xs,dP K H a xs/\xs.length<=i⟩
abbrev rO(lo:Int)(n:Nat):It:=⟨fun i _=>i<n,fun i H x H'=>H'=H/\x=.int (lo+i),fun i _=>n<=i⟩
theorem QN{P:Program}{w:World}{K:PySem.W.Frag}{tg:Expr}(a it:Addr):Turn P w K tg (qz K a) [it] it (fun i h=>h.IsListIter it a i) where
 mem:=by simp
 obj:=fun i h st b hb=>by
  have e:b=it:=by simpa using hb
  subst e
  obtain⟨o,e,c,d⟩:=st
  exact⟨o,e,fun v z=>by rw[d]at z;cases z⟩
 keep:=fun i h h' st k=>st.at fun o e=>k it (by simp) o e
 item:=by
  intro X hP hw hK hc i pins s U H E I hf st hg
  subst hP hw hK
  obtain⟨xs,x,hq,hx⟩:=hg
  obtain⟨ah,rv,p,hz⟩:=I.list hq
  obtain⟨u,hu,ru⟩:=rv.get hx
  obtain⟨f0,f1,f2,f3,f4,f5⟩:=hf it (by simp)
  refine wpAny_pyNext_list_item st p.isList (x:=u) (by simpa using hu) fun h' jc sb=>?_
  have I1:Inv X pins U H {s with heap:=h'}:=I.turned (t':=s.toks) (fun b o hb e=>(sb.2 b hb).trans e) f0 f1 f3 f4 f5
  obtain⟨o,e,c,d⟩:=id jc
  exact⟨u,rfl,Iu (s:={s with heap:=h'}) e c d (by decide) ⟨x,H,I1,ru,⟨rfl,fun ys hy=>by rw[I.kQ hy hq];exact hx⟩,jc,fun b hb=>(hf b hb).1⟩⟩
 done:=by
  intro X hP hw hK hc i pins s U H E I hf st hg
  subst hP hw hK
  obtain⟨xs,hq,hx⟩:=hg
  obtain⟨ah,rv,p,hz⟩:=I.list hq
  obtain⟨f0,f1,f2,f3,f4,f5⟩:=hf it (by simp)
  have hl:=rv.length
  exact wpAny_pyNext_list_end (I.ok.hd hc) st p.isList (by simp;omega) fun h' eb=>⟨rfl,I.turned (t':=s.toks) (fun b o hb e=>eb b o hb e) f0 f1 f3 f4 f5⟩
 self:=fun _ _ _ _ _ st h=>wpAny_pyIter_listiter st h
theorem Po{P:Program}{w:World}{K:PySem.W.Frag}{tg:Expr}(a it:Addr):Turn P w K tg (vQ K a) [it] it (fun i h=>h.IsTupleIter it a i) where
 mem:=by simp
 obj:=fun i h st b hb=>by
  have e:b=it:=by simpa using hb
  subst e
  obtain⟨o,e,c,d⟩:=st
  exact⟨o,e,fun v z=>by rw[d]at z;cases z⟩
 keep:=fun i h h' st k=>st.at fun o e=>k it (by simp) o e
 item:=by
  intro X hP hw hK hc i pins s U H E I hf st hg
  subst hP hw hK
  obtain⟨xs,x,hq,hx⟩:=hg
  obtain⟨ah,rv,p,hz⟩:=I.tuple hq
  obtain⟨u,hu,ru⟩:=rv.get hx
  obtain⟨f0,f1,f2,f3,f4,f5⟩:=hf it (by simp)
  refine wpAny_pyNext_tuple_item st (show s.heap.IsTuple a ah.toArray from p) (x:=u) (by simpa using hu) fun h' jc sb=>?_
  have I1:Inv X pins U H {s with heap:=h'}:=I.turned (t':=s.toks) (fun b o hb e=>(sb.2 b hb).trans e) f0 f1 f3 f4 f5
  obtain⟨o,e,c,d⟩:=id jc
  exact⟨u,rfl,Iu (s:={s with heap:=h'}) e c d (by decide) ⟨x,H,I1,ru,⟨rfl,fun ys hy=>by rw[I.jT hy hq];exact hx⟩,jc,fun b hb=>(hf b hb).1⟩⟩
 done:=by
  intro X hP hw hK hc i pins s U H E I hf st hg
  subst hP hw hK
  obtain⟨xs,hq,hx⟩:=hg
  obtain⟨ah,rv,p,hz⟩:=I.tuple hq
  obtain⟨f0,f1,f2,f3,f4,f5⟩:=hf it (by simp)
  have hl:=rv.length
  exact wpAny_pyNext_tuple_end (I.ok.hd hc) st (show s.heap.IsTuple a ah.toArray from p) (by simp;omega) fun h' eb=>⟨rfl,I.turned (t':=s.toks) (fun b o hb e=>eb b o hb e) f0 f1 f3 f4 f5⟩
 self:=fun _ _ _ _ _ st h=>wpAny_pyIter_tupleiter st h
theorem Pp{P:Program}{w:World}{K:PySem.W.Frag}{tg:Expr}(it:Addr)(lo:Int)(n:Nat):Turn P w K tg (rO lo n) [it] it (fun i h=>IsRangeIter h it (lo+(i:Nat)*1) ((n:Int)-(i:Nat)) 1) where
 mem:=by simp
 obj:=fun i h st b hb=>by
  have e:b=it:=by simpa using hb
  subst e
  exact⟨_,st,fun v z=>by
   have z':Data.fields _=Data.cell v:=z
   cases z'⟩
 keep:=fun i h h' st k=>k it (by simp) _ st
 item:=by
  intro X hP hw hK hc i pins s U H E I hf st hg
  subst hP hw hK
  obtain⟨f0,f1,f2,f3,f4,f5⟩:=hf it (by simp)
  have W:=Walks.range (prog:=X.prog) (w:=X.w) (I.ok.hd hc) it lo 1 n
  refine W.item i s _ _ hg st fun v h' tk hv jc kk=>?_
  obtain⟨t,rfl⟩:=hv
  have I1:Inv X pins U H {s with heap:=h',toks:=tk}:=I.turned (fun b o hb e=>kk b o (by simpa using hb) e) f0 f1 f3 f4 f5
  refine⟨_,rfl,Iu (s:={s with heap:=h',toks:=tk}) (n := "range_iterator") jc rfl rfl (by decide) ⟨.int (lo+i),H,I1,⟨t,?_⟩,⟨rfl,rfl⟩,jc,fun b hb=>(hf b hb).1⟩⟩
  rw[Int.mul_one]
 done:=by
  intro X hP hw hK hc i pins s U H E I hf st hg
  subst hP hw hK
  obtain⟨f0,f1,f2,f3,f4,f5⟩:=hf it (by simp)
  exact wpAny_pyNext_range_end (I.ok.hd hc) st (by have:n<=i:=hg;omega) fun h' eb=>⟨rfl,I.turned (t':=s.toks) (fun b o hb e=>eb b o hb e) f0 f1 f3 f4 f5⟩
 self:=fun _ _ _ _ _ st h=>wpAny_pyIter_rangeiter st h
section
variable{X:Cx}{tg:Expr}
theorem Mq{R:It->Hp->Prop}{E:Value->Shared->Prop}{lo hi:Int}{tk:Nat}(I:Inv X pins U H s)(h1:-(2^62)<=lo)(h2:lo<2^62)(h3:-(2^62)<=hi)(h4:hi<2^62)
  (q:R (rO lo (hi-lo).toNat) H):wpAny (model X.prog X.w) X.A (pyIter (.ref s.heap.objs.size)) (vO X pins U tg R) E {s with heap:=s.heap.push {cls:=.type "range",data:=.fields #[.int lo t,.int hi u,.int 1 v]},toks:=tk}:=by
 refine wpAny_pyIter_range (IsRange.new ..) (small_one h1 h2 h3 h4) ?_
 have I1:Inv X pins U H {s with heap:=s.heap.push {cls:=.type "range",data:=.fields #[.int lo t,.int hi u,.int 1 v]},toks:=tk}:=I.kept fun b o e=>Heap.get?_push_of_some _ e
 refine⟨(s.heap.push {cls:=.type "range",data:=.fields #[.int lo t,.int hi u,.int 1 v]}).objs.size,[(s.heap.push {cls:=.type "range",data:=.fields #[.int lo t,.int hi u,.int 1 v]}).objs.size],_,_,H,rfl,
  I1.kept (t':=tk) fun b o e=>Heap.get?_push_of_some _ e,Pp _ lo (hi-lo).toNat,?_,fun b hb=>?_,q⟩
 ·have e1:lo+((0:Nat):Int)*1=lo:=by simp
  have e2:(((hi-lo).toNat:Nat):Int)-((0:Nat):Int)=Builtin.Range.rangeSize lo hi 1:=by rw[rangeSize_one];split<;>omega
  show IsRangeIter _ _ (lo+((0:Nat):Int)*1) ((((hi-lo).toNat:Nat):Int)-((0:Nat):Int)) 1
  rw[e1,e2]
  exact Heap.get?_push_size _ rfl
 have e:b=(s.heap.push {cls:=.type "range",data:=.fields #[.int lo t,.int hi u,.int 1 v]}).objs.size:=by simpa using hb
 subst e
 exact I1.kU (bx _) (I1.aI.fresh (bx _))
abbrev ZS(ta:TA):TI:=fun U H R=>ta U H fun vs H1=>∃j:Int,vs=[.int j]/\-(2^62)<=j/\j<2^62/\R (rO 0 j.toNat) H1
abbrev ZT(ta:TA):TI:=fun U H R=>ta U H fun vs H1=>∃i j:Int,vs=[.int i,.int j]/\(-(2^62)<=i/\i<2^62/\-(2^62)<=j/\j<2^62)/\R (rO i (j-i).toNat) H1
theorem QO(hg:Gl X "range")(hm:X.mg "range" = none)(ha:PA X [a] ta)(hs:starEach [a] X.env=[(false,eval a X.env)]:=by rfl):PI X tg (.Call (.Name "range" p) [a] [] pos) (ZS ta):=by
 intro pins s U H R I h
 refine Call_ (GL I hg hm boot_range (PyProof.Rows.callWith_type1 (aW (ha pos pins s U H _ I h) fun us s1 ⟨vs,H1,I1,r1,q1⟩=>?_) hs rfl))
 obtain⟨j,e,q1,q2,q⟩:=q1
 subst e
 cases r1 with
 |cons r rr=>
 cases rr
 obtain⟨t,rfl⟩:=r
 exact call_range_1 (Mq I1 (by omega) (by omega) q1 q2 (by simpa using q))
theorem QP(hg:Gl X "range")(hm:X.mg "range" = none)(ha:PA X [a,b] ta)(hs:starEach [a,b] X.env=[(false,eval a X.env),(false,eval b X.env)]:=by rfl)(kq:starEach [b] X.env=[(false,eval b X.env)]:=by rfl) :
  PI X tg (.Call (.Name "range" p) [a,b] [] pos) (ZT ta):=by
 intro pins s U H R I h
 refine Call_ (GL I hg hm boot_range (PyProof.Rows.callWith_type1 (aW (ha pos pins s U H _ I h) fun us s1 ⟨vs,H1,I1,r1,q1⟩=>?_) (by rw[hs,kq]) (by rw[kq];rfl)))
 obtain⟨i,j,e,⟨q1,q2,q3,q4⟩,q⟩:=q1
 subst e
 cases r1 with
 |cons r rr=>
  cases rr with
  |cons r' rr=>
  cases rr
  obtain⟨t,rfl⟩:=r
  obtain⟨t',rfl⟩:=r'
  exact call_range_2 (Mq I1 q1 q2 q3 q4 q)
abbrev Xw(wi:TI)(g:TG)(tb:TS):TS:=fun D U H=>wi U H fun J H1=>∃W:Nat->Nat->St->Hp->Prop,(∃m,W 0 m U H1)/\∀i m U H,W i m U H->
 (J.stop i H/\D.nx U H)\/(J.go i H/\∃N:St->Hp->Prop,(∀U' H',N U' H'->∃m',m'<m/\W (i+1) m' U' H')/\∀x H',J.jF i H x H'->g x U H' fun fj H2=>tb {D with nx:=N,ct:=N,bk:=D.nx} fj H2)
abbrev HE(fp:List Addr)(h:Heap):List (Addr×Obj):=fp.filterMap fun b=>(h.get? b).map fun o=>(b,o)
theorem Fp(hb:b∈fp)(e:h.get? b=some o):(b,o)∈HE fp h:=gZ.mpr ⟨b,hb,by rw[e];rfl⟩
theorem QQ(hp:p∈HE fp h):p.1∈fp/\h.get? p.1=some p.2:=by
 obtain⟨b,hb,e⟩:=gZ.mp hp
 cases q:h.get? b with
 |none=>rw[q]at e;cases e
 |some o=>
 rw[q]at e
 have e':(b,o)=p:=Option.some.inj e
 subst e'
 exact⟨hb,q⟩
theorem Inv.pinned(I:Inv X pins U H s)(hf:∀b∈fp,Jb X pins H b)(ho:∀b∈fp,∃o,s.heap.get? b=some o/\∀v,o.data≠.cell v):Inv X (pins++HE fp s.heap) U H s :=
 I.jE fun p hp=>(bw.mp hp).elim (fun z=>I.pin p (du _ z)) fun z=>by
  obtain⟨hb,e⟩:=QQ z
  obtain⟨f0,f1,f2,_⟩:=hf p.1 hb
  obtain⟨o,e',d⟩:=ho p.1 hb
  rw[e]at e';cases e'
  exact⟨e,f0,f1,f2,d⟩
theorem Inv.ez(I:Inv X (pins++pl) U H s):Inv X pins U H s:=I.jE fun p hp=>I.pin p (du _ (eO _ hp))
theorem QR(hp:PassesOwn (model X.prog X.w) X.A X.env X.xe)(hc:X.calm=true)(hi:PI X tg iter wi)(hg:PG X tg g)(hb:gu X body tb)
  (hs:∀x,foldedSetIterable iter X.env x=pure x:=by intro _;rfl):PS X (.For tg iter body [] pos) (Xw wi g tb):=by
 intro pins s U H D I h
 refine wpAny_For (aW (hi pins s U H _ I h) fun v s1 h1=>aW h1 fun vP s2 h2=>?_) hs
 obtain⟨it,fp,tn,J,H2,e,I2,T,ui,f2,W,⟨m0,w0⟩,turn⟩:=h2
 subst e
 have jd:∀{H':Hp},(∀b∈fp,H' b=none)->∀b∈fp,Jb X pins H' b:=fun hn b hb=>⟨hn b hb,(f2 b hb).2⟩
 refine codeAny_forLoop_any (fun n s'=>∃i U' H',Inv X pins U' H' s'/\tn i s'.heap/\(∀b∈fp,H' b=none)/\W i n U' H') ?_ m0 ⟨0,U,H2,I2,ui,fun b hb=>(f2 b hb).1,w0⟩
 rintro n s3 ⟨i,kR,H3,I3,zZ,z6,w3⟩
 rcases turn i n kR H3 w3 with⟨stop,qn⟩|⟨go,N,hN,step⟩
 ·refine wpAny_passesOwn hp (aW (T.done X rfl rfl rfl hc i pins s3 kR H3 X.xe I3 (jd z6) zZ stop) fun r s4 ⟨hr,I4⟩=>?_)
  subst hr
  exact wpAny_execs_nil ⟨kR,H3,I4,qn⟩
 refine wpAny_passesOwn hp (aW (T.item X rfl rfl rfl hc i pins s3 kR H3 X.xe I3 (jd z6) zZ go) fun r s4 ⟨u,hr,h4⟩=>?_)
 subst hr
 refine wpAny_passesOwn hp (aW h4 fun _ s5 ⟨x,H5,I5,r5,y5,vR,fr5⟩=>?_)
 have I5':=I5.pinned (jd fr5) (T.obj _ _ vR)
 refine wpAny_passesOwn hp (aW (hg _ s5 kR H5 x u _ I5' r5 (step x H5 y5)) fun _ s6 ⟨σ6,H6,I6,q6⟩=>?_)
 refine wpAny_passesOwn hp (aW (hb _ s6 σ6 H6 _ I6 q6) fun f s7 q7=>?_)
 have again:∀{kW:St}{H7:Hp},Inv X (pins++HE fp s5.heap) kW H7 s7->N kW H7->∃m,m<n/\∃i U' H',Inv X pins U' H' s7/\tn i s7.heap/\(∀b∈fp,H' b=none)/\W i m U' H':=fun {kW H7} I7 n7=>by
  obtain⟨m',hm,w7⟩:=hN kW H7 n7
  refine⟨m',hm,i+1,kW,H7,I7.ez,T.keep _ _ _ vR fun b hb o e=>(I7.pin (b,o) (du _ (du _ (Fp hb e)))).1,fun b hb=>?_,w7⟩
  obtain⟨o,e,d⟩:=T.obj _ _ vR b hb
  exact(I7.pin (b,o) (du _ (du _ (Fp hb e)))).2.1
 cases f with
 |next=>obtain⟨kW,H7,I7,n7⟩:=q7;exact again I7 n7
 |cont=>obtain⟨kW,H7,I7,n7⟩:=q7;exact again I7 n7
 |brk=>obtain⟨kW,H7,I7,q7⟩:=q7;exact⟨kW,H7,I7.ez,q7⟩
 |ret v=>obtain⟨x7,kW,H7,I7,r7,q7⟩:=q7;exact⟨x7,kW,H7,I7.ez,r7,q7⟩
end
@[reducible]noncomputable def R2:=V->V->Hp->VK->Prop
abbrev cZ(X:Cx)(f:Value->Value->Sem Value)(r:R2):Prop :=
 ∀(pins:List (Addr×Obj))(s:Shared)(U:St)(H:Hp)(x y:V)(v u:Value)(Q:VK),Inv X pins U H s->RelV x v->RelV y u->r x y H Q->
  wpAny (model X.prog X.w) X.A (f v u) (EP X pins U Q) X.xe s
abbrev vS(X:Cx)(f:Value->Sem Value)(r:V->Hp->VK->Prop):Prop :=
 ∀(pins:List (Addr×Obj))(s:Shared)(U:St)(H:Hp)(x:V)(v:Value)(Q:VK),Inv X pins U H s->RelV x v->r x H Q->
  wpAny (model X.prog X.w) X.A (f v) (EP X pins U Q) X.xe s
abbrev CG(X:Cx)(f:Value)(r:List V->Hp->VK->Prop):Prop :=
 ∀(pins:List (Addr×Obj))(s:Shared)(U:St)(H:Hp)(xs:List V)(us:List Value)(Q:VK),Inv X pins U H s->Vals xs us->r xs H Q->
  wpAny (model X.prog X.w) X.A (call f us) (EP X pins U Q) X.xe s
abbrev Aa3(X:Cx)(r:V->Hp->(Bool->Hp->Prop)->Prop):Prop :=
 ∀(pins:List (Addr×Obj))(s:Shared)(U:St)(H:Hp)(x:V)(v:Value)(Q:Bool->Hp->Prop),Inv X pins U H s->RelV x v->r x H Q->
  wpAny (model X.prog X.w) X.A (truthy v) (TP X pins U Q) X.xe s
abbrev qA(r:R2)(ta tb:TE):TE:=fun U H Q=>ta U H fun x H1=>tb U H1 fun y H2=>r x y H2 Q
abbrev tUn(r:V->Hp->VK->Prop)(ta:TE):TE:=fun U H Q=>ta U H fun x H1=>r x H1 Q
abbrev rI(C:Int->Int->Prop)(g:Int->Int->V):R2:=fun x y H Q=>∃i j,x=.int i/\y=.int j/\C i j/\Q (g i j) H
abbrev jG(g:Int->Int->V):R2:=fun x y H Q=>∃i j,x=.int i/\y=.int j/\Q (g i j) H
abbrev rU(g:Int->V):V->Hp->VK->Prop:=fun x H Q=>∃i,x=.int i/\Q (g i) H
section
variable{X:Cx}{a b c:Expr}{ta tb tc:TE}{pos:Pos}
theorem S9(ha:PE X a ta)(hb:PE X b tb){R:V->V->Hp->Prop}(I:Inv X pins U H s)
  (h:ta U H fun x H1=>tb U H1 fun y H2=>R x y H2) {Q:Value->Shared->Prop} {f:Value->Value->Sem Value}
  (hf:∀v u s2 x y H2,Inv X pins U H2 s2->RelV x v->RelV y u->R x y H2->wpAny (model X.prog X.w) X.A (f v u) Q X.xe s2) :
  wpAny (model X.prog X.w) X.A (eval a X.env) (fun v aN=>wpAny (model X.prog X.w) X.A (eval b X.env) (fun u kP=>wpAny (model X.prog X.w) X.A (f v u) Q X.xe kP) X.xe aN) X.xe s:=by
 refine aW (ha pins s U H _ I h) fun v s1 ⟨x,H1,I1,r1,q1⟩=>?_
 refine aW (hb pins s1 U H1 _ I1 q1) fun u s2 ⟨y,H2,I2,r2,q2⟩=>?_
 exact hf v u s2 x y H2 I2 r1 r2 q2
theorem ZU(ho:cZ X (binaryOp op) r)(ha:PE X a ta)(hb:PE X b tb):PE X (.BinOp a op b pos) (qA r ta tb):=by
 intro pins s U H Q I h
 exact wpAny_BinOp (S9 ha hb I h fun v u s2 x y H2 I2 rx ry q=>ho pins s2 U H2 x y v u Q I2 rx ry q)
theorem ZV{r:V->Hp->VK->Prop}(ho:vS X (unaryOp op) r)(ha:PE X a ta):PE X (.UnaryOp op a pos) (tUn r ta):=by
 intro pins s U H Q I h
 exact UnaryOp_ (aW (ha pins s U H _ I h) fun v s1 ⟨x,H1,I1,r1,q1⟩=>ho pins s1 U H1 x v Q I1 r1 q1)
theorem uj{f:Value->Value->Sem Value}{C:Int->Int->Prop}{g:Int->Int->Int}
  (rule:∀(i j:Int)(t u:Tok)(s:Shared)(Q:Value->Shared->Prop)(E:Value->Shared->Prop),C i j->Q (.int (g i j) s.toks) {s with toks:=s.toks+1}->wpAny (model X.prog X.w) X.A (f (.int i t) (.int j u)) Q E s) :
  cZ X f (rI C fun i j=>.int (g i j)):=by
 intro pins s U H x y v u Q I rx ry h
 obtain⟨i,j,rfl,rfl,hc,q⟩:=h
 obtain⟨t,rfl⟩:=rx
 obtain⟨t',rfl⟩:=ry
 exact rule i j t t' s _ _ hc ⟨.int (g i j),H,I.tok _,⟨_,rfl⟩,q⟩
theorem Xx{f:Value->Value->Sem Value}{g:Int->Int->Int}
  (rule:∀(i j:Int)(t u:Tok)(s:Shared)(Q:Value->Shared->Prop)(E:Value->Shared->Prop),Q (.int (g i j) s.toks) {s with toks:=s.toks+1}->wpAny (model X.prog X.w) X.A (f (.int i t) (.int j u)) Q E s) :
  cZ X f (jG fun i j=>.int (g i j)):=by
 intro pins s U H x y v u Q I rx ry h
 obtain⟨i,j,rfl,rfl,q⟩:=h
 obtain⟨t,rfl⟩:=rx
 obtain⟨t',rfl⟩:=ry
 exact rule i j t t' s _ _ ⟨.int (g i j),H,I.tok _,⟨_,rfl⟩,q⟩
theorem Pq{f:Value->Value->Sem Value}{g:Int->Int->Bool}
  (rule:∀(i j:Int)(t u:Tok)(s:Shared)(Q:Value->Shared->Prop)(E:Value->Shared->Prop),Q (.bool (g i j)) s->wpAny (model X.prog X.w) X.A (f (.int i t) (.int j u)) Q E s) :
  cZ X f (jG fun i j=>.bl (g i j)):=by
 intro pins s U H x y v u Q I rx ry h
 obtain⟨i,j,rfl,rfl,q⟩:=h
 obtain⟨t,rfl⟩:=rx
 obtain⟨t',rfl⟩:=ry
 exact rule i j t t' s _ _ ⟨.bl (g i j),H,I,rfl,q⟩
abbrev Xy(i j:Int):Prop:=0<=j/\j<=1000000/\i.natAbs<2^64
abbrev oY(i j:Int):Prop:=(-(2^64)<i/\i<2^64)\/(-(2^64)<j/\j<2^64)
theorem oY.ok{i j:Int}(h:oY i j):IntMulOk i j:=by
 rcases h with⟨h1,h2⟩|⟨h1,h2⟩
 ·exact .of_left (intBits_le_64 h1 h2)
 exact .of_right (intBits_le_64 h1 h2)
theorem Xz:cZ X (binaryOp .Add) (jG fun i j=>.int (i+j)):=Xx fun _ _ _ _ _ _ _ q=>add_int q
theorem XA:cZ X (binaryOp .Sub) (jG fun i j=>.int (i-j)):=Xx fun _ _ _ _ _ _ _ q=>sub_int q
theorem XC:cZ X (binaryOp .Mod) (rI (fun _ j=>0<j) fun i j=>.int (i%j)):=uj fun i j _ _ _ _ _ hc q=>by
 have h1:(0:Int)<j:=hc
 exact mod_int' (by omega) (by rw[Int.fmod_eq_emod_of_nonneg i (by omega)];exact q)
theorem XD:cZ X (binaryOp .Pow) (rI Xy fun i j=>.int (i^j.toNat)):=uj fun _ _ _ _ _ _ _ hc q=>pow_int_small hc.1 hc.2.1 hc.2.2 q
theorem unI{f:Value->Sem Value}{g:Int->Int}
  (rule:∀(i:Int)(t:Tok)(s:Shared)(Q:Value->Shared->Prop)(E:Value->Shared->Prop),Q (.int (g i) s.toks) {s with toks:=s.toks+1}->wpAny (model X.prog X.w) X.A (f (.int i t)) Q E s) :
  vS X f (rU fun i=>.int (g i)):=by
 intro pins s U H x v Q I rx h
 obtain⟨i,rfl,q⟩:=h
 obtain⟨t,rfl⟩:=rx
 exact rule i t s _ _ ⟨.int (g i),H,I.tok _,⟨_,rfl⟩,q⟩
theorem XE:vS X (unaryOp .USub) (rU fun i=>.int (-i)):=unI fun _ _ _ _ _ q=>neg_int q
end
section
variable{X:Cx}{a b c:Expr}{ta tb tc:TE}{pos:Pos}
theorem QS{k k':Bool}(I:Inv X pins U H s)(q:Q (.bl k) H)(e:k=k'):EP X pins U Q (.bool k') s:=by
 subst e
 exact⟨.bl k,H,I,rfl,q⟩
theorem ZW:cZ X (compareOp .Lt) (jG fun i j=>.bl (decide (i<j))):=Pq fun _ _ _ _ _ _ _ q=>lt_int q
theorem ZX:cZ X (compareOp .LtE) (jG fun i j=>.bl (decide (i<=j))):=Pq fun _ _ _ _ _ _ _ q=>le_int q
theorem ZY:cZ X (compareOp .Gt) (jG fun i j=>.bl (decide (j<i))):=Pq fun _ _ _ _ _ _ _ q=>gt_int q
theorem ZZ:cZ X (compareOp .GtE) (jG fun i j=>.bl (decide (j<=i))):=Pq fun _ _ _ _ _ _ _ q=>ge_int q
theorem QT:cZ X (compareOp .In) (fun x y H Q=>∃i j,x=.str i/\y=.str j/\Q (.bl (!(Builtin.Str.occurrences j i 0 j.length 1).isEmpty)) H):=by
 intro pins s U H x y v u Q I rx ry h
 obtain⟨i,j,rfl,rfl,q⟩:=h
 obtain⟨t,rfl⟩:=rx
 obtain⟨t',rfl⟩:=ry
 exact in_str (QS I q rfl)
theorem Mr:cZ X (compareOp .NotIn) (fun x y H Q=>∃i j,x=.str i/\y=.str j/\Q (.bl (!(!(Builtin.Str.occurrences j i 0 j.length 1).isEmpty))) H):=by
 intro pins s U H x y v u Q I rx ry h
 obtain⟨i,j,rfl,rfl,q⟩:=h
 obtain⟨t,rfl⟩:=rx
 obtain⟨t',rfl⟩:=ry
 exact notIn_str (QS I q rfl)
theorem cZ.or{f:Value->Value->Sem Value}(h:cZ X f r)(h':cZ X f r'):cZ X f (fun x y H Q=>r x y H Q\/r' x y H Q):=by
 intro pins s U H x y v u Q I rx ry q
 rcases q with q|q
 ·exact h pins s U H x y v u Q I rx ry q
 exact h' pins s U H x y v u Q I rx ry q
theorem Oq(ho:cZ X (compareOp op) r)(ha:PE X a ta)(hb:PE X b tb)(hm:behindInMarks op b=false):PE X (.Compare a [op] [b] pos) (qA r ta tb):=by
 intro pins s U H Q I h
 exact wpAny_Compare1 (S9 ha hb I h fun v u s2 x y H2 I2 rx ry q=>ho pins s2 U H2 x y v u Q I2 rx ry q) hm
abbrev US(t:TE):TT:=fun U H Q=>t U H fun x H'=>∃k,x=.bl k/\Q k H'
theorem Os(ho:cZ X (compareOp op) r)(ha:PE X a ta)(hb:PE X b tb)(hm:behindInMarks op b=false):PT X (.Compare a [op] [b] pos) (US (qA r ta tb)):=by
 intro pins s U H Q I h
 refine wpAny_isTrue_Compare1 (aW (ha pins s U H _ I h) fun v s1 ⟨x,H1,I1,r1,q1⟩=>aW (hb pins s1 U H1 _ I1 q1) fun u s2 ⟨y,H2,I2,r2,q2⟩=>
  aW (ho pins s2 U H2 x y v u _ I2 r1 r2 q2) fun c s3 ⟨z,H3,I3,r3,k,e,q3⟩=>?_) hm
 subst e
 cases r3
 exact wpAny_truthy_bool ⟨H3,I3,q3⟩
abbrev Mv(r r':R2)(ta tb tc:TE):TE:=fun U H Q=>ta U H fun x H1=>tb U H1 fun y H2=>r x y H2 fun z H3=>∃k,z=.bl k /\
 (if k=true then tc U H3 fun w' H4=>r' y w' H4 Q else Q (.bl false) H3)
theorem Ta(ho:cZ X (compareOp op) r)(kN:cZ X (compareOp nk) r')(ha:PE X a ta)(hb:PE X b tb)(hc:PE X c tc)
  (hm:lastMarks [op,nk] [b,c]=false:=by with_unfolding_all rfl):PE X (.Compare a [op,nk] [b,c] pos) (Mv r r' ta tb tc):=by
 intro pins s U H Q I h
 refine Compare_chain (aW (ha pins s U H _ I h) fun v s1 ⟨x,H1,I1,r1,q1⟩=>chain_link (aW (hb pins s1 U H1 _ I1 q1) fun u s2 ⟨y,H2,I2,r2,q2⟩=>
  aW (ho pins s2 U H2 x y v u _ I2 r1 r2 q2) fun d s3 ⟨z,H3,I3,r3,k,e,q3⟩=>?_)) hm
 subst e
 cases r3
 refine wpAny_truthy_bool ?_
 cases k with
 |false=>exact ite_ff ⟨.bl false,H3,I3,rfl,q3⟩
 |true=>exact ite_tt (chain_last (aW (hc pins s3 U H3 _ I3 q3) fun w' s4 ⟨z',H4,I4,r4,q4⟩=>kN pins s4 U H4 y z' u w' Q I4 r2 r4 q4))
theorem Tb(ho:cZ X (compareOp op) r)(kN:cZ X (compareOp nk) r')(ha:PE X a ta)(hb:PE X b tb)(hc:PE X c tc)
  (hm:lastMarks [op,nk] [b,c]=false:=by with_unfolding_all rfl):PT X (.Compare a [op,nk] [b,c] pos) (US (Mv r r' ta tb tc)):=by
 intro pins s U H Q I h
 refine isTrue_chain (aW (ha pins s U H _ I h) fun v s1 ⟨x,H1,I1,r1,q1⟩=>test_link (aW (hb pins s1 U H1 _ I1 q1) fun u s2 ⟨y,H2,I2,r2,q2⟩=>
  aW (ho pins s2 U H2 x y v u _ I2 r1 r2 q2) fun d s3 ⟨z,H3,I3,r3,k,e,q3⟩=>?_)) hm
 subst e
 cases r3
 refine wpAny_truthy_bool ?_
 cases k with
 |false=>
  obtain⟨k',e',q'⟩:=q3
  cases e'
  exact ite_ff ⟨H3,I3,q'⟩
 |true=>
 refine ite_tt (test_last (aW (hc pins s3 U H3 _ I3 q3) fun w' s4 ⟨z',H4,I4,r4,q4⟩=>aW (kN pins s4 U H4 y z' u w' _ I4 r2 r4 q4) fun d' s5 ⟨z2,H5,I5,r5,k2,e2,q5⟩=>?_))
 subst e2
 cases r5
 exact wpAny_truthy_bool ⟨H5,I5,q5⟩
abbrev Tc(K:PySem.W.Frag)(x:V)(H:Hp)(k:Bool):Prop :=
 match x with
 |.aJ=>k=false
 |.bl b=>k=b
 |.int i=>k=(i != 0)
 |.str y=>y.length<=sizeLine/\k=((y.length:Int) != 0)
 |.qv y=>y.size<=sizeLine/\k=((y.size:Int) != 0)
 |.ref p=>(∃xs,fi K H p xs/\k=!xs.isEmpty)\/(∃xs,dP K H p xs/\k=!xs.isEmpty)\/∃cF,H p=some (.dK cF)/\k=!cF.isEmpty
 |_=>False
theorem Pr{κ:Type}{cF:List (κ×V)}{vs:List (κ×Value)}(r:KV cF vs):(!vs.isEmpty)=!cF.isEmpty:=by
 cases r<;>rfl
theorem JF(r:Vals xs ah):(!ah.toArray.isEmpty)=!xs.isEmpty:=by
 cases r<;>simp
theorem FS:(sizeLine:Nat)<2^63:=by rw[sizeLine_eq];decide
theorem XF:Aa3 X (fun x H Q=>∃k,Tc X.K x H k/\Q k H):=by
 intro pins s U H x v Q I rx h
 obtain⟨k,e,q⟩:=h
 have hl:=FS
 have hs:sizeLine=16777216:=sizeLine_eq
 cases x with
 |aJ=>
  cases rx
  have e':k=false:=e
  subst e'
  exact truthy_none ⟨H,I,q⟩
 |bl b=>
  cases rx
  have e':k=b:=e
  subst e'
  exact wpAny_truthy_bool ⟨H,I,q⟩
 |int i=>
  obtain⟨t,rfl⟩:=rx
  have e':k=(i != 0):=e
  subst e'
  exact PySem.P.truthy_int ⟨H,I,q⟩
 |str y=>
  obtain⟨t,rfl⟩:=rx
  obtain⟨hy,e'⟩:y.length<=sizeLine/\k=((y.length:Int) != 0):=e
  subst e'
  exact PySem.P.truthy_str (by omega) ⟨H,I.tok _,q⟩
 |qv y=>
  obtain⟨t,rfl⟩:=rx
  obtain⟨hy,e'⟩:y.size<=sizeLine/\k=((y.size:Int) != 0):=e
  subst e'
  exact PySem.W.truthy_bytes (by omega) ⟨H,I.tok _,q⟩
 |ref p=>
  cases rx
  have e':(∃xs,fi X.K H p xs/\k=!xs.isEmpty)\/(∃xs,dP X.K H p xs/\k=!xs.isEmpty)\/∃cF,H p=some (.dK cF)/\k=!cF.isEmpty:=e
  rcases e' with⟨xs,hx,e'⟩|⟨xs,hx,e'⟩|⟨cF,hx,e'⟩
  ·subst e'
   obtain⟨ah,r,pl,hz⟩:=I.list hx
   have hlen:=r.length
   exact wpAny_truthy_list pl.isList (by simp only[eQ];omega) ⟨H,I.tok _,by rw[JF r];exact q⟩
  ·subst e'
   obtain⟨ah,r,pl,hz⟩:=I.tuple hx
   have hlen:=r.length
   exact truthy_tuple pl (by simp only[eQ];omega) ⟨H,I.tok _,by rw[JF r];exact q⟩
  subst e'
  obtain⟨hz,hS,vs,r,m⟩:cF.length<=sizeLine/\(p==sysModules)=false/\∃vs,KV cF vs/\s.heap.DictOf (Ko X.prog X.w) p vs:=I.aI p _ hx
  have hlen:cF.length=vs.length:=Paired.length r
  exact wpAny_truthy_dict hS m (by omega) ⟨H,I.tok _,by rw[Pr r];exact q⟩
 |_=>exact nE e
theorem Td(ha:PE X a ta)(he:∀whole,isTrue a X.env whole=(do let v <- whole;standAt a.pos;holding [v] (truthy v))) :
  PT X a (fun U H Q=>ta U H fun x H'=>∃k,Tc X.K x H' k/\Q k H'):=by
 intro pins s U H Q I h
 exact isTrue_plain (aW (ha pins s U H _ I h) fun v s1 ⟨x,H1,I1,r1,q1⟩=>XF pins s1 U H1 x v Q I1 r1 q1) (he _)
theorem Ps:cZ X (binaryOp .Add) (fun x y H Q=>∃i j,x=.str i/\y=.str j/\i.length+j.length<=sizeLine/\Q (.str (i++j)) H):=by
 intro pins s U H x y v u Q I rx ry h
 obtain⟨i,j,rfl,rfl,hz,q⟩:=h
 obtain⟨t,rfl⟩:=rx
 obtain⟨t',rfl⟩:=ry
 exact add_str (fun t' tk=>⟨.str (i++j),H,I.tok _,⟨_,rfl⟩,q⟩) hz
theorem EO(r:Vals [x] us):∃u,us=[u]/\RelV x u:=by
 cases r with
 |cons r1 r2=>cases r2;exact⟨_,rfl,r1⟩
theorem Pt(r:Vals [x,y] us):∃u w',us=[u,w']/\RelV x u/\RelV y w':=by
 cases r with
 |cons r1 r2=>
  cases r2 with
  |cons r3 r4=>cases r4;exact⟨_,_,rfl,r1,r3⟩
theorem QU(hc:X.calm=true):CG X (.builtin "max") (fun xs H Q=>∃i j,xs=[.int i,.int j]/\Q (.int (if j>i then j else i)) H):=by
 intro pins s U H xs us Q I r h
 obtain⟨i,j,rfl,q⟩:=h
 obtain⟨u,w',rfl,⟨t,rfl⟩,⟨t',rfl⟩⟩:=Pt r
 refine max_two_ints (I.ok.hd hc) fun h' tk k=>⟨_,H,I.kept k,?_,q⟩
 by_cases hj:j>i
 ·rw[if_pos hj,if_pos hj];exact⟨_,rfl⟩
 rw[if_neg hj,if_neg hj];exact⟨_,rfl⟩
theorem QV(hc:X.calm=true):CG X (.builtin "min") (fun xs H Q=>∃i j,xs=[.int i,.int j]/\Q (.int (if j<i then j else i)) H):=by
 intro pins s U H xs us Q I r h
 obtain⟨i,j,rfl,q⟩:=h
 obtain⟨u,w',rfl,⟨t,rfl⟩,⟨t',rfl⟩⟩:=Pt r
 refine min_two_ints (I.ok.hd hc) fun h' tk k=>⟨_,H,I.kept k,?_,q⟩
 by_cases hj:j<i
 ·rw[if_pos hj,if_pos hj];exact⟨_,rfl⟩
 rw[if_neg hj,if_neg hj];exact⟨_,rfl⟩
theorem QW:CG X (.type "int") (fun xs H Q=>(∃i,xs=[.int i]/\Q (.int i) H)\/∃k,xs=[.bl k]/\Q (.int (if k then 1 else 0)) H):=by
 intro pins s U H xs us Q I r h
 rcases h with⟨i,rfl,q⟩|⟨k,rfl,q⟩
 ·obtain⟨u,rfl,t,rfl⟩:=EO r
  exact call_int_int ⟨.int i,H,I,⟨_,rfl⟩,q⟩
 obtain⟨u,rfl,r1⟩:=EO r
 cases r1
 exact call_int_bool ⟨.int (if k then 1 else 0),H,I.tok _,⟨_,rfl⟩,q⟩
end
structure oZ(h:Heap)(x dx C:Addr)(mA:Str->Option Value):Prop where
 obj:h.get? x=some (PySem.W.instObj C dx)
 ns:h.Ns1 dx mA
 ne:dx≠x
theorem QX{h:Heap}{dx:Addr}{mA:Str->Option Value}(n:h.Ns1 dx mA):∃od,h.get? dx=some od/\∀name,PySem.W.lookIn name od=some (mA name):=by
 obtain⟨o,es,ep,ho,hd,hk,_,hm⟩:=n
 refine⟨o,ho,fun name=>?_⟩
 have e:=hm name
 unfold nsFind findBy at e
 rw[<- Array.find?_toList]at e
 unfold PySem.W.lookIn
 rw[hd]
 dsimp only
 split
 ·rename_i y q
  rw[q]at e
  exact congrArg some e
 rename_i q
 rw[q]at e
 have a:es.toList.any (·.refKey)=false:=by
  rw[List.any_eq_false]
  intro y hy
  obtain⟨z,t,vT⟩:=hk y (Array.mem_toList_iff.mp hy)
  simp[DictEntry.refKey,vT]
 have a':¬es.toList.any (·.refKey)=true:=by rw[a];exact qq
 rw[if_neg a']
 exact congrArg some e
theorem oZ.look{mA:Str->Option Value}(I:oZ h x dx C mA):∃od,PySem.W.InstAt h x (PySem.W.instObj C dx) C (some od)/\∀name,PySem.W.lookIn name od=some (mA name) :=
 let ⟨od,ho,hl⟩:=QX I.ns
 ⟨od,⟨I.obj,rfl,rfl,ho⟩,hl⟩
section
variable{P:Program}{w:World}{H H':Hp}{h h':Heap}{a C dx:Addr}{fs fs':List (Str×V)}
theorem Vu(aI:dj P w H h)(e:H a=some (.ins C dx fs)):∃mA,oZ h a dx C mA/\(∀f,SZ (fs.lookup f) (mA f))/\PySem.Within mA (fs.map (·.1))/\fs.length<=1000/\H dx=some (.own a):=by
 obtain⟨d,z,ne,ob,mA,n,r,q⟩:=(show bf P w H h a (.ins C dx fs) from aI a _ e)
 exact⟨mA,⟨ob,n,ne⟩,r,q,z,d⟩
end
structure vU(K:PySem.W.Frag)(C:Addr):Prop where
 pg:PySem.W.plainGet K C Str.empty=true
 hd:PySem.W.hasDictIn K C=true
 po:PySem.W.plainOver K C=true
 sa:PySem.W.findIn K (.ref C) "__setattr__" = some (some (.builtin "object.__setattr__"))
theorem vU.get{K:PySem.W.Frag}{C:Addr}(c:vU K C)(f:Str):PySem.W.plainGet K C f=true:=c.pg
section
variable{X:Cx}{pins:List (Addr×Obj)}{U:St}{H:Hp}{s:Shared}{A:Around}{E:Value->Shared->Prop}{Q:Value->Shared->Prop}{c:Value}{b:Bool}
inductive eV(K:PySem.W.Frag)(H:Hp):V->Value->Prop where
 |aJ:eV K H .aJ (.type "NoneType")
 |bl (x:Bool):eV K H (.bl x) (.type "bool")
 |int (i:Int):eV K H (.int i) (.type "int")
 |str (x:Str):eV K H (.str x) (.type "str")
 |oQ (x:UInt64):eV K H (.oQ x) (.type "float")
 |lst {a:Addr} {xs:List V} (e:H a=some (.lst xs)):eV K H (.ref a) (.type "list")
 |fh {a:Addr} {o:Obj} {xs:List V} (e:H a=some (.fh o (.lst xs))):eV K H (.ref a) (.type "list")
 |tup {a:Addr} {xs:List V} (e:H a=some (.tup xs)):eV K H (.ref a) (.type "tuple")
 |dK {a:Addr} {cF:List (Key×V)} (e:H a=some (.dK cF)):eV K H (.ref a) (.type "dict")
 |dT {a:Addr} {cF:List (List Key×V)} (e:H a=some (.dT cF)):eV K H (.ref a) (.type "dict")
 |ins {a C dx:Addr} {fs:List (Str×V)} (e:H a=some (.ins C dx fs)) (cl:vU K C) (ha:PySem.W.findIn K (.ref C) "__class__" = some (some (.builtin "object.__class__")))
   (hn:PySem.W.specialIn K (.builtin "object.__class__") "__get__" = some (some (.builtin "getset_descriptor.__get__"))) (z7:PySem.W.takesIn K (.builtin "object.__class__")=some true)
   (hm:PySem.W.mroIn K C (.type "object")=some true):eV K H (.ref a) (.ref C)
theorem QY(I:Inv X pins U H s)(rx:RelV x u)(ty:eV X.K H x t)(e:PySem.W.kitOne X.K t c=some b)(h:∀tk,Q (.bool b) {s with toks:=tk}) :
  wpAny (model X.prog X.w) A (call (.builtin "isinstance") [u,c]) Q E s:=by
 cases ty with
 |aJ=>cases (show u=Value.none from rx);exact PySem.W.kia_one PySem.W.kitx_none I.gB True.intro e (fun z=>nomatch z) h
 |bl y=>cases (show u=Value.bool y from rx);exact PySem.W.kia_one PySem.W.kitx_bool I.gB True.intro e (fun z=>nomatch z) h
 |int i=>obtain⟨t,q⟩:=(show ∃t,u=Value.int i t from rx);cases q;exact PySem.W.kia_one PySem.W.kitx_int I.gB True.intro e (fun z=>nomatch z) h
 |str y=>obtain⟨t,q⟩:=(show ∃t,u=Value.str y t from rx);cases q;exact PySem.W.kia_one PySem.W.kitx_str I.gB True.intro e (fun z=>nomatch z) h
 |oQ y=>obtain⟨t,q⟩:=(show ∃t,u=Value.float y t from rx);cases q;exact PySem.W.kia_one PySem.W.kitx_float I.gB True.intro e (fun z=>nomatch z) h
 |@lst a xs ea=>
  cases (show u=Value.ref a from rx)
  obtain⟨_,_,n,_,h1⟩:=(show bf X.prog X.w H s.heap a (.lst xs) from I.aI a _ ea)
  exact PySem.W.kia_one PySem.W.kitx_list I.gB ⟨_,h1,rfl⟩ e (fun z=>nomatch z) h
 |@fh a ob xs ea=>
  cases (show u=Value.ref a from rx)
  obtain⟨_,_,_,n,_,h1⟩:=(show bf X.prog X.w H s.heap a (.fh ob (.lst xs)) from I.aI a _ ea)
  exact PySem.W.kia_one PySem.W.kitx_list I.gB ⟨_,h1,rfl⟩ e (fun z=>nomatch z) h
 |@tup a xs ea=>
  cases (show u=Value.ref a from rx)
  obtain⟨_,_,_,p⟩:=(show bf X.prog X.w H s.heap a (.tup xs) from I.aI a _ ea)
  obtain⟨o,h1,h2,_⟩:=p
  exact PySem.W.kia_one PySem.W.kitx_tuple I.gB ⟨o,h1,h2⟩ e (fun z=>nomatch z) h
 |@dK a cF ea=>
  cases (show u=Value.ref a from rx)
  obtain⟨_,_,vs,_,p⟩:=(show bf X.prog X.w H s.heap a (.dK cF) from I.aI a _ ea)
  obtain⟨o,es,ep,h1,h2,_⟩:=p
  exact PySem.W.kia_one PySem.W.kitx_dict I.gB ⟨o,h1,h2.1⟩ e (fun z=>nomatch z) h
 |@dT a cF ea=>
  cases (show u=Value.ref a from rx)
  obtain⟨_,_,xs,_,o,es,ep,h1,h2,_⟩:=(show bf X.prog X.w H s.heap a (.dT cF) from I.aI a _ ea)
  exact PySem.W.kia_one PySem.W.kitx_dict I.gB ⟨o,h1,h2.1⟩ e (fun z=>nomatch z) h
 |@ins a C dx fs ea cl ha hn z7 hm=>
 cases (show u=Value.ref a from rx)
 obtain⟨mA,O,_⟩:=Vu I.aI ea
 obtain⟨od,J,_⟩:=O.look
 exact PySem.W.kia_one (PySem.W.kitx_own (cl.get _) cl.hd ha hn z7 hm) I.gB J e (fun z=>nomatch z) h
end
structure b_(k:Nat)(A:Around):Prop where
 hd:A.handled=none
 dp:A.depth+3*k+5<recursionLimit
 un:A.units+16*k+200<cLine
theorem b_.mono{j k:Nat}(r:b_ k A)(h:j<=k):b_ j A:=⟨r.hd,by have:=r.dp;omega,by have:=r.un;omega⟩
theorem b_.deeper{k:Nat}(r:b_ (k+1) A)(env:Env):b_ k (A.deeper env) :=
 ⟨r.hd,by have:=r.dp;show A.depth+1+3*k+5<_;omega,by have:=r.un;show A.units+3+16*k+200<_;omega⟩
theorem b_.depth{k:Nat}(r:b_ k A):A.depth<recursionLimit:=by have:=r.dp;omega
theorem b_.units{k:Nat}(r:b_ k A):A.units+64<cLine:=by have:=r.un;omega
abbrev XG:TA:=fun _ H Q=>Q [] H
abbrev UT(ta:TE)(tr:TA):TA:=fun U H Q=>ta U H fun x H1=>tr U H1 fun xs H2=>Q (x::xs) H2
section
variable{X:Cx}{e:Expr}{es:List Expr}{te:TE}{t:TA}{pos:Pos}
theorem CK:PA X [] XG:=fun _ _ _ _ H Q I h=>Calls.spliced_nil ⟨[],H,I,.nil,h⟩
theorem A4(ha:PE X e te)(hr:PA X es t)(hs:starEach (e::es) X.env=(false,eval e X.env)::starEach es X.env:=by rfl):PA X (e::es) (UT te t):=by
 intro pos pins s U H Q I h
 rw[hs]
 show wpAny _ _ (spliced ((false,eval e X.env)::backTo pos (starEach es X.env))) _ _ s
 refine Calls.spliced_cons (aW (ha pins s U H _ I h) fun u s1 ⟨x,H1,I1,r1,q1⟩=>?_)
 exact aW (hr pos pins s1 U H1 _ I1 q1) fun us s2 ⟨xs,H2,I2,r2,q2⟩=>⟨x::xs,H2,I2,.cons r1 r2,q2⟩
abbrev XH(t:TA):TE:=fun U H Q=>t U H fun xs H1=>xs.length<=sizeLine/\∀p,H1 p=none->Q (.ref p) (upd H1 p (.tup xs))
abbrev Aa4(t:TA):TE:=fun U H Q=>t U H fun xs H1=>xs.length<=sizeLine/\∀p,H1 p=none->Q (.ref p) (upd H1 p (.lst xs))
theorem QZ{x1}(h:PA X es t):PE X (.Tuple es x1 pos) (XH t):=by
 intro pins s U H Q I hq
 refine wpAny_Tuple_spliced (aW (h pos pins s U H _ I hq) fun us s1 ⟨xs,H1,I1,r,z,q⟩=>⟨by rw[<- r.length];exact z,?_⟩)
 have hf:H1 s1.heap.objs.size=none:=I1.aI.fresh (bx _)
 refine⟨.ref s1.heap.objs.size,upd H1 s1.heap.objs.size (.tup xs),I1.laid (t':=s1.toks) (fun b u e=>Heap.get?_push_of_some _ e) (bx _) ?_,rfl,q _ hf⟩
 exact⟨z,us,r,⟨_,Heap.get?_push_size _ rfl,rfl,_,rfl⟩⟩
theorem XI(h:PA X es t):PE X (.List es pos) (Aa4 t):=by
 intro pins s U H Q I hq
 refine wpAny_List_spliced (aW (h pos pins s U H _ I hq) fun us s1 ⟨xs,H1,I1,r,z,q⟩=>⟨by rw[<- r.length];exact z,?_⟩)
 have hf:H1 s1.heap.objs.size=none:=I1.aI.fresh (bx _)
 refine⟨.ref s1.heap.objs.size,upd H1 s1.heap.objs.size (.lst xs),I1.laid (t':=s1.toks) (fun b u e=>Heap.get?_push_of_some _ e) (bx _) ?_,rfl,q _ hf⟩
 exact⟨z,us,0,r,Heap.get?_push_size _ rfl⟩
end
@[reducible]noncomputable def Sp:=List V->Hp->VK->XK->Prop
@[reducible]noncomputable def jU:=List Env->Hp->Shared->XK->Value->Shared->Prop
structure kY(P:Program)(w:World)(K:PySem.W.Frag)(mg:Str->Option Value)(base:Heap)(A:Around)(outer:List Env)(s:Shared)(H:Hp):Prop where
 frames:A.frames=some outer
 mod:Mod K mg base
 bs:∀b o,base.get? b=some o->s.heap.get? b=some o/\H b=none
 oS:base.objs.size<=s.heap.objs.size
 fQ:s.heap.FunFrames base outer
 qx:∀b∈bK outer,H b=none
 aI:dj P w H s.heap
 bare:AllBare s.gens
abbrev CE(outer:List Env)(P:Program)(w:World)(H:Hp)(s:Shared)(Q:VK)(u:Value)(s':Shared):Prop :=
 ∃v H',s'.os=s.os/\AllBare s'.gens/\Un (bK outer) [] H H' s.heap s'.heap/\dj P w H' s'.heap/\RelV v u/\Q v H'
abbrev CR(CX:jU)(outer:List Env)(P:Program)(w:World)(H:Hp)(s:Shared)(Q:VK)(E:XK)(r:Result)(s':Shared):Prop :=
 match r with
 |.ok (.ret u)=>CE outer P w H s Q u s'
 |.ok _=>False
 |.error e=>CX outer H s E e s'
structure dQ(P:Program)(w:World)(K:PySem.W.Frag)(mg:Str->Option Value)(base:Heap)(CX:jU)(k:Nat)(f:Addr)(fd:FuncData)(ps:List Str)(sp:Sp):Prop where
 len:∀vs H Q E,sp vs H Q E->vs.length=ps.length
 run:∀(A:Around)(outer:List Env)(s:Shared)(H:Hp)(args:Args)(us:List Value)(vs:List V)(Q:VK)(E:XK),b_ k A->kY P w K mg base A outer s H->BindsTo s fd args (ps.zip us)->Vals vs us->sp vs H Q E->
  codeAny (model P w) A (.call (.ref f) args) (CR CX outer P w H s Q E) s
theorem dQ.imp{P:Program}{w:World}{K:PySem.W.Frag}{mg:Str->Option Value}{base:Heap}{CX:jU}{k:Nat}{f:Addr}{fd:FuncData}{ps:List Str}{sp z8:Sp}(F:dQ P w K mg base CX k f fd ps sp)
  (h:∀vs H Q E,z8 vs H Q E->sp vs H Q E):dQ P w K mg base CX k f fd ps z8 :=
 ⟨fun vs H Q E q=>F.len vs H Q E (h _ _ _ _ q),fun A outer s H args us vs Q E hr he hb hv hs=>F.run A outer s H args us vs Q E hr he hb hv (h _ _ _ _ hs)⟩
section
variable{X:Cx}{pins:List (Addr×Obj)}{U:St}{H:Hp}{s s':Shared}
theorem Inv.vV(I:Inv X pins U H s):kY X.prog X.w X.K X.mg X.base X.A X.stack s H :=
 ⟨I.ok.frames,I.ok.mod,I.bs,aS I.ok.oS I.sz,I.stack,I.fI,I.aI,I.bare⟩
theorem Inv.after(I:Inv X pins U H s)(h:CE X.stack X.prog X.w H s Q u s'):EP X pins U Q u s':=by
 obtain⟨v,H',os,bare,un,aI,r,q⟩:=h
 obtain⟨hh,g,d,t,os'⟩:=s'
 obtain rfl:os'=s.os:=os
 exact⟨v,H',I.call (h':=hh) (g':=g) (d':=d) (t':=t) (ch:=[]) un aI bare (fun b z=>absurd z (by simp)),r,q⟩
end
abbrev Binds(K:PySem.W.Frag)(fd:FuncData)(ps:List Str)(ds:List Value):Prop :=
 ∀(s:Shared)(us:List Value),K.In s.heap->(us++ds).length=ps.length->BindsTo s fd ⟨us,[]⟩ (ps.zip (us++ds))
theorem Binds.all{K:PySem.W.Frag}{fd:FuncData}{ps:List Str}(h:∀us:List Value,us.length=ps.length->bindArgs fd ⟨us,[]⟩=pure (ps.zip us)):Binds K fd ps []:=fun s us _ hl=>by
 rw[iB]at hl ⊢
 exact .of_eq (h us hl)
abbrev XJ(CX:jU)(X:Cx)(E:XK):Prop:=∀(pins:List (Addr×Obj))(U:St)(H:Hp)(s:Shared)(e:Value)(s':Shared),Inv X pins U H s->CX X.stack H s E e s'->X.xe e s'
structure dm(N P:List Str)(sc:Scope):Prop where
 kind:sc.kind=.function
 co:sc.isCoroutine=false
 gen:sc.isGenerator=false
 nd:N.Nodup
 pre:N.take P.length=P
 par:∀x∈P,sc.names.lookup x=some .local\/sc.names.lookup x=some .cell
 o_:∀y∈sc.names,y.2≠.free
theorem Le{kindOf:Str->Option NameKind}:∀{binds:List (Str×Value)}{m:Str->Option Value},(∀v,(x,v)∉binds)->bindL kindOf binds m x=m x
 |[],_,_=>rfl
 | (n,v)::r,m,h=>by
  unfold bindL
  rw[Le fun w hw=>h w (aL _ hw)]
  split
  ·have:x≠n:=by rintro rfl;exact h v aP
   simp[this]
  rfl
theorem Lf{kindOf:Str->Option NameKind}:∀{binds:List (Str×Value)}{m:Str->Option Value},(∀v,(x,v)∉binds)->bindC kindOf binds m x=m x
 |[],_,_=>rfl
 | (n,v)::r,m,h=>by
  unfold bindC
  rw[Lf fun w hw=>h w (aL _ hw)]
  split
  ·rfl
  have:x≠n:=by rintro rfl;exact h v aP
  simp[this]
theorem Lh{kindOf:Str->Option NameKind}:∀{P:List Str}{vs:List Value}{i:Nat}{m:Str->Option Value},P.Nodup->P[i]?=some x->vs[i]?=some v->kindOf x=some .local->
  bindL kindOf (P.zip vs) m x=some v
 |[],_,_,_,_,h,_,_=>by simp at h
 |_::_,[],_,_,_,_,h,_=>by simp at h
 |p::P,w::vs,0,m,nd,h1,h2,hk=>by
  simp at h1 h2;subst h1;subst h2
  show bindL kindOf ((p,w)::P.zip vs) m p=_
  unfold bindL
  rw[Le fun v hv=>(gy.mp nd).1 (vg hv).1,if_pos hk]
  simp
 |p::P,w::vs,i+1,m,nd,h1,h2,hk=>by
  show bindL kindOf ((p,w)::P.zip vs) m x=_
  unfold bindL
  exact Lh (i:=i) (gy.mp nd).2 (by simpa using h1) (by simpa using h2) hk
theorem Li{kindOf:Str->Option NameKind}:∀{P:List Str}{vs:List Value}{i:Nat}{m:Str->Option Value},P.Nodup->P[i]?=some x->vs[i]?=some v->kindOf x≠some .local->
  bindC kindOf (P.zip vs) m x=some v
 |[],_,_,_,_,h,_,_=>by simp at h
 |_::_,[],_,_,_,_,h,_=>by simp at h
 |p::P,w::vs,0,m,nd,h1,h2,hk=>by
  simp at h1 h2;subst h1;subst h2
  show bindC kindOf ((p,w)::P.zip vs) m p=_
  unfold bindC
  rw[Lf fun v hv=>(gy.mp nd).1 (vg hv).1,if_neg hk]
  simp
 |p::P,w::vs,i+1,m,nd,h1,h2,hk=>by
  show bindC kindOf ((p,w)::P.zip vs) m x=_
  unfold bindC
  exact Li (i:=i) (gy.mp nd).2 (by simpa using h1) (by simpa using h2) hk
abbrev AL(N:List Str)(vs:List V):St:=vs.map some++aaq (N.length-vs.length) none
abbrev Bo(CX:jU)(P:Program)(w:World)(K:PySem.W.Frag)(mg:Str->Option Value)(base:Heap)(N:List Str)(qual:Str)(scope:Scope)(f:Addr)(cd:Value)(A:Around)(outer:List Env)(s:Shared)(H:Hp)(E:XK):Cx where
 prog:=P
 w:=w
 K:=K
 mg:=mg
 base:=base
 A:=A.deeper (envOfC qual scope s.heap.objs.size f cd)
 N:=N
 aG:=s
 bT:=H
 env:=envOfC qual scope s.heap.objs.size f cd
 outer:=outer
 stack:=envOfC qual scope s.heap.objs.size f cd::outer
 ex:=[]
 calm:=true
 fn:=fun _=>true
 pn:=[]
 xe:=fun e s'=>wpAny (model P w) (A.deeper (envOfC qual scope s.heap.objs.size f cd)) (leaving (envOfC qual scope s.heap.objs.size f cd) e) (fun _ kZ=>CX outer H s E e kZ) (fun e' kZ=>CX outer H s E e' kZ) s'
theorem Mw{sc:Scope}{n:Nat}{x:Str}(h:sc.names.lookup x=some .cell):∃c,(cellsFrom n sc.names []).lookup x=some c:=by
 have q:=PySem.W.cellsFrom_some sc.names n [] (.inl h)
 exact jD.mp q
theorem Q0{CX:jU}{P:Program}{w:World}{K:PySem.W.Frag}{mg:Str->Option Value}{base:Heap}{N ps:List Str}{qual:Str}{scope:Scope}{f:Addr}{cd:Value}{A:Around}{outer:List Env}{s s1:Shared}{H:Hp}{E:XK}{us:List Value}{vs:List V}
  (S:dm N ps scope) (hd:A.handled=none) (e0:kY P w K mg base A outer s H) (hl:vs.length=ps.length) (r:Vals vs us)
  (x:InCallC s s.heap.objs.size (bindL (envOfC qual scope s.heap.objs.size f cd).kindOf (ps.zip us) fun _=>none) (cellsFrom (s.heap.objs.size+1) scope.names []) (bindC (envOfC qual scope s.heap.objs.size f cd).kindOf (ps.zip us) fun _=>none) s1) :
  Inv (Bo CX P w K mg base N qual scope f cd A outer s H E) [] (AL N vs) H s1:=by
 have dw:ps.length<=N.length:=by have:=congrArg aaI S.pre;rw[oI]at this;omega
 obtain⟨h1,tk,rfl,hk⟩:=x.done
 have kr:∀b:Addr,b∉(Bo CX P w K mg base N qual scope f cd A outer s H E).ex:=fun b z=>absurd (show b∈([]:List Addr) from z) (by simp)
 refine⟨⟨e0.mod,S.kind,rfl,rfl,bx _,fun y z c h1 h2=>?_,fun y hy=>?_,fun y c _ h=>?_,fun _=>hd,Around.frames_deeper e0.frames,.inr ⟨rfl,rfl⟩,fun b z=>absurd z (kr b),e0.bs,e0.oS,fun b _ _=>kr b,fun b z=>absurd z (kr b),e0.fQ,e0.qx⟩,
  rfl,e0.bare,Un.kept hk,⟨_,x.toInCall.ns,fun i y v h1 h2 h3=>?_⟩,fun y c h=>⟨_,x.cell y c h⟩,e0.aI.fresh (bx _),fun y c h=>?_,fun p hp=>absurd (show p∈([]:List (Addr×Obj)) from hp) (by simp),e0.aI.kept hk,?_⟩
 ·exact name_of_addr x.apart (PySem.mem_of_lookup h1) (PySem.mem_of_lookup h2)
 ·have hy:scope.names.lookup y=some .cell\/scope.names.lookup y=some .free:=hy
  rcases hy with hy|hy
  ·exact Mw hy
  exact absurd rfl (S.o_ _ (PySem.mem_of_lookup hy))
 ·exact a6 (x.above y c (PySem.mem_of_lookup h))
 ·have hi:i<vs.length:=by
   unfold AL at h2
   by_cases hi:i<vs.length
   ·exact hi
   rw[kH (by simpa using hi)]at h2
   rw[qi]at h2
   split at h2<;>cases h2
  have ha:vs[i]?=some v:=by
   unfold AL at h2
   rw[oF (by simpa using hi),dg]at h2
   cases e:vs[i]? with
   |none=>rw[e]at h2;cases h2
   |some a=>rw[e]at h2;cases h2;rfl
  obtain⟨u,hu,rv⟩:=r.get ha
  have hp:ps[i]?=some y:=by
   rw[<- S.pre,zy (by omega)];exact h1
  have z9:ps.Nodup:=by rw[<- S.pre];exact S.nd.sublist (List.take_sublist _ _)
  refine⟨u,rv,?_⟩
  rcases S.par y (cJ hp) with k|k
  ·exact .inl ⟨k,Lh z9 hp hu k⟩
  obtain⟨c,e⟩:=Mw (n:=s.heap.objs.size+1) k
  refine .inr ⟨.inl k,c,e,?_⟩
  have q:=x.cell y c e
  rw[Li z9 hp hu (by show scope.names.lookup y≠_;rw[k];decide)]at q
  exact q
 ·exact e0.aI.fresh (a6 (x.above y c (PySem.mem_of_lookup h)))
 unfold AL
 show _=N.length
 rw[eP,aF,qW]
 omega
theorem Z0{CX:jU}{P:Program}{w:World}{K:PySem.W.Frag}{mg:Str->Option Value}{base:Heap}{k:Nat}{f:Addr}{name qual:Str}{params:Arguments}{body:List Stmt}{scope:Scope}{dV kV doc pm dy ct oc:Value}{an od:Option Addr}
  {mR:Array (Option Value)} {N ps:List Str} {sp:Sp} (lk:K.lookup f=some ⟨oc,od,.func (PySem.W.fnOf name qual params body scope dV kV doc pm an dy ct),mR⟩) (fS:PySem.W.codeIn K dy qual=true) (S:dm N ps scope)
  (len:∀vs H Q E,sp vs H Q E->vs.length=ps.length)
  (k_:∀(A:Around)(outer:List Env)(s:Shared)(H:Hp)(vs:List V)(Q:VK)(E:XK),b_ k (A.deeper (envOfC qual scope s.heap.objs.size f dy))->sp vs H Q E->
   ∃t,gu (Bo CX P w K mg base N qual scope f dy A outer s H E) body t/\t {nx:=fun _ H'=>Q .aJ H',rt:=Q} (AL N vs) H) :
  dQ P w K mg base CX (k+1) f (PySem.W.fnOf name qual params body scope dV kV doc pm an dy ct) ps sp:=by
 refine⟨len,fun A outer s H args us vs Q E hr e0 hb r dC=>?_⟩
 have hl:=len _ _ _ _ dC
 have KX:K.In s.heap:=e0.mod.uc.keeps fun b o e=>(e0.bs b o e).1
 have lim:s.heap.NoLimit:=e0.mod.nolimit.keeps fun b o e=>(e0.bs b o e).1
 have bF:∀y∈ps.zip us,scope.names.lookup y.1=some .local\/(scope.names.lookup y.1=some .cell/\((cellsFrom (s.heap.objs.size+1) scope.names []).lookup y.1).isSome=true):=fun⟨n,v⟩ hy=>by
  rcases S.par n (vg hy).1 with q|q
  ·exact .inl q
  exact .inr ⟨q,PySem.W.cellsFrom_some _ _ _ (.inl q)⟩
 refine codeAny_call_function hr.depth (KX _ _ lk) rfl S.co S.gen rfl (PySem.W.codeRec_of KX fS) (hb _ _ _ _ ?_)
 refine wpAny_newFunctionEnv_cells S.kind bF fun env he s1 x=>?_
 subst he
 refine⟨lim.keeps x.toInCall.keep,codeAny_func ?_⟩
 obtain⟨t,ht,hq⟩:=k_ A outer s H vs Q E (hr.deeper _) dC
 have I:Inv (Bo CX P w K mg base N qual scope f dy A outer s H E) [] (AL N vs) H s1:=Q0 S hr.hd e0 hl r x
 refine wpAny_mono (ht [] s1 (AL N vs) H _ I hq) (fun fl s' hs=>?_) fun e s' hs=>hs
 have fin:∀{U':St}{H':Hp}{v:V}{u:Value},Inv (Bo CX P w K mg base N qual scope f dy A outer s H E) [] U' H' s'->RelV v u->Q v H'->CE outer P w H s Q u s' :=
  fun {U' H' v u} J rv q=>⟨v,H',J.os,J.bare,J.base,J.aI,rv,q⟩
 cases fl with
 |ret u=>
  obtain⟨v,U',H',J,rv,q⟩:=hs
  exact fin J rv q
 |next=>
  obtain⟨U',H',J,q⟩:=hs
  exact fin (v:=V.aJ) (u:=Value.none) J rfl q
 |brk=>
  obtain⟨_,_,_,q⟩:=hs
  exact False.elim q
 |cont=>
 obtain⟨_,_,_,q⟩:=hs
 exact False.elim q
section
variable{X:Cx}{x:Str}{p pos:Pos}{e:Expr}{es:List Expr}{t:TA}{id T:String}{r:List V->Hp->VK->Prop}
abbrev vW(r:List V->Hp->VK->Prop)(t:TA):TE:=fun U H Q=>t U H fun vs H1=>r vs H1 Q
theorem CL(hc:CG X (.builtin id) r)(hg:Gl X x)(hm:X.mg x=none)(hv:bootBuiltins x=some (.builtin id))(ha:PA X (e::es) t)(hn:x≠"__name__":=by decide)(la:(x==("__debug__" : Str))=false:=by decide)
  (he:starEach (e::es) X.env=(false,eval e X.env)::starEach es X.env:=by rfl) (dw:(backTo pos (starEach es X.env)).any (·.1)=false:=by rfl):PE X (.Call (.Name x p) (e::es) [] pos) (vW r t):=by
 intro pins s U H Q I h
 refine wpAny_Call_Name_kw (GL I hg hm hv ?_ hn la)
 exact PyProof.Rows.callWith_builtin1 (aW (ha pos pins s U H _ I h) fun us s1 ⟨vs,H1,I1,r1,q1⟩=>hc pins s1 U H1 vs us Q I1 r1 q1) he dw
theorem Gn(hc:CG X (.type T) r)(hg:Gl X x)(hm:X.mg x=none)(hv:bootBuiltins x=some (.type T))(ha:PA X (e::es) t)(hn:x≠"__name__":=by decide)(la:(x==("__debug__" : Str))=false:=by decide)
  (he:starEach (e::es) X.env=(false,eval e X.env)::starEach es X.env:=by rfl) (dw:(backTo pos (starEach es X.env)).any (·.1)=false:=by rfl):PE X (.Call (.Name x p) (e::es) [] pos) (vW r t):=by
 intro pins s U H Q I h
 refine wpAny_Call_Name_kw (GL I hg hm hv ?_ hn la)
 exact PyProof.Rows.callWith_type1 (aW (ha pos pins s U H _ I h) fun us s1 ⟨vs,H1,I1,r1,q1⟩=>hc pins s1 U H1 vs us Q I1 r1 q1) he dw
end
end L2
namespace HT
open PySem PyProof.Rows
section
variable{prog:Program}{w:World}{A:Around}{E:Value->Shared->Prop}{s:Shared}
abbrev bp(n d:Nat):Option Int->Nat
 |none=>d
 |some v=>if v<0 then(v+(n:Int)).toNat else min v.toNat n
theorem XL(n d:Nat)(hd:d<=n)(o:Option Int):bp n d o<=n:=by
 cases o with
 |none=>exact hd
 |some v=>
 show(if v<0 then(v+(n:Int)).toNat else min v.toNat n)<=n
 by_cases hv:v<0
 ·rw[if_pos hv];omega
 rw[if_neg hv];exact kJ _ _
theorem hU(v:Int)(n d:Nat):(if v<0 then max (v+(n:Int)) 0 else min v (n:Int))=((bp n d (some v):Nat):Int):=by
 show(if v<0 then max (v+(n:Int)) 0 else min v (n:Int))=(((if v<0 then(v+(n:Int)).toNat else min v.toNat n):Nat):Int)
 by_cases hv:v<0
 ·simp only[if_pos hv];omega
 simp only[if_neg hv];omega
theorem Pv(lo hi:Option Int)(n:Nat):Builtin.Slice.sliceAdjust lo hi 1 (n:Int)=(((bp n 0 lo:Nat):Int),((bp n n hi:Nat):Int)):=by
 have h1:¬((1:Int)<0):=by omega
 unfold Builtin.Slice.sliceAdjust
 simp only[h1,if_false]
 refine Prod.ext ?_ ?_
 ·cases lo with
  |none=>rfl
  |some v=>exact hU v n 0
 cases hi with
 |none=>rfl
 |some v=>exact hU v n n
theorem Pw(i j:Nat):Builtin.Slice.slicePlaces (i:Int) (j:Int) 1=j-i:=by
 unfold Builtin.Slice.slicePlaces
 have h1:(1:Int)>0:=by omega
 simp only[h1,if_true,Int.ediv_one]
 split<;>omega
theorem JG{o:Option Int}{Q:Option Int->Shared->Prop}(p:IsPart v o)(h:Q o s):wpAny (model prog w) A (Builtin.Slice.slicePartIndex v) Q E s:=by
 cases p with
 |none=>exact slicePart_none h
 |int i t=>exact slicePart_int h
theorem Jc{lo hi:Option Int}{n:Nat}{Q:Int×Int×Nat->Shared->Prop}(hs:s.heap.IsSliceOf sl vl vu .none)(pl:IsPart vl lo)(pu:IsPart vu hi)
  (h:Q (((bp n 0 lo:Nat):Int),1,bp n n hi-bp n 0 lo) s):wpAny (model prog w) A (Builtin.Slice.sliceApplied (.ref sl) (pure (n:Int))) Q E s:=by
 obtain⟨os,n6,lb,uk⟩:=id hs
 unfold Builtin.Slice.sliceApplied Builtin.Slice.sliceFields
 refine wpAny_bind (wpAny_bind (wpAny_field n6 uk (x:=vl) rfl (wpAny_bind (wpAny_field n6 uk (x:=vu) rfl (wpAny_bind (wpAny_field n6 uk (x:=.none) rfl (wpAny_pure ?_)))))))
 refine wpAny_bind (slicePart_none ?_)
 show wpAny _ _ (if((1:Int)==0)=true then _ else _) _ _ s
 rw[if_neg (by decide)]
 refine wpAny_bind (JG pl (wpAny_bind (JG pu (wpAny_bind (wpAny_pure ?_)))))
 show wpAny _ _ (match Builtin.Slice.sliceAdjust lo hi 1 (n:Int) with|(lo,hi)=>pure (lo,(1:Int),Builtin.Slice.slicePlaces lo hi 1)) _ _ s
 rw[Pv lo hi n]
 show wpAny _ _ (pure (((bp n 0 lo:Nat):Int),(1:Int),Builtin.Slice.slicePlaces ((bp n 0 lo:Nat):Int) ((bp n n hi:Nat):Int) 1)) _ _ s
 rw[Pw]
 exact wpAny_pure h
theorem Te(xs:Array Value)(i k:Nat):((dh k).filterMap fun(m:Nat)=>xs[((i:Int)+(m:Int)*1).toNat]?).toArray=((xs.toList.drop i).take k).toArray:=by
 have e:(fun(m:Nat)=>xs[((i:Int)+(m:Int)*1).toNat]?)=fun m=>xs[i+m]?:=by
  funext m
  have:((i:Int)+(m:Int)*1).toNat=i+m:=by omega
  rw[this]
 rw[e]
 have:=pick_run xs i k
 rw[List.filterMap_map]at this
 have e2:((fun x=>xs[x]?) ∘ fun x=>i+x)=fun m=>xs[i+m]?:=rfl
 rw[e2]at this
 rw[this]
theorem eB{lo hi:Option Int}{Q:Value->Shared->Prop}(ht:IsTup s.heap t items)(hs:s.heap.IsSliceOf sl vl vu .none)(pl:IsPart vl lo)(pu:IsPart vu hi)
  (hw:¬(bp items.size 0 lo=0/\bp items.size items.size hi=items.size))
  (h:Q (.ref s.heap.objs.size) {s with heap:=s.heap.push {cls:=.type "tuple",data:=.seq ((items.toList.drop (bp items.size 0 lo)).take (bp items.size items.size hi-bp items.size 0 lo)).toArray}})
  (z_:items.size<=sizeLine):wpAny (model prog w) A (getItem (.ref t) (.ref sl)) Q E s:=by
 have jH:sizeOk (.seq ((items.toList.drop (bp items.size 0 lo)).take (bp items.size items.size hi-bp items.size 0 lo)).toArray):=by
  show((items.toList.drop (bp items.size 0 lo)).take (bp items.size items.size hi-bp items.size 0 lo)).toArray.size<=sizeLine
  rw[eQ,oI,nV,Array.length_toList]
  omega
 have hj:bp items.size items.size hi<=items.size:=XL _ _ (bx _) hi
 obtain⟨os,n6,lb,uk⟩:=id hs
 have hTs:s.TypeIs (.ref sl) "slice":=⟨os,n6,lb⟩
 unfold getItem
 try with_reducible refine wpAny_holding ?_
 first|refine wpAny_bind (wpAny_pure ?_)|skip
 refine wpAny_bind (wpAny_sequenceKey ht.typeIs (by decide) ?_)
 refine wpAny_bind (wpAny_callSpecial?_slot (name:=Str.ofString "__getitem__") ht.typeIs PyProof.Rows.slot_tuple_getitem
  (wpAny_call_entry PyProof.Rows.slot_tuple_getitem ht.typeIs entry_tuple_getitem ?_ (args_tuple_getitem _ _)))
 show wpAny _ _ (Builtin.Tuple.tupleItemsOf (.ref t) >>= _) _ _ s
 refine wpAny_bind (tupleItemsOf_ ht ?_)
 refine wpAny_bind (wpAny_typeOf hTs ?_)
 rw[if_pos (by decide)]
 refine wpAny_bind (Jc hs pl pu ?_)
 have vX:¬((((bp items.size 0 lo:Nat):Int)==0&&(1:Int)==1&&(bp items.size items.size hi-bp items.size 0 lo)==items.size)=true):=by
  intro q
  rw[bg,bg]at q
  have q1:((bp items.size 0 lo:Nat):Int)=0:=eq_of_beq q.1.1
  have q2:bp items.size items.size hi-bp items.size 0 lo=items.size:=eq_of_beq q.2
  exact hw ⟨by omega,by omega⟩
 show wpAny _ _ (if(((bp items.size 0 lo:Nat):Int)==0&&(1:Int)==1&&(bp items.size items.size hi-bp items.size 0 lo)==items.size)=true then _ else _) _ _ s
 rw[if_neg vX,Te]
 first
  |exact wpAny_bind (m:=Builtin.Tuple.tupleExact _) (wpAny_newObj_type (wpAny_pure ⟨_,rfl,wpAny_pure h⟩) jH)
  |exact wpAny_bind (m:=Builtin.Tuple.tupleExact _) (wpAny_newObj_type (wpAny_bind (wpAny_pure (wpAny_pure ⟨_,rfl,wpAny_pure h⟩))) jH)
  |exact wpAny_bind (wpAny_bind (m:=Builtin.Tuple.tupleExact _) (wpAny_newObj_type (wpAny_pure (wpAny_pure ⟨_,rfl,wpAny_pure h⟩)) jH))
  |exact wpAny_bind (wpAny_bind (m:=Builtin.Tuple.tupleExact _) (wpAny_newObj_type (wpAny_pure ⟨_,rfl,wpAny_pure h⟩) jH))
end
end HT
namespace L2
open PySem PySem.Spec PyProof.Rows
@[reducible]noncomputable def TO:=St->Hp->(Option Int->Hp->Prop)->Prop
abbrev PO(X:Cx)(e:Option Expr)(t:TO):Prop :=
 ∀(pins:List (Addr×Obj))(s:Shared)(U:St)(H:Hp)(Q:Option Int->Hp->Prop),Inv X pins U H s->t U H Q->
  wpAny (model X.prog X.w) X.A (evalPart e X.env) (fun u s'=>∃o H',Inv X pins U H' s'/\IsPart u o/\Q o H') X.xe s
abbrev Vv:TO:=fun _ H Q=>Q none H
abbrev Z1(t:TE):TO:=fun U H Q=>t U H fun x H1=>∃i,x=.int i/\Q (some i) H1
theorem Py{ns:List Int}:∀{us:List Value},Vals (ns.map V.int) us->IntsAre us ns:=by
 induction ns with
 |nil=>intro us r;rw[iC]at r;cases r;exact .nil
 |cons n ns ih=>
  intro us r
  rw[cT]at r
  cases r with
  |cons r1 r2=>
  obtain⟨t,e⟩:=r1
  subst e
  exact .cons n t (ih r2)
section
variable{X:Cx}{e:Expr}{te:TE}{lo hi:Option Expr}{tl th:TO}{pos p2:Pos}
theorem Vw:PO X none Vv:=by
 intro pins s U H Q I h
 rw[evalPart_none]
 exact wpAny_pure ⟨none,H,I,.none,h⟩
theorem Vx(h:PE X e te):PO X (some e) (Z1 te):=by
 intro pins s U H Q I hw
 rw[evalPart_some]
 refine aW (h pins s U H _ I hw) fun u s1 ⟨x,H1,I1,r1,q1⟩=>?_
 obtain⟨i,rfl,q⟩:=q1
 obtain⟨t,rfl⟩:=r1
 exact⟨some i,H1,I1,.int i t,q⟩
abbrev pb(X:Cx)(r:V->Option Int->Option Int->Hp->VK->Prop):Prop :=
 ∀(pins:List (Addr×Obj))(s:Shared)(U:St)(H:Hp)(x:V)(v vl vu:Value)(lo hi:Option Int)(sl:Addr)(Q:VK),Inv X pins U H s->RelV x v->s.heap.IsSliceOf sl vl vu .none->IsPart vl lo->IsPart vu hi->r x lo hi H Q->
  ∃T id,typeLookup (.type T) "__getitem__" = pure (some (.builtin id))/\s.TypeIs v T/\wpAny (model X.prog X.w) X.A (getItem v (.ref sl)) (EP X pins U Q) X.xe s
theorem pb.or{r r':V->Option Int->Option Int->Hp->VK->Prop}(h:pb X r)(h':pb X r'):pb X (fun x lo hi H Q=>r x lo hi H Q\/r' x lo hi H Q):=by
 intro pins s U H x v vl vu lo hi sl Q I rx hs pl pu q
 rcases q with q|q
 ·exact h pins s U H x v vl vu lo hi sl Q I rx hs pl pu q
 exact h' pins s U H x v vl vu lo hi sl Q I rx hs pl pu q
abbrev tSl(r:V->Option Int->Option Int->Hp->VK->Prop)(te:TE)(tl th:TO):TE:=fun U H Q=>te U H fun x H1=>tl U H1 fun l H2=>th U H2 fun u H3=>r x l u H3 Q
theorem Tf{r:V->Option Int->Option Int->Hp->VK->Prop}(hr:pb X r)(he:PE X e te)(hl:PO X lo tl)(hu:PO X hi th):PE X (.Subscript e (.Slice lo hi none p2) pos) (tSl r te tl th):=by
 intro pins s U H Q I h
 refine Subscript_ (aW (he pins s U H _ I h) fun v s1 ⟨x,H1,I1,r1,q1⟩=>?_)
 refine wpAny_Slice (aW (hl pins s1 U H1 _ I1 q1) fun vl s2 ⟨l,H2,I2,pl,q2⟩=>aW (hu pins s2 U H2 _ I2 q2) fun vu s3 ⟨u,H3,I3,pu,q3⟩=>?_)
 rw[evalPart_none]
 refine wpAny_pure ?_
 have I4:Inv X pins U H3 {s3 with heap:=s3.heap.push {cls:=.type "slice",data:=.fields #[vl,vu,.none]}}:=I3.kept (t':=s3.toks) fun b ob q=>Heap.get?_push_of_some _ q
 obtain⟨T,id,hT,ht,hg⟩:=hr pins {s3 with heap:=s3.heap.push {cls:=.type "slice",data:=.fields #[vl,vu,.none]}} U H3 x v vl vu l u s3.heap.objs.size Q I4 r1 (Heap.IsSliceOf.new ..) pl pu q3
 show wpAny (model X.prog X.w) X.A (subscriptTail e (.Slice lo hi none p2) v (.ref s3.heap.objs.size)) (EP X pins U Q) X.xe {s3 with heap:=s3.heap.push {cls:=.type "slice",data:=.fields #[vl,vu,.none]}}
 exact tail_any (ops:=[.ref s3.heap.objs.size,v]) ht hT hg (by with_unfolding_all rfl)
abbrev HF(xs:List V)(lo hi:Option Int):List V:=(xs.drop (HT.bp xs.length 0 lo)).take (HT.bp xs.length xs.length hi-HT.bp xs.length 0 lo)
theorem IW(xs:List V)(lo hi:Option Int):(HF xs lo hi).length<=xs.length:=by
 unfold HF
 rw[oI,nV]
 omega
abbrev Aa5(K:PySem.W.Frag):V->Option Int->Option Int->Hp->VK->Prop:=fun x lo hi H Q=>∃a xs,x=.ref a/\dP K H a xs /\
 ¬(HT.bp xs.length 0 lo=0/\HT.bp xs.length xs.length hi=xs.length)/\∀p,H p=none->Q (.ref p) (upd H p (.tup (HF xs lo hi)))
theorem XM:pb X (Aa5 X.K):=by
 intro pins s U H x v vl vu lo hi sl Q I rx hs pl pu h
 obtain⟨a,xs,rfl,hx,hw,q⟩:=h
 cases rx
 obtain⟨ah,r,ht,hz⟩:=I.tuple hx
 have hlen:ah.toArray.size=xs.length:=by rw[eQ];exact r.length.symm
 refine⟨"tuple",_,PyProof.Rows.slot_tuple_getitem.lookup,ht.typeIs,?_⟩
 refine HT.eB ht hs pl pu (by rw[hlen];exact hw) ?_ (by rw[hlen];exact hz)
 rw[hlen]
 refine⟨.ref s.heap.objs.size,_,I.laid (t':=s.toks) (o:=.tup (HF xs lo hi)) (fun b ob q=>Heap.get?_push_of_some _ q) (bx _) ?_,rfl,q _ (I.aI.fresh (bx _))⟩
 exact⟨aS (IW xs lo hi) hz,_,(r.drop (HT.bp xs.length 0 lo)).take (HT.bp xs.length xs.length hi-HT.bp xs.length 0 lo),IsTup.new _ _⟩
end
abbrev dE(n:Nat)(i:Int):Option Nat:=if 0<=i then(if i<n then some i.toNat else none) else if -(n:Int)<=i then some (i+n).toNat else none
abbrev lh{α:Type}(xs:List α)(i:Int):Option α:=(dE xs.length i).bind fun j=>xs[j]?
theorem Ot{n:Nat}{i:Int}{j:Nat}(h:dE n i=some j):seqIndex? i n=some j/\j<n/\-(n:Int)<=i/\i<n:=by
 unfold dE at h
 by_cases h0:0<=i
 ·rw[if_pos h0]at h
  by_cases h1:i<n
  ·rw[if_pos h1]at h
   have e:i.toNat=j:=Option.some.inj h
   exact⟨by rw[seqIndex_of h0 h1,e],by omega,by omega,h1⟩
  rw[if_neg h1]at h;cases h
 rw[if_neg h0]at h
 by_cases h1:-(n:Int)<=i
 ·rw[if_pos h1]at h
  have e:(i+n).toNat=j:=Option.some.inj h
  exact⟨by rw[seqIndex_neg (by omega) h1,e],by omega,h1,by omega⟩
 rw[if_neg h1]at h;cases h
theorem Kp{α:Type}{xs:List α}{i:Int}{v:α}(h:lh xs i=some v):∃j,seqIndex? i xs.length=some j/\xs[j]?=some v/\j<xs.length/\-(xs.length:Int)<=i/\i<xs.length:=by
 unfold lh at h
 cases e:dE xs.length i with
 |none=>rw[e]at h;cases h
 |some j=>
 rw[e]at h
 obtain⟨h1,h2,h3,h4⟩:=Ot e
 exact⟨j,h1,h,h2,h3,h4⟩
abbrev Ou(b:Expr):Prop:=∀o i,subscripted b false o i=operate [o,i] (getItem o i)
abbrev nq(X:Cx)(r:R2):Prop :=
 ∀(value slice:Expr)(pins:List (Addr×Obj))(s:Shared)(U:St)(H:Hp)(x y:V)(v u:Value)(Q:VK),Inv X pins U H s->RelV x v->RelV y u->r x y H Q->
  subscripted slice false v u=operate [v,u] (getItem v u)->wpAny (model X.prog X.w) X.A (subscriptTail value slice v u) (EP X pins U Q) X.xe s
abbrev pd(X:Cx)(id:String)(r:V->List V->Hp->VK->Prop):Prop :=
 ∀(pins:List (Addr×Obj))(s:Shared)(U:St)(H:Hp)(x:V)(xs:List V)(v:Value)(us:List Value)(Q:VK),Inv X pins U H s->RelV x v->Vals xs us->r x xs H Q->
  wpAny (model X.prog X.w) X.A (call (.builtin id) (v::us)) (EP X pins U Q) X.xe s
section
variable{X:Cx}{a b:Expr}{ta tb:TE}{pos:Pos}
theorem nq.or(h:nq X r)(h':nq X r'):nq X (fun x y H Q=>r x y H Q\/r' x y H Q):=by
 intro value slice pins s U H x y v u Q I rx ry q hs
 rcases q with q|q
 ·exact h value slice pins s U H x y v u Q I rx ry q hs
 exact h' value slice pins s U H x y v u Q I rx ry q hs
theorem Ma(hr:nq X r)(ha:PE X a ta)(hb:PE X b tb)(hs:Ou b):PE X (.Subscript a b pos) (qA r ta tb):=by
 intro pins s U H Q I h
 exact Subscript_ (S9 ha hb I h fun v u s2 x y H2 I2 rx ry q=>hr a b pins s2 U H2 x y v u Q I2 rx ry q (hs _ _))
abbrev XN(K:PySem.W.Frag):R2:=fun x y H Q=>∃p xs i v,x=.ref p/\y=.int i/\fi K H p xs/\lh xs i=some v/\Q v H
abbrev XO(K:PySem.W.Frag):R2:=fun x y H Q=>∃p xs i v,x=.ref p/\y=.int i/\dP K H p xs/\lh xs i=some v/\Q v H
abbrev Aa6:R2:=fun x y H Q=>∃z i c,x=.str z/\y=.int i/\z.length<=sizeLine/\lh z.cps.toList i=some c/\Q (.str ⟨#[c]⟩) H
theorem Kq:nq X (XN X.K):=by
 intro value slice pins s U H x y v u Q I rx ry h hs
 obtain⟨p,xs,i,z,rfl,rfl,hq,he,q⟩:=h
 cases rx
 obtain⟨t,rfl⟩:=ry
 obtain⟨ah,r,pl,hz⟩:=I.list hq
 obtain⟨j,h1,h2,h3,h4,h5⟩:=Kp he
 obtain⟨w,ew,qB⟩:=r.get h2
 have hl:=r.length
 have hn:=FS
 have fin:EP X pins U Q w s:=⟨z,H,I,qB,q⟩
 by_cases h0:0<=i
 ·have hj:i.toNat=j:=by
   rw[seqIndex_of h0 h5]at h1
   exact Option.some.inj h1
  exact item_listR pl.isList h0 (by omega) (by rw[hj];simpa using ew) fin hs
 have hj:(i+(ah.toArray.size:Int)).toNat=j:=by
  rw[seqIndex_neg (by omega) h4]at h1
  rw[eQ,<- hl]
  exact Option.some.inj h1
 exact subscriptTail_builtinR (x:=w) pl.isList.typeIs slot_list_getitem.lookup
  (wpAny_getItem_list_neg (Q:=fun r s'=>r=w/\EP X pins U Q r s') pl.isList (by omega) (by rw[eQ]<;>omega) (by omega) (by rw[hj];simpa using ew) ⟨rfl,fin⟩) hs
theorem Q4:nq X (XO X.K):=by
 intro value slice pins s U H x y v u Q I rx ry h hs
 obtain⟨p,xs,i,z,rfl,rfl,hq,he,q⟩:=h
 cases rx
 obtain⟨t,rfl⟩:=ry
 obtain⟨ah,r,pl,hz⟩:=I.tuple hq
 obtain⟨j,h1,h2,h3,h4,h5⟩:=Kp he
 obtain⟨w,ew,qB⟩:=r.get h2
 have hl:=r.length
 have hn:=FS
 have fin:EP X pins U Q w s:=⟨z,H,I,qB,q⟩
 exact subscriptTail_builtinR (x:=w) pl.typeIs slot_tuple_getitem.lookup
  (getItem_tuple (j:=j) (Q:=fun r s'=>r=w/\EP X pins U Q r s') pl (by omega) (by omega) (by rw[eQ,<- hl];exact h1) (by simpa using ew) ⟨rfl,fin⟩) hs
theorem XQ:nq X Aa6:=by
 intro value slice pins s U H x y v u Q I rx ry h hs
 obtain⟨z,i,c,rfl,rfl,hz,he,q⟩:=h
 obtain⟨t,rfl⟩:=rx
 obtain⟨t',rfl⟩:=ry
 obtain⟨j,h1,h2,h3,h4,h5⟩:=Kp he
 have hl:z.cps.toList.length=z.length:=by simp[Str.length]
 rw[hl]at h1 h4 h5
 have hn:=FS
 exact tail_any (typeIs_str s z t) slot_str_getitem.lookup (getItem_str (c:=c) (by
  have e1:decide (i < -(2^63:Int))=false:=decide_eq_false (by omega)
  have e2:decide (i ≥ 2^63)=false:=decide_eq_false (by omega)
  rw[e1,e2,qr]) (by rw[h1];simpa using h2) ⟨.str ⟨#[c]⟩,H,I.tok _,⟨_,rfl⟩,q⟩) hs
theorem Pz(ah:List Value)(n j:Nat)(u:Value):Obj.mapSeq (·.setIfInBounds j u) {cls:=.type "list",data:=.seq ah.toArray n}={cls:=.type "list",data:=.seq (ah.set j u).toArray n}:=by
 simp[Obj.mapSeq]
theorem Inv.lst(I:Inv X pins U H s)(h:H p=some (.lst xs)) :
  ∃(ah:List Value)(n:Nat),Vals xs ah/\s.heap.get? p=some {cls:=.type "list",data:=.seq ah.toArray n}/\xs.length<=sizeLine:=by
 obtain⟨z,ah,n,r,e⟩:=I.aI p _ h
 exact⟨ah,n,r,e,z⟩
theorem Inv.pf{pins:List (Addr×Obj)}{U:St}{H:Hp}{s:Shared}{p:Addr}{xs ys:List V}{ah its':List Value}{n n':Nat}{f:Obj->Obj}(I:Inv X pins U H s)(h:H p=some (.lst xs))
  (ho:s.heap.get? p=some {cls:=.type "list",data:=.seq ah.toArray n}) (hf:f {cls:=.type "list",data:=.seq ah.toArray n}={cls:=.type "list",data:=.seq its'.toArray n'}) (r:Vals ys its') (hz:ys.length<=sizeLine) (t:Nat) :
  Inv X pins U (upd H p (.lst ys)) {s with heap:=s.heap.update p f,toks:=t}:=by
 have e:(s.heap.update p f).get? p=some {cls:=.type "list",data:=.seq its'.toArray n'}:=by
  rw[Heap.get?_update_self f ho (by rw[hf]<;>rfl),hf]
 refine I.write (x:=p) (e:=p) (by rw[h];trivial) (.inl rfl) (fun b u hb q=>(Heap.get?_update_other _ _ (Ne.symm hb)).trans q) ⟨_,e⟩ ?_
 exact⟨hz,its',n',r,e⟩
abbrev UU:V->V->V->Hp->(Hp->Prop)->Prop:=fun o i v H Q=>∃p xs k j,o=.ref p/\i=.int k/\H p=some (.lst xs)/\dE xs.length k=some j/\Q (upd H p (.lst (xs.set j v)))
theorem Th:Xq X UU:=by
 intro pins s U H o i v ov iv u Q I ro ri rv h
 obtain⟨p,xs,k,j,rfl,rfl,hp,hj,q⟩:=h
 cases ro
 obtain⟨t,rfl⟩:=ri
 obtain⟨ah,n,r,ho,hz⟩:=I.lst hp
 obtain⟨h1,h2,h3,h4⟩:=Ot hj
 have hl:=r.length
 have hn:=FS
 have I':Inv X pins U (upd H p (.lst (xs.set j v))) {s with heap:=s.heap.update p (Obj.mapSeq (·.setIfInBounds j u))} :=
  I.pf hp ho (Pz ah n j u) (r.set rv j) (by rw[iD];exact hz) s.toks
 by_cases h0:0<=k
 ·have hk:k.toNat=j:=by
   rw[seqIndex_of h0 h4]at h1
   exact Option.some.inj h1
  exact PySem.W.ki_setAt ho h0 (by omega) (by rw[eQ,<- hl];exact h4) (by rw[hk];exact⟨_,I',q⟩)
 have hk:(k+(ah.toArray.size:Int)).toNat=j:=by
  rw[seqIndex_neg (by omega) h3]at h1
  rw[eQ,<- hl]
  exact Option.some.inj h1
 exact PySem.W.ki_setBack ho (by omega) (by rw[eQ,<- hl];exact h3) (by omega) (by rw[hk];exact⟨_,I',q⟩)
theorem Mx(lo hi:Option Int)(n:Nat):(sliceBounds lo hi none n).1=((HT.bp n 0 lo:Nat):Int)/\(sliceBounds lo hi none n).2.1=((HT.bp n n hi:Nat):Int)/\(sliceBounds lo hi none n).2.2=1:=by
 refine⟨?_,?_,rfl⟩
 ·cases lo with
  |none=>simp[sliceBounds,HT.bp]
  |some i=>
  simp only[sliceBounds,HT.bp,zV,show(1:Int)>0 by decide,if_true]
  by_cases h:i<0
  ·simp only[h,if_true]<;>omega
  simp only[h,if_false]<;>omega
 cases hi with
 |none=>simp[sliceBounds,HT.bp]
 |some i=>
 simp only[sliceBounds,HT.bp,zV,show(1:Int)>0 by decide,if_true]
 by_cases h:i<0
 ·simp only[h,if_true]<;>omega
 simp only[h,if_false]<;>omega
theorem LH(ah:List Value)(lo hi:Option Int):slicePick ah.toArray lo hi none=((ah.drop (HT.bp ah.length 0 lo)).take (HT.bp ah.length ah.length hi-HT.bp ah.length 0 lo)).toArray:=by
 obtain⟨h1,h2,h3⟩:=Mx lo hi ah.toArray.size
 unfold slicePick
 rw[h1,h2,h3]
 simp only[sliceRange_one,pick_run,eQ]<;>rfl
abbrev Aa7(K:PySem.W.Frag):V->Option Int->Option Int->Hp->VK->Prop:=fun x lo hi H Q=>∃a xs,x=.ref a/\fi K H a xs/\∀p,H p=none->Q (.ref p) (upd H p (.lst (HF xs lo hi)))
theorem Vy:pb X (Aa7 X.K):=by
 intro pins s U H x v vl vu lo hi sl Q I rx hs pl pu h
 obtain⟨a,xs,rfl,hx,q⟩:=h
 cases rx
 obtain⟨ah,r,ht,hz⟩:=I.list hx
 have hlen:=r.length
 refine⟨"list",_,slot_list_getitem.lookup,ht.isList.typeIs,?_⟩
 refine wpAny_getItem_list_slice ht.isList hs pl pu .none (by simp) ?_ (by rw[eQ]<;>omega)
 rw[LH,<- hlen]
 refine⟨.ref s.heap.objs.size,_,I.laid (t':=s.toks) (o:=.lst (HF xs lo hi)) (fun b ob q=>Heap.get?_push_of_some _ q) (bx _) ?_,rfl,q _ (I.aI.fresh (bx _))⟩
 exact⟨aS (IW xs lo hi) hz,_,0,(r.drop (HT.bp xs.length 0 lo)).take (HT.bp xs.length xs.length hi-HT.bp xs.length 0 lo),Heap.get?_push_size _ rfl⟩
theorem My:CG X (.builtin "len") (fun xs H Q=>∃p ys,xs=[.ref p]/\(fi X.K H p ys\/dP X.K H p ys)/\Q (.int ys.length) H):=by
 intro pins s U H xs us Q I r h
 obtain⟨p,ys,rfl,hq,q⟩:=h
 obtain⟨u,rfl,rx⟩:=EO r
 cases rx
 have hn:=FS
 rcases hq with hq|hq
 ·obtain⟨ah,r',pl,hz⟩:=I.list hq
  have hlen:=r'.length
  exact Calls.call_len_list pl.isList (by simp only[eQ]<;>omega) ⟨.int ys.length,H,I.tok _,⟨s.toks+1,by rw[eQ,hlen]⟩,q⟩
 obtain⟨ah,r',pl,hz⟩:=I.tuple hq
 have hlen:=r'.length
 exact len_tuple pl (by simp only[eQ]<;>omega) ⟨.int ys.length,H,I.tok _,⟨s.toks+1,by rw[eQ,hlen]⟩,q⟩
theorem Mz:CG X (.builtin "len") (fun xs H Q=>∃z,xs=[.str z]/\z.length<=sizeLine/\Q (.int z.length) H):=by
 intro pins s U H xs us Q I r h
 obtain⟨z,rfl,hz,q⟩:=h
 obtain⟨u,rfl,t,rfl⟩:=EO r
 have hn:=FS
 exact len_str (by omega) ⟨.int z.length,H,I.tok _,⟨_,rfl⟩,q⟩
theorem MA:CG X (.type "list") (fun xs H Q=>∃p ys,xs=[.ref p]/\(fi X.K H p ys\/dP X.K H p ys)/\∀l,H l=none->Q (.ref l) (upd H l (.lst ys))):=by
 intro pins s U H xs us Q I r h
 obtain⟨p,ys,rfl,hq,q⟩:=h
 obtain⟨u,rfl,rx⟩:=EO r
 cases rx
 have fin:∀(ah:List Value),Vals ys ah->ys.length<=sizeLine->∀(h':Heap)(c':Nat),(∀b o',s.heap.get? b=some o'->h'.get? b=some o')->
   h'.get? s.heap.objs.size=some {cls:=.type "list",dict:=none,data:=.seq ah.toArray c',slots:=#[]}->EP X pins U Q (.ref s.heap.objs.size) {s with heap:=h'}:=fun ah r' hz h' c' kp e=>
  ⟨.ref s.heap.objs.size,_,I.laid (t':=s.toks) kp (bx _) (show bf X.prog X.w _ h' _ (.lst ys) from⟨hz,ah,c',r',e⟩),rfl,q _ (I.aI.fresh (bx _))⟩
 rcases hq with hq|hq
 ·obtain⟨ah,r',pl,hz⟩:=I.list hq
  have hlen:=r'.length
  obtain⟨o,ho,hc,n,hd⟩:=pl.isList
  exact call_list_seq p (.inl rfl) ho hc hd (fun h' c' kp e=>fin ah r' hz h' c' kp e) (by simp only[eQ]<;>omega)
 obtain⟨ah,r',pl,hz⟩:=I.tuple hq
 have hlen:=r'.length
 obtain⟨o,ho,hc,n,hd⟩:=pl
 exact call_list_seq p (.inr rfl) ho hc hd (fun h' c' kp e=>fin ah r' hz h' c' kp e) (by simp only[eQ]<;>omega)
abbrev n8(K:PySem.W.Frag)(T:String)(x:V)(H:Hp):Prop:=match x with
 |.str _=>T = "str"
 |.int _=>T = "int"
 |.ref p=>(T = "list" /\ ∃xs,fi K H p xs)\/(T = "tuple" /\ ∃o,K.lookup p=some o/\o.cls=.type "tuple" /\ o.dict=none) \/
   (T = "dict" /\ ((∃cF,H p=some (.dK cF))\/∃cF,H p=some (.dT cF)))\/(T = "set" /\ ∃S n,H p=some (.set S n))
 |_=>False
theorem Q5(I:Inv X pins U H s)(r:RelV x v)(ty:n8 X.K T x H) :
  s.TypeIs v T/\∀a,v=.ref a->∃ob,s.heap.get? a=some ob/\ob.dict=none:=by
 cases x with
 |str z=>
  obtain⟨t,rfl⟩:=r
  cases (show T = "str" from ty)
  exact⟨typeIs_str s z t,fun _ e=>nomatch e⟩
 |int i=>
  obtain⟨t,rfl⟩:=r
  cases (show T = "int" from ty)
  exact⟨typeIs_int s i t,fun _ e=>nomatch e⟩
 |ref p=>
  cases r
  rcases ty with⟨rfl,xs,hq⟩|⟨rfl,o,hk,hc,hd⟩|⟨rfl,hk⟩|⟨rfl,S,n,hk⟩
  ·obtain⟨ah,_,pl,_⟩:=I.list hq
   refine⟨pl.isList.typeIs,fun a e=>?_⟩
   cases e
   obtain⟨o,n,e,c,hd,_⟩:=pl
   exact⟨o,e,hd⟩
  ·refine⟨⟨o,I.gB p o hk,hc⟩,fun a e=>?_⟩
   cases e
   exact⟨o,I.gB _ o hk,hd⟩
  ·have z:∃o,s.heap.get? p=some o/\o.ExactDict:=by
    rcases hk with⟨cF,hk⟩|⟨cF,hk⟩
    ·obtain⟨_,_,_,_,o,_,_,e,ex,_⟩:=I.aI p _ hk
     exact⟨o,e,ex⟩
    obtain⟨_,_,_,_,o,_,_,e,ex,_⟩:=I.aI p _ hk
    exact⟨o,e,ex⟩
   obtain⟨o,e,ex⟩:=z
   refine⟨⟨o,e,ex.1⟩,fun a e2=>?_⟩
   cases e2
   exact⟨o,e,ex.2.1⟩
  obtain⟨o,_,_,_,e,ex,_⟩:=I.aI p _ hk
  refine⟨⟨o,e,ex.1⟩,fun a e2=>?_⟩
  cases e2
  exact⟨o,e,ex.2.1⟩
 |_=>exact False.elim ty
abbrev Aa8(K:PySem.W.Frag)(T:String)(r:V->List V->Hp->VK->Prop)(to:TE):TE:=fun U H Q=>to U H fun x H1=>n8 K T x H1/\r x [] H1 Q
abbrev tBM(K:PySem.W.Frag)(T:String)(r:V->List V->Hp->VK->Prop)(to:TE)(t:TA):TE:=fun U H Q=>to U H fun x H1=>n8 K T x H1/\t U H1 fun xs H2=>r x xs H2 Q
variable{o e:Expr}{es:List Expr}{to:TE}{t:TA}{name:Str}{apos eW:Pos}{T id:String}{r:V->List V->Hp->VK->Prop}
theorem XR(pa:PlainAttrs T)(slot:Slot T name id)(ku:typeOf (.builtin id)=pure (.type "method_descriptor"))(hm:pd X id r)(ho:PE X o to)
  (ll:attributeBase o name X.env (eval o X.env)=eval o X.env:=by rfl) (lp:(apos.endLine==eW.line)=true:=by rfl):PE X (.Call (.Attribute o name apos) [] [] eW) (Aa8 X.K T r to):=by
 intro pins s U H Q I h
 refine wpAny_Call_method0_late ll lp (aW (ho pins s U H _ I h) fun v s1 ⟨x,H1,I1,r1,ty,q1⟩=>?_)
 obtain⟨h1,h2⟩:=Q5 I1 r1 ty
 exact⟨T,id,pa,slot,ku,h1,h2,Calls.callWith_builtin rfl (PySem.evalArgs_none (hm pins s1 U H1 x [] v [] Q I1 r1 .nil q1))⟩
theorem G9(pa:PlainAttrs T)(slot:Slot T name id)(ku:typeOf (.builtin id)=pure (.type "method_descriptor"))(hm:pd X id r)(ho:PE X o to)(ha:PA X (e::es) t)
  (ll:attributeBase o name X.env (eval o X.env)=eval o X.env:=by rfl)
  (vY:((backTo eW (starEach (e::es) X.env)).all (fun x=>!x.1)&&(backToKw eW (keywordEach [] X.env)).all (fun x=>x.1.isSome)
  &&decide ((e::es).length+([]:List Keyword).length+(if([]:List Keyword).isEmpty then 0 else 1)<30))=true:=by rfl)
  (lp:(apos.endLine==eW.line)=true:=by rfl) (hs:starEach (e::es) X.env=(false,eval e X.env)::starEach es X.env:=by rfl) (pj:(backTo eW (starEach es X.env)).any (·.1)=false:=by rfl) :
  PE X (.Call (.Attribute o name apos) (e::es) [] eW) (tBM X.K T r to t):=by
 intro pins s U H Q I h
 refine wpAny_Call_method_late ll vY lp rfl (aW (ho pins s U H _ I h) fun v s1 ⟨x,H1,I1,r1,ty,q1⟩=>?_)
 obtain⟨h1,h2⟩:=Q5 I1 r1 ty
 refine⟨T,id,pa,slot,ku,h1,h2,?_⟩
 have hA:=ha eW pins s1 U H1 _ I1 q1
 rw[hs]at hA ⊢
 refine Calls.callWith_builtin (by show(false||(backTo eW (starEach es X.env)).any (·.1))=false;rw[pj]<;>rfl) (Calls.evalArgs_plain ?_)
 exact aW hA fun us s2 ⟨vs,H2,I2,r2,q2⟩=>hm pins s2 U H2 x vs v us Q I2 r1 r2 q2
/- xs.append(e),list.index on a rP tuple .. are pd facts of 06m -/
end
abbrev vZ(X:Cx)(id:String)(r:V->List V->Hp->VK->Prop):Prop :=
 ∀(pins:List (Addr×Obj))(s:Shared)(U:St)(H:Hp)(x:V)(xs:List V)(v:Value)(us:List Value)(Q:VK),Inv X pins U H s->RelV x v->Vals xs us->r x xs H Q->
  wpAny (model X.prog X.w) X.A (call (.builtin id) (v::us)) (EP X pins U Q) X.xe s
theorem Vals.one:∀{x:V}{us:List Value},Vals [x] us->∃u,us=[u]/\RelV x u
 |_,_,.cons r .nil=>⟨_,rfl,r⟩
theorem Vals.zero:∀{us:List Value},Vals [] us->us=[]
 |_,.nil=>rfl
theorem Vals.rep(h:Vals xs us):∀k:Nat,Vals (aaq k xs).flatten (aaq k us).flatten
 |0=>.nil
 |k+1=>by
  rw[qj,qj,q_,q_]
  exact Vals.append h (Vals.rep h k)
theorem Lj(ah:List Value):∀(k:Nat)(acc:List Value),
  vn (fun x1 x2=>x1++x2) acc.toArray (aaq k ah.toArray)=(acc++(aaq k ah).flatten).toArray
 |0,acc=>by simp
 |k+1,acc=>by
  have e:acc.toArray++ah.toArray=(acc++ah).toArray:=by simp
  have e2:(acc++ah)++(aaq k ah).flatten=acc++(aaq (k+1) ah).flatten:=by
   rw[qj,q_,jz]
  rw[<- e2,<- Lj ah k (acc++ah),<- e,qj,rf]
section
variable{X:Cx}{pins:List (Addr×Obj)}{U:St}{H:Hp}{s:Shared}{l b:Addr}{xs ys zs:List V}
theorem Inv.pq{ah its':List Value}{n:Nat}{f:Array Value->Array Value}{t':Nat}(I:Inv X pins U H s)(hH:H l=some (.lst xs))
  (e:s.heap.get? l=some {cls:=.type "list",data:=.seq ah.toArray n}) (hf:f ah.toArray=its'.toArray) (hv:Vals ys its') (hz:ys.length<=sizeLine) :
  Inv X pins U (upd H l (.lst ys)) {s with heap:=s.heap.update l (Obj.mapSeq f),toks:=t'}:=by
 have q:=PySem.IsL.update e f
 rw[hf]at q
 refine I.write (x:=l) (e:=l) (by rw[hH];exact trivial) (.inl rfl) (fun b' u hb hu=>(Heap.get?_update_other s.heap (Obj.mapSeq f) (Ne.symm hb)).trans hu) ⟨_,q⟩ ?_
 exact⟨hz,its',_,hv,q⟩
theorem Inv.rQ{t':Nat}(I:Inv X pins U H s)(hv:Vals ys ah)(hz:ys.length<=sizeLine) :
  Inv X pins U (upd H s.heap.objs.size (.lst ys)) {s with heap:=s.heap.push {cls:=.type "list",data:=.seq ah.toArray},toks:=t'} :=
 I.laid (fun _ _ q=>Heap.get?_push_of_some _ q) (bx _) ⟨hz,ah,0,hv,Heap.get?_push_size _ rfl⟩
theorem Inv.fresh(I:Inv X pins U H s):H s.heap.objs.size=none:=I.aI.fresh (bx _)
theorem Inv.pv(I:Inv X pins U H s)(hH:H l=some (.lst xs)):xs.length<=sizeLine/\∃(ah:List Value)(n:Nat),Vals xs ah/\xs.length=ah.length/\s.heap.get? l=some {cls:=.type "list",data:=.seq ah.toArray n}:=by
 obtain⟨z,ah,n,r,e⟩:=I.aI l _ hH
 exact⟨z,ah,n,r,r.length,e⟩
theorem MB{n:Nat}(h:n<=sizeLine):Builtin.List.listTooLong n=false:=by
 unfold Builtin.List.listTooLong
 exact decide_eq_false (by omega)
end
section
variable{X:Cx}
abbrev Iv:V->List V->Hp->VK->Prop:=fun x vs H Q=>∃l xs y,x=.ref l/\vs=[y]/\H l=some (.lst xs)/\xs.length<sizeLine/\Q .aJ (upd H l (.lst (xs++[y])))
theorem HG:vZ X "list.append" Iv:=by
 intro pins s U H x vs v us Q I rx rv h
 obtain⟨l,xs,y,rfl,rfl,hH,hz,q⟩:=h
 cases rx
 obtain⟨u,rfl,ru⟩:=rv.one
 obtain⟨z,ah,n,r,hl,e⟩:=I.pv hH
 refine call_meets F.slot_list_append ⟨_,e,rfl⟩ F.entry_list_append (F.args_list_append_2 _ _) (PySem.list_append l ah.toArray n u (by rw[eQ];omega)) ⟨e,?_⟩
 refine⟨.aJ,_,I.pq (its':=ah++[u]) hH e (by simp) (r.append (.cons ru .nil)) ?_,rfl,q⟩
 rw[eP,nU]
 omega
abbrev Q6:V->List V->Hp->VK->Prop:=fun x vs H Q=>∃l xs,x=.ref l/\vs=[]/\H l=some (.lst xs)/\Q .aJ (upd H l (.lst []))
theorem Ti:vZ X "list.clear" Q6:=by
 intro pins s U H x vs v us Q I rx rv h
 obtain⟨l,xs,rfl,rfl,hH,q⟩:=h
 cases rx
 have rR:=rv.zero
 subst rR
 obtain⟨z,ah,n,r,hl,e⟩:=I.pv hH
 refine call_meets F.slot_list_clear ⟨_,e,rfl⟩ F.entry_list_clear (F.args_list_clear_1 _) (AutoSeq1.list_clear_list_0 l ah.toArray n (by rw[eQ];omega)) ⟨e,?_⟩
 exact⟨.aJ,_,I.pq (its':=[]) (ys:=[]) hH e rfl .nil (cK _),rfl,q⟩
theorem Vz{α:Type}(xs:List α)(k:Nat):(aaq k xs).flatten.length=k*xs.length:=by
 induction k with
 |zero=>simp
 |succ k ih=>rw[qj,q_,eP,ih,mL,tR]
end
end L2
namespace A_
open PySem PySem.W PySem.Calls PyProof.Rows
theorem JH:∀(ns:List Int)(vs:List Value),WellAll P h vs (ns.map WData.int)->IntsAre vs ns:=by
 intro ns
 induction ns with
 |nil=>
  intro vs w
  rw[iC]at w
  cases w
  exact .nil
 |cons n ns ih=>
  intro vs w
  rw[cT]at w
  cases w with
  |cons a b=>
  cases a
  exact .cons _ _ (ih _ b)
theorem Q7{l:OpenLaw}{n:Nat}(hn:l.most=some n){P:Params}{h:Heap}{args:List WData}{vals:List Value}
  (nr:l.row.toRowW.claim.pre args=true) (rS:WellAll P h vals args) :
  ∃a vs ns,vals=[Value.ref a]/\args=[WData.list (ns.map WData.int)]/\h.get? a=some {cls:=.type "list",data:=.seq vs.toArray}/\IntsAre vs ns/\ns.length<=n:=by
 have hsh:WShape.hasAll [] args [.list .int]=true:=(pre_splitW nr).1
 have hc:l.pre.holds [] {args:=args}=true:=(pre_splitW nr).2
 obtain⟨d,r,rfl,h1,h2⟩:=hasAllW_cons hsh
 obtain rfl:=hasAllW_nil h2
 obtain⟨xs,rfl,h3⟩:=hasW_list h1
 obtain⟨ns,rfl⟩:=items_int h3
 have hlen:ns.length<=n:=by
  unfold OpenLaw.pre at hc
  have h4:(WTm.not (.lt (.lit (.int (n:Int))) (.len (.arg 0)))).holds [] {args:=[.list (ns.map .int)]}=true:=by
   have h4:=(holds_andW hc).1
   rw[hn]at h4
   exact h4
  have h5:=condW_of h4 (w_not (w_lt w_lit (w_len_list (w_arg rfl))))
  rw[aF]at h5
  refine nc fun q=>?_
  have q':(n:Int)<((ns.length:Nat):Int):=by omega
  first
   | (rw[decide_eq_true q']at h5;exact absurd h5 (by decide))
   | (simp at h5;omega)
 cases rS with
 |cons w1 w2=>
  cases w2
  cases w1 with
  |list ho jV=>exact⟨_,_,ns,rfl,rfl,ho,JH ns _ jV,hlen⟩
theorem Q8(l:OpenLaw)(args:List WData):l.row.toRowW.claim.post args (.bool true) args=true :=
 postW_of (r:=l.row.toRowW) (X:=(true==true))
  (show WShape.has [] (.bool true) .bool=true by first|rfl|decide|simp[WShape.has,WShape.arms,WShape.armsAll])
  (show(WTm.eq .res (.lit (.bool true))).value [] {args:=args,res:=some (.bool true),after:=args}=some (.bool (true==true)) from w_eq_bool (w_res rfl) w_lit) rfl
theorem iH{l:OpenLaw}{n:Nat}{q:Program}{loose:List Str}{XP:(Str->Option Value)->Heap->Prop}{YP:World->Heap->Prop}{d:DefRec}
  (hn:l.most=some n) (rT:d.params.defaults=[])
  (call:∀(w:World)(aG aN:Shared)(mg mb:Str->Option Value)(fa:Addr)(o:Obj)(pm cd doc:Value)(a:Addr)(vs:List Value)(ns:List Int),
   Ground q loose [] XP w aG mg mb aN.heap->YP w aN.heap->
   aN.heap.get? fa=some o->o.data=.func (docDef d.name d.params d.body d.scope pm cd doc)->aN.heap.CodeRec cd d.name->mg d.name=some (.ref fa)->
   aN.heap.get? a=some {cls:=.type "list",data:=.seq vs.toArray}->IntsAre vs ns->ns.length<=n->aN.gens=#[]->
   codeAny (model l.prog w) callerA (.call (.ref fa) ⟨[.ref a],[]⟩) (fun r s'=>r=.ok (.ret (.bool true))/\OldK aN.heap s'.heap/\s'.os=aN.os/\AllBare s'.gens) aN) :
  WalkO q loose XP YP l.row.toRowW d [] (fun f vs=>PySem.call f vs):=by
 intro w aG aN mg mb G rV fa o pm cd doc dV kV ho hd fS hD rW hg args vals as nr aeO hrd rS mS
 obtain rfl:dV=.none:=Dflts.none hD rT
 obtain rfl:kV=.none:=Dflts.noKw hD
 obtain⟨a,vs,ns,rfl,rfl,pw,hints,hlen⟩:=Q7 hn nr rS
 refine enter_call (codeAny_mono (call w aG aN mg mb fa o pm cd doc a vs ns G rV ho (fd_plain hd) fS rW pw hints hlen hg) fun r s' hq=>?_)
 obtain⟨rfl,h2,h3,h4⟩:=hq
 exact⟨.inl ⟨.bool true,.bool true,[],rfl,fun _=>rfl,.bool true,Q8 l _,fun _=>⟨List.Pairwise.nil,fun _ hm=>(nomatch hm)⟩⟩,h2,h3,h4⟩
end A_
namespace L2
open PySem PySem.Spec PyProof.Rows
theorem Lk:∀{vs:List Value}{ns:List Int},IntsAre vs ns->Vals (ns.map V.int) vs
 |_,_,.nil=>.nil
 |_,_,.cons n t h=>.cons ⟨t,rfl⟩ (Lk h)
abbrev Tj(H:Hp):Prop:=∀b,H b=none\/∃o xs,H b=some (.fh o (.lst xs))
theorem Tk{P:Program}{w:World}{K:PySem.W.Frag}{mg mb:Str->Option Value}{CX:jU}{k:Nat}{fa a:Addr}{fd:FuncData}{x:Str}{sp:Sp}{aN:Shared}{vs:List Value}{ns:List Int}
  (KX:K.In aN.heap) (um:aN.heap.Ns mainGlobals mg) (hb:aN.heap.Ns builtinsNs mb) (hbb:∀x:Str,x≠"__name__" -> mb x=bootBuiltins x) (v5:aN.heap.NoLimit) (hg:aN.gens=#[])
  (ha:aN.heap.get? a=some {cls:=.type "list",data:=.seq vs.toArray}) (hi:IntsAre vs ns) (hl:ns.length<=sizeLine) (hr:b_ k callerA)
  (F:∀base:Heap,K.In base->base.Ns mainGlobals mg->dQ P w K mg base CX k fa fd [x] sp) (rX:∀(s:Shared)(u:Value),BindsTo s fd ⟨[u],[]⟩ [(x,u)])
  (dC:∀H:Hp,Tj H->fi K H a (ns.map V.int)->sp [.ref a] H (fun v _=>v=.bl true) fun _ _ _=>False)
  (v7:∀H e s',CX [] H aN (fun _ _ _=>False) e s'->False) :
  codeAny (model P w) callerA (.call (.ref fa) ⟨[.ref a],[]⟩) (fun r s'=>r=.ok (.ret (.bool true))/\OldK aN.heap s'.heap/\s'.os=aN.os/\AllBare s'.gens) aN:=by
 have rv:=Lk hi
 have v8:=hi.length
 have core:∀H:Hp,Tj H->fi K H a (ns.map V.int)->dj P w H aN.heap->(∀b,H b≠none->b=a)->(H a≠none->K.lookup a=none)->
   codeAny (model P w) callerA (.call (.ref fa) ⟨[.ref a],[]⟩) (fun r s'=>r=.ok (.ret (.bool true))/\OldK aN.heap s'.heap/\s'.os=aN.os/\AllBare s'.gens) aN:=by
  intro H hO hS aI hA hK
  have jI:∀{b:Addr}{o:Obj},aN.heap.get? b=some o->H b=none->(G8 aN.heap H).get? b=some o:=fun e n=>S0 e n
  have kr:∀{b:Addr}{o:Obj}{es:Array DictEntry}{ep:Nat},aN.heap.get? b=some o->o.data=.dict es ep->H b=none:=fun {b o es ep} e d=>by
   cases q:H b with
   |none=>rfl
   |some u=>
   have e':b=a:=hA b (by rw[q];simp)
   subst e'
   rw[ha]at e;cases e
   have d':Data.seq vs.toArray _=Data.dict es ep:=d
   cases d'
  have uo:∀{b:Addr}{m:Str->Option Value},aN.heap.Ns b m->(G8 aN.heap H).Ns b m:=fun {b m} ⟨o,es,ep,e,d,r⟩=>⟨o,es,ep,jI e (kr e d),d,r⟩
  have B_:K.In (G8 aN.heap H):=fun b o e=>jI (KX b o e) (by
   cases q:H b with
   |none=>rfl
   |some u=>
   have e':b=a:=hA b (by rw[q];simp)
   subst e'
   rw[hK (by rw[q];simp)]at e;cases e)
  have hM:Mod K mg (G8 aN.heap H):=⟨B_,uo um,⟨mb,uo hb,hbb⟩,let ⟨mc,h1,h2⟩:=v5;⟨mc,uo h1,h2⟩⟩
  have e0:kY P w K mg (G8 aN.heap H) callerA [] aN H:=⟨rfl,hM,fun b o e=>Vp e,i9 (QG _ _),trivial,fun b hb=>absurd (show b∈([]:List Addr) from hb) (by simp),aI,.of_eq hg⟩
  refine codeAny_mono ((F _ B_ (uo um)).run callerA [] aN H ⟨[.ref a],[]⟩ [.ref a] [.ref a] _ _ hr e0 (rX aN (.ref a)) (.cons rfl .nil) (dC H hO hS)) fun r s' h=>?_
  cases r with
  |error e=>exact(v7 H e s' h).elim
  |ok fl=>
   cases fl with
   |next=>exact False.elim h
   |brk=>exact False.elim h
   |cont=>exact False.elim h
   |ret u=>
    obtain⟨v,H',os,bare,un,v9,r',q⟩:=h
    have q':v=.bl true:=q
    subst q'
    obtain rfl:u=Value.bool true:=r'
    refine⟨rfl,OldK.of_keep fun b o e=>?_,os,bare⟩
    cases q:H b with
    |none=>exact un.keep b o e q (by intro z;exact absurd (show b∈([]:List Addr) from z) (by simp)) (by simp)
    |some u=>
    rcases hO b with z|⟨ob,xs,z⟩
    ·rw[q]at z;cases z
    have z2:=un.bI b ob _ z
    obtain⟨e1,_⟩:=aI b _ z
    obtain⟨e2,_⟩:=v9 b _ z2
    rw[e]at e1;cases e1
    exact e2
 cases hk:K.lookup a with
 |some o=>
  have e:=KX a o hk
  rw[ha]at e
  cases e
  refine core (fun _=>none) (fun _=>.inl rfl) (.inr ⟨_,vs.toArray,_,hk,rfl,rfl,rfl,by rw[eQ,v8];exact hl,by simpa using rv⟩) (fun b u z=>by have z':(none:Option HO)=some u:=z;cases z') (fun b z=>absurd rfl z) fun z=>absurd rfl z
 |none=>
 refine core (fun b=>if b=a then some (.fh {cls:=.type "list",data:=.seq vs.toArray} (.lst (ns.map V.int))) else none) (fun b=>?_) (.inl (.inr ⟨{cls:=.type "list",data:=.seq vs.toArray},if_pos rfl⟩)) (fun b u z=>?_) (fun b z=>?_) fun _=>hk
 ·by_cases hb:b=a
  ·exact .inr ⟨_,_,if_pos hb⟩
  exact .inl (if_neg hb)
 ·by_cases hb:b=a
  ·have z':=(if_pos hb).symm.trans z
   cases z'
   subst hb
   exact⟨ha,by rw[aF];exact hl,vs,_,rv,ha⟩
  have z':=(if_neg hb).symm.trans z
  cases z'
 by_cases hb:b=a
 ·exact hb
 exact absurd (if_neg hb) z
theorem VA{l:PySem.W.OpenLaw}{n k:Nat}{q:Program}{loose:List Str}{XP:(Str->Option Value)->Heap->Prop}{YP:World->Heap->Prop}{d:DefRec}{K:Params->PySem.W.Frag}{CX:World->jU}{sp:World->Sp}{x:Str}
  (hn:l.most=some n) (rY:n<=sizeLine) (rT:d.params.defaults=[]) (hr:b_ k callerA)
  (hY:∀(w:World)(h:Heap),YP w h->(K w.params).In h)
  (F:∀(w:World)(mg:Str->Option Value)(fa:Addr)(h:Heap),(K w.params).In h->h.Ns mainGlobals mg->mg d.name=some (.ref fa)->
   ∃fd:FuncData,(∀(s:Shared)(u:Value),BindsTo s fd ⟨[u],[]⟩ [(x,u)]) /\
    ∀base:Heap,(K w.params).In base->base.Ns mainGlobals mg->dQ l.prog w (K w.params) mg base (CX w) k fa fd [x] (sp w))
  (dC:∀(w:World)(H:Hp)(a:Addr)(ns:List Int),ns.length<=n->Tj H->fi (K w.params) H a (ns.map V.int)->sp w [.ref a] H (fun v _=>v=.bl true) fun _ _ _=>False)
  (v7:∀(w:World)(H:Hp)(s:Shared)(e:Value)(s':Shared),CX w [] H s (fun _ _ _=>False) e s'->False) :
  PySem.W.WalkO q loose XP YP l.row.toRowW d [] (fun f vs=>PySem.call f vs):=by
 refine A_.iH hn rT fun w aG aN mg mb fa o pm cd doc a vs ns G rV ho hd fS rW pw hints hlen hg=>?_
 have KX:=hY w _ rV
 obtain⟨fd,hb,hF⟩:=F w mg fa _ KX G.T.g rW
 exact Tk KX G.T.g G.T.b G.T.builtins G.T.nolimit hg pw hints (aS hlen rY) hr hF hb (fun H hO hS=>dC w H a ns hlen hO hS) fun H e s'=>v7 w H aN e s'
abbrev Cr(s:Stmt):Arguments:=match s with
 |.FunctionDef _ a _ _ _ _ _ _ _ _=>a
 |_=>{posonlyargs:=[],args:=[],vararg:=none,kwonlyargs:=[],kw_defaults:=[],kwarg:=none,defaults:=[]}
abbrev A5(s:Stmt):List Stmt:=match s with
 |.FunctionDef _ _ b _ _ _ _ _ _ _=>b
 |_=>[]
abbrev Ar(s:Stmt):Scope:=match s with
 |.FunctionDef _ _ _ _ _ _ sc _ _ _=>sc
 |_=>{kind:=.function,names:=[],isGenerator:=false,isCoroutine:=false}
structure n9(K:PySem.W.Frag)(x qual:Str)(st:Stmt)(f:Addr)(fd:FuncData):Prop where
 ex:∃(oc:Value)(od:Option Addr)(kV doc pm:Value)(an:Option Addr)(dy ct:Value)(mR:Array (Option Value)),
  fd=PySem.W.fnOf x qual (Cr st) (A5 st) (Ar st) .none kV doc pm an dy ct/\K.lookup f=some ⟨oc,od,.func fd,mR⟩/\PySem.W.codeIn K dy qual=true
 kp:PySem.W.keepIn K (.ref f)=true
section
variable{P:Program}{w:World}{K:PySem.W.Frag}{mg:Str->Option Value}{base:Heap}
theorem n9.binds{x qual:Str}{st:Stmt}{f:Addr}{fd:FuncData}{ps:List Str}(F:n9 K x qual st f fd)
  (h:∀(kV doc pm:Value)(an:Option Addr)(dy ct:Value)(us:List Value),us.length=ps.length->bindArgs (PySem.W.fnOf x qual (Cr st) (A5 st) (Ar st) .none kV doc pm an dy ct) ⟨us,[]⟩=pure (ps.zip us)):Binds K fd ps []:=by
 obtain⟨oc,od,kV,doc,pm,an,dy,ct,mR,rfl,lk,fS⟩:=F.ex
 exact .all (h kV doc pm an dy ct)
theorem Q9{x qual:Str}{st:Stmt}{f:Addr}{oc:Value}{od an:Option Addr}{mR:Array (Option Value)}{kV doc pm dy ct:Value}(l:K.lookup f=some ⟨oc,od,.func (PySem.W.fnOf x qual (Cr st) (A5 st) (Ar st) .none kV doc pm an dy ct),mR⟩)
  (c:PySem.W.codeIn K dy qual=true) (k:PySem.W.keepIn K (.ref f)=true):n9 K x qual st f (PySem.W.fnOf x qual (Cr st) (A5 st) (Ar st) .none kV doc pm an dy ct):=⟨⟨oc,od,kV,doc,pm,an,dy,ct,mR,rfl,l,c⟩,k⟩
end
abbrev ag(H H':Hp):Prop:=∀b o,H b=some o->H' b=some o
theorem ag.refl(H:Hp):ag H H:=fun _ _ h=>h
theorem ag.trans(a:ag H H1)(b:ag H1 H2):ag H H2:=fun c o h=>b c o (a c o h)
theorem ag.free(e:ag H H')(h:H' l=Option.none):H l=Option.none:=by
 cases q:H l with
 |none=>rfl
 |some o=>
 rw[e l o q]at h
 cases h
end L2
end
section
namespace L2
open PySem PySem.Spec PyProof.Rows
section
variable{P:Program}{w:World}{H:Hp}{h:Heap}{a:Addr}
theorem Ha(ok:dj P w H h)(e:Rd H a u):bf P w H h a u:=e.ok ok
end
end L2
end
section
set_option maxHeartbeats 1000000
namespace L2
open PySem PySem.Spec PyProof.Rows PySem.W
section
variable{prog:Program}{w:World}{A:Around}{E:Value->Shared->Prop}{s:Shared}{K:Frag}{e C:Addr}{ox:Obj}
structure iI(K:Frag)(C:Addr):Prop where
 ga:findIn K (.ref C) "__getattribute__" = some (some (.builtin "BaseException.__getattribute__"))
 gn:findIn K (.ref C) "__getattr__" = some none
 sb:subIn K (.ref C) (.type "BaseException")=some true
 cl:findIn K (.ref C) "__class__" = some (some (.builtin "object.__class__"))
 mo:mroIn K C (.type "object")=some true
 ty:typeIn K (.ref C)=some (.type "type")
 cc:(clsIn K C).isSome=true
abbrev nt(e C:Addr)(h:Heap):Prop:=∃oe,h.get? e=some oe/\oe.cls=.ref C
abbrev uq(e C dx:Addr)(h:Heap):Prop:=∃oe,h.get? e=some oe/\oe.cls=.ref C/\oe.dict=some dx/\∀c,oe.data≠.cls c
theorem uq.at(I:uq e C dx h):nt e C h:=let ⟨oe,h1,h2,_⟩:=I;⟨oe,h1,h2⟩
theorem nt.type(I:nt e C h):Looks M h (typeOf (.ref e)) (.ref C):=by
 obtain⟨oe,h1,h2⟩:=I
 exact h2▸(Looks.ld h1).andThen .now
theorem XS{R:Result->Shared->Prop}(X:K.In s.heap)(I:nt e C s.heap)(c:iI K C)(h:R (.ok (.ret (.ref C))) s) :
  codeAny (model prog w) A (.call (.builtin "getset_descriptor.__get__") ⟨[.builtin "object.__class__",.ref e,.ref C],[]⟩) R s:=by
 obtain⟨hh,g,d,t,os⟩:=s
 have B':(⟨hh,g,d,t,os⟩:Shared).TypeIs (.builtin "object.__class__") "getset_descriptor":=F.typeOf_object_class
 have L0:=I.type (M:=model prog w)
 have L1:=looks_mroIn (M:=model prog w) X c.mo
 refine codeAny_call_builtin F.slot_gs_get.plain F.entry_gs_get (F.slot_gs_get.check _ _ _ _ _ _ _ _ B' (F.args_gs_get _ _ _) ?_)
 repeat (any_goals (first|assumption|refine L0.at ?_|refine L1.at ?_|refine wpAny_bind (L0.at ?_)|refine wpAny_bind (L1.at ?_)|wp_step))
 refine⟨Code.quiet_builtin _ (by decide +kernel),codeAny_builtin KF.entry_class ?_⟩
 unfold Builtin.«object.__class__» shownTypeOf
 repeat (any_goals (first|assumption|refine L0.at ?_|refine wpAny_bind (L0.at ?_)|wp_step))
theorem VB{R:Result->Shared->Prop}(X:K.In s.heap)(I:nt e C s.heap)(c:iI K C)(h:R (.ok (.ret (.ref C))) s) :
  codeAny (model prog w) A (.call (.builtin "BaseException.__getattribute__") ⟨[.ref e,.str "__class__" tk],[]⟩) R s:=by
 obtain⟨hh,g,d,t,os⟩:=s
 have L0:=I.type (M:=model prog w)
 have LS:=looks_subIn (M:=model prog w) X c.sb
 have LI:Looks (model prog w) hh (isInstance (.ref e) (.type "BaseException")) true:=L0.andThen LS
 have LC:=looks_findIn (M:=model prog w) X c.cl
 refine codeAny_call_builtin (by decide +kernel) F.entry_bexc_ga ?_
 have hk:builtinKind "BaseException.__getattribute__" = some .slot:=by decide +kernel
 have pA:splitId "BaseException.__getattribute__" = some ("BaseException", "__getattribute__"):=by decide +kernel
 have ha:=F.args_bexc_ga (.ref e) (.str "__class__" tk)
 simp only[checkBuiltinCall,hk,pA]
 refine wpAny_bind (LI.at ?_)
 unfold argsOk at ha
 simp only[abQ,aba,if_false]
 refine wpAny_of_eq ha ?_
 have B':(⟨hh,g,d,t,os⟩:Shared).TypeIs (.builtin "object.__class__") "getset_descriptor":=F.typeOf_object_class
 have f5:=F.typeOf_object_class
 have f6:=F.slot_gs_get.lookup
 have f7:=F.slot_gs_set.lookup
 repeat (any_goals (first|assumption|refine L0.at ?_|refine wpAny_bind (L0.at ?_)|refine LC.at ?_|refine wpAny_bind (LC.at ?_)|wp_step))
 exact XS X I c (wpAny_pure h)
theorem VC{Q:Option Value->Shared->Prop}(X:K.In s.heap)(I:nt e C s.heap)(c:iI K C)(h:Q (some (.ref C)) {s with toks:=s.toks+1}) :
  wpAny (model prog w) A (getAttr? (.ref e) "__class__") Q E s:=by
 obtain⟨hh,g,d,t,os⟩:=s
 have L0:=I.type (M:=model prog w)
 have LG:=looks_findIn (M:=model prog w) X c.ga
 have LN:=looks_findIn (M:=model prog w) X c.gn
 have fb1:=F.excAttr_ValueError.ga.bind (.ref e)
 unfold getAttr? getAttrBy? getAttrBy
 repeat (first|refine wpAny_bind (L0.at ?_)|refine wpAny_bind (LG.at ?_)|refine wpAny_bind (LN.at ?_)|refine LN.at ?_|wp_step)
 exact VB (s:=⟨hh,g,d,t+1,os⟩) X I c (handed_on rfl (wpAny_pure h))
theorem MC(c:iI K C):KitX K (.ref e) (.ref C) (nt e C) where
 ty:=fun _ _ _ I=>I.type
 it:=fun M h X _=>by
  have hc:=c.cc
  unfold clsIn at hc
  split at hc
  ·rename_i ho
   intro A' Q' E' s' k q
   unfold isType loadHead
   exact wpAny_bind (wpAny_loadPart (k _ _ (X _ _ ho)) (wpAny_pure q))
  cases hc
 ne:=fun h tp dd ah n sl X htp=>by
  refine Bool.eq_false_iff.mpr fun q=>?_
  have e:C=tp:=Value.ref.inj (beq_iff_eq.mp q)
  subst e
  have hc:=c.cc
  unfold clsIn at hc
  split at hc
  ·rename_i ho
   have z:=(X _ _ ho).symm.trans htp
   cases z
  cases hc
 ca:=fun X I k=>VC X I c k
end
abbrev xO(a C:Addr):HO:=.ext (nt a C)
abbrev xA(a C dx:Addr):HO:=.ext (uq a C dx)
abbrev dO(a:Addr):HO:=.ext (KitAt a "dict")
inductive lq(K:Frag)(H:Hp):V->Value->Prop where
 |C_ {a:Addr} (y:H a=some (dO a)):lq K H (.ref a) (.type "dict")
 |of {x:V} {t:Value} (y:eV K H x t):lq K H x t
 |exc {a C:Addr} (y:H a=some (xO a C)) (c:iI K C):lq K H (.ref a) (.ref C)
 |C' {a C dx:Addr} (y:H a=some (xA a C dx)) (c:iI K C):lq K H (.ref a) (.ref C)
abbrev v_:V->Option Value
 |.ty n=>some (.type n)
 |.ref C=>some (.ref C)
 |_=>none
abbrev Aa9(K:Frag):List V->Hp->VK->Prop:=fun xs H Q=>∃x c cv t b,xs=[x,c]/\v_ c=some cv/\lq K H x t/\kitOne K t cv=some b/\Q (.bl b) H
theorem Tl:CG X (.builtin "isinstance") (Aa9 X.K):=by
 intro pins s U H xs us Q I r h
 obtain⟨x,c,cv,t,b,rfl,hc,ty,e,q⟩:=h
 obtain⟨u,w',rfl,ru,qB⟩:=Pt r
 have ec:w'=cv:=by
  cases c with
  |ty n=>cases hc;exact qB
  |ref C=>cases hc;exact qB
  |_=>cases hc
 subst ec
 have fin:∀tk,EP X pins U Q (.bool b) {s with toks:=tk}:=fun tk=>⟨.bl b,H,I.tok tk,rfl,q⟩
 cases ty with
 |@C_ a y=>
  cases (show u=Value.ref a from ru)
  exact kia_one kitx_dict I.gB (I.aI a _ y).1 e (fun z=>nomatch z) fin
 |of y=>exact QY I ru y e fin
 |@exc a C y c=>
  cases (show u=Value.ref a from ru)
  exact kia_one (MC c) I.gB (I.aI a _ y).1 e (fun z=>nomatch z) fin
 |@C' a C dx y c=>
 cases (show u=Value.ref a from ru)
 exact kia_one (MC c) I.gB (show uq a C dx s.heap from(I.aI a _ y).1).at e (fun z=>nomatch z) fin
abbrev XT:V->List V->Hp->VK->Prop:=fun x xs H Q=>∃(a:Addr)(bs:List Bool)(k:Bool),x=.ref a/\xs=[.bl k]/\Rd H a (.lst (bs.map V.bl))/\Q (.int ((bs.filter (·==k)).length:Nat)) H
theorem JI:∀{bs:List Bool}{ah:List Value},Vals (bs.map V.bl) ah->ah=bs.map Value.bool
 |[],ah,h=>by cases h;rfl
 |C::r,ah,h=>by
  cases h with
  |cons h1 h2=>
  rw[JI (bs:=r) h2]
  cases (show _=Value.bool C from h1)
  rfl
theorem HH(k:Bool):∀bs:List Bool,(bs.map Value.bool).countP (isBoolOf k)=(bs.filter (·==k)).length
 |[]=>rfl
 |b::r=>by
  rw[cT,List.countP_cons,HH k r,rd]
  show _+(if(b==k)=true then 1 else 0)=_
  cases b==k<;>simp
theorem Tm:pd X "list.count" XT:=by
 intro pins s U H x xs v us Q I rx rv h
 obtain⟨a,bs,k,rfl,rfl,hR,q⟩:=h
 cases rx
 obtain⟨u,rfl,ru⟩:=rv.one
 cases (show u=Value.bool k from ru)
 obtain⟨ah,n,rel,dd,sl,ho⟩:∃(ah:List Value)(n:Nat),Vals (bs.map V.bl) ah/\∃dd sl,s.heap.get? a=some {cls:=.type "list",dict:=dd,data:=.seq ah.toArray n,slots:=sl}:=by
  rcases hR with e|⟨o,e⟩
  ·obtain⟨_,ah,n,r,e⟩:=I.aI a _ e
   exact⟨ah,n,r,_,_,e⟩
  obtain⟨_,_,ah,n,r,e⟩:=I.aI a _ e
  exact⟨ah,n,r,_,_,e⟩
 cases JI rel
 refine call_meets PySem.F.slot_list_count ⟨_,ho,rfl⟩ PySem.F.entry_list_count (PySem.F.args_list_count_2 _ _) (PySem.SeqAt.list_countAt a _ n dd sl (.bool k) (isBoolOf k)) ⟨ho,fun y hy=>?_,?_⟩
 ·have:y∈bs.map Value.bool:=by simpa using hy
  obtain⟨b,_,rfl⟩:=a8.mp this
  exact PySem.SeqAt.EqAt.bool_bool b k
 show EP X pins U Q (.int (((bs.map Value.bool).countP (isBoolOf k):Nat):Int) s.toks) _
 rw[HH]
 exact⟨.int _,H,I.tok _,⟨_,rfl⟩,q⟩
abbrev DK(h h':Heap):Prop:=∀b o,h.get? b=some o->∃o',h'.get? b=some o'/\o'.dict=o.dict
theorem DK.refl(h:Heap):DK h h:=fun b o e=>⟨o,e,rfl⟩
theorem DK.trans(a:DK h h1)(b:DK h1 h2):DK h h2:=fun x o e=>by
 obtain⟨o1,e1,d1⟩:=a x o e
 obtain⟨o2,e2,d2⟩:=b x o1 e1
 exact⟨o2,e2,d2.trans d1⟩
inductive Tame{α:Type}:Sem α->Prop
 |pure (a:α):Tame (.pure a)
 |raise (e:Value):Tame (.raise e)
 |unsupported (x:String):Tame (.unsupported x)
 |rule {x:String} {k:Unit->Sem α} (h:∀u,Tame (k u)):Tame (.rule x k)
 |at {p:Pos} {k:Unit->Sem α} (h:∀u,Tame (k u)):Tame (.at p k)
 |load {a:Addr} {x:Option Value} {k:Obj->Sem α} (h:∀u,Tame (k u)):Tame (.load a x k)
 |update {a:Addr} {x:Option Value} {f:Obj->Obj} {k:Unit->Sem α} (d:∀o,(f o).dict=o.dict) (fr:∀o,o.isFreed=false->(f o).isFreed=false) (h:∀u,Tame (k u)):Tame (.update a x f k)
 |alloc {o:Obj} {k:Addr->Sem α} (h:∀u,Tame (k u)):Tame (.alloc o k)
 |point {l:List Value} {k:Unit->Sem α} (h:∀u,Tame (k u)):Tame (.point l k)
 |fresh {k:Tok->Sem α} (h:∀u,Tame (k u)):Tame (.fresh k)
 |ask {k:Setting->Sem α} (h:∀u,Tame (k u)):Tame (.ask k)
 |handled {o:Bool} {k:Option Value->Sem α} (h:∀u,Tame (k u)):Tame (.handled o k)
 |register {a:Addr} {k:Unit->Sem α}:Tame (.register a k)
 |loadIfAlive {a:Addr} {k:Option Obj->Sem α} (h:∀u,Tame (k u)):Tame (.loadIfAlive a k)
 |stack {k:List (Code×Pos)->Sem α} (h:∀u,Tame (k u)):Tame (.stack k)
theorem Tame.bind{α β:Type}{t:Sem α}{f:α->Sem β}(h:Tame t)(hf:∀a,Tame (f a)):Tame (t >>= f):=by
 induction h with
 |pure a=>exact hf a
 |raise e=>exact .raise e
 |unsupported x=>exact .unsupported x
 |rule _ ih=>exact .rule ih
 |«at» _ ih=>exact .at ih
 |load _ ih=>exact .load ih
 |update d fr _ ih=>exact .update d fr ih
 |alloc _ ih=>exact .alloc ih
 |point _ ih=>exact .point ih
 |fresh _ ih=>exact .fresh ih
 |ask _ ih=>exact .ask ih
 |handled _ ih=>exact .handled ih
 |register=>exact .register
 |loadIfAlive _ ih=>exact .loadIfAlive ih
 |stack _ ih=>exact .stack ih
theorem Tame.wp{α:Type}{Q:α->Pos->Shared->Prop}{E:Value->Pos->Shared->Prop}{t:Sem α}(h:Tame t):∀{p:Pos}{s:Shared},Sem.wp M Γ t Q E p s->Sem.wp M Γ t (fun a p' s'=>Q a p' s'/\DK s.heap s'.heap) (fun e p' s'=>E e p' s'/\DK s.heap s'.heap) p s:=by
 have up:∀{α:Type}{t:Sem α}{Q:α->Pos->Shared->Prop}{E:Value->Pos->Shared->Prop}{p:Pos}{s:Shared}{h:Heap},DK h s.heap->Sem.wp M Γ t (fun a p' s'=>Q a p' s'/\DK s.heap s'.heap) (fun e p' s'=>E e p' s'/\DK s.heap s'.heap) p s->Sem.wp M Γ t (fun a p' s'=>Q a p' s'/\DK h s'.heap) (fun e p' s'=>E e p' s'/\DK h s'.heap) p s :=
  fun d z=>Sem.wp_mono M Γ _ (fun _ _ _ q=>⟨q.1,d.trans q.2⟩) (fun _ _ _ q=>⟨q.1,d.trans q.2⟩) _ _ z
 induction h with
 |pure a=>intro p s z;exact⟨z,DK.refl _⟩
 |raise e=>intro p s z;exact⟨z,DK.refl _⟩
 |unsupported x=>intro p s z;exact z
 |rule _ ih=>intro p s z;exact ih _ z
 |«at» _ ih=>intro p s z;exact ih _ z
 |load _ ih=>intro p s ⟨o,e,z⟩;exact⟨o,e,ih _ z⟩
 |@update a x f k d fr _ ih=>
  intro p s ⟨e,z⟩
  refine⟨e,up (h:=s.heap) ?_ (ih _ z)⟩
  intro b o q
  by_cases c:b=a
  ·subst c
   have hf:=(Heap.get?_some_iff.mp q).2
   exact⟨f o,Heap.get?_update_self _ q (fr o hf),d o⟩
  exact⟨o,(Heap.get?_update_ne _ _ _ _ c).trans q,rfl⟩
 |@alloc o k _ ih=>
  intro p s z
  show Sem.wp M Γ (k s.heap.objs.size) _ _ p {s with heap:=s.heap.push o}
  refine up (h:=s.heap) ?_ (ih _ z)
  exact fun b o q=>⟨o,Heap.get?_push_of_some _ q,rfl⟩
 |point _ ih=>intro p s z;exact ih _ z
 |fresh _ ih=>intro p s z;exact ih _ z
 |ask _ ih=>intro p s z;exact ih _ z
 |handled _ ih=>intro p s z;exact ih _ z
 |register=>intro p s z;exact z
 |loadIfAlive _ ih=>intro p s z;exact ih _ z
 |stack _ ih=>intro p s z;exact ih _ z
theorem Tame.any{α:Type}{Q:α->Shared->Prop}{E:Value->Shared->Prop}{t:Sem α}(h:Tame t)(z:wpAny M A t Q E s):wpAny M A t (fun a s'=>Q a s'/\DK s.heap s'.heap) (fun e s'=>E e s'/\DK s.heap s'.heap) s:=fun Γ p hΓ=>h.wp (z Γ p hΓ)
theorem B6:Tame (load a):=.load fun _=>.pure _
theorem Bg:Tame (loadPart a x):=.load fun _=>.pure _
theorem B8:Tame (alloc o):=.alloc fun _=>.pure _
theorem B9:Tame stack:=.stack fun _=>.pure _
theorem Bh:Tame (register a):=.register
theorem BL{α:Type}:Tame (unsupported x:Sem α):=.unsupported _
theorem CM{α:Type}{x:α}:Tame (pure x:Sem α):=.pure _
theorem CN:Tame (rule x):=.rule fun _=>.pure _
theorem Ra(f:Array Value->Array Value)(o:Obj):(Obj.mapFields f o).dict=o.dict:=by
 obtain⟨c,d,dt,sl⟩:=o
 cases dt<;>rfl
theorem Rb(f:Array Value->Array Value)(o:Obj)(h:o.isFreed=false):(Obj.mapFields f o).isFreed=false:=by
 obtain⟨c,d,dt,sl⟩:=o
 cases dt<;>first|rfl|exact h
theorem CO{f:Array Value->Array Value}:Tame (update a (Obj.mapFields f)):=.update (Ra f) (Rb f) fun _=>.pure _
theorem Hb{i:Nat}:Tame (field v i):=by
 unfold field fieldsOf
 repeat' (first|exact B6|exact Bg|exact B8|exact B9|exact Bh|exact BL|exact CM|exact CN|exact CO|assumption|refine Tame.bind ?_ fun _=>?_|split|(intro _)|(dsimp only))
theorem Jd{i:Nat}:Tame (updateField a i x):=by
 unfold updateField
 repeat' (first|exact B6|exact Bg|exact B8|exact B9|exact Bh|exact BL|exact CM|exact CN|exact CO|assumption|refine Tame.bind ?_ fun _=>?_|split|(intro _)|(dsimp only))
theorem Ht{i:Nat}:Tame (setField v i x):=by
 unfold setField
 split
 ·exact Jd
 exact BL
theorem Kr:Tame (newFields x vs):=by
 unfold newFields newObj newObjAsIs classHasDel
 repeat' (first|exact B6|exact Bg|exact B8|exact B9|exact Bh|exact BL|exact CM|exact CN|exact CO|assumption|refine Tame.bind ?_ fun _=>?_|split|(intro _)|(dsimp only))
theorem Ks:Tame frameEnvs:=by
 unfold frameEnvs
 repeat' (first|exact B6|exact Bg|exact B8|exact B9|exact Bh|exact BL|exact CM|exact CN|exact CO|assumption|refine Tame.bind ?_ fun _=>?_|split|(intro _)|(dsimp only))
theorem LJ{env:Env}{b:Bool}{l:List Env}:Tame (keptBack env b l):=by
 cases l with
 |nil=>unfold keptBack underTheClaimsCaller;repeat' (first|exact B6|exact Bg|exact B8|exact B9|exact Bh|exact BL|exact CM|exact CN|exact CO|assumption|refine Tame.bind ?_ fun _=>?_|split|(intro _)|(dsimp only))
 |cons c l=>exact .pure _
theorem NW:Tame (behindIsImport env l):=by
 have:=@Hb env.code 12
 unfold behindIsImport
 repeat' (first|exact B6|exact Bg|exact B8|exact B9|exact Bh|exact BL|exact CM|exact CN|exact CO|assumption|refine Tame.bind ?_ fun _=>?_|split|(intro _)|(dsimp only))
theorem JJ:∀l:List Env,Tame (readyFrames l)
 |[]=>.pure _
 |env::outer=>by
  have h1:=JJ outer
  have h2:=@NW env outer
  have h3:=fun b=>@LJ env b outer
  unfold readyFrames
  split
  ·refine Tame.bind B6 fun o=>?_
   split
   ·exact .pure _
   exact Tame.bind h2 fun b=>Tame.bind (h3 b) fun v=>Tame.bind (.update (fun _=>rfl) (fun o h=>by obtain⟨c,d,dt,sl⟩:=o;cases dt<;>first|rfl|exact h) fun _=>.pure _) fun _=>h1
  exact BL
theorem MD:Tame (PySem.frameOf env):=by
 have h1:=Ks
 unfold PySem.frameOf
 refine Tame.bind h1 fun l=>?_
 refine Tame.bind ?_ fun o=>?_
 ·cases List.dropWhile (fun x=>x.frame != env.frame) l with
  |nil=>exact .pure _
  |cons e r=>unfold frameObject;exact Tame.bind (JJ _) fun _=>.pure _
 cases o<;>first|exact .pure _|exact .unsupported _
theorem PB{b:Bool}:Tame (entryPlaceOf f b):=by
 unfold entryPlaceOf
 repeat' (first|exact B6|exact Bg|exact B8|exact B9|exact Bh|exact BL|exact CM|exact CN|exact CO|assumption|refine Tame.bind ?_ fun _=>?_|split|(intro _)|(dsimp only))
theorem Ep:Tame (setFlight e f):=by
 have h1:=@Hb e 1
 have h2:=fun v x=>@Ht v x 3
 unfold setFlight
 refine Tame.bind h1 fun v=>?_
 split
 ·exact h2 _ _
 exact .pure _
theorem GN:Tame (noteFrame e env):=by
 have h1:=fun v i=>@Hb v i
 have h2:=fun v x i=>@Ht v x i
 have h3:=MD (env:=env)
 have h4:=fun f b=>@PB f b
 unfold noteFrame
 split
 ·refine Tame.bind (h1 _ _) fun v=>?_
  have h5:∀f,Tame (do setField e 1 (<- EntryCells.newEntry v (<- PySem.frameOf env) .none (rawInt f) .none (<- entryPlaceOf f (v != .none)))):=fun f=>Tame.bind h3 fun _=>Tame.bind (h4 _ _) fun _=>Tame.bind Kr fun _=>h2 _ _ _
  dsimp only
  split
  ·refine Tame.bind (h1 _ _) fun v=>?_
   split
   ·exact .pure _
   exact Tame.bind (h2 _ _ _) fun _=>h5 _
  exact h5 _
 exact BL
theorem ME:Tame (leaving env e):=Tame.bind GN fun _=>Ep
theorem bf.there(x:bf P w H h a o):∃ob,h.get? a=some ob:=by
 induction o with
 |lst xs=>obtain⟨_,_,_,_,e⟩:=x;exact⟨_,e⟩
 |tup xs=>obtain⟨_,_,_,ob,e,_⟩:=x;exact⟨_,e⟩
 |dK cF=>obtain⟨_,_,_,_,ob,_,_,e,_⟩:=x;exact⟨_,e⟩
 |dT cF=>obtain⟨_,_,_,_,ob,_,_,e,_⟩:=x;exact⟨_,e⟩
 |set S n=>obtain⟨ob,_,_,_,e,_⟩:=x;exact⟨_,e⟩
 |ins C dx fs=>obtain⟨_,_,_,e,_⟩:=x;exact⟨_,e⟩
 |own y=>exact x
 |xd fs=>obtain⟨_,⟨od,_,_,e,_⟩,_⟩:=x;exact⟨_,e⟩
 |t_ lo hi=>obtain⟨_,_,_,e⟩:=x;exact⟨_,e⟩
 |fh ob u _=>exact⟨_,x.1⟩
 |i6 ps=>exact⟨_,x⟩
 |met f y=>exact⟨_,x⟩
 |ext φ=>exact x.2.1
theorem dj.hide(x:dj P w H h)(hf:∀b∈fs,H b=none):dj P w H (hideAll h fs):=fun a o e=>
 (x a o e).gA (fun b u hb q=>hideAll_get _ q fun z=>by
  have n:=hf b z
  rcases hb with rfl|hb
  ·rw[n]at e;cases e
  rw[n]at hb;cases hb) (fun _ q=>q) fun _ _ q=>q
abbrev cX(P:Program)(w:World):jU:=fun outer H s E ev s'=>∃(e:Addr)(cls a0:Value)(H':Hp)(B:Heap)(od:Option Addr),ev=.ref e/\s'.os=s.os/\AllBare s'.gens/\Heap.FlyingW B outer e cls a0 s'.heap/\dj P w H' B/\H' e=none /\
 (∀b o,s.heap.get? b=some o->H b=none->b∉bK outer->B.get? b=some o)/\(∀b o,s.heap.get? b=some o->H b=none->b∈bK outer->∃sl,s'.heap.get? b=some {o with slots:=sl}) /\
 (∀b o,s.heap.get? b=some o->H b=none->H' b=none)/\(∀b o,s.heap.get? b=some o->b∉bK outer->∃o',B.get? b=some o') /\
 (∀b xs,H b=some (.tup xs)->H' b=some (.tup xs))/\(∀b o u,H b=some (.fh o u)->H' b=some (.fh o u))/\(∀b ps,H b=some (.i6 ps)->∃more,H' b=some (.i6 (ps++more)))/\(∀dx,od=some dx->∃oe,s'.heap.get? e=some oe/\oe.dict=some dx)/\E cls od H'
abbrev PD(X:Cx)(E:XK):Prop:=∀(pins:List (Addr×Obj))(U:St)(H:Hp)(s:Shared)(h':Heap)(e C:Addr)(vs:List Value),Inv X pins U H s->Heap.MadeExcOf s.heap h' e (.ref C) vs->E (.ref C) none H->X.xe (.ref e) {s with heap:=h'}
section
variable{P:Program}{w:World}{K:Frag}{mg:Str->Option Value}{base:Heap}{N:List Str}{qual:Str}{scope:Scope}{f:Addr}{cd:Value}{A:Around}{outer:List Env}{aG:Shared}{bT:Hp}{E E':XK}
theorem Tn(hE:∀c d H,E c d H->E' c d H):PD (Bo (cX P w) P w K mg base N qual scope f cd A outer aG bT E') E:=by
 intro pins U H s h' e C vs I hx he
 show wpAny _ _ (leaving _ (.ref e)) _ _ _
 have jJ:∀env∈(Bo (cX P w) P w K mg base N qual scope f cd A outer aG bT E').stack,∀b,env.frame=some b->b∈bK (Bo (cX P w) P w K mg base N qual scope f cd A outer aG bT E').stack:=fun env h b hb=>gZ.mpr ⟨env,h,hb⟩
 have hB:=I.aI.hide I.fI
 have rZ:=funFrames_hide I.stack jJ
 have en:H e=none:=by
  cases q:H e with
  |none=>rfl
  |some o=>obtain⟨ob,z⟩:=(I.aI e o q).there;rw[hx.new]at z;cases z
 refine wpAny_leaves_madeW (base:=hideAll s.heap (bK (Bo (cX P w) P w K mg base N qual scope f cd A outer aG bT E').stack)) I.ok.frames rfl (fun b o q=>of_hideAll _ q) rZ hx fun h2 t fl _ _ up=>?_
 have sub:∀b∈bK outer,b∈bK (Bo (cX P w) P w K mg base N qual scope f cd A outer aG bT E').stack:=fun b hb=>by
  obtain⟨env,h1,h2⟩:=gZ.mp hb
  exact gZ.mpr ⟨env,aL _ h1,h2⟩
 have wa:∀b o,aG.heap.get? b=some o->b≠aG.heap.objs.size:=fun b o q z=>by
  have:=Heap.lt_size q
  exact iY _ (z▸this)
 have jW:∀b o,aG.heap.get? b=some o->b∉bK outer->b∉bK (Bo (cX P w) P w K mg base N qual scope f cd A outer aG bT E').stack:=fun b o q hb z=>by
  obtain⟨env,h1,h2⟩:=gZ.mp z
  rcases bB.mp h1 with rfl|h1
  ·exact wa b o q (Option.some.inj h2).symm
  exact hb (gZ.mpr ⟨env,h1,h2⟩)
 have nx:∀b:Addr,b∉(Bo (cX P w) P w K mg base N qual scope f cd A outer aG bT E').ex:=fun b z=>absurd (show b∈([]:List Addr) from z) (by simp)
 refine⟨e,.ref C,.ref t,H,_,none,rfl,I.os,I.bare,fl,hB,en,fun b o q n hb=>hideAll_get _ (I.base.keep b o q n hb (nx b)) (jW b o q hb),fun b o q n hb=>?_,fun b o q n=>I.base.free b o q n (nx b),fun b o q hb=>?_,I.base.bO,I.base.bI,I.base.bP,(fun _ z=>nomatch z),hE _ _ _ he⟩
 ·obtain⟨sl,e1⟩:=I.base.slot b o q n hb (nx b)
  obtain⟨⟨hn,o2,gT,jX⟩⟩:=And.intro (I.stack.mem (sub b hb)) trivial
  rw[e1]at gT
  cases gT
  obtain⟨nu,e2⟩:=up b _ (hx.keeps b _ e1) jX
  exact⟨nu,e2⟩
 obtain⟨o',e1⟩:=I.base.there b o q (nx b)
 exact⟨o',hideAll_get _ e1 (jW b o q hb)⟩
theorem Z3(hE:∀c d H,E c d H->E' c d H):XJ (cX P w) (Bo (cX P w) P w K mg base N qual scope f cd A outer aG bT E') E:=by
 intro pins U H s ev s' I h
 obtain⟨e,cls,a0,H',B,od,rfl,ho,hg,fl,aI,en,keep,slot,free,there,bO,bI,bP,lu,he⟩:=h
 show wpAny _ _ (leaving _ (.ref e)) _ _ _
 refine wpAny_mono (ME.any (wpAny_leaves_onW (Q:=fun _ s2=>∃h2,s2={s' with heap:=h2}/\Heap.FlyingW B outer e cls a0 h2/\s'.heap.UpToSlots h2) (base:=B) I.ok.frames rfl fl fun h2 r6 up=>⟨h2,rfl,r6,up⟩)) (fun _ s2 q2=>?_) fun _ _ z=>z.1
 obtain⟨⟨h2,rfl,r6,up⟩,dk⟩:=q2
 have sub:∀b∈bK outer,b∈bK (Bo (cX P w) P w K mg base N qual scope f cd A outer aG bT E').stack:=fun b hb=>by
  obtain⟨env,h1,h2⟩:=gZ.mp hb
  exact gZ.mpr ⟨env,aL _ h1,h2⟩
 have jW:∀b o,aG.heap.get? b=some o->b∉bK outer->b∉bK (Bo (cX P w) P w K mg base N qual scope f cd A outer aG bT E').stack:=fun b o q hb z=>by
  obtain⟨env,h1,h2⟩:=gZ.mp z
  rcases bB.mp h1 with rfl|h1
  ·exact iY _ ((Option.some.inj h2).symm▸Heap.lt_size q)
  exact hb (gZ.mpr ⟨env,h1,h2⟩)
 have nx:∀b:Addr,b∉(Bo (cX P w) P w K mg base N qual scope f cd A outer aG bT E').ex:=fun b z=>absurd (show b∈([]:List Addr) from z) (by simp)
 have pB:∀b o,s'.heap.get? b=some o->b∈bK (Bo (cX P w) P w K mg base N qual scope f cd A outer aG bT E').stack->∃sl,h2.get? b=some {o with slots:=sl}:=fun b o q hb=>by
  obtain⟨hn,o2,gT,jX⟩:=fl.2.2.1.mem hb
  rw[q]at gT
  cases gT
  exact up b _ q jX
 refine⟨e,cls,a0,H',B,od,rfl,ho.trans I.os,hg,r6,aI,en,fun b o q n hb=>keep b o (I.base.keep b o q n hb (nx b)) (I.base.free b o q n (nx b)) (jW b o q hb),fun b o q n hb=>?_,
  fun b o q n=>?_,fun b o q hb=>?_,fun b xs q=>bO b xs (I.base.bO b xs q),fun b o u q=>bI b o u (I.base.bI b o u q),fun b ps q=>?_,fun dx z=>(by obtain⟨oe,q1,q2⟩:=lu dx z;obtain⟨o',q3,q4⟩:=dk e oe q1;exact⟨o',q3,q4.trans q2⟩),hE _ _ _ he⟩
 ·obtain⟨sl,e1⟩:=I.base.slot b o q n hb (nx b)
  obtain⟨sl1,e2⟩:=slot b _ e1 (I.base.free b o q n (nx b)) (sub b hb)
  obtain⟨nu,e3⟩:=pB b _ e2 (sub b hb)
  exact⟨nu,e3⟩
 ·obtain⟨o',e1⟩:=I.base.there b o q (nx b)
  exact free b o' e1 (I.base.free b o q n (nx b))
 ·obtain⟨o',e1⟩:=I.base.there b o q (nx b)
  exact there b o' e1 (jW b o q hb)
 obtain⟨m1,e1⟩:=I.base.bP b ps q
 obtain⟨m2,e2⟩:=bP b _ e1
 exact⟨m1++m2,by rw[e2,Array.append_assoc]⟩
end
section
variable{X:Cx}{C:Addr}{x:Str}{e:Expr}{es:List Expr}{t:TA}{E:XK}{np eW pos:Pos}
@[reducible]def Gz:List Value:=[.type "ValueError",.type "Exception",.type "BaseException",.type "object"]
theorem XU(KX:X.K.In h)(G:h.Ns mainGlobals X.mg)(B:∃mb,h.Ns builtinsNs mb/\∀x:Str,x≠"__name__" -> mb x=bootBuiltins x)(L:h.NoLimit)(hm:nsIn X.K mainGlobals x=some (some (.ref C)))(hC:excIn X.K C Gz "ValueError.__new__" = true) :
  OwnCls x C Gz "ValueError.__new__" X.mg h:=by
 obtain⟨mb,Bn,hb⟩:=B
 obtain⟨o,es,ep,ho,hd,hs,hf⟩:=id G
 have T:TopRead default (es.toList.filterMap fun d=>match d.key with|.str n _=>some n|_=>none) X.mg mb h:=⟨G,Bn,L,hb,fun y _ hy _ _ _=>by
  rw[<- hf y]
  unfold nsFind findBy
  rw[Option.map_eq_none_iff,Array.find?_eq_none]
  intro d hm D_
  obtain⟨n,tk,ek⟩:=hs d hm
  rw[ek]at D_
  have en:n=y:=by simpa[Value.isStr] using D_
  exact hy (gZ.mpr ⟨d,by simpa using hm,by rw[ek,en]⟩)⟩
 exact own_of_in KX T hm hC
theorem To(hw:PD X E)(hc:X.calm=true)(hg:Gl X x)(hn:nsIn X.K mainGlobals x=some (some (.ref C)))(hC:excIn X.K C Gz "ValueError.__new__" = true)(ha:PA X (e::es) t)(hd:(x==("__debug__" : Str))=false:=by decide)
  (he:starEach (e::es) X.env=(false,eval e X.env)::starEach es X.env:=by rfl) (dw:(backTo eW (starEach es X.env)).any (·.1)=false:=by rfl) :
  PS X (.Raise (some (.Call (.Name x np) (e::es) [] eW)) none pos) (fun D U H=>t U H fun vs H1=>vs.length<=sizeLine/\E (.ref C) none H1):=by
 intro pins s U H D I h
 have O:=XU (X:=X) I.mod.uc I.mod.glob I.mod.blt I.mod.nolimit hn hC
 obtain⟨bm,N',nm,q,bs,hdct,sn,sub,ab,col,dd,k0,k1,k2,k3,k5,mN,hCo,hN,hni,T⟩:=O.obj
 refine wpAny_Raise_call_subT (nm:=nm) (q:=q) (N:=N') (bs:=bs) (bm:=bm) (hdct:=hdct) (sn:=sn) (sub:=sub) (ab:=ab) (col:=col) (dd:=dd) (k0:=k0) (k1:=k1) (k2:=k2) (k3:=k3) (k5:=k5) PySem.F.excBase_ValueError (mN:=mN) (T.hasType rfl) (I.ok.hd hc) (by rw[he];exact dw) hni (Ir I hg O.bound ⟨rfl,?_⟩ hd)
 have h2:=ha eW pins s U H _ I h
 rw[he]at h2 ⊢
 exact Calls.evalArgs_plain (aW h2 fun us s1 ⟨vs,H1,I1,r,q⟩=>⟨rfl,r.length▸q.1,I1.bk _ _ hCo,hN.keeps I1.bk,T.keeps I1.bk,fun h' ex hx=>hw pins U H1 s1 h' ex C us I1 hx q.2⟩)
end
@[reducible]noncomputable def cG:=St->XK
abbrev E5(CX:jU)(X:Cx)(E:cG):Prop:=∀(pins:List (Addr×Obj))(U:St)(H:Hp)(s:Shared)(e:Value)(s':Shared),Inv X pins U H s->CX X.stack H s (E U) e s'->X.xe e s'
abbrev Rc(sp:Sp)(qC:List V)(E:cG)(t:TA):TE:=fun U H Q=>t U H fun vs H1=>sp (vs++qC) H1 Q (E U)
section
variable{X:Cx}{CX:jU}{k:Nat}{f:Addr}{fd:FuncData}{ps:List Str}{sp:Sp}{qC:List V}{ds:List Value}{E:cG}{x:Str}{p pos:Pos}{e:Expr}{es:List Expr}{t:TA}
theorem Tp(F:dQ X.prog X.w X.K X.mg X.base CX k f fd ps sp)(hr:b_ k X.A)(hg:Gl X x)(hm:X.mg x=some (.ref f))(hk:PySem.W.keepIn X.K (.ref f)=true)(hb:Binds X.K fd ps ds)(hd:Vals qC ds)(hx:E5 CX X E)
  (ha:PA X (e::es) t) (la:(x==("__debug__" : Str))=false:=by decide) (he:starEach (e::es) X.env=(false,eval e X.env)::starEach es X.env:=by rfl) (dw:(backTo pos (starEach es X.env)).any (·.1)=false:=by rfl) :
  PE X (.Call (.Name x p) (e::es) [] pos) (Rc sp qC E t):=by
 intro pins s U H Q I h
 refine wpAny_Call_Name_kw (Ir I hg hm ?_ la)
 refine PySem.W.callWith_K (h₀:=X.base) I.ok.mod.uc hk (aW (ha pos pins s U H _ I h) fun us s1 ⟨vs,H1,I1,r,q⟩=>⟨I1.gB,?_⟩) he dw
 have r2:Vals (vs++qC) (us++ds):=r.append hd
 have hl:(us++ds).length=ps.length:=r2.length▸F.len _ _ _ _ q
 refine wpAny_call (codeAny_mono (F.run X.A X.stack s1 H1 ⟨us,[]⟩ (us++ds) (vs++qC) Q (E U) hr I1.vV (hb s1 us I1.gB hl) r2 q) fun rr s' hq=>?_)
 rcases rr with ev|fl
 ·exact hx pins U H1 s1 ev s' I1 hq
 cases fl with
 |ret u=>exact I1.after hq
 |next=>exact False.elim hq
 |brk=>exact False.elim hq
 |cont=>exact False.elim hq
end
abbrev Cx.kz(X:Cx)(e:Addr):Cx:={X with A:=X.A.mark (some (.ref e)),calm:=false,xe:=fun _ _=>False}
theorem Cx.Ok.kz{X:Cx}(ok:X.Ok)(e:Addr):(X.kz e).Ok :=
 ⟨ok.mod,ok.kind,ok.glob,ok.blt,ok.above,ok.inj,ok.has,ok.rK,fun z=>(nomatch z),ok.frames,ok.n5,ok.ud,ok.bs,ok.oS,ok.kL,ok.kM,ok.fQ,ok.qx⟩
theorem Inv.kz{X:Cx}{pins:List (Addr×Obj)}{U:St}{H:Hp}{s:Shared}(I:Inv X pins U H s)(e:Addr):Inv (X.kz e) pins U H s:=⟨I.ok.kz e,I.os,I.bare,I.base,I.loc,I.cell,I.free,I.cA,I.pin,I.aI,I.len⟩
theorem Inv.r9(ok:X.Ok)(I:Inv (X.kz e) pins U H s):Inv X pins U H s:=⟨ok,I.os,I.bare,I.base,I.loc,I.cell,I.free,I.cA,I.pin,I.aI,I.len⟩
@[reducible]noncomputable def WT:=Value->Shared->Prop
@[reducible]noncomputable def ur:=List (Addr×Obj)
abbrev qD(e C:Addr):Option Addr->HO
 |none=>xO e C
 |some dx=>xA e C dx
abbrev XV(K:Frag)(c:Value)(i:Nat)(tb:cG->WT->ur->TS)(th:Addr->TS)(te:TS):TS:=fun D U H=>∀(W:WT)(pn:ur),
 tb (fun mQ cls od H1=>∃C,cls=.ref C/\exmOne K (.ref C) c=some true/\∀e,H1 e=none->th e {nx:=fun fj H2=>D.nx (fj.set i none) H2,rt:=D.rt} (mQ.set i (some (.ref e))) (upd H1 e (qD e C od))) W pn {D with nx:=te D} U H
@[reducible]noncomputable def Cx.eY(X:Cx)(W:Value->Shared->Prop)(pn:List (Addr×Obj)):Cx:={X with xe:=W,pn:=pn}
theorem Cx.Ok.eY{X:Cx}(ok:X.Ok)(W:Value->Shared->Prop)(pn:List (Addr×Obj)):(X.eY W pn).Ok :=
 ⟨ok.mod,ok.kind,ok.glob,ok.blt,ok.above,ok.inj,ok.has,ok.rK,ok.hd,ok.frames,ok.n5,ok.ud,ok.bs,ok.oS,ok.kL,ok.kM,ok.fQ,ok.qx⟩
theorem Inv.r_{X:Cx}{pins:List (Addr×Obj)}{U:St}{H:Hp}{s:Shared}(I:Inv X pins U H s)(W:Value->Shared->Prop):Inv (X.eY W (X.pn++pins)) [] U H s :=
 ⟨I.ok.eY W _,I.os,I.bare,I.base,I.loc,I.cell,I.free,I.cA,fun p hp=>I.pin p (by rcases bw.mp hp with z|z;exact z;cases z),I.aI,I.len⟩
theorem Inv.ly{W:Value->Shared->Prop}(ok:X.Ok)(I:Inv (X.eY W (X.pn++pins)) iF U H s):Inv X pins U H s :=
 ⟨ok,I.os,I.bare,I.base,I.loc,I.cell,I.free,I.cA,fun p hp=>I.pin p (eO _ hp),I.aI,I.len⟩
section
variable{X:Cx}{pins:List (Addr×Obj)}{U:St}{H:Hp}{s:Shared}
theorem Inv.landed{s':Shared}{h5 B:Heap}{e C:Addr}{a0:Value}{H':Hp}(I:Inv X pins U H s)(hs:X.stack=X.env::X.outer)(hf:X.env.frame=some X.env.locals)(ho:s'.os=s.os)(hg:AllBare s'.gens)
  (fl:Heap.FlyingW B X.stack e (.ref C) a0 h5) (up:s'.heap.UpToSlots h5) (fl0:Heap.FlyingW B X.stack e (.ref C) a0 s'.heap) (aI:dj X.prog X.w H' B) (en:H' e=none)
  (keep:∀b o,s.heap.get? b=some o->H b=none->b∉bK X.stack->B.get? b=some o) (slot:∀b o,s.heap.get? b=some o->H b=none->b∈bK X.stack->∃sl,s'.heap.get? b=some {o with slots:=sl})
  (free:∀b o,s.heap.get? b=some o->H b=none->H' b=none) (there:∀b o,s.heap.get? b=some o->b∉bK X.stack->∃o',B.get? b=some o')
  (bO:∀b xs,H b=some (.tup xs)->H' b=some (.tup xs)) (bI:∀b o u,H b=some (.fh o u)->H' b=some (.fh o u)) (bP:∀b ps,H b=some (.i6 ps)->∃more,H' b=some (.i6 (ps++more))) {t':Nat} {od:Option Addr} (lu:∀dx,od=some dx->∃oe,h5.get? e=some oe/\oe.dict=some dx) :
  Inv X pins U (upd H' e (qD e C od)) {s' with heap:=h5,toks:=t'}:=by
 have mem:∀b,b∈bK X.stack ↔ b=X.env.locals\/b∈X.fs:=fun b=>by
  rw[hs];unfold bK Cx.fs bK
  rw[oG,hf]
  exact bB
 have pC:∀b o,s.heap.get? b=some o->H b=none->b∈bK X.stack->∃sl,h5.get? b=some {o with slots:=sl}:=fun b o q n hb=>by
  obtain⟨sl,e1⟩:=slot b o q n hb
  obtain⟨_,o2,gT,jX⟩:=fl0.2.2.1.mem hb
  rw[e1]at gT
  cases gT
  obtain⟨nu,e2⟩:=up b _ e1 jX
  exact⟨nu,e2⟩
 have nee:∀b,b∈bK X.stack->b≠e:=fun b hb z=>by
  subst z
  obtain⟨_,o2,gT,jX⟩:=fl.2.2.1.mem hb
  obtain⟨oe,vs,h1,_,h2,_⟩:=fl.first
  rw[h1]at gT
  cases gT
  exact jX vs h2
 have lz:∀b o,H' b=some o->(upd H' e (qD e C od)) b=some o:=fun b o q=>by rw[Av (fun z=>by subst z;rw[en]at q;cases q)];exact q
 have neo:∀b o,s.heap.get? b=some o->H b=none->b≠e:=fun b o q n=>by
  by_cases hb:b∈bK X.stack
  ·exact nee b hb
  intro z;subst z
  have:=keep b o q n hb
  rw[fl.2.1]at this;cases this
 obtain⟨hh,g2,d2,t2,os2⟩:=s'
 obtain rfl:os2=s.os:=ho
 show Inv X pins U _ {s with heap:=h5,gens:=g2,drawn:=d2,toks:=t'}
 refine I.step (h':=h5) (g':=g2) (d':=d2) (t':=t') (ch:=[]) (fun b z=>absurd z (by simp)) (fun b o hb wb _ q n=>fl.1 b o (keep b o q n fun z=>?_)) (fun b o hb wb _ q n=>pC b o q n ((mem b).mpr (.inr wb))) (fun b o _ q n=>?_) (fun b o _ q=>?_)
  (fun b xs q=>lz b _ (bO b xs q)) (fun b o u q=>lz b _ (bI b o u q)) (fun b ps q=>?_) (fun m hn=>?_) ?_ hg
 ·rcases (mem b).mp z with z|z
  ·exact hb z
  exact wb z
 ·rw[Av (neo b o q n)];exact free b o q n
 ·by_cases hb:b∈bK X.stack
  ·have n:H b=none:=I.fI b hb
   obtain⟨sl,e2⟩:=pC b o q n hb
   exact⟨_,e2⟩
  obtain⟨o',e1⟩:=there b o q hb
  exact⟨o',fl.1 b o' e1⟩
 ·obtain⟨m2,e2⟩:=bP b ps q
  exact⟨m2,lz b _ e2⟩
 ·obtain⟨oL,es,ep,vL,hd,hk,hm⟩:=hn
  obtain⟨sl,e2⟩:=pC _ _ vL I.free ((mem _).mpr (.inl rfl))
  exact⟨_,es,ep,e2,hd,hk,hm⟩
 intro b o q
 by_cases hb:b=e
 ·subst hb
  rw[AX]at q
  cases q
  obtain⟨oe,h1,h2⟩:=fl.there
  cases od with
  |none=>exact⟨⟨oe,h1,h2⟩,⟨oe,h1⟩,fun h1 h2 ⟨o,e1,e2⟩ k=>⟨o,k o e1,e2⟩⟩
  |some dx=>
  obtain⟨o',q3,q4⟩:=lu dx rfl
  rw[h1]at q3;cases q3
  obtain⟨oe',vs,f1,_,f2,_⟩:=fl.first
  rw[h1]at f1;cases f1
  exact⟨⟨oe,h1,h2,q4,fun c z=>by rw[f2]at z;cases z⟩,⟨oe,h1⟩,fun h1 h2 ⟨o,e1,e2⟩ k=>⟨o,k o e1,e2⟩⟩
 rw[Av hb]at q
 refine(aI b o q).gA (fun c u _ z=>fl.1 c u z) (fun c z=>lz c _ z) fun c xs z=>lz c _ z
end
@[reducible]noncomputable def Ov(ifs:List Expr)(env:Env):Sem Bool:=forIn ifs true fun c r=>if r=true then do let ok <- isTrue c env (eval c env);pure (ForInStep.yield ok) else pure (ForInStep.yield r)
section
variable{prog:Program}{w:World}{A:Around}{R:Result->Shared->Prop}{s:Shared}{elt tg iter:Expr}{ifs:List Expr}{scope:Scope}{pos:Pos}{it acc:Value}{env:Env}
abbrev BA(env:Env)(names:List (Str×NameKind))(cs:List (Str×Addr)):List (Str×Addr):=names.foldl (fun cs x=>if(x.2==NameKind.free)=true then(x.1,(env.cells.lookup x.1).getD 0)::cs else cs) cs
theorem JK{α β:Type}(f:α->β->Sem (ForInStep β))(g:β->α->β):∀(l:List α)(b:β),(∀x∈l,∀b,f x b=pure (ForInStep.yield (g b x)))->forIn l b f=pure (l.foldl g b)
 |[],b,_=>rfl
 |x::l,b,h=>by
  rw[List.forIn_cons,h x (aP ..) b,rf]
  exact JK f g l (g b x) fun y hy=>h y (aL _ hy)
theorem PF(h:∀x∈scope.names,x.2=.free->(env.cells.lookup x.1).isSome=true):closureFor scope env=pure (BA env scope.names []):=by
 unfold closureFor BA
 dsimp only
 rw[JK _ (fun cs x=>if(x.2==NameKind.free)=true then(x.1,(env.cells.lookup x.1).getD 0)::cs else cs)]
 ·rfl
 rintro⟨n,k⟩ hx cs
 by_cases hk:(k==NameKind.free)=true
 ·obtain⟨c,hc⟩:=jD.mp (h (n,k) hx (beq_iff_eq.mp hk))
  have oW:List.lookup n env.cells=some c:=hc
  dsimp only
  rw[if_pos hk,if_pos hk]
  unfold cellOf
  rw[oW]
  rfl
 dsimp only
 rw[if_neg hk,if_neg hk]
theorem DH(h:∀x∈scope.names,x.2=.free->(env.cells.lookup x.1).isSome=true)(e:(BA env scope.names []).lookup x=some c):env.cells.lookup x=some c:=by
 have gen:∀(l:List (Str×NameKind))(cs:List (Str×Addr)),(∀y∈l,y.2=.free->(env.cells.lookup y.1).isSome=true)->(∀p∈cs,env.cells.lookup p.1=some p.2)->∀p∈BA env l cs,env.cells.lookup p.1=some p.2:=by
  intro l
  induction l with
  |nil=>intro cs _ hc;exact hc
  |cons y l ih=>
  intro cs hl hc
  unfold BA
  rw[rf]
  refine ih _ (fun z hz=>hl z (aL _ hz)) fun p hp=>?_
  split at hp
  ·rename_i hk
   rcases bB.mp hp with rfl|hp
   ·obtain⟨c',oW⟩:=jD.mp (hl y (aP ..) (beq_iff_eq.mp hk))
    show env.cells.lookup y.1=some ((env.cells.lookup y.1).getD 0)
    rw[oW];rfl
   exact hc p hp
  exact hc p hp
 exact gen scope.names [] h (fun p hp=>nomatch hp) (x,c) (PySem.mem_of_lookup e)
theorem JL(hm:(x,NameKind.free)∈scope.names)(h:∀x∈scope.names,x.2=.free->(env.cells.lookup x.1).isSome=true)(e:env.cells.lookup x=some c):(BA env scope.names []).lookup x=some c:=by
 have gen:∀(l:List (Str×NameKind))(cs:List (Str×Addr)),((x,NameKind.free)∈l\/∃d,(x,d)∈cs)->∃d,(x,d)∈BA env l cs:=by
  intro l
  induction l with
  |nil=>intro cs hc;rcases hc with z|z;cases z;exact z
  |cons y l ih=>
  intro cs hc
  unfold BA
  rw[rf]
  refine ih _ ?_
  rcases hc with hc|⟨d,hc⟩
  ·rcases bB.mp hc with rfl|hc
   ·exact .inr ⟨_,by rw[if_pos (by rfl)];exact aP ..⟩
   exact .inl hc
  refine .inr ⟨d,?_⟩
  split
  ·exact aL _ hc
  exact hc
 obtain⟨d,hd⟩:=gen scope.names [] (.inl hm)
 cases q:(BA env scope.names []).lookup x with
 |none=>
  rw[List.lookup_eq_none_iff]at q
  have:=q _ hd
  simp at this
 |some c'=>exact(DH h q).symm.trans e▸rfl
end
@[reducible]noncomputable def Cx.lA(X:Cx)(scope:Scope)(C:Addr)(fp:List Addr)(N:List Str)(s:Shared)(H:Hp):Cx :=
 {X with N:=N,aG:=s,bT:=H,env:=compEnvC scope (BA X.env scope.names []) C X.env,outer:=X.stack,ex:=fp,fn:=fun _=>false,pn:=[],xe:=fun _ _=>False}
abbrev sd(X:Cx)(ifs:List Expr)(t:TT):Prop :=
 ∀(pins:List (Addr×Obj))(s:Shared)(U:St)(H:Hp)(Q:Bool->Hp->Prop),Inv X pins U H s->t U H Q->wpAny (model X.prog X.w) X.A (Ov ifs X.env) (TP X pins U Q) X.xe s
abbrev UV:TT:=fun _ H Q=>Q true H
theorem Ow:sd X [] UV:=fun _ _ _ H _ I h=>wpAny_tests_nil ⟨H,I,h⟩
theorem Ox(h:PT X c t):sd X [c] t:=fun pins s U H Q I q=>wpAny_tests_one (h pins s U H Q I q)
abbrev DT(nl:Nat)(fr:List Nat)(U:St):St:=aaq nl none++fr.map fun j=>(U[j]?).join
mutual
inductive RD(K:Frag)(H:Hp):V->PyData->Prop where
 |aJ:RD K H .aJ .none
 |bl (b:Bool):RD K H (.bl b) (.bool b)
 |int (i:Int):RD K H (.int i) (.int i)
 |str (x:Str):RD K H (.str x) (.str x)
 |lst {a:Addr} {xs:List V} {ds:List PyData} (h:fi K H a xs) (r:lB K H xs ds):RD K H (.ref a) (.list ds)
 |tup {a:Addr} {xs:List V} {ds:List PyData} (h:dP K H a xs) (r:lB K H xs ds):RD K H (.ref a) (.tuple ds)
inductive lB(K:Frag)(H:Hp):List V->List PyData->Prop where
 |nil:lB K H [] []
 |cons {x:V} {xs:List V} {d:PyData} {ds:List PyData} (h:RD K H x d) (r:lB K H xs ds):lB K H (x::xs) (d::ds)
end
section
variable{X:Cx}{pins:List (Addr×Obj)}{U:St}{H:Hp}{s:Shared}
mutual
theorem RD.reads(I:Inv X pins U H s):∀{v:V}{d:PyData}{u:Value},RD X.K H v d->RelV v u->∃as,Reads s.heap u d as
 |_,_,_,.aJ,r=>by cases (show _=Value.none from r);exact⟨_,.none⟩
 |_,_,_,.bl b,r=>by cases (show _=Value.bool b from r);exact⟨_,.bool b⟩
 |_,_,_,.int i,r=>by obtain⟨t,q⟩:=(show ∃t,_=Value.int i t from r);cases q;exact⟨_,.int i t⟩
 |_,_,_,.str x,r=>by obtain⟨t,q⟩:=(show ∃t,_=Value.str x t from r);cases q;exact⟨_,.str x t⟩
 |_,_,_,.lst (a:=a) h rs,r=>by
  cases (show _=Value.ref a from r)
  obtain⟨ah,rv,⟨o,n,hp,hc,_,hd⟩,_⟩:=I.list h
  obtain⟨as,ra⟩:=lB.reads I rs rv
  exact⟨_,reads_list_at hp hc hd (by simpa using ra)⟩
 |_,_,_,.tup (a:=a) h rs,r=>by
  cases (show _=Value.ref a from r)
  obtain⟨ah,rv,⟨o,h1,h2,n,h3⟩,_⟩:=I.tuple h
  obtain⟨as,ra⟩:=lB.reads I rs rv
  exact⟨_,reads_tuple_at h1 h2 h3 (by simpa using ra)⟩
theorem lB.reads(I:Inv X pins U H s):∀{xs:List V}{ds:List PyData}{us:List Value},lB X.K H xs ds->Vals xs us->∃as,ReadsAll s.heap us ds as
 |_,_,_,.nil,.nil=>⟨_,.nil⟩
 |_,_,_,.cons h r,.cons q t=>by
  obtain⟨as,e1⟩:=RD.reads I h q
  obtain⟨bs,e2⟩:=lB.reads I r t
  exact⟨_,.cons e1 e2⟩
end
abbrev XX(K:Frag)(neg:Bool):R2:=fun x y H Q=>∃d e,RD K H x d/\RD K H y e/\SeqAt.shaped d=true/\SeqAt.shaped e=true/\Q (.bl (if neg then !d.eqv e else d.eqv e)) H
theorem XY(hu:X.A.units+64<cLine):cZ X (compareOp .Eq) (XX X.K false):=by
 intro pins s U H x y u w' Q I rx ry h
 obtain⟨d,e,h1,h2,s1,s2,q⟩:=h
 obtain⟨_,r1⟩:=h1.reads I rx
 obtain⟨_,r2⟩:=h2.reads I ry
 exact eq_dataH r1 r2 s1 s2 hu ⟨.bl (d.eqv e),H,I,rfl,q⟩
theorem XZ(hu:X.A.units+64<cLine):cZ X (compareOp .NotEq) (XX X.K true):=by
 intro pins s U H x y u w' Q I rx ry h
 obtain⟨d,e,h1,h2,s1,s2,q⟩:=h
 obtain⟨_,r1⟩:=h1.reads I rx
 obtain⟨_,r2⟩:=h2.reads I ry
 exact ne_dataH r1 r2 s1 s2 hu ⟨.bl (!d.eqv e),H,I,rfl,q⟩
abbrev Z4(K:Frag):List V->Hp->VK->Prop:=fun xs H Q=>∃(l:Addr)(bs:List Bool),xs=[.ref l]/\fi K H l (bs.map V.bl)/\Q (.bl (bs.all id)) H
theorem Kt(bs:List Bool):(dh bs.length).all (fun i=>bs.getD i false)=bs.all id:=by
 induction bs with
 |nil=>rfl
 |cons b r ih=>
 rw[jS,zD,eR,eR,mK,<- ih]
 rfl
theorem Re(hc:X.calm=true):CG X (.builtin "all") (Z4 X.K):=by
 intro pins s U H xs us Q I r h
 obtain⟨l,bs,rfl,hS,q⟩:=h
 obtain⟨u,rfl,ru⟩:=EO r
 cases (show u=Value.ref l from ru)
 obtain⟨ah,rr,p,_⟩:=I.list hS
 have hl:ah.length=bs.length:=by rw[<- rr.length,aF]
 refine call_all_walk (wpAny_pyIter_list p.isList ?_)
 have b8:l≠s.heap.objs.size:=(by obtain⟨_,e,_⟩:=p.isList;exact g_ (Heap.lt_size e))
 refine⟨_,_,_,_,_,_,fun i=>bs.getD i false,rfl,Walks.list (A:=X.A.in1) (I.ok.hd hc) s.heap.objs.size l b8 ah.toArray,?_,?_,?_⟩
 ·exact⟨⟨_,Heap.get?_push_size _ rfl,rfl,rfl⟩,p.isList.push _⟩
 ·intro i v s' Q' E' hP hQ'
  have hv:v=Value.bool (bs.getD i false):=by
   have E_:ah[i]?=some v:=by simpa using hP
   have hi:i<ah.length:=(gP.mp E_).1
   have hx:(bs.map V.bl)[i]?=some (V.bl (bs.getD i false)):=by
    rw[dg,iX,d_ (by omega)]
    rfl
   obtain⟨u,e1,e2⟩:=rr.get hx
   rw[E_]at e1
   cases e1
   exact e2
  subst hv
  exact wpAny_pure hQ'
 intro h' tk hk
 have e:(dh ah.toArray.size).all (fun i=>bs.getD i false)=bs.all id:=by rw[eQ,hl,Kt]
 rw[e]
 exact⟨.bl _,H,I.kept (h':=h') (t':=tk) (fun b o e=>hk b o (fun hm=>by
  have hm':b=s.heap.objs.size:=by simpa using hm
  exact iY _ (hm'▸Heap.lt_size e)) (Heap.get?_push_of_some _ e)),rfl,q⟩
end
section
variable{P:Program}{w:World}{K:Frag}{mg:Str->Option Value}{base:Heap}
theorem n9.okX{x qual:Str}{st:Stmt}{f:Addr}{fd:FuncData}{N ps:List Str}{k:Nat}{sp:Sp}(F:n9 K x qual st f fd)(S:dm N ps (Ar st))(len:∀vs H Q E,sp vs H Q E->vs.length=ps.length)
  (k_:∀(f:Addr)(dy:Value)(A:Around)(outer:List Env)(s:Shared)(H:Hp)(vs:List V)(Q:VK)(E:XK),b_ k (A.deeper (envOfC qual (Ar st) s.heap.objs.size f dy))->sp vs H Q E->
   ∃t,gu (Bo (cX P w) P w K mg base N qual (Ar st) f dy A outer s H E) (A5 st) t/\t {nx:=fun _ H'=>Q .aJ H',rt:=Q} (AL N vs) H):dQ P w K mg base (cX P w) (k+1) f fd ps sp:=by
 obtain⟨oc,od,kV,doc,pm,an,dy,ct,mR,rfl,lk,fS⟩:=F.ex
 exact Z0 lk fS S len fun A outer s H vs Q E hr dC=>k_ f dy A outer s H vs Q E hr dC
abbrev Df(K:Frag)(mg:Str->Option Value)(x:Str)(st:Stmt)(ps:List Str):Prop:=∃f fd,n9 K x x st f fd/\mg x=some (.ref f)/\Binds K fd ps []
abbrev pD(P:Program)(w:World)(K:Frag)(mg:Str->Option Value)(base:Heap)(x:Str)(k:Nat)(ps:List Str)(sp:Sp):Prop :=
 ∃f fd,dQ P w K mg base (cX P w) k f fd ps sp/\mg x=some (.ref f)/\PySem.W.keepIn K (.ref f)=true/\Binds K fd ps []
theorem Z5{h:Heap}{x:Str}{st:Stmt}{ps:List Str}{f:Addr}{oc:Value}{od an:Option Addr}{mR:Array (Option Value)}{kV doc pm dy ct:Value}(X:K.In h)(G:h.Ns mainGlobals mg)(a:nsIn K mainGlobals x=some (some (.ref f)))
  (l:K.lookup f=some ⟨oc,od,.func (PySem.W.fnOf x x (Cr st) (A5 st) (Ar st) .none kV doc pm an dy ct),mR⟩) (c:PySem.W.codeIn K dy x=true) (k:PySem.W.keepIn K (.ref f)=true)
  (hb:∀(kV doc pm:Value)(an:Option Addr)(dy ct:Value)(us:List Value),us.length=ps.length->bindArgs (PySem.W.fnOf x x (Cr st) (A5 st) (Ar st) .none kV doc pm an dy ct) ⟨us,[]⟩=pure (ps.zip us)):Df K mg x st ps:=by
 have F:=Q9 (st:=st) l c k
 exact⟨f,_,F,mg_of X G a,F.binds hb⟩
end
section
variable{X:Cx}{k:Nat}{ps:List Str}{sp:Sp}{E:XK}{EX:cG}{x:Str}{p pos:Pos}{e:Expr}{es:List Expr}{t:TA}
theorem UW(F:pD X.prog X.w X.K X.mg X.base x k ps sp)(hr:b_ k X.A)(hg:Gl X x)(hx:E5 (cX X.prog X.w) X EX)(ha:PA X (e::es) t)(la:(x==("__debug__" : Str))=false:=by decide)
  (he:starEach (e::es) X.env=(false,eval e X.env)::starEach es X.env:=by rfl) (dw:(backTo pos (starEach es X.env)).any (·.1)=false:=by rfl):PE X (.Call (.Name x p) (e::es) [] pos) (Rc sp [] EX t):=by
 obtain⟨f,fd,F,m,kp,b⟩:=F
 exact Tp F hr hg m kp b .nil hx ha la he dw
end
theorem ag.new{H:Hp}{p:Addr}{o:HO}(h:H p=none):ag H (upd H p o):=fun b u e=>by rw[Av (C4 e h)];exact e
theorem Inv.but(I:Inv X pins U H s)(hC:X.aG.heap.objs.size<=C/\C≠X.env.locals/\(∀x c,X.env.cells.lookup x=some c->c≠C)/\(∀p∈X.pn++pins,p.1≠C)/\H C=none/\C∉bK X.stack)
  (hb:Heap.SameBut C s.heap h'):Inv X pins U H {s with heap:=h'}:=by
 obtain⟨h1,h2,h3,h4,h5,h6⟩:=hC
 have same:∀b,b∉[C]->h'.get? b=s.heap.get? b:=fun b z=>hb.2 b (fun e=>z (by simp[e]))
 refine I.kO (s':={s with heap:=h'}) (ch:=[C]) rfl ⟨fun b o e _ _ z=>(same b z).trans e,fun b o e _ _ z=>⟨o.slots,(same b z).trans e⟩,fun b o e n z=>n,fun b o e z=>⟨o,(same b z).trans e⟩,fun _ _ e=>e,fun _ _ _ e=>e,fun _ ps e=>⟨#[],by simpa using e⟩⟩ ?_ I.bare
  (fun b z=>by
   have:b=C:=by simpa using z
   subst this
   exact⟨.inr h1,h2,h3,h4⟩)
 intro b o e
 refine(I.aI b o e).gA (fun c w' hc z=>(hb.2 c ?_).trans z) (fun _ z=>z) fun _ _ z=>z
 rintro rfl
 rcases hc with rfl|hc
 ·rw[h5]at e;cases e
 rw[h5]at hc;cases hc
end L2
end
section
namespace L2
open PySem PySem.Spec PyProof.Rows PySem.W
section
variable{X:Cx}
abbrev X0:V->List V->Hp->VK->Prop:=fun x xs H Q=>∃(a:Addr)(ns:List Int)(v:Int)(j:Nat),x=.ref a/\xs=[.int v]/\Rd H a (.lst (ns.map V.int))/\(ns[j]?=some v/\∀m,m<j->ns[m]?≠some v)/\Q (.int (j:Nat)) H
theorem Go:∀{ns:List Int}{ah:List Value},Vals (ns.map V.int) ah->∀(i:Nat)(y:Value),ah[i]?=some y->∃(x:Int)(t:Tok),ns[i]?=some x/\y=.int x t
 |[],ah,h,i,y,e=>by cases h;simp at e
 |x::r,ah,h,i,y,e=>by
  cases h with
  |cons h1 h2=>
   obtain⟨t,rfl⟩:=h1
   cases i with
   |zero=>exact⟨x,t,rfl,by simpa using e.symm⟩
   |succ i=>exact Go (ns:=r) h2 i y (by simpa using e)
theorem MF:∀{ns:List Int}{ah:List Value},Vals (ns.map V.int) ah->ah.length=ns.length
 |[],ah,h=>by cases h;rfl
 |x::r,ah,h=>by
  cases h with
  |cons h1 h2=>rw[jS,jS,MF (ns:=r) h2]
abbrev VD(k:Int):Value->Bool
 |.int a _=>a==k
 |_=>false
theorem Tq:pd X "list.index" X0:=by
 intro pins s U H x xs v us Q I rx rv h
 obtain⟨a,ns,k,j,rfl,rfl,hR,⟨hj,vX⟩,q⟩:=h
 cases rx
 obtain⟨u,rfl,ru⟩:=rv.one
 obtain⟨tu,rfl⟩:=ru
 obtain⟨ah,n,hz,rel,dd,sl,ho⟩:∃(ah:List Value)(n:Nat),(ns.map V.int).length<=sizeLine/\Vals (ns.map V.int) ah/\∃dd sl,s.heap.get? a=some {cls:=.type "list",dict:=dd,data:=.seq ah.toArray n,slots:=sl}:=by
  rcases hR with e|⟨o,e⟩
  ·obtain⟨hz,ah,n,r,e⟩:=I.aI a _ e
   exact⟨ah,n,hz,r,_,_,e⟩
  obtain⟨_,hz,ah,n,r,e⟩:=I.aI a _ e
  exact⟨ah,n,hz,r,_,_,e⟩
 have hl:=MF rel
 have n_:j<ah.length:=by rw[hl];exact(gP.mp hj).1
 have hz:ns.length<=sizeLine:=by rwa [aF]at hz
 have hs:sizeLine=16777216:=rfl
 refine call_meets PySem.F.slot_list_index ⟨_,ho,rfl⟩ PySem.F.entry_list_index (PySem.F.args_list_index_2 _ _) (PySem.SeqAt.list_indexAt a _ n dd sl (.int k tu) (VD k) j (by simpa using n_) (by omega) ?_ ?_) ⟨ho,fun y hy=>?_,?_⟩
 ·obtain⟨x,t,h1,h2⟩:=Go rel j ah[j] (d_ n_)
  rw[hj]at h1
  cases h1
  rw[zG,h2]
  exact beq_self_eq_true k
 ·intro m hm hmj
  have hm:m<ah.length:=by simpa using hm
  obtain⟨x,t,h1,h2⟩:=Go rel m ah[m] (d_ hm)
  rw[zG,h2]
  show(x==k)=false
  rw[beq_eq_false_iff_ne]
  rintro rfl
  exact vX m hmj h1
 ·have:y∈ah:=by simpa using hy
  obtain⟨i,hi⟩:=zH this
  obtain⟨x,t,_,rfl⟩:=Go rel i y hi
  exact PySem.SeqAt.EqAt.int_int x t k tu
 exact⟨.int _,H,I.tok _,⟨_,rfl⟩,q⟩
end
abbrev Tr(lo c:Int)(n:Nat):It:=⟨fun i _=>i<n,fun i H x H'=>H'=H/\x=.int (lo+i*c),fun i _=>n<=i⟩
theorem NX{P:Program}{w:World}{K:PySem.W.Frag}{tg:Expr}(it:Addr)(lo c:Int)(n:Nat):Turn P w K tg (Tr lo c n) [it] it (fun i h=>IsRangeIter h it (lo+(i:Nat)*c) ((n:Int)-(i:Nat)) c) where
 mem:=by simp
 obj:=fun i h st b hb=>by
  have e:b=it:=by simpa using hb
  subst e
  exact⟨_,st,fun v z=>by
   have z':Data.fields _=Data.cell v:=z
   cases z'⟩
 keep:=fun i h h' st k=>k it (by simp) _ st
 item:=by
  intro X hP hw hK hc i pins s U H E I hf st hg
  subst hP hw hK
  obtain⟨f0,f1,f2,f3,f4,f5⟩:=hf it (by simp)
  have W:=Walks.range (prog:=X.prog) (w:=X.w) (I.ok.hd hc) it lo c n
  refine W.item i s _ _ hg st fun v h' tk hv jc kk=>?_
  obtain⟨t,rfl⟩:=hv
  have I1:Inv X pins U H {s with heap:=h',toks:=tk}:=I.turned (fun b o hb e=>kk b o (by simpa using hb) e) f0 f1 f3 f4 f5
  exact⟨_,rfl,Iu (s:={s with heap:=h',toks:=tk}) (n := "range_iterator") jc rfl rfl (by decide) ⟨.int (lo+i*c),H,I1,⟨t,rfl⟩,⟨rfl,rfl⟩,jc,fun b hb=>(hf b hb).1⟩⟩
 done:=by
  intro X hP hw hK hc i pins s U H E I hf st hg
  subst hP hw hK
  obtain⟨f0,f1,f2,f3,f4,f5⟩:=hf it (by simp)
  exact wpAny_pyNext_range_end (I.ok.hd hc) st (by have:n<=i:=hg;omega) fun h' eb=>⟨rfl,I.turned (t':=s.toks) (fun b o hb e=>eb b o hb e) f0 f1 f3 f4 f5⟩
 self:=fun _ _ _ _ _ st h=>wpAny_pyIter_rangeiter st h
theorem Rf{a b c:Int}(hc:c≠0):0<=Builtin.Range.rangeSize a b c:=by
 unfold Builtin.Range.rangeSize
 split
 ·split
  ·have:=vE (a:=b-a-1) (b:=c) (by omega) (by omega);exact rC this (by decide)
  exact by decide
 split
 ·have:=vE (a:=a-b-1) (b:=-c) (by omega) (by omega);exact rC this (by decide)
 exact by decide
theorem NY{a b c:Int}(ha:-(2^62)<=a)(ha':a<2^62)(hb:-(2^62)<=b)(hb':b<2^62)(hc:-(2^62)<=c)(oW:c<2^62)(h0:c≠0)(hn:(Builtin.Range.rangeSize a b c).toNat<=2^24):Builtin.Range.small a b c=true:=by
 have:=Rf (a:=a) (b:=b) h0
 unfold Builtin.Range.small
 generalize Builtin.Range.rangeSize a b c=n at *
 simp only[Builtin.Range.rangeFitsLong,bg,tZ,decide_eq_true_eq,beq_iff_eq]
 refine⟨⟨⟨⟨⟨by omega,by omega⟩,⟨by omega,by omega⟩⟩,⟨by omega,by omega⟩⟩,⟨by exact rD (by decide) this,by omega⟩⟩,.inr ?_⟩
 split
 ·simp only[bg,decide_eq_true_eq];omega
 simp only[bg,decide_eq_true_eq];omega
section
variable{X:Cx}{tg:Expr}
abbrev Z6(ta:TA):TI:=fun U H R=>ta U H fun vs H1=>∃i j c:Int,vs=[.int i,.int j,.int c]/\(-(2^62)<=i/\i<2^62/\-(2^62)<=j/\j<2^62/\-(2^62)<=c/\c<2^62)/\c≠0/\(Builtin.Range.rangeSize i j c).toNat<=2^24/\R (Tr i c (Builtin.Range.rangeSize i j c).toNat) H1
theorem Rg(hg:Gl X "range")(hm:X.mg "range" = none)(ha:PA X [a,b,d] ta)(hs:starEach [a,b,d] X.env=[(false,eval a X.env),(false,eval b X.env),(false,eval d X.env)])(kq:starEach [b,d] X.env=[(false,eval b X.env),(false,eval d X.env)]) :
  PI X tg (.Call (.Name "range" p) [a,b,d] [] pos) (Z6 ta):=by
 intro pins s U H R I h
 refine Call_ (GL I hg hm boot_range (PyProof.Rows.callWith_type1 (aW (ha pos pins s U H _ I h) fun us s1 ⟨vs,H1,I1,r1,q1⟩=>?_) (by rw[hs,kq]) (by rw[kq];rfl)))
 obtain⟨i,j,c,e,⟨q1,q2,q3,q4,q5,q6⟩,q0,qn,q⟩:=q1
 subst e
 cases r1 with
 |cons r rr=>
  cases rr with
  |cons r' rr=>
   cases rr with
   |cons r2 rr=>
   cases rr
   obtain⟨t,rfl⟩:=r
   obtain⟨t',rfl⟩:=r'
   obtain⟨t2,rfl⟩:=r2
   refine call_range_3 q0 ?_ (.inl (PyProof.noPylong_of_log2 ?_))
   ·refine wpAny_pyIter_range (IsRange.new ..) (NY q1 q2 q3 q4 q5 q6 q0 qn) ?_
    have I2:Inv X pins U H1 {s1 with heap:=s1.heap.push {cls:=.type "range",data:=.fields #[.int i t,.int j t',.int c t2]},toks:=s1.toks}:=I1.kept fun b o e=>Heap.get?_push_of_some _ e
    refine⟨(s1.heap.push {cls:=.type "range",data:=.fields #[.int i t,.int j t',.int c t2]}).objs.size,[(s1.heap.push {cls:=.type "range",data:=.fields #[.int i t,.int j t',.int c t2]}).objs.size],_,_,H1,rfl,I2.kept (t':=s1.toks) fun b o e=>Heap.get?_push_of_some _ e,NX _ i c (Builtin.Range.rangeSize i j c).toNat,?_,fun b hb=>?_,q⟩
    ·have e1:i+((0:Nat):Int)*c=i:=by simp
     have e2:(((Builtin.Range.rangeSize i j c).toNat:Nat):Int)-((0:Nat):Int)=Builtin.Range.rangeSize i j c:=by have:=Rf (a:=i) (b:=j) q0;exact mP this
     show IsRangeIter _ _ (i+((0:Nat):Int)*c) ((((Builtin.Range.rangeSize i j c).toNat:Nat):Int)-((0:Nat):Int)) c
     rw[e1,e2]
     exact Heap.get?_push_size _ rfl
    have e:b=(s1.heap.push {cls:=.type "range",data:=.fields #[.int i t,.int j t',.int c t2]}).objs.size:=by simpa using hb
    subst e
    exact I2.kU (bx _) (I2.aI.fresh (bx _))
   have:c.natAbs.log2<63:=(tV (by omega)).mpr (by omega)
   exact aS this (by decide)
end
end L2
end
section
namespace L2
open PySem PySem.Spec PyProof PyProof.Rows PySem.W
section
variable{prog:Program}{w:World}{A:Around}{E:Value->Shared->Prop}
theorem Rh(b8:l≠it):∀(n i:Nat)(s:Shared)(Q:List Value->Shared->Prop),s.heap.IsListIter it l i->s.heap.IsList l items->i+n<=items.size->(∀h',h'.IsListIter it l (i+n)->Heap.SameBut it s.heap h'->Q ((items.toList.drop i).take n) {s with heap:=h'})->wpAny (model prog w) A (draw (.ref it) n) Q E s
 |0,i,s,Q,hit,_,_,hQ=>wpAny_pure (by simpa using hQ s.heap hit (Heap.SameBut.refl ..))
 |n+1,i,s,Q,hit,hl,hle,hQ=>by
  have hz:i<items.size:=by omega
  show wpAny _ _ (pyNext (.ref it) >>= _) Q E s;refine wpAny_bind (wpAny_pyNext_list_item hit hl (x:=items[i]) (by simp[hz]) fun h1 pE lC=>?_)
  have wc:h1.IsList l items:=by
   obtain⟨o,e,c⟩:=hl
   exact⟨o,(lC.2 l b8).trans e,c⟩
  refine wpAny_bind (wpAny_holding (Rh b8 n (i+1) _ _ pE wc (by omega) fun h2 wd kq=>wpAny_pure ?_))
  have hd:items.toList.drop i=items[i]::items.toList.drop (i+1):=by simp[u7,hz]
  have:=hQ h2 (by rw[show i+(n+1)=i+1+n by omega];exact wd) ⟨kq.1.trans lC.1,fun b hb=>(kq.2 b hb).trans (lC.2 b hb)⟩
  rw[hd,List.take_succ_cons]at this;exact this
theorem VE{Q:List Value->Shared->Prop}(hh:A.handled=none)(hl:s.heap.IsList l items)(hQ:∀h',Heap.ExtBut s.heap.objs.size s.heap h'->Q items.toList {s with heap:=h'}):wpAny (model prog w) A (unpackItems (.ref l) items.size none) Q E s:=by
 have bU:l≠s.heap.objs.size:=by obtain⟨o,ho,_⟩:=hl;exact g_ (Heap.lt_size ho)
 unfold unpackItems notIterableAtAll
 refine wpAny_bind (wpAny_bind (wpAny_specialOf hl.typeIs slot_list_iter.lookup (wpAny_pure ?_)))
 simp only[aba,if_false];refine wpAny_bind (wpAny_holding (wpAny_pyIter_list hl ?_))
 have qE:(s.heap.push {cls:=.type "list_iterator",data:=.fields #[.ref l,.int 0 0]}).IsList l items:=by
  obtain⟨o,e,c⟩:=hl
  exact⟨o,Heap.get?_push_of_some _ e,c⟩
 refine wpAny_bind (wpAny_holding (Rh bU items.size 0 _ _ ⟨_,Heap.get?_push_size _ rfl,rfl,rfl⟩ qE (by omega) fun h1 pE lC=>?_))
 have jV:List.take items.size (List.drop 0 items.toList)=items.toList:=by
  rw[List.drop_zero];exact zE (by simp)
 rw[jV,if_neg (by simp)]
 have wc:h1.IsList l items:=by
  obtain⟨o,e,c⟩:=qE
  exact⟨o,(lC.2 l bU).trans e,c⟩
 refine wpAny_bind (wpAny_holding (wpAny_pyNext_list_end hh pE wc (by simp) fun h2 pF=>?_))
 simp only[Option.isSome_none,aba,if_false]
 exact wpAny_pure (hQ h2 fun b o hb e=>pF b o hb ((lC.2 b hb).trans (Heap.get?_push_of_some _ e)))
end
section
variable{X:Cx}{pos:Pos}
abbrev Ya(K:PySem.W.Frag)(n:Nat)(t:oX):TG:=fun v U H Q=>∃a xs,v=.ref a/\fi K H a xs/\xs.length=n/\t xs U H Q
theorem Yb{k:Nat}{n:Nat}(hc:X.calm=true)(h:qy X es t)(hn:(assignEach es X.env).length=n)(aT:(assignEach es X.env).findIdx? (·.1)=none):PG X (.Tuple es k pos) (Ya X.K n t):=by
 intro pins s U H v u Q I r hw
 obtain⟨a,xs,rfl,hq,hl,hw⟩:=hw
 cases r
 obtain⟨ah,rv,pl,hz⟩:=I.list hq
 rw[assign_Tuple]
 refine wpAny_bind (wpAny_standAt ?_)
 unfold unpack
 rw[aT,hn,<- hl,rv.length,show ah.length=ah.toArray.size by simp]
 refine wpAny_bind (wpAny_holding (VE (I.ok.hd hc) pl.isList fun h' hx=>?_))
 have I1:Inv X pins U H {s with heap:=h'}:=I.kept (t':=s.toks) fun b o e=>hx b o (g_ (Heap.lt_size e)) e
 exact h pins _ U H xs _ Q I1 (by simpa using rv) hw
end
end L2
end
section
namespace L2
open PySem PySem.Spec PyProof PyProof.Rows PySem.W PySem.Builtin PySem.Builtin.Str
section
variable{X:Cx}
theorem MG:∀{us:List Value}{ts:List Str},Vals (ts.map V.str) us->∃l:List (Str×Tok),us=strValues l/\l.map (·.1)=ts
 |[],[],_=>⟨[],rfl,rfl⟩
 |u::us,t::ts,h=>by
  cases h with
  |cons a b=>
  obtain⟨k,rfl⟩:=a
  obtain⟨l,rfl,rfl⟩:=MG b
  exact⟨(t,k)::l,rfl,rfl⟩
 |_::_,[],h=>nomatch h
 |[],_::_,h=>nomatch h
abbrev Z7(K:Frag):V->List V->Hp->VK->Prop:=fun x vs H Q=>∃(z:Str)(a:Addr)(ts:List Str),x=.str z/\vs=[.ref a]/\fi K H a (ts.map V.str)/\JoinOk z ts=true/\Q (.str (Txt.join z ts)) H
theorem VF:pd X "str.join" (Z7 X.K):=by
 intro pins s U H x vs v us Q I rx rv h
 obtain⟨z,a,ts,rfl,rfl,hS,aI,q⟩:=h
 obtain⟨t,rfl⟩:=rx
 obtain⟨u,rfl,ru⟩:=rv.one
 cases (show u=Value.ref a from ru)
 obtain⟨ah,rr,p,_⟩:=I.list hS
 obtain⟨l,rfl,rfl⟩:=MG rr
 unfold JoinOk at aI
 rw[rq]at aI
 exact call_meets PySem.F.slot_str_join (typeIs_str _ _ _) PySem.F.entry_str_join (PySem.F.args_str_join_2 _ _) (meets_str_join_list z t a l aI) ⟨p.isList,post_join l ⟨joinFit_length aI,fun t' k=>⟨.str _,H,I.tok _,⟨_,rfl⟩,q⟩⟩⟩
abbrev Z8:List V->Hp->VK->Prop:=fun xs H Q=>∃i:Int,xs=[.int i]/\i.natAbs.log2<1920/\Q (.str (Str.ofString (toString i))) H
theorem Ri:CG X (.type "str") Z8:=by
 intro pins s U H xs us Q I r h
 obtain⟨i,rfl,hi,q⟩:=h
 obtain⟨u,rfl,ru⟩:=EO r
 obtain⟨t,rfl⟩:=ru
 exact PySem.P.str_of_int hi ⟨.str _,H,I.tok _,⟨_,rfl⟩,q⟩
end
abbrev we(z:Str):It:=⟨fun i _=>i<z.cps.size,fun i H v H'=>H'=H/\∃c,z.cps[i]?=some c/\v=.str ⟨#[c]⟩,fun i _=>z.cps.size<=i⟩
theorem Ts{P:Program}{w:World}{K:PySem.W.Frag}{tg:Expr}(it:Addr)(z:Str)(t:Tok)(ty:String)(ku:ty = "str_ascii_iterator" \/ ty = "str_iterator")
  (W:∀A':Around,A'.handled=none->Walks P w A' it [it] [it] z.cps.size (SignAt z) (fun i h=>h.IsStrIter it ty z t i)):Turn P w K tg (we z) [it] it (fun i h=>h.IsStrIter it ty z t i) where
 mem:=by simp
 obj:=fun i h st b hb=>by
  have e:b=it:=by simpa using hb
  subst e
  obtain⟨o,ho,c,d⟩:=st
  exact⟨o,ho,fun v q=>by rw[d]at q;cases q⟩
 keep:=fun i h h' st k=>by
  obtain⟨o,ho,r⟩:=st
  exact⟨o,k it (by simp) o ho,r⟩
 item:=by
  intro X hP hw hK hc i pins s U H E I hf st hg
  subst hP hw hK
  obtain⟨f0,f1,f2,f3,f4,f5⟩:=hf it (by simp)
  have W:=W X.A (I.ok.hd hc)
  refine W.item i s _ _ hg st fun v h' tk hv jc kk=>?_
  obtain⟨c,u,mT,rfl⟩:=hv
  have I1:Inv X pins U H {s with heap:=h',toks:=tk}:=I.turned (fun b o hb e=>kk b o (by simpa using hb) e) f0 f1 f3 f4 f5
  obtain⟨o,eo,co,d⟩:=id jc
  rcases ku with rfl|rfl
  ·exact⟨_,rfl,Iu (s:={s with heap:=h',toks:=tk}) eo co d (by decide) ⟨.str ⟨#[c]⟩,H,I1,⟨u,rfl⟩,⟨rfl,c,mT,rfl⟩,jc,fun b hb=>(hf b hb).1⟩⟩
  exact⟨_,rfl,Iu (s:={s with heap:=h',toks:=tk}) eo co d (by decide) ⟨.str ⟨#[c]⟩,H,I1,⟨u,rfl⟩,⟨rfl,c,mT,rfl⟩,jc,fun b hb=>(hf b hb).1⟩⟩
 done:=by
  intro X hP hw hK hc i pins s U H E I hf st hg
  subst hP hw hK
  obtain⟨f0,f1,f2,f3,f4,f5⟩:=hf it (by simp)
  have hg:z.cps.size<=i:=hg
  have hx:z.cps[i]?=none:=by simp;omega
  rcases ku with rfl|rfl
  ·exact wpAny_pyNext_ascii_end (I.ok.hd hc) st hx fun h' eb=>⟨rfl,I.turned (t':=s.toks) (fun b o hb e=>eb b o hb e) f0 f1 f3 f4 f5⟩
  exact wpAny_pyNext_wide_end (I.ok.hd hc) st hx fun h' eb=>⟨rfl,I.turned (t':=s.toks) (fun b o hb e=>eb b o hb e) f0 f1 f3 f4 f5⟩
 self:=fun _ _ _ _ _ st h=>by
  rcases ku with rfl|rfl
  ·exact wpAny_pyIter_striter_ascii st h
  exact wpAny_pyIter_striter_wide st h
section
variable{X:Cx}{tg:Expr}
abbrev Aba(tl:TE):TI:=fun U H R=>tl U H fun x H1=>∃z,x=.str z/\R (we z) H1
theorem Yc{l:Expr}{tl:TE}(hl:PE X l tl):PI X tg l (Aba tl):=by
 intro pins s U H R I h
 refine aW (hl pins s U H _ I h) fun v s1 ⟨x,H1,I1,r1,q1⟩=>?_
 obtain⟨z,rfl,q⟩:=q1
 obtain⟨t,rfl⟩:=r1
 have key:∀(o:Obj) (ty:String) (ku:ty = "str_ascii_iterator" \/ ty = "str_iterator") (W:∀A':Around,A'.handled=none->Walks X.prog X.w A' s1.heap.objs.size [s1.heap.objs.size] [s1.heap.objs.size] z.cps.size (SignAt z) (fun i h=>h.IsStrIter s1.heap.objs.size ty z t i)) (st:(s1.heap.push o).IsStrIter s1.heap.objs.size ty z t 0),vO X pins U tg R (.ref s1.heap.objs.size) {s1 with heap:=s1.heap.push o}:=fun o ty ku W st=>by
  refine⟨s1.heap.objs.size,[s1.heap.objs.size],_,_,H1,rfl,I1.kept (t':=s1.toks) fun b o e=>Heap.get?_push_of_some _ e,Ts _ z t ty ku W,st,fun b hb=>?_,q⟩
  have e:b=s1.heap.objs.size:=by simpa using hb
  subst e
  exact I1.kU (bx _) (I1.aI.fresh (bx _))
 cases ha:z.cps.all (· < 128)
 ·exact wpAny_pyIter_wide ha (key _ _ (.inr rfl) (fun A' hA=>Walks.strWide hA _ z t) ⟨_,Heap.get?_push_size _ rfl,rfl,rfl⟩)
 exact wpAny_pyIter_ascii ha (key _ _ (.inl rfl) (fun A' hA=>Walks.strAscii hA _ z t) ⟨_,Heap.get?_push_size _ rfl,rfl,rfl⟩)
abbrev Z9:List V->Hp->VK->Prop:=fun xs H Q=>∃z:Str,xs=[.str z]/\PySem.NumText.AllDigits z.cps.toList/\z.cps.toList≠[]/\z.length<=640/\Q (.int ((PySem.NumText.digitsVal z.cps.toList:Nat):Int)) H
theorem Rj:CG X (.type "int") Z9:=by
 intro pins s U H xs us Q I r h
 obtain⟨z,rfl,h1,h2,h3,q⟩:=h
 obtain⟨u,rfl,ru⟩:=EO r
 obtain⟨t,rfl⟩:=ru
 exact KIN.call_text (PySem.intText_digits h1 h2 (by exact aS h3 (by decide))) h3 ⟨.int _,H,I.tok _,⟨_,rfl⟩,q⟩
theorem Ll:∀l:List (Str×Tok),Vals ((l.map (·.1)).map V.str) (strValues l)
 |[]=>.nil
 | (x,t)::r=>.cons ⟨t,rfl⟩ (Ll r)
abbrev Yd:V->List V->Hp->VK->Prop:=fun x vs H Q=>∃z y:Str,x=.str z/\vs=[.str y]/\y.length≠0/\z.length<=sizeLine/\(Txt.split z y).length<=sizeLine/\∀p,H p=none->Q (.ref p) (upd H p (.lst ((Txt.split z y).map V.str)))
theorem Tt:pd X "str.split" Yd:=by
 intro pins s U H x vs v us Q I rx rv h
 obtain⟨z,y,rfl,rfl,hy,hz,hn,q⟩:=h
 obtain⟨t,rfl⟩:=rx
 obtain⟨u,rfl,ru⟩:=rv.one
 obtain⟨t',rfl⟩:=ru
 have hy:(y.length==0)=false:=beq_eq_false_iff_ne.mpr hy
 have fin:∀(l:List (Str×Tok))(k:Nat),l.map (·.1)=Txt.split z y->EP X pins U Q (.ref s.heap.objs.size) {s with heap:=s.heap.push {cls:=.type "list",data:=.seq (strValues l).toArray},toks:=k}:=fun l k hl=>by
  refine⟨.ref s.heap.objs.size,_,I.laid (t':=k) (o:=.lst ((Txt.split z y).map V.str)) (fun b ob q=>Heap.get?_push_of_some _ q) (bx _) ?_,rfl,q _ (I.aI.fresh (bx _))⟩
  refine⟨by rw[aF];exact hn,strValues l,0,?_,Heap.get?_push_size _ rfl⟩
  rw[<- hl]
  exact Ll l
 cases h1:(decide (z.length<y.length)||decide (strKind z<strKind y))
 ·cases hf:(occurrences z y 0 z.length (z.length+1)).isEmpty
  ·have e:Txt.split z y=partsBetween z (occurrences z y 0 z.length (z.length+1)) y.length:=(if_neg (ne_true_of_eq_false h1)).trans (if_neg (ne_true_of_eq_false hf))
   refine call_meets PySem.F.slot_str_split (typeIs_str _ _ _) PySem.F.entry_str_split (PySem.F.args_str_split_2 _ _) (meets_str_split_sep z y t t' h1 hy hf hz (by rw[<- e];exact hn)) ?_
   show wants (EP X pins U Q) X.xe _ {s with toks:=_,heap:=s.heap.push {cls:=.type "list",data:=.seq (strsFrom s.toks (partsBetween z (occurrences z y 0 z.length (z.length+1)) y.length)).toArray}}
   rw[strsFrom_eq]
   exact fin (numbered s.toks _) _ ((numbered_texts _ _).trans e.symm)
  have e:Txt.split z y=[z]:=(if_neg (ne_true_of_eq_false h1)).trans (if_pos hf)
  exact call_meets PySem.F.slot_str_split (typeIs_str _ _ _) PySem.F.entry_str_split (PySem.F.args_str_split_2 _ _) (meets_str_split_not_found z y t t' h1 hy hf) (fin [(z,t)] s.toks e.symm)
 have e:Txt.split z y=[z]:=if_pos h1
 exact call_meets PySem.F.slot_str_split (typeIs_str _ _ _) PySem.F.entry_str_split (PySem.F.args_str_split_2 _ _) (meets_str_split_cannot_occur z y t t' h1) (fin [(z,t)] s.toks e.symm)
abbrev Je(n:Bool):CmpOp:=if n then .NotIn else .In
abbrev Tu(n:Bool):R2:=fun x y H Q=>∃(c:Nat)(z:Str),x=.str ⟨#[c]⟩/\y=.str z/\Q (.bl ((decide (c∈z.cps.toList)) != n)) H
theorem Rk(n:Bool):cZ X (compareOp (Je n)) (Tu n):=by
 cases n with
 |false=>
  intro pins s U H x y v u Q I rx ry h
  obtain⟨c,z,rfl,rfl,q⟩:=h
  refine QT pins s U H _ _ v u Q I rx ry ⟨_,z,rfl,rfl,?_⟩
  rw[PySem.StrLaws.found_one]
  cases hd:decide (c∈z.cps.toList)<;>rw[hd]at q<;>exact q
 |true=>
 intro pins s U H x y v u Q I rx ry h
 obtain⟨c,z,rfl,rfl,q⟩:=h
 refine Mr pins s U H _ _ v u Q I rx ry ⟨_,z,rfl,rfl,?_⟩
 rw[PySem.StrLaws.found_one]
 cases hd:decide (c∈z.cps.toList)<;>rw[hd]at q<;>exact q
end
end L2
end
section
set_option maxHeartbeats 1000000
namespace L2
open PySem PySem.Spec PyProof.Rows PySem.W
abbrev CXh(P:Program)(w:World)(L:Addr):jU:=fun outer H s E ev s'=>∃(e:Addr)(cls a0:Value)(H':Hp)(B:Heap),ev=.ref e/\s'.os=s.os/\AllBare s'.gens/\Heap.HeldW B outer e cls a0 L s'.heap/\dj P w H' B/\H' e=none /\
 (∀b o,s.heap.get? b=some o->H b=none->b∉bK outer->B.get? b=some o)/\(∀b o,s.heap.get? b=some o->H b=none->b∈bK outer->∃sl,s'.heap.get? b=some {o with slots:=sl}) /\
 (∀b o,s.heap.get? b=some o->H b=none->H' b=none)/\(∀b o,s.heap.get? b=some o->b∉bK outer->∃o',B.get? b=some o') /\
 (∀b xs,H b=some (.tup xs)->H' b=some (.tup xs))/\(∀b o u,H b=some (.fh o u)->H' b=some (.fh o u))/\(∀b ps,H b=some (.i6 ps)->∃more,H' b=some (.i6 (ps++more)))/\E cls none H'
abbrev EQ(X:Cx)(E:cG):Prop:=∀(pins:List (Addr×Obj))(U:St)(H:Hp)(s:Shared)(e:Value)(s':Shared),Inv X pins U H s->CXh X.prog X.w X.env.locals X.stack H s (E U) e s'->X.xe e s'
theorem MH{E:Value->Shared->Prop}{Q:Unit->Shared->Prop}(hf:env.frame=some L)(F_:Heap.HeldW base (env::outer) e cls a0 L s.heap)
  (hQ:∀h',Heap.FlyingW base outer e cls a0 h'->s.heap.UpToSlots h'->Q () {s with heap:=h'}):wpAny M A (leaving env (.ref e)) Q E s:=by
 unfold leaving
 refine wpAny_bind (wpAny_noteFrame_againW hf F_.2.2.2 (wpAny_landsW F_ fun h1 fl up=>?_))
 obtain⟨j1,j2,⟨_,_,j3⟩,j4⟩:=fl
 exact hQ h1 ⟨j1,j2,j3,j4⟩ up
section
variable{P:Program}{w:World}{K:Frag}{mg:Str->Option Value}{base:Heap}{N:List Str}{qual:Str}{scope:Scope}{f:Addr}{cd:Value}{A:Around}{outer:List Env}{aG:Shared}{bT:Hp}{E E':XK}
theorem Ye(hE:∀c d H,E c d H->E' c d H):EQ (Bo (cX P w) P w K mg base N qual scope f cd A outer aG bT E') (fun _=>E):=by
 intro pins U H s ev s' I h
 obtain⟨e,cls,a0,H',B,rfl,ho,hg,fl,aI,en,keep,slot,free,there,bO,bI,bP,he⟩:=h
 show wpAny _ _ (leaving _ (.ref e)) _ _ _
 refine MH (base:=B) rfl fl fun h2 r6 up=>?_
 have sub:∀b∈bK outer,b∈bK (Bo (cX P w) P w K mg base N qual scope f cd A outer aG bT E').stack:=fun b hb=>by
  obtain⟨env,h1,h2⟩:=gZ.mp hb
  exact gZ.mpr ⟨env,aL _ h1,h2⟩
 have jW:∀b o,aG.heap.get? b=some o->b∉bK outer->b∉bK (Bo (cX P w) P w K mg base N qual scope f cd A outer aG bT E').stack:=fun b o q hb z=>by
  obtain⟨env,h1,h2⟩:=gZ.mp z
  rcases bB.mp h1 with rfl|h1
  ·exact iY _ ((Option.some.inj h2).symm▸Heap.lt_size q)
  exact hb (gZ.mpr ⟨env,h1,h2⟩)
 have nx:∀b:Addr,b∉(Bo (cX P w) P w K mg base N qual scope f cd A outer aG bT E').ex:=fun b z=>absurd (show b∈([]:List Addr) from z) (by simp)
 have pB:∀b o,s'.heap.get? b=some o->b∈bK (Bo (cX P w) P w K mg base N qual scope f cd A outer aG bT E').stack->∃sl,h2.get? b=some {o with slots:=sl}:=fun b o q hb=>by
  obtain⟨hn,o2,gT,jX⟩:=fl.2.2.1.mem hb
  rw[q]at gT
  cases gT
  exact up b _ q jX
 refine⟨e,cls,a0,H',B,none,rfl,ho.trans I.os,hg,r6,aI,en,fun b o q n hb=>keep b o (I.base.keep b o q n hb (nx b)) (I.base.free b o q n (nx b)) (jW b o q hb),fun b o q n hb=>?_,
  fun b o q n=>?_,fun b o q hb=>?_,fun b xs q=>bO b xs (I.base.bO b xs q),fun b o u q=>bI b o u (I.base.bI b o u q),fun b ps q=>?_,(fun _ z=>nomatch z),hE _ _ _ he⟩
 ·obtain⟨sl,e1⟩:=I.base.slot b o q n hb (nx b)
  obtain⟨sl1,e2⟩:=slot b _ e1 (I.base.free b o q n (nx b)) (sub b hb)
  obtain⟨nu,e3⟩:=pB b _ e2 (sub b hb)
  exact⟨nu,e3⟩
 ·obtain⟨o',e1⟩:=I.base.there b o q (nx b)
  exact free b o' e1 (I.base.free b o q n (nx b))
 ·obtain⟨o',e1⟩:=I.base.there b o q (nx b)
  exact there b o' e1 (jW b o q hb)
 obtain⟨m1,e1⟩:=I.base.bP b ps q
 obtain⟨m2,e2⟩:=bP b _ e1
 exact⟨m1++m2,by rw[e2,Array.append_assoc]⟩
end
structure Bx where
 (C:Addr)
 (fp:List Addr)
 (s:Shared)
 (H:Hp)
 (pins:List (Addr×Obj))
 (U:St)
abbrev Tv(X:Cx)(z:Bx):Prop:=Inv X z.pins z.U z.H z.s/\z.C=z.s.heap.objs.size/\∀b∈z.fp,(b∈X.ex\/X.aG.heap.objs.size<=b)/\b≠X.env.locals/\(∀x c,X.env.cells.lookup x=some c->c≠b)/\∀p∈X.pn++z.pins,p.1≠b
abbrev XB(X:Cx)(E:XK)(z:Bx)(ev:Value)(s':Shared):Prop:=∃(H:Hp)(s:Shared)(m:Str->Option Value)(e:Addr)(cls a0:Value)(H':Hp)(B:Heap),Inv X z.pins z.U H s/\s'.heap.Ns z.C m/\B.get? z.C=none/\z.C∉bK X.stack/\ev=.ref e/\s'.os=s.os/\AllBare s'.gens/\Heap.FlyingW B X.stack e cls a0 s'.heap/\dj X.prog X.w H' B/\H' e=none /\
 (∀b o,s.heap.get? b=some o->H b=none->b∉bK X.stack->B.get? b=some o)/\(∀b o,s.heap.get? b=some o->H b=none->b∈bK X.stack->∃sl,s'.heap.get? b=some {o with slots:=sl}) /\
 (∀b o,s.heap.get? b=some o->H b=none->H' b=none)/\(∀b o,s.heap.get? b=some o->b∉bK X.stack->∃o',B.get? b=some o') /\
 (∀b xs,H b=some (.tup xs)->H' b=some (.tup xs))/\(∀b o u,H b=some (.fh o u)->H' b=some (.fh o u))/\(∀b ps,H b=some (.i6 ps)->∃more,H' b=some (.i6 (ps++more)))/\E cls none H'
@[reducible]noncomputable def Cx.aH(X:Cx)(scope:Scope)(z:Bx)(N:List Str)(EX:cG):Cx :=
 {X with N:=N,aG:=z.s,bT:=z.H,env:=compEnvC scope (BA X.env scope.names []) z.C X.env,outer:=X.stack,ex:=z.fp,fn:=fun _=>false,pn:=[],xe:=fun e s'=>Tv X z->XB X (EX z.U) z e s'}
theorem VG(G:Tv X z)(I5:Inv (X.aH scope z N EX) iF U' H' s') :
  (∃m,s'.heap.Ns z.C m)/\(∀h',Heap.SameBut z.C s'.heap h'->Inv X z.pins z.U H' {s' with heap:=h'})/\H' z.C=none/\z.C∉bK X.stack:=by
 obtain⟨I3,eC,f2⟩:=G
 obtain⟨m,hn,_⟩:=I5.loc
 refine⟨⟨m,hn⟩,fun h' hb=>?_,I5.free,fun y=>?_⟩
 ·have same:∀b o,z.s.heap.get? b=some o->h'.get? b=s'.heap.get? b:=fun b o e=>hb.2 b (by rw[eC];exact g_ (Heap.lt_size e))
  have u:=I5.base
  have un:Un (bK X.stack) z.fp z.H H' z.s.heap h':=⟨fun b o e n h1 h2=>(same b o e).trans (u.keep b o e n h1 h2),fun b o e n h1 h2=>by
    obtain⟨sl,y⟩:=u.slot b o e n h1 h2
    exact⟨sl,(same b o e).trans y⟩,u.free,fun b o e h1=>by
    obtain⟨o',y⟩:=u.there b o e h1
    exact⟨o',(same b o e).trans y⟩,u.bO,u.bI,u.bP⟩
  have aI:dj X.prog X.w H' h':=fun b o e=>by
   have fC:H' z.C=none:=I5.free
   refine(I5.aI b o e).gA (fun c w' hc y=>(hb.2 c ?_).trans y) (fun _ y=>y) fun _ _ y=>y
   rintro rfl
   rcases hc with rfl|hc
   ·rw[fC]at e;cases e
   rw[fC]at hc;cases hc
  exact I3.kO (s':={s' with heap:=h'}) (ch:=z.fp) I5.os un aI I5.bare f2
 rw[eC]at y
 rcases bB.mp (I3.fR _ y) with q|q
 ·exact absurd (q▸I3.lt) (iY _)
 exact I3.oU (bx _) q
theorem Lm{h h' base:Heap}:∀{l:List Env},(∀b∈bK l,h'.get? b=h.get? b)->h.FunFrames base l->h'.FunFrames base l
 |[],_,_=>trivial
 |env::rest,k,hl=>by
  obtain⟨hk,⟨L,o,hf,hn,ho,hd⟩,hr⟩:=hl
  refine⟨hk,⟨L,o,hf,hn,(k L ?_).trans ho,hd⟩,Lm (fun b hb=>k b ?_) hr⟩
  ·exact gZ.mpr ⟨env,aP ..,hf⟩
  obtain⟨e,h1,h2⟩:=gZ.mp hb
  exact gZ.mpr ⟨e,aL _ h1,h2⟩
theorem IX{h base oa:Heap}(k:∀b,base.get? b=none->oa.get? b=none):∀{l:List Env},h.FunFrames base l->h.FunFrames oa l
 |[],_=>trivial
 |env::rest,hl=>by
  obtain⟨hk,⟨L,o,hf,hn,ho,hd⟩,hr⟩:=hl
  exact⟨hk,⟨L,o,hf,k L hn,ho,hd⟩,IX k hr⟩
abbrev nO(E:XK):XK:=fun c d H=>d=none/\E c none H
theorem Aaa{X:Cx}{scope:Scope}{N:List Str}{EX:cG}{z:Bx}:E5 (cX X.prog X.w) (X.aH scope z N EX) (fun _=>nO (EX z.U)):=by
 intro iF U' H5 s5 ev s' I5 h G
 obtain⟨⟨m,hm⟩,out,fC,jW⟩:=VG G I5
 obtain⟨e,cls,a0,H',B,od,rfl,ho,hg,fl,aI,en,keep,slot,free,there,bO,bI,bP,_,_,he⟩:=h
 obtain⟨o,es,ep,F',r⟩:=hm
 have HC:H' z.C=none:=free _ o F' fC
 have G_:∀(h:Heap) b,b≠z.C->(hideAll h [z.C]).get? b=h.get? b:=fun h b hb=>by
  cases q:h.get? b with
  |some u=>exact hideAll_get _ q (by simpa using hb)
  |none=>
   cases q2:(hideAll h [z.C]).get? b with
   |none=>rfl
   |some u=>have:=of_hideAll _ q2;rw[q]at this;cases this
 have nC:∀{b o},(hideAll s5.heap [z.C]).get? b=some o->b≠z.C:=fun q y=>by
  rw[y,hideAll_none _ (by simp)]at q;cases q
 have G':∀{b o},b≠z.C->B.get? b=some o->(hideAll B [z.C]).get? b=some o:=fun hb q=>(G_ B _ hb).trans q
 have wg:∀b,B.get? b=none->(hideAll B [z.C]).get? b=none:=fun b q=>by
  cases q2:(hideAll B [z.C]).get? b with
  |none=>rfl
  |some u=>have:=of_hideAll _ q2;rw[q]at this;cases this
 obtain⟨f1,f2,f3,oe,vs,T,oT,ts,g1,g2,g3,g4,g5,g6⟩:=fl
 refine⟨H5,{s5 with heap:=hideAll s5.heap [z.C]},m,e,cls,a0,H',hideAll B [z.C],out _ ⟨hideAll_size _ _,fun b hb=>G_ _ b hb⟩,⟨o,es,ep,f1 _ _ (keep _ _ F' fC jW),r⟩,hideAll_none _ (by simp),jW,rfl,ho,hg,
  ⟨fun b o q=>f1 b o (of_hideAll _ q),wg e f2,IX wg f3,oe,vs,T,oT,ts,g1,g2,g3,g4,wg T g5,g6⟩,aI.hide (fun b hb=>by
   have:b=z.C:=by simpa using hb
   rw[this];exact HC),en,fun b o q n hb=>G' (nC q) (keep b o (of_hideAll _ q) n hb),fun b o q n hb=>slot b o (of_hideAll _ q) n hb,fun b o q n=>free b o (of_hideAll _ q) n,fun b o q hb=>?_,bO,bI,bP,he⟩
 obtain⟨o',y⟩:=there b o (of_hideAll _ q) hb
 exact⟨o',G' (nC q) y⟩
theorem MI(h:env.frame=wj.frame):noteFrame e env=noteFrame e wj:=by
 unfold noteFrame PySem.frameOf
 rw[h]
abbrev DI(M:Model)(A:Around)(E:Value->Shared->Prop)(use:Option (Value->Sem Unit))(Q:Value->Shared->Prop)(acc:Value)(cenv:Env)(r:Result)(s':Shared):Prop :=
 match r,use with
 |.ok _,none=>∃m,s'.heap.Ns cenv.locals m/\∀h',Heap.SameBut cenv.locals s'.heap h'->Q acc {s' with heap:=h'}
 |.ok _,some u=>wpAny M A (u acc) (fun _ kZ=>∃m,kZ.heap.Ns cenv.locals m/\∀h',Heap.SameBut cenv.locals kZ.heap h'->Q .none {kZ with heap:=h'}) E s'
 |.error x,_=>∃m,s'.heap.Ns cenv.locals m/\∀h',Heap.SameBut cenv.locals s'.heap h'->wpAny M A (passOn "comprehension.variables-let-go" x cenv:Sem Value) (fun _ _=>False) E {s' with heap:=h'}
theorem NZ{E:Value->Shared->Prop}{use:Option (Value->Sem Unit)}{Q:Value->Shared->Prop}(h:∃m,s'.heap.Ns cenv.locals m/\∀h',Heap.SameBut cenv.locals s'.heap h'->wpAny M A (passOn "comprehension.variables-let-go" x cenv:Sem Value) (fun _ _=>False) E {s' with heap:=h'}):DI M A E use Q acc cenv (.error x) s':=by
 cases use<;>exact h
theorem PH{E:Value->Shared->Prop}{use:Option (Value->Sem Unit)}{Q:Value->Shared->Prop}
  (pG:clausesOf e=g::gs) (hs:∀x,foldedSetIterable g.iter env x=pure x) (se:closureFor scope env=pure cl) (bF:scope.kind=.function) (bV:∀x∈scope.names,x.2=.local->scope.names.lookup x.1=some .local)
  (h:wpAny M A first (fun x s1=>wpAny M A (pyIter x) (fun it s2=>wpAny M A pH (fun acc s3=>wpAny M A (newFunctionEnv scope env.globals cl [] env.qual none .none (some env)) (fun cenv s4=>
    codeAny M A (.compStart e 0 it acc {cenv with scope:=relabel scope env}) (DI M A E use Q acc {cenv with scope:=relabel scope env}) s4) E s3) E s2) E s1) E s) :
  wpAny M A (comprehension e scope env pos pH false first use) Q E s:=by
 unfold comprehension
 rw[se,pG]
 have pass:∀{x:Value}{t:Shared},E x t->E x t:=fun y=>y
 refine wpAny_bind (wpAny_mono h (fun x s1 h1=>wpAny_bind (wpAny_standAt (wpAny_bind (wpAny_of_eq (hs x) (wpAny_bind (wpAny_holding (wpAny_mono h1 (fun it s2 h2=>
  wpAny_standIf (wpAny_bind (wpAny_mono h2 (fun acc s3 h3=>wpAny_bind (wpAny_pure (wpAny_bind (wpAny_mono h3 (fun cenv s4 h4=>?_) fun _ _=>pass)))) fun _ _=>pass))) fun _ _=>pass))))))) fun _ _=>pass)
 dsimp only
 have v1:∀x∈(scope.names.filter fun x=>(x.2==.local||x.2==.cell)&&x.1 != (".0" : Str)).reverse,x.2=.local->Env.kindOf {cenv with scope:=relabel scope env} x.1=some .local:=fun x hx hl=>lookup_relabel_local (bV x (oK.mp (vd.mp hx)).1 hl)
 have v2:∀x∈(scope.names.filter fun x=>(x.2==.local||x.2==.cell)&&x.1 != (".0" : Str)).reverse.drop 1++(scope.names.filter fun x=>(x.2==.local||x.2==.cell)&&x.1 != (".0" : Str)).reverse.take 1,x.2=.local->Env.kindOf {cenv with scope:=relabel scope env} x.1=some .local:=fun x hx hl=>by
  rcases bw.mp hx with y|y
  ·exact v1 x (qX y) hl
  exact v1 x (tJ y) hl
 refine wpAny_holding (wpAny_bind (wpAny_attempt (wpAny_holding (wpAny_run (codeAny_mono h4 fun r t hr=>?_)))))
 cases r with
 |ok f=>
  cases use with
  |none=>
   obtain⟨m,hn,q⟩:=hr
   exact wpAny_bind (wpAny_holding (wpAny_comp_letGo (cenv:={cenv with scope:=relabel scope env}) bF _ t m v1 hn fun h' m' _ y=>wpAny_pure (q h' y)))
  |some u=>
  refine wpAny_bind (wpAny_rule (wpAny_bind (wpAny_holding (wpAny_mono hr (fun _ t2 q=>?_) fun _ _=>pass))))
  obtain⟨m,hn,q⟩:=q
  exact wpAny_bind (wpAny_comp_letGo (cenv:={cenv with scope:=relabel scope env}) bF _ t2 m v2 hn fun h' m' _ y=>wpAny_pure (q h' y))
 |error x=>
 have q:∃m,t.heap.Ns cenv.locals m/\∀h',Heap.SameBut cenv.locals t.heap h'->wpAny M A (passOn "comprehension.variables-let-go" x {cenv with scope:=relabel scope env}:Sem Value) (fun _ _=>False) E {t with heap:=h'}:=by cases use<;>exact hr
 obtain⟨m,hn,q⟩:=q
 exact wpAny_bind (wpAny_holding (wpAny_comp_letGo (cenv:={cenv with scope:=relabel scope env}) bF _ t m v1 hn fun h' m' _ y=>wpAny_mono (q h' y) (fun _ _ f=>f.elim) fun _ _=>pass))
theorem Tw{X:Cx}{EX:cG}{z:Bx}{cenv:Env}{use:Option (Value->Sem Unit)}{R:Value->Shared->Prop}{acc x:Value}{s':Shared}(hp:EQ X EX)(hs:X.stack=X.env::X.outer)(hf:X.env.frame=some X.env.locals)(H_:cenv.frame=X.env.frame)(pG:cenv.locals=z.C)(h:XB X (EX z.U) z x s') :
  notedBy (model X.prog X.w) X.A cenv (fun x kZ=>DI (model X.prog X.w) X.A X.xe use R acc cenv (.error x) kZ) x s':=by
 obtain⟨H,s,m,e,cls,a0,H',B,I,hn,bC,jW,rfl,ho,hg,fl,aI,en,keep,slot,free,there,bO,bI,bP,he⟩:=h
 unfold notedBy
 rw[MI H_]
 refine wpAny_looks_onW (outer:=X.outer) (by rw[I.ok.frames,hs]) hf (by rw[<- hs];exact fl) fun h1 hh up=>NZ ⟨m,by rw[pG];exact up.ns hn,fun h2 sb=>?_⟩
 rw[pG]at sb
 rw[<- hs]at hh
 obtain⟨k1,k2,k3,oe,vs,T,oT,ts,I_,pI,hd,g1,J_,J',hT,sf,g3⟩:=hh
 have bD:h1.Ns z.C m:=up.ns hn
 have K_:∀{b:Addr}{o:Obj}{vs:Array Value},h1.get? b=some o->o.data=.fields vs->b≠z.C:=fun {b o vs} q d y=>by
  obtain⟨oc,es,ep,uf,hdc,_⟩:=bD
  rw[y,uf]at q;cases q
  rw[hdc]at d;cases d
 have pF:h2.get? e=some oe:=(sb.2 e (K_ I_ hd)).trans I_
 have K':h2.get? T=some oT:=(sb.2 T (K_ hT sf)).trans hT
 have sg:3<ts.size:=(Array.getElem?_eq_some_iff.mp g3).1
 unfold PySem.passOn
 refine wpAny_bind (wpAny_field (s:={s' with heap:=h2}) pF hd g1 ?_)
 rw[if_neg (show ¬((Value.ref T==Value.none)=true) from by simp)]
 refine wpAny_bind ?_
 unfold setFlight
 refine wpAny_bind (wpAny_field (s:={s' with heap:=h2}) pF hd g1 ?_)
 rw[if_pos (show(Value.ref T != Value.none)=true from by simp),H_,hf]
 refine wpAny_setField (s:={s' with heap:=h2}) K' sf sg (wpAny_throw ?_)
 have other:∀b,b≠T->(h2.update T (Obj.mapFields (·.setIfInBounds 3 ((some X.env.locals:Option Addr).elim Value.none fun f=>rawInt f)))).get? b=h2.get? b:=fun b hb=>Heap.get?_update_other _ _ (Ne.symm hb)
 have uu:∀b∈bK X.stack,b≠T/\b≠z.C:=fun b hb=>⟨fun y=>by
   obtain⟨_,o2,gT,jX⟩:=k3.mem hb
   rw[y,hT]at gT;cases gT;exact jX ts sf,fun y=>jW (y▸hb)⟩
 refine hp z.pins z.U H s (.ref e) _ I ⟨e,cls,a0,H',B,rfl,ho,hg,⟨fun b o q=>?_,k2,Lm (fun b hb=>(other b (uu b hb).1).trans (sb.2 b (uu b hb).2)) k3,oe,vs,T,_,_,(other e (Ne.symm J')).trans pF,pI,hd,g1,J_,J',Heap.get?_update_self _ K' (Obj.isFreed_of_fields (Obj.data_mapFields sf _)),Obj.data_mapFields sf _,?_⟩,aI,en,keep,fun b o q n hb=>?_,free,there,bO,bI,bP,he⟩
 ·have b1:b≠z.C:=fun y=>by rw[y,bC]at q;cases q
  have b2:b≠T:=fun y=>by rw[y,J_]at q;cases q
  exact(other b b2).trans ((sb.2 b b1).trans (k1 b o q))
 ·simp[sg]
 obtain⟨sl,e1⟩:=slot b o q n hb
 obtain⟨_,o2,gT,jX⟩:=fl.2.2.1.mem hb
 rw[e1]at gT
 cases gT
 obtain⟨nu,e2⟩:=up b _ e1 jX
 exact⟨nu,(other b (uu b hb).1).trans ((sb.2 b (uu b hb).2).trans e2)⟩
theorem LK{R:Result->Shared->Prop}(I:Nat->Shared->Prop)(Eb:Value->Shared->Prop)(hE:∀x t,Eb x t->notedBy (model prog w) A env (fun x t=>R (.error x) t) x t)
  (turn:∀n s,I n s->wpAny (model prog w) A (pyNext it) (fun r s1=>match r with
   |none=>R (.ok .next) s1
   |some v=>wpAny (model prog w) A (letOwnedTupleGo tg it v) (fun _ s2=>wpAny (model prog w) A (assign tg env v) (fun _ s3=>wpAny (model prog w) A (Ov ifs env) (fun ok s4=>
     if ok=true then wpAny (model prog w) A (eval elt env) (fun x s5=>wpAny (model prog w) A (call (.builtin "list.append") [acc,x]) (fun _ s6=>∃m,m<n/\I m s6) Eb s5) Eb s4
     else ∃m,m<n/\I m s4) Eb s3) Eb s2) Eb s1) Eb s) (n:Nat) (h:I n s) :
  codeAny (model prog w) A (.compLoop (.ListComp elt [⟨tg,iter,ifs,0⟩] scope pos) 0 it acc env) R s:=by
 refine codeAny_loop rfl I (fun k s' hk=>?_) n h
 show wpAny _ A ((compTurn (.ListComp elt [⟨tg,iter,ifs,0⟩] scope pos) 0 it acc env).onRaise (fun z=>do noteFrame z env;theTreesLotGoes z)) _ _ s'
 refine wpAny_noted ?_
 rw[compTurn_list]
 refine wpAny_bind (wpAny_standAt ?_)
 refine wpAny_bind (wpAny_mono (turn k s' hk) (fun r s1 h1=>?_) hE)
 rcases r with _|v
 ·exact wpAny_pure h1
 refine wpAny_bind (wpAny_mono h1 (fun _ s2 h2=>?_) hE)
 refine wpAny_bind (wpAny_mono h2 (fun _ s3 h3=>?_) hE)
 refine wpAny_bind (wpAny_mono h3 (fun ok s4 h4=>?_) hE)
 cases ok with
 |false=>exact wpAny_pure ⟨rfl,h4⟩
 |true=>
 refine wpAny_bind ?_
 refine wpAny_bind (wpAny_mono h4 (fun x s5 h5=>?_) hE)
 exact wpAny_bind (wpAny_mono h5 (fun _ s6 h6=>wpAny_pure (wpAny_pure ⟨rfl,h6⟩)) hE)
abbrev GO(nl:Nat)(fr:List Nat)(wi:TI)(gz:Bx->TG)(mU:Bx->TT)(mV:Bx->TE):TE:=fun U H Q=>wi U H fun J H1=>∀(z:Bx)(D:Addr),z.U=U->H1 D=none->∃W:Nat->Nat->List V->Hp->Prop,(∃m,W 0 m [] (upd H1 D (.lst [])))/\∀i m acc H2,W i m acc H2->
 H2 D=some (.lst acc)/\((J.stop i H2/\Q (.ref D) H2)\/(J.go i H2/\∀x H3,J.jF i H2 x H3->gz z x (DT nl fr U) H3 fun L_ H4=>mU z L_ H4 fun b H5=>
  if b=true then mV z L_ H5 fun v H6=>H6 D=some (.lst acc)/\acc.length<sizeLine/\∃m',m'<m/\W (i+1) m' (acc++[v]) (upd H6 D (.lst (acc++[v]))) else ∃m',m'<m/\W (i+1) m' acc H5))
theorem Ln{use:Option (Value->Sem Unit)}{R:Value->Shared->Prop}{gz:Bx->TG}{mU:Bx->TT}{mV:Bx->TE}(loc:List Str)(fr:List Nat)(bh:List Str)(hc:X.calm=true)(hp:EQ X EX)(aT:X.stack=X.env::X.outer)(si:X.env.frame=some X.env.locals)(hi:PI X tg iter wi)
  (jJ:∀(j:Nat)(k:Nat)(x:Str),fr[j]?=some k->bh[j]?=some x->X.N[k]?=some x/\X.env.kindOf x=some .cell/\(x,NameKind.free)∈scope.names) (jK:bh.length=fr.length)
  (bW:∀y∈scope.names,y.2≠.cell) (bF:scope.kind=.function) (bV:∀y∈scope.names,y.2=.local->scope.names.lookup y.1=some .local) (cn:∀y∈scope.names,y.2=.free->X.env.kindOf y.1=some .cell)
  (gC:∀(x:Str),x∈bh->(relabel scope X.env).names.lookup x=some .cell) (lD:X.env.scope.kind=.function)
  (sj:∀(z:Bx)(v:V)(U:St)(H:Hp)(Q:St->Hp->Prop),gz z v U H Q->gz z v U H fun U' H'=>Q U' H'/\U'.length=U.length/\∀i,loc.length<=i->U'[i]?=U[i]?)
  (lF:∀(z:Bx),PG (X.aH scope z (loc++bh) EX) tg (gz z)/\sd (X.aH scope z (loc++bh) EX) ifs (mU z)/\PE (X.aH scope z (loc++bh) EX) elt (mV z))
  (I:Inv X pins U H s) (h:GO loc.length fr wi gz mU mV U H Q)
  (haf:∀(D C:Addr)(H':Hp)(s':Shared)(m:Str->Option Value),s'.heap.Ns C m->(∀h',Heap.SameBut C s'.heap h'->Inv X pins U H' {s' with heap:=h'})->
   (X.aG.heap.objs.size<=C/\C≠X.env.locals/\(∀x c,X.env.cells.lookup x=some c->c≠C)/\(∀p∈X.pn++pins,p.1≠C)/\H' C=none/\C∉bK X.stack)->Q (.ref D) H'->DI (model X.prog X.w) X.A X.xe use R (.ref D) (compEnvC scope (BA X.env scope.names []) C X.env) (.ok .next) s')
  (hs:∀x,foldedSetIterable iter X.env x=pure x):wpAny (model X.prog X.w) X.A (comprehension (.ListComp elt [⟨tg,iter,ifs,0⟩] scope pos) scope X.env afa (newList []) false (eval iter X.env) use) R X.xe s:=by
 have lb:∀x∈scope.names,x.2=.free->(X.env.cells.lookup x.1).isSome=true:=fun x hx hf=>by
  obtain⟨c,e⟩:=I.ok.has x.1 (.inl (cn x hx hf))
  rw[e];rfl
 refine PH rfl hs (PF lb) bF bV (aW (hi pins s U H _ I h) fun v s1 h1=>aW h1 fun vP s2 h2=>?_)
 obtain⟨it,fp,tn,J,H2,rfl,I2,T,ui,f2,q2⟩:=h2
 refine wpAny_newList (items:=[]) ?_ (by simp)
 have eD:H2 s2.heap.objs.size=none:=I2.aI.fresh (bx _)
 have pk:∀(o:Obj) b u,s2.heap.get? b=some u->(s2.heap.push o).get? b=some u:=fun o b u e=>Heap.get?_push_of_some _ e
 have I3:=I2.laid (a:=s2.heap.objs.size) (o:=.lst []) (t':=s2.toks) (h':=s2.heap.push {cls:=.type "list",data:=.seq ([]:List Value).toArray}) (pk _) (bx _)
  ⟨cK _,[],0,.nil,Heap.get?_push_size _ rfl⟩
 generalize wm:(⟨s2.heap.push {cls:=.type "list",data:=.seq ([]:List Value).toArray},s2.gens,s2.drawn,s2.toks,s2.os⟩:Shared)=s3 at I3 ⊢
 have k3:∀b u,s2.heap.get? b=some u->s3.heap.get? b=some u:=fun b u e=>by rw[<- wm];exact pk _ b u e
 have tk3:s3.os=s2.os/\s3.gens=s2.gens:=by rw[<- wm];exact⟨rfl,rfl⟩
 have z3:s3.heap.objs.size=s2.heap.objs.size+1:=by rw[<- wm];exact Heap.size_push ..
 refine wpAny_newFunctionEnv bW (by intro y hy;simp at hy) (fun h4 um wo=>?_) bF
 have k4:∀b u,s3.heap.get? b=some u->h4.get? b=some u:=fun b u e=>wo.extBut b u (g_ (Heap.lt_size e)) (Heap.get?_push_of_some _ e)
 have L':∀b∈fp,b<s2.heap.objs.size:=fun b hb=>by
  obtain⟨o,e,_⟩:=T.obj 0 _ ui b hb
  exact Heap.lt_size e
 obtain⟨W,⟨m0,w0⟩,turn⟩:=q2 ⟨s3.heap.objs.size,fp,s3,upd H2 s2.heap.objs.size (.lst []),pins,U⟩ _ rfl eD
 have uv:(X.aH scope ⟨s3.heap.objs.size,fp,s3,upd H2 s2.heap.objs.size (.lst []),pins,U⟩ (loc++bh) EX).Ok:=by
  refine⟨I.ok.mod,bF,I.ok.glob,I.ok.blt,bx _,fun x y c e1 e2=>I.ok.inj x y c (DH lb e1) (DH lb e2),fun x hx=>?_,fun x c z=>(nomatch z),I.ok.hd,I.ok.frames,.inl rfl,fun b hb=>⟨?_,fun x c e=>(f2 b hb).2.2.2.2.1 x c (DH lb e)⟩,I3.bs,aS I.ok.oS I3.sz,
   fun b o e hb=>?_,fun b hb z=>?_,I3.stack,I3.fI⟩
  ·have hm:(x,NameKind.free)∈scope.names:=by
    have:∃k',(k'=NameKind.cell\/k'=NameKind.free)/\(relabel scope X.env).names.lookup x=some k':=by
     rcases hx with z|z
     ·exact⟨_,.inl rfl,z⟩
     exact⟨_,.inr rfl,z⟩
    obtain⟨k',bJ,z⟩:=this
    have zm:=PySem.mem_of_lookup z
    unfold relabel at zm
    obtain⟨⟨n,k⟩,hn,e⟩:=a8.mp zm
    dsimp only at e
    split at e
    ·rename_i hk
     cases e
     have:k=NameKind.free:=by
      cases k<;>first|rfl|(simp at hk)
     rw[<- this];exact hn
    cases e
    rcases bJ with rfl|rfl
    ·exact absurd rfl (bW _ hn)
    exact hn
   obtain⟨c,e⟩:=I.ok.has x (.inl (cn _ hm rfl))
   exact⟨c,JL hm lb e⟩
  ·have:=L' b hb
   exact g_ (by rw[z3];exact Nat.lt_succ_of_lt this)
  ·rcases (f2 b hb).2.2.2.1 with z|z
   ·exact I.ok.kL b o e z
   exact absurd (gQ (Heap.lt_size (I.ok.bs b o e).1) z) (iY _)
  have:=I2.fR b z
  rcases bB.mp this with rfl|y
  ·exact(f2 _ hb).2.1 rfl
  exact(f2 b hb).2.2.1 y
 have I4:Inv (X.aH scope ⟨s3.heap.objs.size,fp,s3,upd H2 s2.heap.objs.size (.lst []),pins,U⟩ (loc++bh) EX) [] (DT loc.length fr U) (upd H2 s2.heap.objs.size (.lst [])) {s3 with heap:=h4,toks:=s3.toks+([]:List (Str×Value)).length}:=by
  refine⟨uv,rfl,I3.bare,Un.kept k4,⟨_,um,fun i x v e1 e2 e3=>?_⟩,fun x c e=>?_,I3.aI.fresh (bx _),fun x c e=>I3.cA x c (DH lb e),fun p hp=>(nomatch hp),I3.aI.kept k4,?_⟩
  ·unfold DT at e2
   by_cases hi:i<loc.length
   ·rw[oF (by simpa using hi),qi]at e2
    split at e2<;>cases e2
   rw[kH (by simpa using hi),qW,dg]at e2
   have M_:bh[i-loc.length]?=some x:=by
    have:(loc++bh)[i]?=some x:=e1
    rw[kH (nc hi)]at this
    exact this
   cases ek:fr[i-loc.length]? with
   |none=>rw[ek]at e2;cases e2
   |some k=>
   rw[ek]at e2
   have uw:(U[k]?).join=some v:=Option.some.inj e2
   have wq:U[k]?=some (some v):=by
    cases q:U[k]? with
    |none=>rw[q]at uw;cases uw
    |some y=>rw[q]at uw;exact congrArg some uw
   obtain⟨n1,n2,n3⟩:=jJ _ k x ek M_
   obtain⟨m,_,hl⟩:=I3.loc
   obtain⟨u,ru,lk⟩:=hl k x v n1 wq (.inr (.inl n2))
   refine⟨u,ru,.inr ⟨.inl (gC x (cJ M_)),?_⟩⟩
   rcases lk with⟨z,_⟩|⟨_,c,ec,ic⟩
   ·rw[n2]at z;cases z
   obtain⟨o,ho,hd⟩:=ic
   exact⟨c,JL n3 lb ec,o,k4 _ _ ho,hd⟩
  ·obtain⟨v,o,ho,hd⟩:=I3.cell x c (DH lb e)
   exact⟨v,o,k4 _ _ ho,hd⟩
  unfold DT
  show _=(loc++bh).length
  rw[eP,eP,qW,aF,jK]
 have jd:∀{H':Hp},(∀b∈fp,H' b=none)->∀b∈fp,Jb (X.aH scope ⟨s3.heap.objs.size,fp,s3,upd H2 s2.heap.objs.size (.lst []),pins,U⟩ (loc++bh) EX) [] H' b:=fun hn b hb=>
  ⟨hn b hb,(uv.ud b hb).1,uv.kM b hb,.inl hb,(uv.ud b hb).2,fun p hp=>(nomatch hp)⟩
 have fp3:∀b∈fp,(upd H2 s2.heap.objs.size (.lst [])) b=none:=fun b hb=>by
  rw[Av (g_ (L' b hb))];exact(f2 b hb).1
 obtain⟨pg,pt,pe⟩:=lF ⟨s3.heap.objs.size,fp,s3,upd H2 s2.heap.objs.size (.lst []),pins,U⟩
 have M':tn 0 h4:=T.keep 0 _ _ ui fun b _ o e=>k4 b o (k3 b o e)
 have after:∀{i:Nat}{H':Hp}{s':Shared}{acc:List V}{U':St},Inv (X.aH scope ⟨s3.heap.objs.size,fp,s3,upd H2 s2.heap.objs.size (.lst []),pins,U⟩ (loc++bh) EX) [] U' H' s'->Q (.ref s2.heap.objs.size) H'->
   DI (model X.prog X.w) X.A X.xe use R (.ref s2.heap.objs.size) (compEnvC scope (BA X.env scope.names []) s3.heap.objs.size X.env) (.ok .next) s':=by
  intro i H' s' acc U' I5 q
  obtain⟨m,hn,_⟩:=I5.loc
  refine haf s2.heap.objs.size s3.heap.objs.size H' s' m hn (fun h' hb=>?_) ⟨I3.sz,rn I3.lt,fun x c e z=>?_,fun p hp z=>?_,I5.free,fun z=>?_⟩ q
  ·have same:∀b o,s3.heap.get? b=some o->h'.get? b=s'.heap.get? b:=fun b o e=>hb.2 b (g_ (Heap.lt_size e))
   have u:=I5.base
   have un:Un (bK X.stack) fp (upd H2 s2.heap.objs.size (.lst [])) H' s3.heap h':=⟨fun b o e n h1 h2=>(same b o e).trans (u.keep b o e n h1 h2),fun b o e n h1 h2=>by
     obtain⟨sl,z⟩:=u.slot b o e n h1 h2
     exact⟨sl,(same b o e).trans z⟩,u.free,fun b o e h1=>by
     obtain⟨o',z⟩:=u.there b o e h1
     exact⟨o',(same b o e).trans z⟩,u.bO,u.bI,u.bP⟩
   have aI:dj X.prog X.w H' h':=fun b o e=>by
    have fC:H' s3.heap.objs.size=none:=I5.free
    refine(I5.aI b o e).gA (fun c w' hc z=>(hb.2 c ?_).trans z) (fun _ z=>z) fun _ _ z=>z
    rintro rfl
    rcases hc with rfl|hc
    ·rw[fC]at e;cases e
    rw[fC]at hc;cases hc
   exact I3.kO (s':={s' with heap:=h'}) (ch:=fp) I5.os un aI I5.bare (fun b hb=>⟨(f2 b hb).2.2.2.1,(f2 b hb).2.1,(f2 b hb).2.2.2.2.1,(f2 b hb).2.2.2.2.2⟩)
  ·obtain⟨v,bW⟩:=I3.cell x c e
   exact absurd (z▸bW.lt) (iY _)
  ·exact absurd (z▸Heap.lt_size (I3.pin p hp).1) (iY _)
  rcases bB.mp (I3.fR _ z) with y|y
  ·exact absurd (y▸I3.lt) (iY _)
  exact I3.oU (bx _) y
 have loop:∀s5:Shared,s5={s3 with heap:=h4,toks:=s3.toks+([]:List (Str×Value)).length}->
   codeAny (model X.prog X.w) X.A (.compLoop (.ListComp elt [⟨tg,iter,ifs,0⟩] scope pos) 0 (.ref it) (.ref s2.heap.objs.size) (compEnvC scope (BA X.env scope.names []) s3.heap.objs.size X.env))
    (DI (model X.prog X.w) X.A X.xe use R (.ref s2.heap.objs.size) (compEnvC scope (BA X.env scope.names []) s3.heap.objs.size X.env)) s5:=by
  rintro s5 rfl
  have G:Tv X ⟨s3.heap.objs.size,fp,s3,upd H2 s2.heap.objs.size (.lst []),pins,U⟩:=⟨I3,rfl,fun b hb=>⟨(f2 b hb).2.2.2.1,(f2 b hb).2.1,(f2 b hb).2.2.2.2.1,(f2 b hb).2.2.2.2.2⟩⟩
  refine LK (Eb:=(X.aH scope ⟨s3.heap.objs.size,fp,s3,upd H2 s2.heap.objs.size (.lst []),pins,U⟩ (loc++bh) EX).xe) (hE:=fun x t h=>Tw hp aT si rfl rfl (h G)) (fun n s'=>∃i acc H',Inv (X.aH scope ⟨s3.heap.objs.size,fp,s3,upd H2 s2.heap.objs.size (.lst []),pins,U⟩ (loc++bh) EX) [] (DT loc.length fr U) H' s'/\tn i s'.heap/\(∀b∈fp,H' b=none)/\W i n acc H') ?_ m0
   ⟨0,[],_,I4,M',fp3,w0⟩
  rintro n s6 ⟨i,acc,H6,I6,N_,O_,w6⟩
  obtain⟨hD,alt⟩:=turn i n acc H6 w6
  rcases alt with⟨stop,q⟩|⟨go,step⟩
  ·refine aW (T.done (X.aH scope ⟨s3.heap.objs.size,fp,s3,upd H2 s2.heap.objs.size (.lst []),pins,U⟩ (loc++bh) EX) rfl rfl rfl hc i [] s6 _ H6 _ I6 (jd O_) N_ stop) fun r s7 ⟨hr,I7⟩=>?_
   subst hr
   exact after (i:=i) (acc:=acc) I7 q
  refine aW (T.item (X.aH scope ⟨s3.heap.objs.size,fp,s3,upd H2 s2.heap.objs.size (.lst []),pins,U⟩ (loc++bh) EX) rfl rfl rfl hc i [] s6 _ H6 _ I6 (jd O_) N_ go) fun r s7 ⟨u,hr,h7⟩=>?_
  subst hr
  refine aW h7 fun _ s8 ⟨x,H8,I8,r8,y8,wu,fr8⟩=>?_
  have I8':=I8.pinned (jd fr8) (T.obj _ _ wu)
  have back:∀{og:St}{H9:Hp}{s9:Shared},Inv (X.aH scope ⟨s3.heap.objs.size,fp,s3,upd H2 s2.heap.objs.size (.lst []),pins,U⟩ (loc++bh) EX) ([]++HE fp s8.heap) og H9 s9->og.length=(DT loc.length fr U).length->(∀i,loc.length<=i->og[i]?=(DT loc.length fr U)[i]?)->
    Inv (X.aH scope ⟨s3.heap.objs.size,fp,s3,upd H2 s2.heap.objs.size (.lst []),pins,U⟩ (loc++bh) EX) [] (DT loc.length fr U) H9 s9/\tn (i+1) s9.heap/\(∀b∈fp,H9 b=none):=by
   intro og H9 s9 I9 hl hk
   refine⟨(I9.ez).weak hl.symm fun j v ej=>?_,T.keep _ _ _ wu fun b hb o e=>(I9.pin (b,o) (du _ (du _ (Fp hb e)))).1,fun b hb=>?_⟩
   ·by_cases hj:j<loc.length
    ·unfold DT at ej
     rw[oF (by simpa using hj),qi]at ej
     split at ej<;>cases ej
    rw[hk j (nc hj)];exact ej
   obtain⟨o,e,d⟩:=T.obj _ _ wu b hb
   exact(I9.pin (b,o) (du _ (du _ (Fp hb e)))).2.1
  refine aW (pg _ s8 _ H8 x u _ I8' r8 (sj _ _ _ _ _ (step x H8 y8))) fun _ s9 ⟨og,H9,I9,q9,l9,k9⟩=>?_
  refine aW (pt _ s9 og H9 _ I9 q9) fun ok s10 ⟨O',P_,ux⟩=>?_
  cases ok with
  |false=>
   rw[if_neg (by decide)]at ux ⊢
   obtain⟨m',hm,w'⟩:=ux
   obtain⟨b1,b2,b3⟩:=back P_ l9 k9
   exact⟨m',hm,i+1,acc,O',b1,b2,b3,w'⟩
  |true=>
  rw[if_pos rfl]at ux ⊢
  refine aW (pe _ s10 og O' _ P_ ux) fun y s11 ⟨v,H11,I11,r11,wx,hz,m',hm,w'⟩=>?_
  refine aW (HG _ s11 og H11 (.ref s2.heap.objs.size) [v] (.ref s2.heap.objs.size) [y] (fun _ wy=>W (i+1) m' (acc++[v]) wy) I11 rfl (.cons r11 .nil) ⟨_,acc,v,rfl,rfl,wx,hz,w'⟩) fun _ s12 ⟨_,wy,I12,_,w12⟩=>?_
  obtain⟨b1,b2,b3⟩:=back I12 l9 k9
  exact⟨m',hm,i+1,_,wy,b1,b2,b3,w12⟩
 exact codeAny_compStart_list (loop _ rfl) (T.self X.A 0 _ _ _ M' (loop _ rfl))
theorem IY{k:Nat}{gz:Bx->TG}{mU:Bx->TT}{mV:Bx->TE}(loc:List Str)(fr:List Nat)(bh:List Str)(hc:X.calm=true)(hp:EQ X EX)(aT:X.stack=X.env::X.outer)(si:X.env.frame=some X.env.locals)(hi:PI X tg iter wi)
  (jJ:∀(j:Nat)(k:Nat)(x:Str),fr[j]?=some k->bh[j]?=some x->X.N[k]?=some x/\X.env.kindOf x=some .cell/\(x,NameKind.free)∈scope.names) (jK:bh.length=fr.length)
  (bW:∀y∈scope.names,y.2≠.cell) (bF:scope.kind=.function) (bV:∀y∈scope.names,y.2=.local->scope.names.lookup y.1=some .local) (cn:∀y∈scope.names,y.2=.free->X.env.kindOf y.1=some .cell)
  (gC:∀(x:Str),x∈bh->(relabel scope X.env).names.lookup x=some .cell) (lD:X.env.scope.kind=.function)
  (sj:∀(z:Bx)(v:V)(U:St)(H:Hp)(Q:St->Hp->Prop),gz z v U H Q->gz z v U H fun U' H'=>Q U' H'/\U'.length=U.length/\∀i,loc.length<=i->U'[i]?=U[i]?)
  (lF:∀(z:Bx),PG (X.aH scope z (loc++bh) EX) tg (gz z)/\sd (X.aH scope z (loc++bh) EX) ifs (mU z)/\PE (X.aH scope z (loc++bh) EX) elt (mV z))
  (hs:∀x,foldedSetIterable iter X.env x=pure x) (hN:X.N.Nodup) (hk:X.N[k]?=some y) (hx:Loc X.env.scope y) (hf:X.fn y=true\/X.env.scope.names.lookup y=some .local)
  (lH:swapsWith (.ListComp elt [⟨tg,iter,ifs,0⟩] scope pos) (some (.Name y py)) lJ.line X.env=pure true) :
  PS X (.Assign [.Name y py] (.ListComp elt [⟨tg,iter,ifs,0⟩] scope pos) lJ) (HD (GO loc.length fr wi gz mU mV) (Gm k)):=by
 intro pins s U H D I h
 rw[exec_Assign_Name_used _ _ _ _ lH]
 refine wpAny_bind (wpAny_standAt (wpAny_bind ?_))
 show wpAny _ X.A (do let _ <- comprehension (.ListComp elt [⟨tg,iter,ifs,0⟩] scope pos) scope X.env _ (newList []) false (eval iter X.env) (some (assign (.Name y py) X.env))) _ _ s
 refine wpAny_bind (wpAny_mono (Ln (EX:=EX) (R:=fun _ s'=>SP X pins D .next s') loc fr bh hc hp aT si hi jJ jK bW bF bV cn gC lD sj lF I h (fun D' C H' s' m hn hI hC q=>?_) hs) (fun _ s' hq=>wpAny_pure (wpAny_pure hq)) fun _ _ e=>e)
 have I7:Inv X pins U H' s':=hI s'.heap ⟨rfl,fun _ _=>rfl⟩
 refine wpAny_assign_Name (Ld (v:=.ref D') I7 hN hk hx rfl (fun s8 I8 ⟨a,sb,ha⟩=>?_) hf)
 refine⟨m,hn.sameBut sb ?_,fun h9 sb9=>⟨_,H',I8.but hC sb9,q⟩⟩
 rcases ha with rfl|ha
 ·exact hC.2.1
 exact fun z=>hC.2.2.1 _ _ ha z.symm
theorem MJ{gz:Bx->TG}{mU:Bx->TT}{mV:Bx->TE}(loc:List Str)(fr:List Nat)(bh:List Str)(hc:X.calm=true)(hp:EQ X EX)(aT:X.stack=X.env::X.outer)(si:X.env.frame=some X.env.locals)(hi:PI X tg iter wi)
  (jJ:∀(j:Nat)(k:Nat)(x:Str),fr[j]?=some k->bh[j]?=some x->X.N[k]?=some x/\X.env.kindOf x=some .cell/\(x,NameKind.free)∈scope.names) (jK:bh.length=fr.length)
  (bW:∀y∈scope.names,y.2≠.cell) (bF:scope.kind=.function) (bV:∀y∈scope.names,y.2=.local->scope.names.lookup y.1=some .local) (cn:∀y∈scope.names,y.2=.free->X.env.kindOf y.1=some .cell)
  (gC:∀(x:Str),x∈bh->(relabel scope X.env).names.lookup x=some .cell) (lD:X.env.scope.kind=.function)
  (sj:∀(z:Bx)(v:V)(U:St)(H:Hp)(Q:St->Hp->Prop),gz z v U H Q->gz z v U H fun U' H'=>Q U' H'/\U'.length=U.length/\∀i,loc.length<=i->U'[i]?=U[i]?)
  (lF:∀(z:Bx),PG (X.aH scope z (loc++bh) EX) tg (gz z)/\sd (X.aH scope z (loc++bh) EX) ifs (mU z)/\PE (X.aH scope z (loc++bh) EX) elt (mV z))
  (hs:∀x,foldedSetIterable iter X.env x=pure x):PE X (.ListComp elt [⟨tg,iter,ifs,0⟩] scope pos) (GO loc.length fr wi gz mU mV):=by
 intro pins s U H Q I h
 rw[eval_ListComp]
 exact Ln (EX:=EX) (use:=none) loc fr bh hc hp aT si hi jJ jK bW bF bV cn gC lD sj lF I h (fun D C H' s' m hn hI _ q=>⟨m,hn,fun h' hb=>⟨.ref D,H',hI h' hb,rfl,q⟩⟩) hs
open Builtin Builtin.ObjectAttr
@[reducible]noncomputable def Abb(us:List Value):Obj:={cls:=.type "tuple",data:=.seq us.toArray}
section
variable{prog:Program}{w:World}{A:Around}{E:Value->Shared->Prop}{h:Heap}{g:Array GenState}{d:Drawn}{t:Nat}{os:OsState}
variable{nm q:Str}{C N x:Addr}{bs bm:List Value}{sn:List Str}{sub:List Value}{ab:Bool}{col:Option Bool}{dd:Option Addr}{k0 k1 k2 k3 k5:Option Value}{newId:String}
 {name:Str} {v:Value}
end
end L2
end
section
set_option maxHeartbeats 1000000
namespace L2
open PySem PySem.Spec PyProof.Rows PySem.W
structure lK(k:Nat)(A:Around):Prop where
 dp:A.depth+3*k+5<recursionLimit
 un:A.units+16*k+200<cLine
theorem b_.r0{k:Nat}(r:b_ k A):lK k A:=⟨r.dp,r.un⟩
@[reducible]noncomputable def wz:=List V->Hp->VK->Prop
structure sk(P:Program)(w:World)(K:Frag)(mg:Str->Option Value)(base:Heap)(k:Nat)(f:Addr)(fd:FuncData)(ps:List Str)(sp:wz):Prop where
 len:∀vs H Q,sp vs H Q->vs.length=ps.length
 run:∀(A:Around)(outer:List Env)(s:Shared)(H:Hp)(args:Args)(us:List Value)(vs:List V)(Q:VK),lK k A->kY P w K mg base A outer s H->BindsTo s fd args (ps.zip us)->Vals vs us->sp vs H Q->
  codeAny (model P w) A (.call (.ref f) args) (CR (cX P w) outer P w H s Q fun _ _ _=>False) s
section
variable{P:Program}{w:World}{K:Frag}{mg:Str->Option Value}{base:Heap}
abbrev Yf(P:Program)(w:World)(K:Frag)(mg:Str->Option Value)(base:Heap)(x:Str)(k:Nat)(ps:List Str)(sp:wz):Prop :=
 ∃f fd,sk P w K mg base k f fd ps sp/\mg x=some (.ref f)/\PySem.W.keepIn K (.ref f)=true/\Binds K fd ps []
end
end L2
end
section
namespace L2
open PySem PySem.Spec PyProof.Rows PySem.W
section
variable{X:Cx}{pins:List (Addr×Obj)}{U:St}{H:Hp}{s:Shared}
theorem VH{i:Nat}{tb:cG->WT->ur->TS}{th:Addr->TS}(hc:X.calm=true)(hs:X.stack=X.env::X.outer)(hf:X.env.frame=some X.env.locals)
  (hi:X.N.length<=i) (hg:Gl X x) (hm:X.mg x=some c)
  (hb:∀(E:cG)(W:Value->Shared->Prop)(pn:List (Addr×Obj)),E5 (cX X.prog X.w) (X.eY W pn) E->gu (X.eY W pn) body (tb E W pn)) (hh:∀e,gu (X.kz e) (so::oh) (th e)) (ho:gu X orelse te)
  (hd:(x==("__debug__" : Str))=false:=by decide) :
  PS X (.Try body [.ExceptHandler (some (.Name x np)) none (so::oh) wA] orelse [] pos) (XV X.K c i tb th te):=by
 intro pins s U H D I h
 refine wpAny_Try_except ?_
 have I2:=I.r_ (W:=fun e aN=>wpAny (model X.prog X.w) X.A (noteFrame e X.env) (fun _ kP=>wpAny (model X.prog X.w) X.A (setFlight e none) (fun _ wB=>wpAny (model X.prog X.w) X.A (handleBy e X.env [.ExceptHandler (some (.Name x np)) none (so::oh) wA]) (SP X pins D) X.xe wB) X.xe kP) X.xe aN)
 refine aW (hb _ _ _ ?_ [] s U H _ I2 (h _ _)) fun f s1 q=>?_
 ·intro iF mQ H1 s1 ev s' I1 hcx
  obtain⟨e,cls,a0,H',B,od,rfl,n6,Q_,fl,aI,en,keep,slot,free,there,bO,bI,bP,lu,C,rfl,hex,hth⟩:=hcx
  have J:Inv X pins mQ H1 s1:=I1.ly I.ok
  have fl':Heap.FlyingW B (X.env::X.outer) e (.ref C) a0 s'.heap:=hs▸fl
  refine wpAny_mono (GN.any (wpAny_looks_onW (Q:=fun _ s2=>∃h4,s2={s' with heap:=h4}/\Heap.HeldW B (X.env::X.outer) e (.ref C) a0 X.env.locals h4/\s'.heap.UpToSlots h4) (base:=B) (by rw[I.ok.frames,hs]) hf fl' fun h4 held wC=>⟨h4,rfl,held,wC⟩)) (fun _ s2 q2=>?_) fun _ _ z=>z.1
  obtain⟨⟨h4,rfl,held,wC⟩,dk4⟩:=q2
  refine wpAny_mono (Ep.any (wpAny_landsW (Q:=fun _ s2=>∃h5,s2={s' with heap:=h5}/\Heap.FlyingW B (X.env::X.outer) e (.ref C) a0 h5/\h4.UpToSlots h5) held fun h5 sr wD=>⟨h5,rfl,sr,wD⟩)) (fun _ s2 q2=>?_) fun _ _ z=>z.1
  obtain⟨⟨h5,rfl,sr,wD⟩,dk5⟩:=q2
  have R_:∀dx,od=some dx->∃oe,h5.get? e=some oe/\oe.dict=some dx:=fun dx z=>by
   obtain⟨oe,q1,q2⟩:=lu dx z
   obtain⟨o',q3,q4⟩:=(DK.trans dk4 dk5) e oe q1
   exact⟨o',q3,q4.trans q2⟩
  have su:=wC.trans wD
  have J5:=J.landed (s':=s') (h5:=h5) (t':=s'.toks) hs hf n6 Q_ (hs.symm▸sr) su fl aI en keep slot free there bO bI bP R_
  refine wpAny_handleBy_cons (codeAny_handlers_test (Ir (X:=X.kz e) (J5.kz e) hg hm ?_ hd)) (by intro q;cases q)
  have LT:Looks (model X.prog X.w) h5 (typeOf (.ref e)) (.ref C):=nt.type sr.there
  refine(exm_one J5.gB LT hex).here ?_
  refine codeAny_handlers_suite ?_
  refine wpAny_mono (Ep.any (lands_againW (Q:=fun _ s2=>∃h6,s2={s' with heap:=h6}/\Heap.FlyingW B (X.env::X.outer) e (.ref C) a0 h6/\h5.UpToSlots h6) sr fun h6 wF wG=>⟨h6,rfl,wF,wG⟩)) (fun _ s2 q2=>?_) fun _ _ z=>z.1
  obtain⟨⟨h6,rfl,wF,wG⟩,dk6⟩:=q2
  have hd6:∀dx,od=some dx->∃oe,h6.get? e=some oe/\oe.dict=some dx:=fun dx z=>by
   obtain⟨oe,q1,q2⟩:=R_ dx z
   obtain⟨o',q3,q4⟩:=dk6 e oe q1
   exact⟨o',q3,q4.trans q2⟩
  have J6:=J.landed (s':=s') (h5:=h6) (t':=s'.toks) hs hf n6 Q_ (hs.symm▸wF) (su.trans wG) fl aI en keep slot free there bO bI bP hd6
  have sv:=hth e en
  rw[tI (by rw[J6.len];exact hi)]at sv
  refine wpAny_mono (hh e pins _ _ _ _ (J6.kz e) sv) (fun f s8 q8=>?_) fun _ _ z=>z.elim
  cases f with
  |next=>
   obtain⟨fj,H2,K2,q2⟩:=q8
   have q2:D.nx (fj.set i none) H2:=q2
   rw[tI (by rw[K2.len];exact hi)]at q2
   exact⟨fj,H2,K2.r9 I.ok,q2⟩
  |ret u=>
   obtain⟨v,fj,H2,K2,rv,q2⟩:=q8
   exact⟨v,fj,H2,K2.r9 I.ok,rv,q2⟩
  |brk=>
   obtain⟨_,_,_,q2⟩:=q8
   exact False.elim q2
  |cont=>
  obtain⟨_,_,_,q2⟩:=q8
  exact False.elim q2
 cases f with
 |next=>
  obtain⟨fj,H2,K2,q2⟩:=q
  exact ho pins s1 fj H2 D (K2.ly I.ok) q2
 |ret u=>
  obtain⟨v,fj,H2,K2,rv,q2⟩:=q
  exact⟨v,fj,H2,K2.ly I.ok,rv,q2⟩
 |brk=>
  obtain⟨fj,H2,K2,q2⟩:=q
  exact⟨fj,H2,K2.ly I.ok,q2⟩
 |cont=>
 obtain⟨fj,H2,K2,q2⟩:=q
 exact⟨fj,H2,K2.ly I.ok,q2⟩
end
end L2
end
section
namespace Pu
open PySem (Str)
inductive D where
 |aJ
 |bl (b:Bool)
 |int (i:Int)
 |str (x:Str)
 |tup (ds:List D)
 |lst (ds:List D)
 |cq (c:Nat)
 |eS (ks:List (Sum Int Str)) (ds:List D)
 |eU (ks:List (List (Sum Int Str))) (ds:List D)
theorem au{P:Prop}(h:false=true):P:=nomatch h
inductive Res(α:Type) where
 |ok (a:α)
 |exc (c:Nat)
 |bad
namespace Res
abbrev bind{α β:Type}:Res α->(α->Res β)->Res β
 |.ok a,f=>f a
 |.exc c,_=>.exc c
 |.bad,_=>.bad
@[simp] theorem bind_ok{α β:Type}(a:α)(f:α->Res β):(Res.ok a).bind f=f a:=rfl
@[simp] theorem lL{α β:Type}(c:Nat)(f:α->Res β):(Res.exc c:Res α).bind f=.exc c:=rfl
@[simp] theorem fT{α β:Type}(f:α->Res β):(Res.bad:Res α).bind f=.bad:=rfl
theorem cb{α β:Type}{r:Res α}{f:α->Res β}{b:β}(h:r.bind f=.ok b):∃a,r=.ok a/\f a=.ok b:=by
 cases r<;>simp_all
end Res
mutual
noncomputable def D.eqv:D->D->Bool
 |.aJ,.aJ=>true
 |.bl a,.bl b=>a==b
 |.bl a,.int j=>(if a then 1 else 0)==j
 |.int i,.bl b=>i==(if b then 1 else 0)
 |.int i,.int j=>i==j
 |.str x,.str y=>x==y
 |.lst xs,.lst ys=>D.hV xs ys
 |.tup xs,.tup ys=>D.hV xs ys
 |_,_=>false
noncomputable def D.hV:List D->List D->Bool
 |[],[]=>true
 |x::xs,y::ys=>D.eqv x y&&D.hV xs ys
 |_,_=>false
end
abbrev D.aX:Nat->D->Bool
 |_,.aJ=>true
 |_,.bl _=>true
 |_,.int _=>true
 |_,.str x=>x.cps.all (· < 0x110000)
 |0,.tup _=>false
 |0,.lst _=>false
 |n+1,.tup ds=>ds.all (D.aX n)
 |n+1,.lst ds=>ds.all (D.aX n)
 |_,.cq _=>false
 |_,.eS _ _=>false
 |_,.eU _ _=>false
abbrev D.flat:Nat->Nat->D->Bool
 |0,_,_=>false
 |_+1,_,.aJ=>true
 |_+1,_,.bl _=>true
 |_+1,_,.int _=>true
 |_+1,_,.str _=>true
 |_+1,_,.cq _=>true
 |m+1,k,.tup ds=>ds.all (D.flat m k)
 |_+1,0,.lst _=>false
 |m+1,k+1,.lst ds=>ds.all (D.flat m k)
 |_+1,0,.eS _ _=>false
 |m+1,k+1,.eS _ ds=>ds.all (D.flat m k)
 |_+1,0,.eU _ _=>false
 |m+1,k+1,.eU _ ds=>ds.all (D.flat m k)
@[reducible]noncomputable def dn:Nat:=16777216
@[reducible]noncomputable def Fr:=List (Option D)
structure Fn where
 name:Str
 ar:Nat
 lv:Nat
 dep:Nat
 den:List D->Res D
set_option genSizeOf false
set_option genSizeOfSpec false
set_option genInjectivity false
inductive B2 where
 |add|sub|mul|fdiv|mod|pow
 deriving DecidableEq
inductive C2 where
 |lt|le|gt|ge|eq|ne|pJ|oi
 deriving DecidableEq
inductive Kd where
 |int|bool|str|list|tuple|dict|lM|cls (n:Nat)
 deriving DecidableEq
inductive Bi where
 |len|min|max|iJ|je|int|list|all|str|fw|cw
 deriving DecidableEq
inductive Mt where
 |count|index
 deriving DecidableEq
inductive Tg where
 |nm (i:Nat)
 |tp (is:List Nat)
 deriving DecidableEq
mutual
inductive E where
 |nm (i:Nat)
 |cN
 |cB (b:Bool)
 |cI (i:Int)
 |cS (x:Str)
 |gl (x:Str) (d:D)
 |tup (es:Es)
 |lst (es:Es)
 |bin (o:B2) (a b:E)
 |neg (a:E)
 |not (a:E)
 |cmp (o:C2) (a b:E)
 |chain (o o':C2) (a b c:E)
 |bA (n:Bool) (a:E)
 |bo (and:Bool) (es:Es)
 |ix (a i:E)
 |gU (a i:E)
 |cC (a i:E)
 |nv (a i:E)
 |i7 (a b:E)
 |fJ (a b:E)
 |eY (n:Bool) (a b:E)
 |lN (a lo hi:E)
 |call (f:Fn) (es:Es)
 |aK (f:Fn) (es:Es)
 |bi (b:Bi) (es:Es)
 |jY (a:E) (k:Kd)
 |mt (m:Mt) (a:E) (es:Es)
 |a9 (nl:Nat) (fr:List Nat) (tg:Tg) (it:It) (cond elt:E)
 |ao (nl:Nat) (fr:List Nat) (tg:Tg) (it:It) (elt:E)
inductive Es where
 |nil
 |cons (e:E) (r:Es)
inductive It where
 |seq (e:E)
 |bQ (e:E)
 |r1 (a:E)
 |r2 (a b:E)
 |r3 (a b c:E)
 |kA (e:E)
end
abbrev get(δ:Fr)(i:Nat):Res D:=match δ[i]? with
 |some (some d)=>.ok d
 |_=>.bad
abbrev on1:List D->(D->Res D)->Res D
 |[a],f=>f a
 |_,_=>.bad
abbrev on2:List D->(D->D->Res D)->Res D
 |[a,b],f=>f a b
 |_,_=>.bad
abbrev on3:List D->(D->D->D->Res D)->Res D
 |[a,b,c],f=>f a b c
 |_,_=>.bad
abbrev Er:D->(Int->Res D)->Res D
 |.int i,f=>f i
 |_,_=>.bad
abbrev BR(a b:D)(f:Int->Int->Res D):Res D:=Er a fun i=>Er b fun j=>f i j
abbrev DU:D->(List D->Res D)->Res D
 |.lst ds,f=>f ds
 |.tup ds,f=>f ds
 |_,_=>.bad
abbrev PJ:D->D->Res D
 |.int i,.int j=>.ok (.int (i+j))
 |.lst a,.lst b=>if a.length+b.length<=dn then .ok (.lst (a++b)) else .bad
 |.str a,.str b=>if a.length+b.length<=dn then .ok (.str (a++b)) else .bad
 |_,_=>.bad
abbrev MK:D->D->Res D
 |.int i,.int j=>if(-(2^64)<i/\i<2^64)\/(-(2^64)<j/\j<2^64) then .ok (.int (i*j)) else if i.natAbs<2^400/\j.natAbs<2^400 then .ok (.int (i*j)) else .bad
 |.lst a,.int k=>if -(2^63)<=k/\k<2^63/\a.length*k.toNat<=dn then .ok (.lst (aaq k.toNat a).flatten) else .bad
 |_,_=>.bad
abbrev b2:B2->D->D->Res D
 |.add,a,b=>PJ a b
 |.sub,a,b=>BR a b fun i j=>.ok (.int (i-j))
 |.mul,a,b=>MK a b
 |.fdiv,a,b=>BR a b fun i j=>if 0<j/\j<2^200 then .ok (.int (i/j)) else .bad
 |.mod,a,b=>BR a b fun i j=>if 0<j then .ok (.int (i%j)) else .bad
 |.pow,a,b=>BR a b fun i j=>if 0<=j/\j<=1000000/\i.natAbs<2^64 then .ok (.int (i^j.toNat)) else .bad
abbrev D.a_:D->Bool
 |.aJ|.bl _|.int _|.str _=>true
 |_=>false
abbrev inD(x:D)(ys:List D):Res Bool:=if D.aX 8 x&&ys.all (D.aX 8) then .ok (ys.any fun y=>D.eqv y x) else .bad
abbrev c2:C2->D->D->Res D
 |.lt,a,b=>BR a b fun i j=>.ok (.bl (decide (i<j)))
 |.le,a,b=>BR a b fun i j=>.ok (.bl (decide (i<=j)))
 |.gt,a,b=>BR a b fun i j=>.ok (.bl (decide (j<i)))
 |.ge,a,b=>BR a b fun i j=>.ok (.bl (decide (j<=i)))
 |.eq,x,y=>if D.aX 8 x&&D.aX 8 y then .ok (.bl (D.eqv x y)) else .bad
 |.ne,x,y=>if D.aX 8 x&&D.aX 8 y then .ok (.bl (!D.eqv x y)) else .bad
 |.pJ,x,y=>DU y fun ys=>(inD x ys).bind fun b=>.ok (.bl b)
 |.oi,x,y=>DU y fun ys=>(inD x ys).bind fun b=>.ok (.bl !b)
abbrev dE(n:Nat)(i:Int):Option Nat:=if 0<=i then(if i<n then some i.toNat else none) else if -(n:Int)<=i then some (i+n).toNat else none
abbrev bz(ds:List D)(i:Int):Res D:=match (dE ds.length i).bind (fun j=>ds[j]?) with
 |some d=>.ok d
 |none=>.bad
abbrev ixD:D->D->Res D
 |.lst ds,.int i=>bz ds i
 |.tup ds,.int i=>bz ds i
 |_,_=>.bad
abbrev FT:D->D->Res D
 |.lst ds,.int i=>bz ds i
 |_,_=>.bad
abbrev Hc:D->D->Res D
 |.tup ds,.int i=>bz ds i
 |_,_=>.bad
abbrev bp(n d:Nat):Option Int->Nat
 |none=>d
 |some v=>(if v<0 then max (v+(n:Int)) 0 else min v (n:Int)).toNat
abbrev cut{α:Type}(xs:List α)(lo hi:Option Int):List α:=(xs.drop (bp xs.length 0 lo)).take (bp xs.length xs.length hi-bp xs.length 0 lo)
abbrev DV:D->Res (Option Int)
 |.int i=>.ok (some i)
 |_=>.bad
abbrev C5(n:Bool)(r:Res D):Res (Option Int):=if n then .ok none else r.bind DV
abbrev E.isCN:E->Bool
 |.cN=>true
 |_=>false
abbrev Fe:D->Option Int->Option Int->Res D
 |.lst ds,lo,hi=>.ok (.lst (cut ds lo hi))
 |.tup ds,lo,hi=>if ds.all D.a_=true/\¬(bp ds.length 0 lo=0/\bp ds.length ds.length hi=ds.length) then .ok (.tup (cut ds lo hi)) else .bad
 |_,_,_=>.bad
abbrev BP:D->Res Bool
 |.aJ=>.ok false
 |.bl b=>.ok b
 |.int i=>.ok (i != 0)
 |.lst ds=>.ok (!ds.isEmpty)
 |.tup ds=>.ok (!ds.isEmpty)
 |_=>.bad
abbrev oj(c d:Nat):Bool:=c==d||d==0
abbrev dI:D->Bool
 |.int _=>true
 |.bl _=>true
 |_=>false
abbrev dB:D->Bool
 |.bl _=>true
 |_=>false
abbrev dS:D->Bool
 |.str _=>true
 |_=>false
abbrev dL:D->Bool
 |.lst _=>true
 |_=>false
abbrev dT':D->Bool
 |.tup _=>true
 |_=>false
abbrev dD:D->Bool
 |.cq c=>c==999
 |.eS _ _=>true
 |.eU _ _=>true
 |_=>false
abbrev Yg(c:Nat):Int:=if(c-1000)%2=0 then(((c-1000)/2:Nat):Int) else -(((c-1000)/2:Nat):Int)
abbrev jL(c:Nat):Nat:=if 1000<=c then 4 else c
abbrev cat(n c:Nat):Bool:=oj (jL n) c
abbrev kr{α:Type}:Res α->Res α
 |.exc c=>if 1000<=c then .bad else .exc c
 |r=>r
abbrev dX:D->(Nat->Bool)->Res Bool
 |.cq c,f=>if c==999 then .bad else .ok (f (jL c))
 |_,_=>.bad
abbrev Dd(d:D):Kd->Res Bool
 |.int=>.ok (dI d)
 |.bool=>.ok (dB d)
 |.str=>.ok (dS d)
 |.list=>.ok (dL d)
 |.tuple=>.ok (dT' d)
 |.dict=>.ok (dD d)
 |.lM=>dX d fun _=>true
 |.cls n=>dX d fun c=>oj c n
abbrev AJ:List D->Option (List Int)
 |[]=>some []
 |.int i::r=>(AJ r).map (i::·)
 |_=>none
abbrev AM:List D->Option (List Bool)
 |[]=>some []
 |.bl i::r=>(AM r).map (i::·)
 |_=>none
abbrev AG{α:Type}:Option α->Res α
 |some a=>.ok a
 |none=>.bad
abbrev DW:D->(List Int->Res D)->Res D
 |.lst ds,f=>(AG (AJ ds)).bind f
 |_,_=>.bad
abbrev Dh:D->(List Bool->Res D)->Res D
 |.lst ds,f=>(AG (AM ds)).bind f
 |_,_=>.bad
abbrev GA:D->(List D->Res D)->Res D
 |.lst ds,f=>f ds
 |_,_=>.bad
abbrev FV:D->Res D
 |.int i=>.ok (.int i)
 |.bl b=>.ok (.int (if b then 1 else 0))
 |_=>.bad
abbrev biD:Bi->List D->Res D
 |.len,ds=>on1 ds fun d=>DU d fun ds=>.ok (.int ds.length)
 |.min,ds=>on2 ds fun a b=>BR a b fun i j=>.ok (.int (min i j))
 |.max,ds=>on2 ds fun a b=>BR a b fun i j=>.ok (.int (max i j))
 |.iJ,ds=>on1 ds fun d=>DW d fun ns=>(AG ns.max?).bind fun n=>.ok (.int n)
 |.je,ds=>on1 ds fun d=>DW d fun ns=>(AG ns.min?).bind fun n=>.ok (.int n)
 |.int,ds=>on1 ds FV
 |.list,ds=>on1 ds fun d=>DU d fun ds=>.ok (.lst ds)
 |.all,ds=>on1 ds fun d=>Dh d fun bs=>.ok (.bl (bs.all id))
 |.str,ds=>on1 ds fun d=>Er d fun i=>if i.natAbs<1606938044258990275541962092341162602522202993782792835301376 then .ok (.str (Str.ofString (toString i))) else .bad
 |.fw,ds=>on1 ds fun d=>match d with
  |.str z=>if z.length<=dn then .ok (.int (z.length:Nat)) else .bad
  |_=>.bad
 |.cw,ds=>on1 ds fun d=>match d with
  |.str z=>if(z.cps.toList.all fun c=>decide (48<=c)&&decide (c<=57))=true/\z.cps.toList≠[]/\z.length<=640 then .ok (.int ((z.cps.toList.foldl (fun acc c=>acc*10+(c-48)) 0:Nat):Int)) else .bad
  |_=>.bad
abbrev Eu(v:Int):List Int->Option Nat
 |[]=>none
 |x::r=>if x=v then some 0 else(Eu v r).map (·+1)
abbrev Yh:D->D->Res D
 |.str z,.str y=>if y.length≠0/\z.length<=dn/\(PySem.Txt.split z y).length<=dn then .ok (.lst ((PySem.Txt.split z y).map .str)) else .bad
 |_,_=>.bad
abbrev Ku(n:Bool):D->D->Res D
 |.str x,.str y=>match x.cps.toList with
  |[c]=>.ok (.bl ((decide (c∈y.cps.toList)) != n))
  |_=>.bad
 |_,_=>.bad
abbrev Gp(z:Str):List D:=z.cps.toList.map fun c=>.str ⟨#[c]⟩
abbrev PK:D->Res (List D)
 |.str z=>if z.length<=dn then .ok (Gp z) else .bad
 |_=>.bad
abbrev wH:D->D->Res D
 |.str z,.int i=>if z.length<=dn then(match (dE z.cps.toList.length i).bind (fun j=>z.cps.toList[j]?) with
  |some c=>.ok (.str ⟨#[c]⟩)
  |none=>.bad) else .bad
 |_,_=>.bad
abbrev DX:List D->Option (List Str)
 |[]=>some []
 |.str i::r=>(DX r).map (i::·)
 |_=>none
abbrev Jf:D->D->Res D
 |.str z,.lst ds=>(AG (DX ds)).bind fun ts=>if ts.foldl (fun n t=>n+t.length+z.length) 0<=dn then .ok (.str (Str.join z ts)) else .bad
 |_,_=>.bad
abbrev qF:Mt->D->List D->Res D
 |.count,.lst ds,[.bl k]=>(AG (AM ds)).bind fun bs=>.ok (.int ((bs.filter (·==k)).length:Int))
 |.index,.lst ds,[.int v]=>(AG (AJ ds)).bind fun ns=>(AG (Eu v ns)).bind fun j=>.ok (.int (j:Nat))
 |_,_,_=>.bad
abbrev HI:List Nat->List D->Fr->Option Fr
 |[],[],δ=>some δ
 |i::is,d::ds,δ=>HI is ds (δ.set i (some d))
 |_,_,_=>none
abbrev CI:Tg->D->Fr->Option Fr
 |.nm i,d,δ=>some (δ.set i (some d))
 |.tp is,.tup ds,δ=>HI is ds δ
 |.tp is,.lst ds,δ=>HI is ds δ
 |_,_,_=>none
abbrev GP(f:D->Res (Option D)):List D->Res (List D)
 |[]=>.ok []
 |d::ds=>match f d with
  |.ok o=>(GP f ds).bind fun r=>.ok (match o with|some x=>x::r|none=>r)
  |_=>.bad
abbrev DJ(f:D->Res D):List D->Res (List D)
 |[]=>.ok []
 |d::ds=>(f d).bind fun x=>(DJ f ds).bind fun r=>.ok (x::r)
abbrev lA(nl:Nat)(fr:List Nat)(δ:Fr):Fr:=aaq nl none++fr.map fun j=>(δ[j]?).join
abbrev Ay(a b:Int):List D:=(dh (b-a).toNat).map fun(i:Nat)=>D.int (a+i)
abbrev ER:D->Res (List D)
 |.lst ds=>.ok ds
 |.tup ds=>.ok ds
 |_=>.bad
abbrev Di:D->Res (List D)
 |.lst ds=>.ok ds
 |_=>.bad
abbrev BS(i:Int):Bool:=decide (-(2^62)<=i)&&decide (i<2^62)
abbrev Ty:D->D->Res (List D)
 |.int a,.int b=>if BS a&&BS b&&decide ((b-a).toNat<=dn) then .ok (Ay a b) else .bad
 |_,_=>.bad
abbrev FW(a:Int)(c:Int)(n:Nat):List D:=(dh n).map fun(i:Nat)=>D.int (a+i*c)
abbrev om(a b c:Int):Nat:=if 0<c then((b-a+c-1)/c).toNat else((a-b+(-c)-1)/(-c)).toNat
abbrev Tz:D->D->D->Res (List D)
 |.int a,.int b,.int c=>if BS a&&BS b&&BS c&&decide (c≠0)&&decide (om a b c<=dn) then .ok (FW a c (om a b c)) else .bad
 |_,_,_=>.bad
mutual
noncomputable def ev:E->Fr->Res D
 |.nm i,δ=>get δ i
 |.cN,_=>.ok .aJ
 |.cB b,_=>.ok (.bl b)
 |.cI i,_=>.ok (.int i)
 |.cS x,_=>.ok (.str x)
 |.gl _ d,_=>.ok d
 |.tup es,δ=>(evs es δ).bind fun ds=>.ok (.tup ds)
 |.lst es,δ=>(evs es δ).bind fun ds=>.ok (.lst ds)
 |.bin o a b,δ=>(ev a δ).bind fun x=>(ev b δ).bind fun y=>b2 o x y
 |.neg a,δ=>(ev a δ).bind fun x=>match x with|.int i=>.ok (.int (-i))|_=>.bad
 |.not a,δ=>(ev a δ).bind fun x=>match x with|.bl b=>.ok (.bl !b)|_=>.bad
 |.cmp o a b,δ=>(ev a δ).bind fun x=>(ev b δ).bind fun y=>c2 o x y
 |.chain o o' a b c,δ=>(ev a δ).bind fun x=>(ev b δ).bind fun y=>(c2 o x y).bind fun r=>match r with
  |.bl true=>(ev c δ).bind fun z=>c2 o' y z
  |.bl false=>.ok (.bl false)
  |_=>.bad
 |.bA n a,δ=>(ev a δ).bind fun x=>.ok (.bl (match x with|.aJ=>!n|_=>n))
 |.bo k es,δ=>evBo k es δ
 |.ix a i,δ=>(ev a δ).bind fun x=>(ev i δ).bind fun y=>ixD x y
 |.gU a i,δ=>((ev a δ).bind fun x=>(ev i δ).bind fun y=>ixD x y).bind fun d=>if D.a_ d=true then .ok d else .bad
 |.cC a i,δ=>(ev a δ).bind fun x=>(ev i δ).bind fun y=>FT x y
 |.nv a i,δ=>(ev a δ).bind fun x=>(ev i δ).bind fun y=>wH x y
 |.fJ a b,δ=>(ev a δ).bind fun x=>if dS x=true then(ev b δ).bind fun y=>Yh x y else .bad
 |.eY n a b,δ=>(ev a δ).bind fun x=>(ev b δ).bind fun y=>Ku n x y
 |.i7 a b,δ=>(ev a δ).bind fun x=>if dS x=true then(ev b δ).bind fun y=>Jf x y else .bad
 |.lN a lo hi,δ=>(ev a δ).bind fun x=>(C5 lo.isCN (ev lo δ)).bind fun l=>(C5 hi.isCN (ev hi δ)).bind fun h=>Fe x l h
 |.call f es,δ=>(evs es δ).bind fun ds=>f.den ds
 |.aK f es,δ=>(evs es δ).bind fun ds=>(f.den ds).bind fun d=>if D.flat 9 f.dep d then .ok d else .bad
 |.bi b es,δ=>(evs es δ).bind fun ds=>biD b ds
 |.jY a k,δ=>(ev a δ).bind fun x=>(Dd x k).bind fun b=>.ok (.bl b)
 |.mt m a es,δ=>(ev a δ).bind fun x=>if dL x=true then(evs es δ).bind fun ds=>qF m x ds else .bad
 |.a9 nl fr tg it cond elt,δ=>(evI it δ).bind fun ds=>(GP (fun d=>match CI tg d (lA nl fr δ) with
   |some aQ=>((ev cond aQ).bind BP).bind fun t=>if t then(ev elt aQ).bind fun x=>.ok (some x) else .ok none
   |none=>.bad) ds).bind fun r=>.ok (.lst r)
 |.ao nl fr tg it elt,δ=>(evI it δ).bind fun ds=>(DJ (fun d=>match CI tg d (lA nl fr δ) with
   |some aQ=>kr (ev elt aQ)
   |none=>.bad) ds).bind fun r=>.ok (.lst r)
noncomputable def evs:Es->Fr->Res (List D)
 |.nil,_=>.ok []
 |.cons e r,δ=>(ev e δ).bind fun x=>(evs r δ).bind fun xs=>.ok (x::xs)
noncomputable def evBo(k:Bool):Es->Fr->Res D
 |.nil,_=>.bad
 |.cons e .nil,δ=>ev e δ
 |.cons e (.cons e' r),δ=>(ev e δ).bind fun x=>match x with
  |.bl c=>if c=k then evBo k (.cons e' r) δ else .ok (.bl c)
  |_=>.bad
noncomputable def evI:It->Fr->Res (List D)
 |.seq e,δ=>(ev e δ).bind ER
 |.bQ e,δ=>(ev e δ).bind Di
 |.r1 a,δ=>(ev a δ).bind fun x=>Ty (.int 0) x
 |.r2 a b,δ=>(ev a δ).bind fun x=>(ev b δ).bind fun y=>Ty x y
 |.r3 a b c,δ=>(ev a δ).bind fun x=>(ev b δ).bind fun y=>(ev c δ).bind fun z=>Tz x y z
 |.kA e,δ=>(ev e δ).bind PK
end
abbrev tv(e:E)(δ:Fr):Res Bool:=(ev e δ).bind BP
inductive Um where
 |append|extend|clear
 deriving DecidableEq
mutual
inductive S where
 |asg (x:Nat) (k:Nat) (e:E)
 |gv (x:Nat) (k:Nat)
 |dead (x:Nat)
 |eE (xs:List Nat) (e:E)
 |set (x:Nat) (path:List (Bool×E)) (i e:E)
 |mut (x:Nat) (path:List (Bool×E)) (m:Um) (es:Es)
 |expr (e:E)
 |iff (c:E) (a b:Ss)
 |wh (c:E) (b:Ss)
 |cY (tg:Tg) (it:It) (b:Ss)
 |ret (e:E)
 |gD (es:Es)
 |raise (c:Nat) (es:Es)
 |fx (b:Ss) (c:Nat) (i:Nat) (h:Ss) (e:Ss)
inductive Ss where
 |nil
 |cons (s:S) (r:Ss)
end
inductive Out where
 |bb (δ:Fr)
 |ret (d:D)
 |exc (c:Nat) (δ:Fr)
 |bad
abbrev evP:List (Bool×E)->Fr->Res (List (Bool×Int))
 |[],_=>.ok []
 | (t,e)::r,δ=>match ev e δ with
  |.ok (.int i)=>(evP r δ).bind fun is=>.ok ((t,i)::is)
  |_=>.bad
abbrev CP(f:List D->Option (List D)):List (Bool×Int)->D->Option D
 |[],.lst ds=>(f ds).map D.lst
 | (false,i)::r,.lst ds=>(dE ds.length i).bind fun j=>(ds[j]?).bind fun d=>(CP f r d).map fun d'=>.lst (ds.set j d')
 | (true,i)::r,.tup ds=>(dE ds.length i).bind fun j=>(ds[j]?).bind fun d=>(CP f r d).map fun d'=>.tup (ds.set j d')
 |_,_=>none
abbrev un1{α:Type}:List D->(D->Option α)->Option α
 |[d],f=>f d
 |_,_=>none
abbrev un0{α:Type}:List D->Option α->Option α
 |[],r=>r
 |_,_=>none
abbrev Aab(ds:List D):D->Option (List D)
 |.lst es=>if ds.length+es.length<=dn then some (ds++es) else none
 |_=>none
abbrev jZ:Um->List D->List D->Option (List D)
 |.append,es,ds=>un1 es fun d=>if ds.length<dn then some (ds++[d]) else none
 |.extend,es,ds=>un1 es (Aab ds)
 |.clear,es,_=>un0 es (some [])
abbrev Mb(i:Int)(d:D)(ds:List D):Option (List D):=(dE ds.length i).map fun j=>ds.set j d
abbrev upd(δ:Fr)(x:Nat)(f:D->Option D):Out:=match δ[x]? with
 |some (some d)=>match f d with
  |some d'=>.bb (δ.set x (some d'))
  |none=>.bad
 |_=>.bad
abbrev Res.out{α:Type}(r:Res α)(δ:Fr)(f:α->Out):Out:=match r with
 |.ok a=>f a
 |.exc c=>.exc c δ
 |.bad=>.bad
@[simp] theorem Res.out_ok{α:Type}(a:α)(δ:Fr)(f:α->Out):(Res.ok a).out δ f=f a:=rfl
@[simp] theorem Res.fK{α:Type}(c:Nat)(δ:Fr)(f:α->Out):(Res.exc c:Res α).out δ f=.exc c δ:=rfl
@[simp] theorem Res.uy{α:Type}(δ:Fr)(f:α->Out):(Res.bad:Res α).out δ f=.bad:=rfl
abbrev Out.then(o:Out)(f:Fr->Out):Out:=match o with
 |.bb δ=>f δ
 |.ret d=>.ret d
 |.exc c δ=>.exc c δ
 |.bad=>.bad
@[simp] theorem Out.then_nxt(δ:Fr)(f:Fr->Out):(Out.bb δ).then f=f δ:=rfl
@[simp] theorem Out.then_ret(d:D)(f:Fr->Out):(Out.ret d).then f=.ret d:=rfl
@[simp] theorem Out.c7(c:Nat)(δ:Fr)(f:Fr->Out):(Out.exc c δ).then f=.exc c δ:=rfl
@[simp] theorem Out.sy(f:Fr->Out):Out.bad.then f=.bad:=rfl
abbrev AR(c:Fr->Res Bool)(b:Fr->Out):Nat->Fr->Out
 |0,_=>.bad
 |n+1,δ=>(c δ).out δ fun t=>if t then(b δ).then (AR c b n) else .bb δ
abbrev Bc(tg:Tg)(b:Fr->Out):List D->Fr->Out
 |[],δ=>.bb δ
 |d::ds,δ=>match CI tg d δ with
  |some aQ=>(b aQ).then (Bc tg b ds)
  |none=>.bad
abbrev FU:Nat:=1073741824
mutual
noncomputable def ex:S->Fr->Out
 |.gv _ _,δ=>.bb δ
 |.dead _,δ=>.bb δ
 |.asg x _ e,δ=>(ev e δ).out δ fun d=>.bb (δ.set x (some d))
 |.eE xs e,δ=>(ev e δ).out δ fun d=>match CI (.tp xs) d δ with
  |some aQ=>.bb aQ
  |none=>.bad
 |.set x p i e,δ=>(ev e δ).out δ fun d=>match evP p δ,ev i δ with
  |.ok q,.ok (.int n)=>upd δ x (CP (Mb n d) q)
  |_,_=>.bad
 |.mut x p m es,δ=>match evP p δ,evs es δ with
  |.ok q,.ok ds=>upd δ x (CP (jZ m ds) q)
  |_,_=>.bad
 |.expr e,δ=>(ev e δ).out δ fun _=>.bb δ
 |.iff c a b,δ=>(tv c δ).out δ fun t=>if t then exs a δ else exs b δ
 |.wh c b,δ=>AR (tv c) (exs b) FU δ
 |.cY tg it b,δ=>(evI it δ).out δ fun ds=>Bc tg (exs b) ds δ
 |.ret e,δ=>(ev e δ).out δ fun d=>.ret d
 |.gD es,δ=>(evs es δ).out δ fun ds=>.ret (.tup ds)
 |.raise c es,δ=>(evs es δ).out δ fun _=>.exc c δ
 |.fx b c i h e,δ=>match exs b δ with
  |.bb aQ=>exs e aQ
  |.ret d=>.ret d
  |.exc n aQ=>if cat n c then(match exs h (aQ.set i (some (.cq n))) with
   |.bb sA=>.bb (sA.set i none)
   |.ret d=>.ret d
   |_=>.bad) else .bad
  |.bad=>.bad
noncomputable def exs:Ss->Fr->Out
 |.nil,δ=>.bb δ
 |.cons s r,δ=>(ex s δ).then (exs r)
end
abbrev AL(n:Nat)(ds:List D):Fr:=ds.map some++aaq (n-ds.length) none
abbrev run(n:Nat)(b:Ss)(ds:List D):Res D:=match exs b (AL n ds) with
 |.bb _=>.ok .aJ
 |.ret d=>.ok d
 |.exc c _=>.exc c
 |.bad=>.bad
end Pu
end
section
namespace Pu
open PySem PySem.W L2
inductive T where
 |aJ
 |bl (b:Bool)
 |int (i:Int)
 |str (x:Str)
 |tup (a:Addr) (ts:List T)
 |lst (a:Addr) (ts:List T)
 |cq (a:Addr) (c:Nat)
 |eS (a:Addr) (ks:List (Sum Int Str)) (ts:List T)
 |eU (a:Addr) (ks:List (List (Sum Int Str))) (ts:List T)
abbrev T.val:T->V
 |.aJ=>.aJ
 |.bl b=>.bl b
 |.int i=>.int i
 |.str x=>.str x
 |.tup a _=>.ref a
 |.lst a _=>.ref a
 |.cq a _=>.ref a
 |.eS a _ _=>.ref a
 |.eU a _ _=>.ref a
mutual
noncomputable def T.dat:T->D
 |.aJ=>.aJ
 |.bl b=>.bl b
 |.int i=>.int i
 |.str x=>.str x
 |.tup _ ts=>.tup (T.ai ts)
 |.lst _ ts=>.lst (T.ai ts)
 |.cq _ c=>.cq c
 |.eS _ ks ts=>.eS ks (T.ai ts)
 |.eU _ ks ts=>.eU ks (T.ai ts)
noncomputable def T.ai:List T->List D
 |[]=>[]
 |t::r=>t.dat::T.ai r
end
theorem T.aw:∀ts:List T,T.ai ts=ts.map T.dat
 |[]=>rfl
 |t::r=>by simp[T.ai,T.aw r]
structure Px where
 K:Frag
 cl:Nat->Addr
 has:Nat->Bool
abbrev sC(p:Px)(a:Addr)(c:Nat):HO:=if c=999 then dO a else xO a (p.cl c)
abbrev S_(p:Px)(H:Hp)(a:Addr)(c:Nat):Prop:=((H a=some (sC p a c)/\(c=999\/p.has c=true))/\c<1000)\/((∃dx ob,H a=some (xA a (p.cl 4) dx)/\H dx=some (.fh ob (.xd [("at",.int (Yg c))]))/\p.has 4=true)/\1000<=c)
mutual
noncomputable def T.Ok(p:Px)(H:Hp):T->Prop
 |.eS a ks ts=>(H a=some (.dK (ks.zip (ts.map T.val)))/\ks.Nodup/\ks.length=ts.length)/\T.cV p H ts
 |.eU a ks ts=>(H a=some (.dT (ks.zip (ts.map T.val)))/\ks.Nodup/\ks.length=ts.length)/\T.cV p H ts
 |.tup a ts=>H a=some (.tup (ts.map T.val))/\T.cV p H ts
 |.lst a ts=>Rd H a (.lst (ts.map T.val))/\T.cV p H ts
 |.cq a c=>S_ p H a c
 |.aJ=>True
 |.bl _=>True
 |.int _=>True
 |.str _=>True
noncomputable def T.cV(p:Px)(H:Hp):List T->Prop
 |[]=>True
 |t::r=>t.Ok p H/\T.cV p H r
noncomputable def T.adr:T->Nat->List Addr
 |.tup _ ts,k=>T.aj ts k
 |.lst _ _,0=>[]
 |.lst a ts,k+1=>a::T.aj ts k
 |.aJ,_=>[]
 |.bl _,_=>[]
 |.int _,_=>[]
 |.str _,_=>[]
 |.cq _ _,_=>[]
 |.eS _ _ _,0=>[]
 |.eS a _ ts,k+1=>a::T.aj ts k
 |.eU _ _ _,0=>[]
 |.eU a _ ts,k+1=>a::T.aj ts k
noncomputable def T.aj:List T->Nat->List Addr
 |[],_=>[]
 |t::r,k=>t.adr k++T.aj r k
noncomputable def T.rest:T->Nat->List Addr
 |.tup _ ts,k=>T.rests ts k
 |.lst a ts,0=>a::T.rests ts 0
 |.lst _ ts,k+1=>T.rests ts k
 |.aJ,_=>[]
 |.bl _,_=>[]
 |.int _,_=>[]
 |.str _,_=>[]
 |.cq _ _,_=>[]
 |.eS a _ ts,0=>a::T.rests ts 0
 |.eS _ _ ts,k+1=>T.rests ts k
 |.eU a _ ts,0=>a::T.rests ts 0
 |.eU _ _ ts,k+1=>T.rests ts k
noncomputable def T.rests:List T->Nat->List Addr
 |[],_=>[]
 |t::r,k=>t.rest k++T.rests r k
end
theorem T.ind{P:T->Prop}(h0:P .aJ)(h1:∀b,P (.bl b))(h2:∀i,P (.int i))(h3:∀x,P (.str x))(h4:∀a ts,(∀t∈ts,P t)->P (.tup a ts))(h5:∀a ts,(∀t∈ts,P t)->P (.lst a ts))(h6:∀a c,P (.cq a c))(h7:∀a ks ts,(∀t∈ts,P t)->P (.eS a ks ts))(h8:∀a ks ts,(∀t∈ts,P t)->P (.eU a ks ts)):∀t,P t
 |.aJ=>h0
 |.bl b=>h1 b
 |.int i=>h2 i
 |.str x=>h3 x
 |.tup a ts=>h4 a ts fun t h=>T.ind h0 h1 h2 h3 h4 h5 h6 h7 h8 t
 |.lst a ts=>h5 a ts fun t h=>T.ind h0 h1 h2 h3 h4 h5 h6 h7 h8 t
 |.cq a c=>h6 a c
 |.eS a ks ts=>h7 a ks ts fun t h=>T.ind h0 h1 h2 h3 h4 h5 h6 h7 h8 t
 |.eU a ks ts=>h8 a ks ts fun t h=>T.ind h0 h1 h2 h3 h4 h5 h6 h7 h8 t
termination_by t=>t
theorem T.ae:∀{ts:List T},T.cV p H ts ↔ ∀t∈ts,t.Ok p H
 |[]=>by simp[T.cV]
 |t::r=>by simp[T.cV,T.ae (ts:=r)]
theorem T.af{k:Nat}:∀{ts:List T},a∈T.aj ts k ↔ ∃t∈ts,a∈t.adr k
 |[]=>by simp[T.aj]
 |t::r=>by simp[T.aj,T.af (ts:=r)]
theorem T.aa{k:Nat}:∀{ts:List T},a∈T.rests ts k ↔ ∃t∈ts,a∈t.rest k
 |[]=>by simp[T.rests]
 |t::r=>by simp[T.rests,T.aa (ts:=r)]
theorem T.az{k:Nat}:∀{ts us:List T},T.aj (ts++us) k=T.aj ts k++T.aj us k
 |[],us=>by simp[T.aj]
 |t::r,us=>by simp[T.aj,T.az (ts:=r)]
theorem T.aq{k:Nat}:∀{ts us:List T},T.rests (ts++us) k=T.rests ts k++T.rests us k
 |[],us=>by simp[T.rests]
 |t::r,us=>by simp[T.rests,T.aq (ts:=r)]
theorem T.cf:∀t:T,t.adr 0=[]:=by
 refine T.ind rfl (fun _=>rfl) (fun _=>rfl) (fun _=>rfl) (fun a ts ih=>?_) (fun _ _ _=>by simp[T.adr]) (fun _ _=>rfl) (fun _ _ _ _=>by simp[T.adr]) (fun _ _ _ _=>by simp[T.adr])
 simp only[T.adr]
 refine nS.mpr fun b hb=>?_
 obtain⟨t,ht,h⟩:=T.af.mp hb
 rw[ih t ht]at h;cases h
theorem T.cD(ts:List T):T.aj ts 0=[]:=by
 refine nS.mpr fun b hb=>?_
 obtain⟨t,ht,h⟩:=T.af.mp hb
 rw[T.cf]at h;cases h
theorem T.aB:∀(t:T)(k:Nat),a∈t.rest 0 ↔ a∈t.adr k\/a∈t.rest k:=by
 refine T.ind (by simp[T.rest,T.adr]) (by simp[T.rest,T.adr]) (by simp[T.rest,T.adr]) (by simp[T.rest,T.adr]) (fun b ts ih k=>?_) (fun b ts ih k=>?_) (by simp[T.rest,T.adr]) (fun b ks ts ih k=>?_) (fun b ks ts ih k=>?_)
 ·simp only[T.rest,T.adr,T.aa,T.af]
  constructor
  ·rintro⟨t,ht,h⟩
   rcases (ih t ht k).mp h with h|h
   ·exact .inl ⟨t,ht,h⟩
   exact .inr ⟨t,ht,h⟩
  rintro(⟨t,ht,h⟩|⟨t,ht,h⟩)
  ·exact⟨t,ht,(ih t ht k).mpr (.inl h)⟩
  exact⟨t,ht,(ih t ht k).mpr (.inr h)⟩
 ·cases k with
  |zero=>simp[T.adr]
  |succ k=>
  simp only[T.rest,T.adr,T.aa,T.af,bB]
  constructor
  ·rintro(h|⟨t,ht,h⟩)
   ·exact .inl (.inl h)
   rcases (ih t ht k).mp h with h|h
   ·exact .inl (.inr ⟨t,ht,h⟩)
   exact .inr ⟨t,ht,h⟩
  rintro((h|⟨t,ht,h⟩)|⟨t,ht,h⟩)
  ·exact .inl h
  ·exact .inr ⟨t,ht,(ih t ht k).mpr (.inl h)⟩
  exact .inr ⟨t,ht,(ih t ht k).mpr (.inr h)⟩
 ·cases k with
  |zero=>simp[T.adr]
  |succ k=>
  simp only[T.rest,T.adr,T.aa,T.af,bB]
  constructor
  ·rintro(h|⟨t,ht,h⟩)
   ·exact .inl (.inl h)
   rcases (ih t ht k).mp h with h|h
   ·exact .inl (.inr ⟨t,ht,h⟩)
   exact .inr ⟨t,ht,h⟩
  rintro((h|⟨t,ht,h⟩)|⟨t,ht,h⟩)
  ·exact .inl h
  ·exact .inr ⟨t,ht,(ih t ht k).mpr (.inl h)⟩
  exact .inr ⟨t,ht,(ih t ht k).mpr (.inr h)⟩
 cases k with
 |zero=>simp[T.adr]
 |succ k=>
 simp only[T.rest,T.adr,T.aa,T.af,bB]
 constructor
 ·rintro(h|⟨t,ht,h⟩)
  ·exact .inl (.inl h)
  rcases (ih t ht k).mp h with h|h
  ·exact .inl (.inr ⟨t,ht,h⟩)
  exact .inr ⟨t,ht,h⟩
 rintro((h|⟨t,ht,h⟩)|⟨t,ht,h⟩)
 ·exact .inl h
 ·exact .inr ⟨t,ht,(ih t ht k).mpr (.inl h)⟩
 exact .inr ⟨t,ht,(ih t ht k).mpr (.inr h)⟩
theorem T.aC(ts:List T)(k:Nat):a∈T.rests ts 0 ↔ a∈T.aj ts k\/a∈T.rests ts k:=by
 simp only[T.aa,T.af]
 constructor
 ·rintro⟨t,ht,h⟩
  rcases (T.aB t k).mp h with h|h
  ·exact .inl ⟨t,ht,h⟩
  exact .inr ⟨t,ht,h⟩
 rintro(⟨t,ht,h⟩|⟨t,ht,h⟩)
 ·exact⟨t,ht,(T.aB t k).mpr (.inl h)⟩
 exact⟨t,ht,(T.aB t k).mpr (.inr h)⟩
theorem T.ay:∀(t:T){j j':Nat},j<=j'->a∈t.rest j'->a∈t.rest j:=by
 refine T.ind (by simp[T.rest]) (by simp[T.rest]) (by simp[T.rest]) (by simp[T.rest]) (fun b ts ih j j' hj h=>?_) (fun b ts ih j j' hj h=>?_) (by simp[T.rest]) (fun b ks ts ih j j' hj h=>?_) (fun b ks ts ih j j' hj h=>?_)
 ·simp only[T.rest,T.aa]at h ⊢
  obtain⟨t,ht,h⟩:=h
  exact⟨t,ht,ih t ht hj h⟩
 ·cases j' with
  |zero=>cases tW.mp hj;exact h
  |succ j'=>
   simp only[T.rest,T.aa]at h
   obtain⟨t,ht,h⟩:=h
   cases j with
   |zero=>exact aL _ (T.aa.mpr ⟨t,ht,ih t ht (cK _) h⟩)
   |succ j=>exact T.aa.mpr ⟨t,ht,ih t ht (m8 hj) h⟩
 ·cases j' with
  |zero=>cases tW.mp hj;exact h
  |succ j'=>
   simp only[T.rest,T.aa]at h
   obtain⟨t,ht,h⟩:=h
   cases j with
   |zero=>exact aL _ (T.aa.mpr ⟨t,ht,ih t ht (cK _) h⟩)
   |succ j=>exact T.aa.mpr ⟨t,ht,ih t ht (m8 hj) h⟩
 cases j' with
 |zero=>cases tW.mp hj;exact h
 |succ j'=>
  simp only[T.rest,T.aa]at h
  obtain⟨t,ht,h⟩:=h
  cases j with
  |zero=>exact aL _ (T.aa.mpr ⟨t,ht,ih t ht (cK _) h⟩)
  |succ j=>exact T.aa.mpr ⟨t,ht,ih t ht (m8 hj) h⟩
theorem T.ax:∀(t:T){j j':Nat},j<=j'->a∈t.adr j->a∈t.adr j':=by
 refine T.ind (by simp[T.adr]) (by simp[T.adr]) (by simp[T.adr]) (by simp[T.adr]) (fun b ts ih j j' hj h=>?_) (fun b ts ih j j' hj h=>?_) (by simp[T.adr]) (fun b ks ts ih j j' hj h=>?_) (fun b ks ts ih j j' hj h=>?_)
 ·simp only[T.adr,T.af]at h ⊢
  obtain⟨t,ht,h⟩:=h
  exact⟨t,ht,ih t ht hj h⟩
 ·cases j with
  |zero=>simp[T.adr]at h
  |succ j=>
   cases j' with
   |zero=>omega
   |succ j'=>
   simp only[T.adr,bB,T.af]at h ⊢
   rcases h with h|⟨t,ht,h⟩
   ·exact .inl h
   exact .inr ⟨t,ht,ih t ht (m8 hj) h⟩
 ·cases j with
  |zero=>simp[T.adr]at h
  |succ j=>
   cases j' with
   |zero=>omega
   |succ j'=>
   simp only[T.adr,bB,T.af]at h ⊢
   rcases h with h|⟨t,ht,h⟩
   ·exact .inl h
   exact .inr ⟨t,ht,ih t ht (m8 hj) h⟩
 cases j with
 |zero=>simp[T.adr]at h
 |succ j=>
  cases j' with
  |zero=>omega
  |succ j'=>
  simp only[T.adr,bB,T.af]at h ⊢
  rcases h with h|⟨t,ht,h⟩
  ·exact .inl h
  exact .inr ⟨t,ht,ih t ht (m8 hj) h⟩
abbrev T.Nd(t:T)(k:Nat):Prop:=(t.adr k).Nodup/\∀a∈t.rest k,a∉t.adr k
abbrev T.cg(ts:List T)(k:Nat):Prop:=(T.aj ts k).Nodup/\∀a∈T.rests ts k,a∉T.aj ts k
theorem T.bY(t:T):t.Nd 0:=by unfold T.Nd;rw[T.cf];exact⟨List.nodup_nil,fun _ _ h=>nomatch h⟩
theorem T.fU(ts:List T):T.cg ts 0:=by unfold T.cg;rw[T.cD];exact⟨List.nodup_nil,fun _ _ h=>nomatch h⟩
theorem T.aY{k:Nat}:T.cg (t::r) k ↔ t.Nd k/\T.cg r k/\(∀a∈t.adr k,a∉T.rests r 0)/\(∀a∈T.aj r k,a∉t.rest 0):=by
 unfold T.cg T.Nd
 simp only[T.aj,T.rests,zM,bw]
 constructor
 ·rintro⟨⟨n1,n2,n3⟩,h⟩
  refine⟨⟨n1,fun a ha hb=>h a (.inl ha) (.inl hb)⟩,⟨n2,fun a ha hb=>h a (.inr ha) (.inr hb)⟩,fun a ha hb=>?_,fun a ha hb=>?_⟩
  ·rcases (T.aC r k).mp hb with q|q
   ·exact n3 a ha a q rfl
   exact h a (.inr q) (.inl ha)
  rcases (T.aB t k).mp hb with q|q
  ·exact n3 a q a ha rfl
  exact h a (.inl q) (.inr ha)
 rintro⟨⟨n1,h1⟩,⟨n2,h2⟩,c1,c2⟩
 refine⟨⟨n1,n2,fun a ha b hb e=>?_⟩,fun a ha hb=>?_⟩
 ·subst e
  exact c1 a ha ((T.aC r k).mpr (.inl hb))
 rcases ha with ha|ha<;>rcases hb with hb|hb
 ·exact h1 a ha hb
 ·exact c2 a hb ((T.aB t k).mpr (.inr ha))
 ·exact c1 a hb ((T.aC r k).mpr (.inr ha))
 exact h2 a ha hb
theorem T.ny:∀(t:T){k:Nat},t.Nd (k+1)->t.Nd k:=by
 have lists:∀(ts:List T),(∀t∈ts,∀{k:Nat},t.Nd (k+1)->t.Nd k)->∀{k:Nat},T.cg ts (k+1)->T.cg ts k:=by
  intro ts
  induction ts with
  |nil=>intro _ k _;exact⟨by simp[T.aj],by simp[T.rests]⟩
  |cons t r ih=>
  intro h k n
  obtain⟨n1,n2,c1,c2⟩:=T.aY.mp n
  exact T.aY.mpr ⟨h t (aP ..) n1,ih (fun u hu=>h u (aL _ hu)) n2,fun a ha=>c1 a (T.ax t (qp k) ha),fun a ha=>c2 a (by
   obtain⟨u,hu,hq⟩:=T.af.mp ha
   exact T.af.mpr ⟨u,hu,T.ax u (qp k) hq⟩)⟩
 refine T.ind (fun _=>by simp[T.Nd,T.adr]) (fun _ _=>by simp[T.Nd,T.adr]) (fun _ _=>by simp[T.Nd,T.adr]) (fun _ _=>by simp[T.Nd,T.adr]) (fun a ts ih k n=>?_) (fun a ts ih k n=>?_) (fun _ _ _=>by simp[T.Nd,T.adr]) (fun a ks ts ih k n=>?_) (fun a ks ts ih k n=>?_)
 ·exact lists ts ih n
 ·cases k with
  |zero=>exact T.bY _
  |succ k=>
  obtain⟨n1,n2⟩:=n
  simp only[T.adr,T.rest,gy]at n1 n2
  have:=lists ts ih (k:=k) ⟨n1.2,fun b hb hc=>n2 b hb (aL _ hc)⟩
  refine⟨?_,?_⟩
  ·simp only[T.adr,gy]
   refine⟨fun h=>n1.1 ?_,this.1⟩
   obtain⟨u,hu,hq⟩:=T.af.mp h
   exact T.af.mpr ⟨u,hu,T.ax u (qp k) hq⟩
  intro b hb hc
  simp only[T.adr,T.rest,bB]at hb hc
  rcases hc with rfl|hc
  ·have h0:=(T.aC ts (k+1)).mp ((T.aC ts k).mpr (.inr hb))
   rcases h0 with h0|h0
   ·exact n1.1 h0
   exact n2 b h0 (aP ..)
  exact this.2 b hb hc
 ·cases k with
  |zero=>exact T.bY _
  |succ k=>
  obtain⟨n1,n2⟩:=n
  simp only[T.adr,T.rest,gy]at n1 n2
  have:=lists ts ih (k:=k) ⟨n1.2,fun b hb hc=>n2 b hb (aL _ hc)⟩
  refine⟨?_,?_⟩
  ·simp only[T.adr,gy]
   refine⟨fun h=>n1.1 ?_,this.1⟩
   obtain⟨u,hu,hq⟩:=T.af.mp h
   exact T.af.mpr ⟨u,hu,T.ax u (qp k) hq⟩
  intro b hb hc
  simp only[T.adr,T.rest,bB]at hb hc
  rcases hc with rfl|hc
  ·have h0:=(T.aC ts (k+1)).mp ((T.aC ts k).mpr (.inr hb))
   rcases h0 with h0|h0
   ·exact n1.1 h0
   exact n2 b h0 (aP ..)
  exact this.2 b hb hc
 cases k with
 |zero=>exact T.bY _
 |succ k=>
 obtain⟨n1,n2⟩:=n
 simp only[T.adr,T.rest,gy]at n1 n2
 have:=lists ts ih (k:=k) ⟨n1.2,fun b hb hc=>n2 b hb (aL _ hc)⟩
 refine⟨?_,?_⟩
 ·simp only[T.adr,gy]
  refine⟨fun h=>n1.1 ?_,this.1⟩
  obtain⟨u,hu,hq⟩:=T.af.mp h
  exact T.af.mpr ⟨u,hu,T.ax u (qp k) hq⟩
 intro b hb hc
 simp only[T.adr,T.rest,bB]at hb hc
 rcases hc with rfl|hc
 ·have h0:=(T.aC ts (k+1)).mp ((T.aC ts k).mpr (.inr hb))
  rcases h0 with h0|h0
  ·exact n1.1 h0
  exact n2 b h0 (aP ..)
 exact this.2 b hb hc
theorem T.c8(t:T){k k':Nat}(h:k<=k')(n:t.Nd k'):t.Nd k:=by
 induction k' with
 |zero=>cases tW.mp h;exact n
 |succ k' ih=>
 rcases tS k (k'+1) with q|q
 ·exact ih (m_ q) (T.ny t n)
 cases rm h q;exact n
theorem T.eZ{k k':Nat}(h:k<=k')(n:T.cg ts k'):T.cg ts k:=by
 have:=T.c8 (.tup 0 ts) h (k':=k') n
 exact this
abbrev HO.mu:HO->Bool
 |.lst _=>true
 |.dK _=>true
 |.dT _=>true
 |_=>false
abbrev Mu(H:Hp)(a:Addr):Prop:=∃o,H a=some o/\HO.mu o=true
theorem Mu.l(h:H a=some (.lst vs)):Mu H a:=⟨_,h,rfl⟩
theorem Yi{c:Nat}:HO.mu (sC p a c)=false:=by
 unfold sC
 split<;>rfl
theorem T.Ok.sD:∀(t:T),(∀a u,H a=some u->(a∈t.rest 0\/HO.mu u=false)->H' a=some u)->t.Ok p H->t.Ok p H':=by
 refine T.ind (P:=fun t=>(∀a u,H a=some u->(a∈t.rest 0\/HO.mu u=false)->H' a=some u)->t.Ok p H->t.Ok p H') (fun _ h=>h) (fun _ _ h=>h) (fun _ _ h=>h) (fun _ _ h=>h) (fun a ts ih k h=>?_) (fun a ts ih k h=>?_) (fun a c k h=>?_) (fun a ks ts ih k h=>?_) (fun a ks ts ih k h=>?_)
 ·obtain⟨h1,h2⟩:=h
  refine⟨k _ _ h1 (.inr rfl),T.ae.mpr fun t ht=>ih t ht (fun b u e q=>k b u e ?_) (T.ae.mp h2 t ht)⟩
  rcases q with q|q
  ·exact .inl (T.aa.mpr ⟨t,ht,q⟩)
  exact .inr q
 ·obtain⟨h1,h2⟩:=h
  refine⟨?_,T.ae.mpr fun t ht=>ih t ht (fun b u e q=>k b u e ?_) (T.ae.mp h2 t ht)⟩
  ·rcases h1 with h1|⟨o,h1⟩
   ·exact .inl (k _ _ h1 (.inl (aP ..)))
   exact .inr ⟨o,k _ _ h1 (.inl (aP ..))⟩
  rcases q with q|q
  ·exact .inl (aL _ (T.aa.mpr ⟨t,ht,q⟩))
  exact .inr q
 ·rcases h with⟨h,lt⟩|⟨⟨dx,ob,h1,h2,h3⟩,ge⟩
  ·exact .inl ⟨⟨k _ _ h.1 (.inr Yi),h.2⟩,lt⟩
  exact .inr ⟨⟨dx,ob,k _ _ h1 (.inr rfl),k _ _ h2 (.inr rfl),h3⟩,ge⟩
 ·obtain⟨⟨h1,h3⟩,h2⟩:=h
  refine⟨⟨k _ _ h1 (.inl (aP ..)),h3⟩,T.ae.mpr fun t ht=>ih t ht (fun b u e q=>k b u e ?_) (T.ae.mp h2 t ht)⟩
  rcases q with q|q
  ·exact .inl (aL _ (T.aa.mpr ⟨t,ht,q⟩))
  exact .inr q
 obtain⟨⟨h1,h3⟩,h2⟩:=h
 refine⟨⟨k _ _ h1 (.inl (aP ..)),h3⟩,T.ae.mpr fun t ht=>ih t ht (fun b u e q=>k b u e ?_) (T.ae.mp h2 t ht)⟩
 rcases q with q|q
 ·exact .inl (aL _ (T.aa.mpr ⟨t,ht,q⟩))
 exact .inr q
theorem T.Ok.keep{p:Px}{H H':Hp}{t:T}(k:∀a u,H a=some u->(a∈t.rest 0\/HO.mu u=false)->H' a=some u)(h:t.Ok p H):t.Ok p H':=T.Ok.sD t k h
theorem T.Ok.same{p:Px}{H H':Hp}{t:T}(s:ag H H')(h:t.Ok p H):t.Ok p H':=h.keep fun a u e _=>s a u e
theorem T.cV.same{p:Px}{H H':Hp}{ts:List T}(s:ag H H')(h:T.cV p H ts):T.cV p H' ts:=T.ae.mpr fun t ht=>(T.ae.mp h t ht).same s
theorem VI(h:Rd H a u):H a≠none:=by
 rcases h with h|⟨o,h⟩<;>rw[h]<;>simp
theorem T.Ok.wI:∀(t:T),t.Ok p H->a∈t.rest 0->H a≠none:=by
 refine T.ind (P:=fun t=>t.Ok p H->a∈t.rest 0->H a≠none) (fun _ h=>nomatch h) (fun _ _ h=>nomatch h) (fun _ _ h=>nomatch h) (fun _ _ h=>nomatch h) (fun b ts ih k h=>?_) (fun b ts ih k h=>?_) (fun _ _ _ h=>nomatch h) (fun b ks ts ih k h=>?_) (fun b ks ts ih k h=>?_)
 ·obtain⟨t,ht,q⟩:=T.aa.mp h
  exact ih t ht (T.ae.mp k.2 t ht) q
 ·rcases bB.mp h with rfl|h
  ·exact VI k.1
  obtain⟨t,ht,q⟩:=T.aa.mp h
  exact ih t ht (T.ae.mp k.2 t ht) q
 ·rcases bB.mp h with rfl|h
  ·rw[k.1.1];exact fun z=>nomatch z
  obtain⟨t,ht,q⟩:=T.aa.mp h
  exact ih t ht (T.ae.mp k.2 t ht) q
 rcases bB.mp h with rfl|h
 ·rw[k.1.1];exact fun z=>nomatch z
 obtain⟨t,ht,q⟩:=T.aa.mp h
 exact ih t ht (T.ae.mp k.2 t ht) q
theorem T.Ok.fV{p:Px}{H:Hp}{a:Addr}{t:T}(h:t.Ok p H)(m:a∈t.rest 0):H a≠none:=T.Ok.wI t h m
theorem T.Ok.wJ{p:Px}{H:Hp}{a:Addr}{t:T}{k:Nat}(h:t.Ok p H)(m:a∈t.adr k):H a≠none:=h.fV ((T.aB t k).mpr (.inl m))
end Pu
end
section
namespace Pu
open PySem PySem.Spec PyProof.Rows PySem.W L2
abbrev gj(c:Bool)(x:Nat×Nat):Option (Nat×Nat):=if c then some x else none
mutual
noncomputable def jk(tn:List Nat):E->Option (Nat×Nat)
 |.nm i=>match tn[i]? with
  |some j=>gj (decide (j<90)) (j,0)
  |none=>none
 |.cN=>some (0,9)
 |.cB _=>some (0,9)
 |.cI _=>some (0,9)
 |.cS _=>some (0,9)
 |.gl _ d=>gj (D.a_ d) (0,9)
 |.tup es=>j0 tn es
 |.lst es=>(j0 tn es).bind fun x=>some (if x.1=0 then(0,x.2+1) else(x.1+1,0))
 |.bin _ a b=>(jk tn a).bind fun x=>(jk tn b).bind fun y=>gj (decide (x.1<=1)&&decide (y.1<=1)) (0,1)
 |.neg a=>(jk tn a).bind fun _=>some (0,9)
 |.not a=>(jk tn a).bind fun _=>some (0,9)
 |.cmp _ a b=>(jk tn a).bind fun _=>(jk tn b).bind fun _=>some (0,9)
 |.chain _ _ a b c=>(jk tn a).bind fun _=>(jk tn b).bind fun _=>(jk tn c).bind fun _=>some (0,9)
 |.bA _ a=>(jk tn a).bind fun _=>some (0,9)
 |.bo _ es=>j0 tn es
 |.ix a i=>(jk tn a).bind fun x=>(jk tn i).bind fun _=>gj (decide (x.1=0)) (0,0)
 |.gU a i=>(jk tn a).bind fun x=>(jk tn i).bind fun _=>gj (decide (x.1=0)) (0,9)
 |.cC a i=>(jk tn a).bind fun x=>(jk tn i).bind fun _=>some (x.1-1,0)
 |.nv a i=>(jk tn a).bind fun _=>(jk tn i).bind fun _=>some (0,9)
 |.i7 a b=>(jk tn a).bind fun _=>(jk tn b).bind fun _=>some (0,9)
 |.fJ a b=>(jk tn a).bind fun _=>(jk tn b).bind fun _=>some (0,1)
 |.eY _ a b=>(jk tn a).bind fun _=>(jk tn b).bind fun _=>some (0,9)
 |.lN a lo hi=>(jk tn a).bind fun x=>(jk tn lo).bind fun _=>(jk tn hi).bind fun _=>gj (decide (x.1<=1)) (0,1)
 |.call f es=>(j0 tn es).bind fun x=>gj (decide (x.1=0)) (0,f.dep)
 |.aK f es=>(j0 tn es).bind fun _=>some (0,9)
 |.bi b es=>(j0 tn es).bind fun x=>match b with
  |.list=>gj (decide (x.1=0)) (0,1)
  |_=>some (0,9)
 |.jY a _=>(jk tn a).bind fun _=>some (0,9)
 |.mt _ a es=>(jk tn a).bind fun _=>(j0 tn es).bind fun _=>some (0,9)
 |.ao nl fr _ it elt=>(qG tn it).bind fun _=>(jk (aaq nl 0++fr.map fun j=>tn.getD j 99) elt).bind fun x=>gj (decide (x.1=0)) (0,x.2+1)
 |.a9 nl fr _ it cond elt=>(qG tn it).bind fun _=>(jk (aaq nl 0++fr.map fun j=>tn.getD j 99) cond).bind fun _=>
   (jk (aaq nl 0++fr.map fun j=>tn.getD j 99) elt).bind fun x=>gj (decide (x.1=0)) (0,x.2+1)
noncomputable def j0(tn:List Nat):Es->Option (Nat×Nat)
 |.nil=>some (0,9)
 |.cons e r=>(jk tn e).bind fun x=>(j0 tn r).bind fun y=>some (max x.1 y.1,if max x.1 y.1=0 then min x.2 y.2 else 0)
noncomputable def qG(tn:List Nat):It->Option Nat
 |.seq e=>(jk tn e).bind fun x=>if x.1=0 then some 0 else none
 |.bQ e=>(jk tn e).bind fun x=>if x.1<=1 then some x.1 else none
 |.r1 a=>(jk tn a).bind fun _=>some 0
 |.r2 a b=>(jk tn a).bind fun _=>(jk tn b).bind fun _=>some 0
 |.r3 a b c=>(jk tn a).bind fun _=>(jk tn b).bind fun _=>(jk tn c).bind fun _=>some 0
 |.kA e=>(jk tn e).bind fun _=>some 0
end
@[reducible]noncomputable def St:=L2.St
@[reducible]noncomputable def Ft:=List (Option T)
abbrev aM(Y:Ft):St:=Y.map (Option.map T.val)
abbrev aR(Y:Ft):Fr:=Y.map (Option.map T.dat)
abbrev gE(p:Px)(tn:List Nat)(Y:Ft)(H:Hp):Prop:=∀(i:Nat)(t:T)(j:Nat),Y[i]?=some (some t)->tn[i]?=some j->j<90->t.Ok p H
abbrev Sh(tn:List Nat)(Y:Ft)(a:Addr):Prop:=∃(i:Nat)(t:T)(j:Nat),Y[i]?=some (some t)/\tn[i]?=some j/\j<90/\a∈t.rest j
theorem gE.same{p:Px}{tn:List Nat}{Y:Ft}{H H':Hp}(h:gE p tn Y H)(s:ag H H'):gE p tn Y H':=fun i t j e e' l=>(h i t j e e' l).same s
theorem gE.fV{p:Px}{tn:List Nat}{Y:Ft}{H:Hp}(h:gE p tn Y H){a:Addr}(s:Sh tn Y a):H a≠none:=by
 obtain⟨i,t,j,e,e',l,m⟩:=s
 exact(h i t j e e' l).fV (T.ay t (cK j) m)
theorem DL{i:Nat}(h:Y[i]?=some (some t)):(aM Y)[i]?=some (some t.val):=by simp[aM,h]
theorem FL{i:Nat}(h:get (aR Y) i=.ok d):∃t,Y[i]?=some (some t)/\t.dat=d:=by
 unfold get aR at h
 rw[dg]at h
 cases q:Y[i]? with
 |none=>rw[q]at h;cases h
 |some o=>
  rw[q]at h
  cases o with
  |none=>cases h
  |some t=>exact⟨t,rfl,by simpa using h⟩
structure Rs(p:Px)(B:Addr->Prop)(H H':Hp)(j k:Nat)(t:T):Prop where
 same:ag H H'
 ok:t.Ok p H'
 src:∀a∈t.rest j,H a=none\/B a
 new:∀a∈t.adr k,H a=none/\Mu H' a
 nd:t.Nd k
structure qH(p:Px)(B:Addr->Prop)(H H':Hp)(j k:Nat)(ts:List T):Prop where
 same:ag H H'
 ok:T.cV p H' ts
 src:∀a∈T.rests ts j,H a=none\/B a
 new:∀a∈T.aj ts k,H a=none/\Mu H' a
 nd:T.cg ts k
theorem Rs.back{B:Addr->Prop}{j k:Nat}(r:Rs p B H1 H2 j k t)(s:ag H H1):Rs p B H H2 j k t :=
 ⟨s.trans r.same,r.ok,fun a m=>(r.src a m).imp s.free id,fun a m=>⟨s.free (r.new a m).1,(r.new a m).2⟩,r.nd⟩
theorem Rs.fwd{p:Px}{B:Addr->Prop}{H H1 H2:Hp}{j k:Nat}{t:T}(r:Rs p B H H1 j k t)(s:ag H1 H2):Rs p B H H2 j k t :=
 ⟨r.same.trans s,r.ok.same s,r.src,fun a m=>⟨(r.new a m).1,let ⟨vs,e,mu⟩:=(r.new a m).2;⟨vs,s _ _ e,mu⟩⟩,r.nd⟩
theorem Rs.le{B:Addr->Prop}{j k j' k':Nat}(r:Rs p B H H1 j k t)(hj:j<=j')(hk:k'<=k):Rs p B H H1 j' k' t :=
 ⟨r.same,r.ok,fun a m=>r.src a (T.ay t hj m),fun a m=>r.new a (T.ax t hk m),T.c8 t hk r.nd⟩
abbrev T.sc:T->Bool
 |.aJ=>true
 |.bl _=>true
 |.int _=>true
 |.str _=>true
 |_=>false
theorem Rs.a_{B:Addr->Prop}{j k:Nat}(s:ag H H')(h:t.sc=true):Rs p B H H' j k t:=by
 cases t<;>first|exact⟨s,trivial,by simp[T.rest],by simp[T.adr],by simp[T.Nd,T.adr]⟩|cases h
abbrev Abc(c:Nat)(H:Hp)(od:Option Addr):Prop:=(c<1000/\od=none)\/(1000<=c/\∃dx ob,od=some dx/\H dx=some (.fh ob (.xd [("at",.int (Yg c))])))
abbrev XW(p:Px)(E:XK)(c:Nat)(H:Hp):Prop:=∀od,Abc c H od->E (.ref (p.cl (jL c))) od H
abbrev Lg{α:Type}(p:Px)(EX:cG)(U:St)(r:Res α)(H:Hp)(Kc:α->Prop):Prop:=match r with
 |.ok a=>Kc a
 |.exc c=>p.has (jL c)=true->∀H',ag H H'->XW p (EX U) c H'
 |.bad=>False
theorem Lg.bind{α β:Type}{r:Res α}{f:α->Res β}{Kc:β->Prop}(h:Lg p EX U (r.bind f) H Kc):Lg p EX U r H fun a=>Lg p EX U (f a) H Kc:=by
 cases r<;>exact h
theorem Lg.mono{α:Type}{r:Res α}{Kc T_:α->Prop}(h:Lg p EX U r H Kc)(s:ag H H1)(m:∀a,r=.ok a->Kc a->T_ a):Lg p EX U r H1 T_:=by
 cases r with
 |ok a=>exact m a rfl h
 |exc c=>exact fun hc H' s'=>h hc H' (s.trans s')
 |bad=>exact h
theorem Lg.guard{α:Type}{c:Prop}[Decidable c]{r:Res α}{Kc:α->Prop}(h:Lg p EX U (if c then r else .bad) H Kc):c/\Lg p EX U r H Kc:=by
 split at h
 ·exact⟨‹_›,h⟩
 exact nE h
@[reducible]noncomputable def KE(p:Px)(B:Addr->Prop)(H:Hp)(j k:Nat)(Q:VK):D->Prop:=fun d=>∀t H',t.dat=d->Rs p B H H' j k t->Q t.val H'
@[reducible]noncomputable def KL(p:Px)(B:Addr->Prop)(H:Hp)(j k:Nat)(Q:List V->Hp->Prop):List D->Prop:=fun ds=>∀ts H',T.ai ts=ds->qH p B H H' j k ts->Q (ts.map T.val) H'
abbrev lE(p:Px)(EX:cG)(tn:List Nat)(e:E):TE:=fun U H Q=>∃Y,U=aM Y/\gE p tn Y H/\∃j k,jk tn e=some (j,k)/\Lg p EX U (ev e (aR Y)) H (KE p (Sh tn Y) H j k Q)
abbrev jM(p:Px)(EX:cG)(tn:List Nat)(es:Es):TA:=fun U H Q=>∃Y,U=aM Y/\gE p tn Y H/\∃j k,j0 tn es=some (j,k)/\Lg p EX U (evs es (aR Y)) H (KL p (Sh tn Y) H j k Q)
abbrev lT(p:Px)(EX:cG)(tn:List Nat)(e:E):TT:=fun U H Q=>∃Y,U=aM Y/\gE p tn Y H/\(jk tn e).isSome=true/\Lg p EX U (tv e (aR Y)) H fun b=>∀H',ag H H'->Q b H'
theorem PE.mono(h:PE X e t)(m:∀U H Q,t' U H Q->t U H Q):PE X e t':=fun pins s U H Q I q=>h pins s U H Q I (m _ _ _ q)
theorem PT.mono(h:PT X e t)(m:∀U H Q,t' U H Q->t U H Q):PT X e t':=fun pins s U H Q I q=>h pins s U H Q I (m _ _ _ q)
theorem PA.mono(h:PA X e t)(m:∀U H Q,t' U H Q->t U H Q):PA X e t':=fun pos pins s U H Q I q=>h pos pins s U H Q I (m _ _ _ q)
section
variable{p:Px}{EX:cG}{tn:List Nat}{X:Cx}{pos:Pos}
theorem ES{c:Bool}{x:Nat×Nat}{j k:Nat}(h:gj c x=some (j,k)):c=true/\x=(j,k):=by
 unfold gj at h
 split at h
 ·exact⟨‹_›,Option.some.inj h⟩
 cases h
theorem l1{β:Type}{f:D->Res β}{Kc:β->Prop}{ja ka:Nat}(hF:gE p tn Y H)(hj:jk tn x=some (ja,ka))(h:Lg p EX (aM Y) ((ev x (aR Y)).bind f) H Kc)
  (m:∀d t H1,t.dat=d->Rs p (Sh tn Y) H H1 ja ka t->Lg p EX (aM Y) (f d) H Kc->Q t.val H1):lE p EX tn x (aM Y) H Q :=
 ⟨Y,rfl,hF,ja,ka,hj,h.bind.mono (ag.refl _) fun d _ hd t H1 ht R=>m d t H1 ht R hd⟩
theorem l2{β:Type}{f:D->Res β}{Kc:β->Prop}{ja ka:Nat}(hF:gE p tn Y H)(s:ag H H1)(hj:jk tn x=some (ja,ka))(h:Lg p EX (aM Y) ((ev x (aR Y)).bind f) H Kc)
  (m:∀d t H2,t.dat=d->Rs p (Sh tn Y) H1 H2 ja ka t->Lg p EX (aM Y) (f d) H Kc->Q t.val H2):lE p EX tn x (aM Y) H1 Q :=
 ⟨Y,rfl,hF.same s,ja,ka,hj,h.bind.mono s fun d _ hd t H2 ht R=>m d t H2 ht R hd⟩
theorem Yj{i:Nat}(hN:X.N[i]?=some x)(hv:rJ X.env.scope x)(hd:(x==("__debug__" : Str))=false)(fS:(x==("__classdict__" : Str))=false):PE X (.Name x pos) (lE p EX tn (.nm i)):=by
 refine PE.mono (GK hN hv hd fS) fun U H Q h=>?_
 obtain⟨Y,rfl,hF,j,k,hj,h⟩:=h
 have hj:(match tn[i]? with|some j=>gj (decide (j<90)) (j,0)|none=>none)=some (j,k):=hj
 split at hj
 ·rename_i j' oo
  obtain⟨bU,e⟩:=ES hj
  cases e
  simp only[ev]at h
  cases q:get (aR Y) i with
  |ok d=>
   rw[q]at h
   obtain⟨t,ht,e⟩:=FL q
   exact⟨t.val,DL ht,h t H e ⟨ag.refl _,hF i t j ht oo (of_decide_eq_true bU),fun a m=>.inr ⟨i,t,j,ht,oo,of_decide_eq_true bU,m⟩,by rw[T.cf];simp,T.bY t⟩⟩
  |exc c=>rw[q]at h;unfold get at q;split at q<;>cases q
  |bad=>rw[q]at h;exact h.elim
 cases hj
theorem JM{e:Expr}{x:E}{t:T}(hp:PE X e (tC t.val))(hs:t.sc=true)(he:∀δ,ev x δ=.ok t.dat):PE X e (lE p EX tn x):=by
 refine PE.mono hp fun U H Q h=>?_
 obtain⟨Y,rfl,hF,j,k,hj,h⟩:=h
 rw[he]at h
 exact h t H rfl (Rs.a_ (ag.refl _) hs)
theorem VJ{B:Addr->Prop}{H H1 H2:Hp}{j1 k1 j2 k2:Nat}{t:T}{ts:List T}(hB:∀a,B a->H a≠none)(r:Rs p B H H1 j1 k1 t)(q:qH p B H1 H2 j2 k2 ts):qH p B H H2 (max j1 j2) (if max j1 j2=0 then min k1 k2 else 0) (t::ts):=by
 have r2:=r.fwd q.same
 refine⟨r2.same,⟨r2.ok,q.ok⟩,fun a m=>?_,fun a m=>?_,?_⟩
 ·simp only[T.rests,bw]at m
  rcases m with m|m
  ·exact r.src a (T.ay t (Nat.le_max_left ..) m)
  obtain⟨u,hu,m⟩:=T.aa.mp m
  exact(q.src a (T.aa.mpr ⟨u,hu,T.ay u (Nat.le_max_right ..) m⟩)).imp r.same.free id
 ·split at m
  ·simp only[T.aj,bw]at m
   rcases m with m|m
   ·exact r2.new a (T.ax t (iE ..) m)
   obtain⟨u,hu,m⟩:=T.af.mp m
   have z:=q.new a (T.af.mpr ⟨u,hu,T.ax u (kJ ..) m⟩)
   exact⟨r.same.free z.1,z.2⟩
  rw[T.cD]at m;cases m
 split
 ·rename_i hz
  have h1:j1=0:=by omega
  have h2:j2=0:=by omega
  subst h1 h2
  refine T.aY.mpr ⟨T.c8 t (iE ..) r.nd,T.eZ (kJ ..) q.nd,fun a m m'=>?_,fun a m m'=>?_⟩
  ·have m1:=T.ax t (iE k1 k2) m
   rcases q.src a m' with z|z
   ·exact r.ok.wJ m1 z
   exact hB a z (r.new a m1).1
  obtain⟨u,hu,m⟩:=T.af.mp m
  exact r.ok.fV m' (q.new a (T.af.mpr ⟨u,hu,T.ax u (kJ ..) m⟩)).1
 exact T.fU _
theorem TB:PA X [] (jM p EX tn .nil):=by
 refine PA.mono CK fun U H Q h=>?_
 obtain⟨Y,rfl,hF,j,k,hj,h⟩:=h
 exact h [] H rfl ⟨ag.refl _,trivial,by simp[T.rests],by simp[T.aj],by simp[T.cg,T.aj]⟩
theorem Rl(he:PE X e (lE p EX tn x))(wK:PA X es (jM p EX tn xs))(hs:starEach (e::es) X.env=(false,eval e X.env)::starEach es X.env):PA X (e::es) (jM p EX tn (.cons x xs)):=by
 refine PA.mono (A4 he wK hs) fun U H Q h=>?_
 obtain⟨Y,rfl,hF,j,k,hj,h⟩:=h
 obtain⟨⟨j1,k1⟩,h1,hj⟩:=bS hj
 obtain⟨⟨j2,k2⟩,h2,hj⟩:=bS hj
 cases hj
 simp only[evs]at h
 refine l1 hF h1 h fun d t H1 ht R h=>?_
 refine⟨Y,rfl,hF.same R.same,j2,k2,h2,h.bind.mono R.same fun ds _ hd ts H2 dF R2=>?_⟩
 exact hd (t::ts) H2 (by simp[T.ai,ht,dF]) (VJ (fun a=>hF.fV) R R2)
end
section
variable{p:Px}{EX:cG}{tn:List Nat}{X:Cx}{pos:Pos}
theorem Yk{B:Addr->Prop}{j k:Nat}(r:qH p B H H1 j k ts)(hn:H1 a=none):Rs p B H (L2.upd H1 a (.tup (ts.map T.val))) j k (.tup a ts):=by
 have s:=ag.new (o:=.tup (ts.map T.val)) hn
 exact⟨r.same.trans s,⟨AX,r.ok.same s⟩,r.src,fun b m=>⟨(r.new b m).1,let ⟨vs,e,mu⟩:=(r.new b m).2;⟨vs,s _ _ e,mu⟩⟩,r.nd⟩
theorem Rn{B:Addr->Prop}{H H1:Hp}{j k:Nat}{a:Addr}{ts:List T}(r:qH p B H H1 j k ts)(hn:H1 a=none) :
  Rs p B H (L2.upd H1 a (.lst (ts.map T.val))) (if j=0 then 0 else j+1) (if j=0 then k+1 else 0) (.lst a ts):=by
 have s:=ag.new (o:=.lst (ts.map T.val)) hn
 have ha:H a=none:=r.same.free hn
 refine⟨r.same.trans s,⟨.inl AX,r.ok.same s⟩,fun b m=>?_,fun b m=>?_,?_⟩
 ·split at m
  ·rename_i e
   subst e
   simp only[T.rest,bB]at m
   rcases m with rfl|m
   ·exact .inl ha
   exact r.src b m
  exact r.src b m
 ·split at m
  ·simp only[T.adr,bB]at m
   rcases m with rfl|m
   ·exact⟨ha,_,AX,rfl⟩
   exact⟨(r.new b m).1,let ⟨vs,e,mu⟩:=(r.new b m).2;⟨vs,s _ _ e,mu⟩⟩
  rw[T.cf]at m;cases m
 split
 ·rename_i e
  subst e
  have out:a∉T.rests ts 0:=fun m=>by
   obtain⟨t,ht,m⟩:=T.aa.mp m
   exact(T.ae.mp r.ok t ht).fV m hn
  refine⟨?_,fun b m m'=>?_⟩
  ·simp only[T.adr,gy]
   exact⟨fun m=>out ((T.aC ts k).mpr (.inl m)),r.nd.1⟩
  simp only[T.adr,T.rest,bB]at m m'
  rcases m' with rfl|m'
  ·exact out ((T.aC ts k).mpr (.inr m))
  exact r.nd.2 b m m'
 exact T.bY _
theorem Ao:∀ts:List T,(T.ai ts).length=ts.length:=fun ts=>by rw[T.aw,aF]
abbrev Es.len:Es->Nat
 |.nil=>0
 |.cons _ r=>r.len+1
theorem Ca:∀(es:Es)(δ:Fr)(ds:List D),evs es δ=.ok ds->ds.length=es.len
 |.nil,δ,ds,h=>by simp only[evs]at h;cases h;rfl
 |.cons e r,δ,ds,h=>by
  simp only[evs]at h
  obtain⟨x,_,h⟩:=Res.cb h
  obtain⟨xs,h2,h⟩:=Res.cb h
  cases h
  rw[jS,Ca r δ xs h2,Es.len]
theorem VL{k1:Nat}(h:PA X es (jM p EX tn xs))(hl:xs.len<=1000):PE X (.Tuple es k1 pos) (lE p EX tn (.tup xs)):=by
 refine PE.mono (QZ h) fun U H Q h=>?_
 obtain⟨Y,rfl,hF,j,k,hj,h⟩:=h
 simp only[ev]at h
 refine⟨Y,rfl,hF,j,k,hj,h.bind.mono (ag.refl _) fun ds e hd ts H1 dF R=>⟨?_,fun a ha=>hd (.tup a ts) _ (by simp[T.dat,dF]) (Yk R ha)⟩⟩
 have:=Ca _ _ _ e
 rw[aF,<- Ao,dF,this]
 exact aS hl (by decide)
theorem VM(h:PA X es (jM p EX tn xs))(hl:xs.len<=1000):PE X (.List es pos) (lE p EX tn (.lst xs)):=by
 refine PE.mono (XI h) fun U H Q h=>?_
 obtain⟨Y,rfl,hF,j,k,hj,h⟩:=h
 obtain⟨⟨j1,k1⟩,h1,hj⟩:=bS hj
 simp only[ev]at h
 refine⟨Y,rfl,hF,j1,k1,h1,h.bind.mono (ag.refl _) fun ds e hd ts H1 dF R=>⟨?_,fun a ha=>hd (.lst a ts) _ (by simp[T.dat,dF]) ?_⟩⟩
 ·have:=Ca _ _ _ e
  rw[aF,<- Ao,dF,this]
  exact aS hl (by decide)
 have q:=Rn R ha
 have hj:=Option.some.inj hj
 by_cases z:j1=0
 ·subst z;simp only[if_true]at q;simp at hj;obtain⟨rfl,rfl⟩:=hj;exact q
 simp only[if_neg z]at q;simp[z]at hj;obtain⟨rfl,rfl⟩:=hj;exact q
abbrev PL:B2->Operator
 |.add=>.Add
 |.sub=>.Sub
 |.mul=>.Mult
 |.fdiv=>.FloorDiv
 |.mod=>.Mod
 |.pow=>.Pow
theorem Inv.nA(I:Inv X pins U H s)(hH:Rd H l (.lst xs)):xs.length<=sizeLine/\∃(ah:List Value)(n:Nat),Vals xs ah/\xs.length=ah.length/\s.heap.get? l=some {cls:=.type "list",data:=.seq ah.toArray n}:=by
 obtain⟨z,ah,n,r,e⟩:=hH.ok I.aI
 exact⟨z,ah,n,r,r.length,e⟩
abbrev UX:R2:=fun x y H Q=>∃l b xs zs,x=.ref l/\y=.ref b/\Rd H l (.lst xs)/\Rd H b (.lst zs)/\xs.length+zs.length<=sizeLine/\∀q,H q=none->Q (.ref q) (L2.upd H q (.lst (xs++zs)))
theorem VN:cZ X (binaryOp .Add) UX:=by
 intro pins s U H x y v u Q I rx ry h
 obtain⟨l,b,xs,zs,rfl,rfl,hH,hB,hz,q⟩:=h
 cases rx
 cases ry
 obtain⟨z,ah,n,r,hl,e⟩:=Inv.nA I hH
 obtain⟨z2,jf,n2,r2,hl2,e2⟩:=Inv.nA I hB
 refine PySem.P.add_list e e2 ?_ (by rw[eQ,eQ];omega)
 have ea:ah.toArray++jf.toArray=(ah++jf).toArray:=by simp
 rw[ea]
 exact⟨.ref _,_,I.rQ (t':=s.toks) (r.append r2) (by rw[eP];omega),rfl,q _ I.fresh⟩
abbrev UY:R2:=fun x y H Q=>∃l k xs,x=.ref l/\y=.int k/\Rd H l (.lst xs)/\-(2^63)<=k/\k<2^63/\xs.length*k.toNat<=sizeLine /\
 ∀q,H q=none->Q (.ref q) (L2.upd H q (.lst (aaq k.toNat xs).flatten))
abbrev UZ(_ j:Int):Prop:=0<j/\j<2^200
theorem TD:cZ X (binaryOp .FloorDiv) (rI UZ fun i j=>.int (i/j)):=uj fun i j _ _ _ _ _ hc q=>by
 have e:i/j=i.fdiv j:=(Int.fdiv_eq_ediv_of_nonneg _ (Int.le_of_lt hc.1)).symm
 rw[e]at q
 refine floordiv_int (by have:=hc.1;omega) q (.inl (PyProof.noPylong_of_log2 ?_))
 have h1:j.natAbs<2^200:=by
  have e1:(j.natAbs:Int)=j:=Int.natAbs_of_nonneg (Int.le_of_lt hc.1)
  have e2:(j.natAbs:Int)<((2^200:Nat):Int):=by rw[e1];exact hc.2
  exact nZ.mp e2
 have:j.natAbs.log2<200:=by
  refine(tV (by have:=hc.1;omega)).mpr h1
 omega
theorem VO:cZ X (binaryOp .Mult) UY:=by
 intro pins s U H x y v u Q I rx ry h
 obtain⟨l,k,xs,rfl,rfl,hH,h1,h2,hz,q⟩:=h
 cases rx
 obtain⟨t,rfl⟩:=ry
 obtain⟨z,ah,n,r,hl,e⟩:=Inv.nA I hH
 have hlen:ah.toArray.size*k.toNat<=sizeLine:=by rw[eQ,<- hl];exact hz
 have wL:¬ah.toArray.size*k.toNat>(2^63-1)/8:=by
  have:(sizeLine:Nat)<=(2^63-1)/8:=by decide
  omega
 have wM:¬(!Builtin.List.listFitsIndex k)=true:=by
  rw[fitsIndex_both h1 h2]
  exact qq
 have lP:¬Builtin.List.listTooLong (ah.toArray.size*k.toNat)=true:=by
  rw[MB hlen]
  exact qq
 have wN:vn (fun x1 x2=>x1++x2) #[] (aaq (if ah.toArray.isEmpty=true then 0 else k.toNat) ah.toArray)=(aaq k.toNat ah).flatten.toArray:=by
  have f0:∀m:Nat,vn (fun x1 x2=>x1++x2) #[] (aaq m ah.toArray)=(aaq m ah).flatten.toArray:=fun m=>by
   have:=Lj ah m []
   rw[aaX]at this
   exact this
  rw[f0]
  cases ah with
  |nil=>simp
  |cons a r'=>rw[if_neg (by simp)]
 refine wpAny_binaryOp_repeat_ref (T := "list") (U := "int") (by decide) ⟨_,e,rfl⟩ (fun s'=>typeIs_int s' k t) noFill_list_mul F.fills_int_mul F.slot_int_rmul repeat_list F.slot_int_index.lookup
  (call_meets F.slot_int_rmul (typeIs_int s k t) F.entry_int_rmul (F.args_int_rmul_2 _ _) (int___rmul___int_list k t l ah.toArray n)
   ⟨e,rfl,⟨_,e,rfl⟩,call_meets F.slot_list_mul ⟨_,e,rfl⟩ F.entry_list_mul (F.args_list_mul_2 _ _) (AutoListH.list___mul___list_int_3 l ah.toArray n k t wM wL lP) ⟨e,?_⟩⟩)
 rw[wN]
 exact⟨.ref _,_,I.rQ (t':=s.toks) (r.rep k.toNat) (by rw[Vz,mM];exact hz),rfl,q _ I.fresh⟩
abbrev jN(i j:Int):Prop:=oY i j\/(i.natAbs<2^400/\j.natAbs<2^400)
theorem Oy{k:Int}(h:k.natAbs<2^400):Builtin.Int.intBits k<=400:=by
 unfold Builtin.Int.intBits
 split
 ·exact cK _
 have:k.natAbs.log2<400:=by
  rcases vw k.natAbs with h0|hp
  ·rw[h0];decide
  exact(tV (rn hp)).mpr h
 omega
theorem jN.ok{i j:Int}(h:jN i j):IntMulOk i j:=by
 rcases h with h|⟨h1,h2⟩
 ·exact h.ok
 have b1:=Oy h1
 have b2:=Oy h2
 have:Builtin.Int.intTooBig (Builtin.Int.intBits i+Builtin.Int.intBits j)=false:=by
  unfold Builtin.Int.intTooBig bitsLine
  exact decide_eq_false (by omega)
 unfold IntMulOk
 rw[this]
 simp
theorem VP:cZ X (binaryOp .Mult) (rI jN fun i j=>.int (i*j)):=uj fun _ _ _ _ _ _ _ hc q=>mul_int q hc.ok
abbrev Yl:B2->R2
 |.add=>fun x y H Q=>jG (fun i j=>.int (i+j)) x y H Q\/(UX x y H Q\/∃i j,x=.str i/\y=.str j/\i.length+j.length<=sizeLine/\Q (.str (i++j)) H)
 |.sub=>jG fun i j=>.int (i-j)
 |.mul=>fun x y H Q=>rI jN (fun i j=>.int (i*j)) x y H Q\/UY x y H Q
 |.fdiv=>rI UZ fun i j=>.int (i/j)
 |.mod=>rI (fun _ j=>0<j) fun i j=>.int (i%j)
 |.pow=>rI Xy fun i j=>.int (i^j.toNat)
theorem VQ:∀o:B2,cZ X (binaryOp (PL o)) (Yl o)
 |.add=>Xz.or (VN.or Ps)
 |.sub=>XA
 |.mul=>VP.or VO
 |.fdiv=>TD
 |.mod=>XC
 |.pow=>XD
theorem Rs.elems{B:Addr->Prop}{j k:Nat}(r:Rs p B H H1 j k (.lst a ts))(hj:j<=1):∀b∈T.rests ts 0,H b=none\/B b:=fun b m=>by
 refine r.src b (T.ay _ hj (j':=1) ?_)
 exact m
theorem GQ{B:Addr->Prop}(s:ag H H1)(ok:T.cV p H1 ts)(src:∀b∈T.rests ts 0,H b=none\/B b)(hn:H1 a=none):Rs p B H (L2.upd H1 a (.lst (ts.map T.val))) 0 1 (.lst a ts):=by
 have:=Rn (j:=0) (k:=0) (p:=p) (B:=B) (H:=H) (a:=a) (ts:=ts) ⟨s,ok,src,by rw[T.cD];simp,T.fU ts⟩ hn
 exact this
theorem Oz{t:T}{f:Int->Res D}{Q:Res D->Prop}(hb:¬Q .bad)(h:Q (Er t.dat f)):∃i,t=.int i/\Q (f i):=by
 cases t with
 |int i=>exact⟨i,rfl,h⟩
 |_=>exact absurd h hb
theorem Cu{t u:T}{f:Int->Int->Res D}{Q:Res D->Prop}(hb:¬Q .bad)(h:Q (BR t.dat u.dat f)):∃i j,t=.int i/\u=.int j/\Q (f i j):=by
 obtain⟨i,rfl,h⟩:=Oz (t:=t) hb h
 obtain⟨j,rfl,h⟩:=Oz (t:=u) hb h
 exact⟨i,j,rfl,rfl,h⟩
theorem VR{t u:T}{Q:Res D->Prop}(hb:¬Q .bad)(h:Q (PJ t.dat u.dat)):(∃i j,t=.int i/\u=.int j/\Q (.ok (.int (i+j))))\/(∃x y,t=.str x/\u=.str y/\Q (PJ (.str x) (.str y)))\/∃a ts b us,t=.lst a ts/\u=.lst b us/\Q (PJ (.lst (T.ai ts)) (.lst (T.ai us))):=by
 cases t with
 |int i=>
  cases u with
  |int j=>exact .inl ⟨i,j,rfl,rfl,h⟩
  |_=>exact absurd h hb
 |str x=>
  cases u with
  |str y=>exact .inr (.inl ⟨x,y,rfl,rfl,h⟩)
  |_=>exact absurd h hb
 |lst a ts=>
  cases u with
  |lst b us=>exact .inr (.inr ⟨a,ts,b,us,rfl,rfl,h⟩)
  |_=>exact absurd h hb
 |_=>exact absurd h hb
theorem VS{t u:T}{Q:Res D->Prop}(hb:¬Q .bad)(h:Q (MK t.dat u.dat)):(∃i j,t=.int i/\u=.int j/\Q (MK (.int i) (.int j)))\/∃a ts k,t=.lst a ts/\u=.int k/\Q (MK (.lst (T.ai ts)) (.int k)):=by
 cases t with
 |int i=>
  cases u with
  |int j=>exact .inl ⟨i,j,rfl,rfl,h⟩
  |_=>exact absurd h hb
 |lst a ts=>
  cases u with
  |int k=>exact .inr ⟨a,ts,k,rfl,rfl,h⟩
  |_=>exact absurd h hb
 |_=>exact absurd h hb
theorem Aac{B:Addr->Prop}{H H2:Hp}{ja jb ka kb:Nat}{t u:T}{o:B2}{U:St}{Q:VK}(r:Rs p B H H2 ja ka t)(r':Rs p B H H2 jb kb u)(ha:ja<=1)(hb:jb<=1)(h:Lg p EX U (b2 o t.dat u.dat) H (KE p B H 0 1 Q)):Yl o t.val u.val H2 Q:=by
 have sc:∀w:T,w.sc=true->Rs p B H H2 0 1 w:=fun w hw=>Rs.a_ r.same hw
 cases o with
 |add=>
  rcases VR (Q:=fun r=>Lg p EX U r H _) id h with⟨i,j,rfl,rfl,h⟩|⟨x,y,rfl,rfl,h⟩|⟨a,ts,b,us,rfl,rfl,h⟩
  ·exact .inl ⟨_,_,rfl,rfl,h (.int _) H2 rfl (sc _ rfl)⟩
  ·obtain⟨hl,h⟩:=h.guard
   exact .inr (.inr ⟨_,_,rfl,rfl,hl,h (.str _) H2 rfl (sc _ rfl)⟩)
  skip
  obtain⟨hl,h⟩:=h.guard
  refine .inr (.inl ⟨a,b,_,_,rfl,rfl,r.ok.1,r'.ok.1,?_,fun q hq=>?_⟩)
  ·rw[aF,aF,<- Ao,<- Ao];exact hl
  rw[<- aax]
  refine h (.lst q (ts++us)) _ (by simp[T.dat,T.aw]) (GQ r.same (T.ae.mpr fun w hw=>?_) (fun c m=>?_) hq)
  ·rcases bw.mp hw with hw|hw
   ·exact T.ae.mp r.ok.2 w hw
   exact T.ae.mp r'.ok.2 w hw
  rw[T.aq,bw]at m
  rcases m with m|m
  ·exact r.elems ha c m
  exact r'.elems hb c m
 |sub=>
  obtain⟨i,j,rfl,rfl,h⟩:=Cu (Q:=fun r=>Lg p EX U r H _) id h
  exact⟨_,_,rfl,rfl,h (.int _) H2 rfl (sc _ rfl)⟩
 |mul=>
  rcases VS (Q:=fun r=>Lg p EX U r H _) id h with⟨i,j,rfl,rfl,h⟩|⟨a,ts,k,rfl,rfl,h⟩
  ·by_cases c:(-(2^64)<i/\i<2^64)\/(-(2^64)<j/\j<2^64)
   ·have h:Lg p EX U (if(-(2^64)<i/\i<2^64)\/(-(2^64)<j/\j<2^64) then Res.ok (D.int (i*j)) else if i.natAbs<2^400/\j.natAbs<2^400 then .ok (.int (i*j)) else .bad) H _:=h
    rw[if_pos c]at h
    exact .inl ⟨_,_,rfl,rfl,.inl c,h (.int _) H2 rfl (sc _ rfl)⟩
   have h:Lg p EX U (if(-(2^64)<i/\i<2^64)\/(-(2^64)<j/\j<2^64) then Res.ok (D.int (i*j)) else if i.natAbs<2^400/\j.natAbs<2^400 then .ok (.int (i*j)) else .bad) H _:=h
   rw[if_neg c]at h
   obtain⟨hl,h⟩:=h.guard
   exact .inl ⟨_,_,rfl,rfl,.inr hl,h (.int _) H2 rfl (sc _ rfl)⟩
  skip
  obtain⟨⟨h1,h2,h3⟩,h⟩:=h.guard
  refine .inr ⟨a,k,_,rfl,rfl,r.ok.1,h1,h2,?_,fun q hq=>?_⟩
  ·rw[aF,<- Ao];exact h3
  have e:(aaq k.toNat (ts.map T.val)).flatten=(aaq k.toNat ts).flatten.map T.val:=by
   rw[List.map_flatten,oH]
  rw[e]
  refine h (.lst q (aaq k.toNat ts).flatten) _ ?_ (GQ r.same (T.ae.mpr fun w hw=>?_) (fun c m=>?_) hq)
  ·rw[T.dat,T.aw,T.aw,List.map_flatten,oH]
  ·obtain⟨l,hl,hw⟩:=List.mem_flatten.mp hw
   rw[(tM.mp hl).2]at hw
   exact T.ae.mp r.ok.2 w hw
  obtain⟨w,hw,m⟩:=T.aa.mp m
  obtain⟨l,hl,hw⟩:=List.mem_flatten.mp hw
  rw[(tM.mp hl).2]at hw
  exact r.elems ha c (T.aa.mpr ⟨w,hw,m⟩)
 |fdiv=>
  obtain⟨i,j,rfl,rfl,h⟩:=Cu (Q:=fun r=>Lg p EX U r H _) id h
  obtain⟨hl,h⟩:=h.guard
  exact⟨_,_,rfl,rfl,hl,h (.int _) H2 rfl (sc _ rfl)⟩
 |mod=>
  obtain⟨i,j,rfl,rfl,h⟩:=Cu (Q:=fun r=>Lg p EX U r H _) id h
  obtain⟨hl,h⟩:=h.guard
  exact⟨_,_,rfl,rfl,hl,h (.int _) H2 rfl (sc _ rfl)⟩
 |pow=>
 obtain⟨i,j,rfl,rfl,h⟩:=Cu (Q:=fun r=>Lg p EX U r H _) id h
 obtain⟨hl,h⟩:=h.guard
 exact⟨_,_,rfl,rfl,hl,h (.int _) H2 rfl (sc _ rfl)⟩
theorem VT(ha:PE X a (lE p EX tn x))(hb:PE X b (lE p EX tn y)):PE X (.BinOp a (PL o) b pos) (lE p EX tn (.bin o x y)):=by
 refine PE.mono (ZU (VQ o) ha hb) fun U H Q h=>?_
 obtain⟨Y,rfl,hF,j,k,hj,h⟩:=h
 obtain⟨⟨j1,k1⟩,h1,hj⟩:=bS hj
 obtain⟨⟨j2,k2⟩,h2,hj⟩:=bS hj
 obtain⟨hc,e⟩:=ES hj
 cases e
 simp only[bg,decide_eq_true_eq]at hc
 simp only[ev]at h
 refine l1 hF h1 h fun d t H1 ht R h=>l2 hF R.same h2 h fun d' t' H2 h_ R' h=>?_
 subst ht h_
 exact Aac (R.fwd R'.same) (R'.back R.same) hc.1 hc.2 h
end
mutual
noncomputable def D.py:D->PyData
 |.aJ=>.none
 |.bl b=>.bool b
 |.int i=>.int i
 |.str x=>.str x
 |.tup ds=>.tuple (D.kB ds)
 |.lst ds=>.list (D.kB ds)
 |.cq _=>.none
 |.eS _ _=>.none
 |.eU _ _=>.none
noncomputable def D.kB:List D->List PyData
 |[]=>[]
 |d::r=>d.py::D.kB r
end
theorem D.ind{P:D->Prop}(h0:P .aJ)(h1:∀b,P (.bl b))(h2:∀i,P (.int i))(h3:∀x,P (.str x))(h4:∀ts,(∀t∈ts,P t)->P (.tup ts))(h5:∀ts,(∀t∈ts,P t)->P (.lst ts))(h6:∀c,P (.cq c))(h7:∀ks ts,P (.eS ks ts))(h8:∀ks ts,P (.eU ks ts)):∀t,P t
 |.aJ=>h0
 |.bl b=>h1 b
 |.int i=>h2 i
 |.str x=>h3 x
 |.tup ts=>h4 ts fun t h=>D.ind h0 h1 h2 h3 h4 h5 h6 h7 h8 t
 |.lst ts=>h5 ts fun t h=>D.ind h0 h1 h2 h3 h4 h5 h6 h7 h8 t
 |.cq c=>h6 c
 |.eS ks ts=>h7 ks ts
 |.eU ks ts=>h8 ks ts
termination_by t=>t
theorem Bs{n c:Nat}:D.aX n (.cq c)=false:=by cases n<;>rfl
theorem Bt{n:Nat}{ks:List (Sum Int Str)}:D.aX n (.eS ks ds)=false:=by cases n<;>rfl
theorem Bu{n:Nat}{ks:List (List (Sum Int Str))}:D.aX n (.eU ks ds)=false:=by cases n<;>rfl
theorem FM{n:Nat}(h:D.aX n (.tup ds)=true):∃m,n=m+1/\∀d∈ds,D.aX m d=true:=by
 cases n with
 |zero=>cases h
 |succ m=>exact⟨m,rfl,cz.mp h⟩
theorem FN{n:Nat}(h:D.aX n (.lst ds)=true):∃m,n=m+1/\∀d∈ds,D.aX m d=true:=by
 cases n with
 |zero=>cases h
 |succ m=>exact⟨m,rfl,cz.mp h⟩
theorem ML:∀(d e:D)(n m:Nat),d.aX n=true->e.aX m=true->d.eqv e=d.py.eqv e.py:=by
 have lists:∀(ds:List D),(∀d∈ds,∀(e:D)(n m:Nat),d.aX n=true->e.aX m=true->d.eqv e=d.py.eqv e.py)->∀(es:List D)(n m:Nat),(∀d∈ds,d.aX n=true)->(∀e∈es,e.aX m=true)->D.hV ds es=PyData.eqvAll (D.kB ds) (D.kB es):=by
  intro ds
  induction ds with
  |nil=>intro _ es n m _ _;cases es<;>rfl
  |cons d r ih=>
   intro h es n m h1 h2
   cases es with
   |nil=>rfl
   |cons e s=>
   show(d.eqv e&&D.hV r s)=(d.py.eqv e.py&&PyData.eqvAll (D.kB r) (D.kB s))
   rw[h d (aP ..) e n m (h1 d (aP ..)) (h2 e (aP ..)),ih (fun x hx=>h x (aL _ hx)) s n m (fun x hx=>h1 x (aL _ hx)) (fun x hx=>h2 x (aL _ hx))]
 refine D.ind ?_ ?_ ?_ ?_ ?_ ?_ ?_ ?_ ?_
 ·intro e n m _ h;cases e<;>first|rfl|exact au h|(rw[Bs]at h;cases h)|(rw[Bt]at h;cases h)|(rw[Bu]at h;cases h)
 ·intro b e n m _ h;cases e<;>first|rfl|exact au h|(rw[Bs]at h;cases h)|(rw[Bt]at h;cases h)|(rw[Bu]at h;cases h)
 ·intro b e n m _ h;cases e<;>first|rfl|exact au h|(rw[Bs]at h;cases h)|(rw[Bt]at h;cases h)|(rw[Bu]at h;cases h)
 ·intro b e n m _ h;cases e<;>first|rfl|exact au h|(rw[Bs]at h;cases h)|(rw[Bt]at h;cases h)|(rw[Bu]at h;cases h)
 ·intro ds ih e n m h1 h2
  cases e with
  |tup es=>
   obtain⟨n',_,h1⟩:=FM h1
   obtain⟨m',_,h2⟩:=FM h2
   exact lists ds ih es n' m' h1 h2
  |cq c=>rw[Bs]at h2;cases h2
  |eS ks cs=>rw[Bt]at h2;cases h2
  |eU ks cs=>rw[Bu]at h2;cases h2
  |_=>rfl
 ·intro ds ih e n m h1 h2
  cases e with
  |lst es=>
   obtain⟨n',_,h1⟩:=FN h1
   obtain⟨m',_,h2⟩:=FN h2
   exact lists ds ih es n' m' h1 h2
  |cq c=>rw[Bs]at h2;cases h2
  |eS ks cs=>rw[Bt]at h2;cases h2
  |eU ks cs=>rw[Bu]at h2;cases h2
  |_=>rfl
 ·intro c e n m h;rw[Bs]at h;cases h
 ·intro ks cs e n m h;rw[Bt]at h;cases h
 intro ks cs e n m h;rw[Bu]at h;cases h
theorem Kv:∀(d:D)(n:Nat),d.aX n=true->d.py.canLay0=true/\d.py.depth<=n:=by
 have lists:∀(ds:List D),(∀d∈ds,∀(n:Nat),d.aX n=true->d.py.canLay0=true/\d.py.depth<=n)->∀n,(∀d∈ds,d.aX n=true)->PyData.canLayAll0 (D.kB ds)=true/\PyData.depthAll (D.kB ds)<=n:=by
  intro ds
  induction ds with
  |nil=>intro _ n _;simp[D.kB,PyData.canLayAll0,PyData.depthAll]
  |cons d r ih=>
  intro h n h1
  obtain⟨a1,a2⟩:=h d (aP ..) n (h1 d (aP ..))
  obtain⟨b1,b2⟩:=ih (fun x hx=>h x (aL _ hx)) n (fun x hx=>h1 x (aL _ hx))
  simp only[D.kB,PyData.canLayAll0,PyData.depthAll,a1,b1,acG,true_and]
  omega
 refine D.ind ?_ ?_ ?_ ?_ ?_ ?_ ?_ ?_ ?_
 ·intro n h;simp[D.py,PyData.canLay0,PyData.depth]
 ·intro b n h;simp[D.py,PyData.canLay0,PyData.depth]
 ·intro b n h;simp[D.py,PyData.canLay0,PyData.depth]
 ·intro x n h
  simp only[D.py,PyData.canLay0,PyData.depth,cK,and_true]
  cases n<;>exact h
 ·intro ds ih n h
  obtain⟨m,rfl,h'⟩:=FM h
  have:=lists ds ih m h'
  simp only[D.py,PyData.canLay0,PyData.depth]
  exact⟨this.1,by omega⟩
 ·intro ds ih n h
  obtain⟨m,rfl,h'⟩:=FN h
  have:=lists ds ih m h'
  simp only[D.py,PyData.canLay0,PyData.depth]
  exact⟨this.1,by omega⟩
 ·intro c n h;rw[Bs]at h;cases h
 ·intro ks cs n h;rw[Bt]at h;cases h
 intro ks cs n h;rw[Bu]at h;cases h
theorem Gq{d:D}(h:d.aX 8=true):SeqAt.shaped d.py=true:=by
 obtain⟨h1,h2⟩:=Kv d 8 h
 unfold SeqAt.shaped
 rw[h1,aa4]
 exact decide_eq_true (by omega)
theorem Ha:∀(t:T)(n:Nat),t.Ok p H->t.dat.aX n=true->RD p.K H t.val t.dat.py:=by
 have lists:∀(ts:List T),(∀t∈ts,∀n,t.Ok p H->t.dat.aX n=true->RD p.K H t.val t.dat.py)->∀n,T.cV p H ts->(∀d∈T.ai ts,d.aX n=true)->lB p.K H (ts.map T.val) (D.kB (T.ai ts)):=by
  intro ts
  induction ts with
  |nil=>intro _ _ _ _;exact .nil
  |cons t r ih=>
  intro h n ok hs
  exact .cons (h t (aP ..) n ok.1 (hs _ (by simp[T.ai]))) (ih (fun u hu=>h u (aL _ hu)) n ok.2 (fun d hd=>hs d (by simp[T.ai,hd])))
 refine T.ind (fun _ _ _=>.aJ) (fun b _ _ _=>.bl b) (fun i _ _ _=>.int i) (fun x _ _ _=>.str x) (fun a ts ih n ok h=>?_) (fun a ts ih n ok h=>?_) (fun a c n ok h=>?_) (fun a ks ts _ n ok h=>by rw[T.dat,Bt]at h;cases h) (fun a ks ts _ n ok h=>by rw[T.dat,Bu]at h;cases h)
 ·obtain⟨m,rfl,h'⟩:=FM h
  exact .tup (dP.of ok.1) (lists ts ih m ok.2 h')
 ·obtain⟨m,rfl,h'⟩:=FN h
  exact .lst (.inl ok.1) (lists ts ih m ok.2 h')
 rw[T.dat,Bs]at h;cases h
theorem PM(h:Rd H a (.lst xs))(h':Rd H a (.lst ys)):xs=ys:=by
 rcases h with h|⟨o,h⟩<;>rcases h' with h'|⟨o',h'⟩<;>rw[h]at h'<;>cases h'<;>rfl
theorem T.det:∀(t u:T)(n m:Nat),t.Ok p H->u.Ok p H->t.dat.aX n=true->u.dat.aX m=true->t.val=u.val->t.dat=u.dat:=by
 have lists:∀(ts:List T),(∀t∈ts,∀(u:T)(n m:Nat),t.Ok p H->u.Ok p H->t.dat.aX n=true->u.dat.aX m=true->t.val=u.val->t.dat=u.dat)->∀(us:List T)(n m:Nat),T.cV p H ts->T.cV p H us->
   (∀d∈T.ai ts,d.aX n=true)->(∀d∈T.ai us,d.aX m=true)->ts.map T.val=us.map T.val->T.ai ts=T.ai us:=by
  intro ts
  induction ts with
  |nil=>intro _ us n m _ _ _ _ e;cases us with|nil=>rfl|cons u r=>simp at e
  |cons t r ih=>
   intro h us n m o1 o2 s1 s2 e
   cases us with
   |nil=>simp at e
   |cons u q=>
   simp only[cT,List.cons.injEq]at e
   simp only[T.ai,List.cons.injEq]
   exact⟨h t (aP ..) u n m o1.1 o2.1 (s1 _ (by simp[T.ai])) (s2 _ (by simp[T.ai])) e.1,ih (fun x hx=>h x (aL _ hx)) q n m o1.2 o2.2 (fun d hd=>s1 d (by simp[T.ai,hd])) (fun d hd=>s2 d (by simp[T.ai,hd])) e.2⟩
 refine T.ind ?_ ?_ ?_ ?_ ?_ ?_ ?_ ?_ ?_
 ·intro u n m _ _ _ _ e;cases u<;>first|rfl|cases e
 ·intro b u n m _ _ _ _ e;cases u<;>first|(cases e;rfl)|cases e
 ·intro b u n m _ _ _ _ e;cases u<;>first|(cases e;rfl)|cases e
 ·intro b u n m _ _ _ _ e;cases u<;>first|(cases e;rfl)|cases e
 ·intro a ts ih u n m o1 o2 s1 s2 e
  cases u with
  |tup b us=>
   cases e
   obtain⟨n',_,s1⟩:=FM s1
   obtain⟨m',_,s2⟩:=FM s2
   have q:=o1.1.symm.trans o2.1
   simp only[Option.some.injEq,HO.tup.injEq]at q
   simp only[T.dat,lists ts ih us n' m' o1.2 o2.2 s1 s2 q]
  |lst b us=>
   cases e
   have h1:=o1.1
   rcases o2.1 with h|⟨_,h⟩<;>rw[h]at h1<;>cases h1
  |cq b c=>rw[T.dat,Bs]at s2;cases s2
  |eS b ks cs=>rw[T.dat,Bt]at s2;cases s2
  |eU b ks cs=>rw[T.dat,Bu]at s2;cases s2
  |_=>cases e
 ·intro a ts ih u n m o1 o2 s1 s2 e
  cases u with
  |tup b us=>
   cases e
   have h1:=o2.1
   rcases o1.1 with h|⟨_,h⟩<;>rw[h]at h1<;>cases h1
  |lst b us=>
   cases e
   obtain⟨n',_,s1⟩:=FN s1
   obtain⟨m',_,s2⟩:=FN s2
   have q:=PM o1.1 o2.1
   simp only[T.dat,lists ts ih us n' m' o1.2 o2.2 s1 s2 q]
  |cq b c=>rw[T.dat,Bs]at s2;cases s2
  |eS b ks cs=>rw[T.dat,Bt]at s2;cases s2
  |eU b ks cs=>rw[T.dat,Bu]at s2;cases s2
  |_=>cases e
 ·intro a c u n m _ _ h;rw[T.dat,Bs]at h;cases h
 ·intro a ks ts _ u n m _ _ h;rw[T.dat,Bt]at h;cases h
 intro a ks ts _ u n m _ _ h;rw[T.dat,Bu]at h;cases h
section
variable{p:Px}{EX:cG}{tn:List Nat}{X:Cx}{pos:Pos}
theorem Iw(hK:X.K=p.K){pins:List (Addr×Obj)}{U:St}{H:Hp}{s:Shared}{A:Around}(I:Inv X pins U H s){t u:T}{x y:Value}(hu:A.units+60<cLine)(o1:t.Ok p H)(o2:u.Ok p H)(s1:t.dat.aX 8=true)(s2:u.dat.aX 8=true)(r1:RelV t.val x)(r2:RelV u.val y) :
  SeqAt.EqAt A s x y (t.dat.eqv u.dat):=by
 intro prog w E Q hQ
 obtain⟨as,q1⟩:=RD.reads (X:=X) I (hK▸Ha t 8 o1 s1) r1
 obtain⟨bs,q2⟩:=RD.reads (X:=X) I (hK▸Ha u 8 o2 s2) r2
 obtain⟨c1,d1⟩:=Kv _ 8 s1
 obtain⟨c2,d2⟩:=Kv _ 8 s2
 refine PySem.SeqAt.eqBoolOverData prog w A E s x y _ _ as bs Q q1 q2 c1 c2 (by omega) ?_
 rw[<- ML _ _ 8 8 s1 s2]
 exact hQ
abbrev jg(us:List T)(t:T)(y:Value):Bool:=@decide (∃u∈us,RelV u.val y/\u.dat.eqv t.dat=true) (Classical.propDecidable _)
theorem HJ(ok:T.cV p H us)(sh:∀w∈us,w.dat.aX 8=true)(hu:u∈us)(r:RelV u.val y):jg us t y=u.dat.eqv t.dat:=by
 unfold jg
 cases e:u.dat.eqv t.dat with
 |true=>exact @decide_eq_true _ (Classical.propDecidable _) ⟨u,hu,r,e⟩
 |false=>
 refine @decide_eq_false _ (Classical.propDecidable _) ?_
 rintro⟨w,hw,r',e'⟩
 rw[T.det w u 8 8 (T.ae.mp ok w hw) (T.ae.mp ok u hu) (sh w hw) (sh u hu) (RelV.inj r' r)]at e'
 rw[e]at e';cases e'
theorem GR(ok:T.cV p H us)(sh:∀w∈us,w.dat.aX 8=true):∀(ws:List T)(ys:List Value),(∀w∈ws,w∈us)->Vals (ws.map T.val) ys->ys.any (jg us t)=ws.any fun w=>w.dat.eqv t.dat
 |[],_,_,.nil=>rfl
 |w::ws,_,h,.cons r q=>by
  rw[tQ,tQ,HJ ok sh (h w (aP ..)) r,GR ok sh ws _ (fun x hx=>h x (aL _ hx)) q]
theorem FX:∀{ws:List T}{ys:List Value}{y:Value},Vals (ws.map T.val) ys->y∈ys->∃w∈ws,RelV w.val y
 |[],_,y,.nil,h=>nomatch h
 |w::ws,_,y,.cons r q,h=>by
  rcases bB.mp h with rfl|h
  ·exact⟨w,aP ..,r⟩
  obtain⟨w',hw,r'⟩:=FX q h
  exact⟨w',aL _ hw,r'⟩
abbrev PN(p:Px)(neg:Bool):R2:=fun x y H Q=>∃(t:T)(a:Addr)(us:List T),x=t.val/\y=.ref a/\(Rd H a (.lst (us.map T.val))\/H a=some (.tup (us.map T.val)))/\T.cV p H us/\t.Ok p H/\t.dat.aX 8=true/\(∀w∈us,w.dat.aX 8=true) /\
 Q (.bl (if neg then !(us.any fun w=>w.dat.eqv t.dat) else us.any fun w=>w.dat.eqv t.dat)) H
theorem Ym(hK:X.K=p.K)(hu:X.A.units+64<cLine):cZ X (compareOp .In) (PN p false):=by
 intro pins s U H x y v u Q I rx ry h
 obtain⟨t,a,us,rfl,rfl,hq,ok,o1,s1,s2,q⟩:=h
 cases ry
 rcases hq with hq|hq
 ·obtain⟨ah,r,pl,hz⟩:=I.list (.inl hq)
  refine SeqAt.in_listAt (jg us t) pl.isList (fun w hw=>?_) ⟨.bl _,H,I,rfl,?_⟩
  ·obtain⟨w',c_,r'⟩:=FX r (by simpa using hw)
   rw[HJ ok s2 c_ r']
   exact Iw hK I (by show X.A.units+1+60<cLine;omega) (T.ae.mp ok w' c_) o1 (s2 w' c_) s1 r' rx
  rw[show ah.toArray.any (jg us t)=ah.any (jg us t) by simp,GR ok s2 us ah (fun _ h=>h) r]
  exact q
 obtain⟨ah,r,pl,hz⟩:=I.tuple (dP.of hq)
 refine SeqAt.in_tupleAt (jg us t) pl (fun w hw=>?_) ⟨.bl _,H,I,rfl,?_⟩
 ·obtain⟨w',c_,r'⟩:=FX r (by simpa using hw)
  rw[HJ ok s2 c_ r']
  exact Iw hK I (by show X.A.units+1+60<cLine;omega) (T.ae.mp ok w' c_) o1 (s2 w' c_) s1 r' rx
 rw[show ah.toArray.any (jg us t)=ah.any (jg us t) by simp,GR ok s2 us ah (fun _ h=>h) r]
 exact q
theorem Ro(hK:X.K=p.K)(hu:X.A.units+64<cLine):cZ X (compareOp .NotIn) (PN p true):=by
 intro pins s U H x y v u Q I rx ry h
 obtain⟨t,a,us,rfl,rfl,hq,ok,o1,s1,s2,q⟩:=h
 cases ry
 rcases hq with hq|hq
 ·obtain⟨ah,r,pl,hz⟩:=I.list (.inl hq)
  refine SeqAt.notIn_listAt (jg us t) pl.isList (fun w hw=>?_) ⟨.bl _,H,I,rfl,?_⟩
  ·obtain⟨w',c_,r'⟩:=FX r (by simpa using hw)
   rw[HJ ok s2 c_ r']
   exact Iw hK I (by show X.A.units+1+60<cLine;omega) (T.ae.mp ok w' c_) o1 (s2 w' c_) s1 r' rx
  rw[show ah.toArray.any (jg us t)=ah.any (jg us t) by simp,GR ok s2 us ah (fun _ h=>h) r]
  exact q
 obtain⟨ah,r,pl,hz⟩:=I.tuple (dP.of hq)
 refine SeqAt.notIn_tupleAt (jg us t) pl (fun w hw=>?_) ⟨.bl _,H,I,rfl,?_⟩
 ·obtain⟨w',c_,r'⟩:=FX r (by simpa using hw)
  rw[HJ ok s2 c_ r']
  exact Iw hK I (by show X.A.units+1+60<cLine;omega) (T.ae.mp ok w' c_) o1 (s2 w' c_) s1 r' rx
 rw[show ah.toArray.any (jg us t)=ah.any (jg us t) by simp,GR ok s2 us ah (fun _ h=>h) r]
 exact q
end
section
variable{p:Px}{EX:cG}{tn:List Nat}{X:Cx}{pos:Pos}
abbrev Bp:C2->CmpOp
 |.lt=>.Lt
 |.le=>.LtE
 |.gt=>.Gt
 |.ge=>.GtE
 |.eq=>.Eq
 |.ne=>.NotEq
 |.pJ=>.In
 |.oi=>.NotIn
abbrev Yn(p:Px)(neg:Bool):R2:=fun x y H Q=>∃t u:T,x=t.val/\y=u.val/\t.Ok p H/\u.Ok p H/\t.dat.aX 8=true/\u.dat.aX 8=true/\Q (.bl (if neg then !t.dat.eqv u.dat else t.dat.eqv u.dat)) H
abbrev MM(p:Px):C2->R2
 |.lt=>jG fun i j=>.bl (decide (i<j))
 |.le=>jG fun i j=>.bl (decide (i<=j))
 |.gt=>jG fun i j=>.bl (decide (j<i))
 |.ge=>jG fun i j=>.bl (decide (j<=i))
 |.eq=>Yn p false
 |.ne=>Yn p true
 |.pJ=>PN p false
 |.oi=>PN p true
theorem FO(hK:X.K=p.K)(hu:X.A.units+64<cLine):∀o:C2,cZ X (compareOp (Bp o)) (MM p o)
 |.lt=>ZW
 |.le=>ZX
 |.gt=>ZY
 |.ge=>ZZ
 |.eq=>by
  intro pins s U H x y v u Q I rx ry h
  obtain⟨t,w,rfl,rfl,o1,o2,s1,s2,q⟩:=h
  refine XY hu pins s U H _ _ v u Q I rx ry ⟨_,_,hK▸Ha t 8 o1 s1,hK▸Ha w 8 o2 s2,Gq s1,Gq s2,?_⟩
  rw[<- ML _ _ 8 8 s1 s2];exact q
 |.ne=>by
  intro pins s U H x y v u Q I rx ry h
  obtain⟨t,w,rfl,rfl,o1,o2,s1,s2,q⟩:=h
  refine XZ hu pins s U H _ _ v u Q I rx ry ⟨_,_,hK▸Ha t 8 o1 s1,hK▸Ha w 8 o2 s2,Gq s1,Gq s2,?_⟩
  rw[<- ML _ _ 8 8 s1 s2];exact q
 |.pJ=>Ym hK hu
 |.oi=>Ro hK hu
theorem MN{t:T}:∀us:List T,((T.ai us).any fun y=>D.eqv y t.dat)=us.any fun w=>w.dat.eqv t.dat
 |[]=>rfl
 |u::r=>by simp[T.ai,MN r]
theorem Ev{f:D->Bool}:∀{us:List T},(T.ai us).all f=true->∀w∈us,f w.dat=true
 |[],_,w,h=>nomatch h
 |u::r,h,w,hw=>by
  simp only[T.ai,eR,bg]at h
  rcases bB.mp hw with rfl|hw
  ·exact h.1
  exact Ev h.2 w hw
theorem Mc{β:Type}{t:T}{us:List T}{U:St}{H:Hp}{f:Bool->Res β}{Kc:β->Prop}(h:Lg p EX U ((inD t.dat (T.ai us)).bind f) H Kc):t.dat.aX 8=true/\(∀w∈us,w.dat.aX 8=true)/\Lg p EX U (f (us.any fun w=>w.dat.eqv t.dat)) H Kc:=by
 have h:=h.bind
 unfold inD at h
 obtain⟨hc,h⟩:=h.guard
 rw[bg]at hc
 rw[MN]at h
 exact⟨hc.1,fun w hw=>Ev hc.2 w hw,h⟩
theorem PQ{B:Addr->Prop}{ja jb ka kb:Nat}{Kc:D->Prop}(r:Rs p B H H2 ja ka t)(r':Rs p B H H2 jb kb u)(h:Lg p EX U (c2 o t.dat u.dat) H Kc)(hQ:∀b,Kc (.bl b)->Q (.bl b) H2):MM p o t.val u.val H2 Q:=by
 cases o with
 |lt=>
  obtain⟨i,j,rfl,rfl,h⟩:=Cu (Q:=fun r=>Lg p EX U r H Kc) id h
  exact⟨_,_,rfl,rfl,hQ _ h⟩
 |le=>
  obtain⟨i,j,rfl,rfl,h⟩:=Cu (Q:=fun r=>Lg p EX U r H Kc) id h
  exact⟨_,_,rfl,rfl,hQ _ h⟩
 |gt=>
  obtain⟨i,j,rfl,rfl,h⟩:=Cu (Q:=fun r=>Lg p EX U r H Kc) id h
  exact⟨_,_,rfl,rfl,hQ _ h⟩
 |ge=>
  obtain⟨i,j,rfl,rfl,h⟩:=Cu (Q:=fun r=>Lg p EX U r H Kc) id h
  exact⟨_,_,rfl,rfl,hQ _ h⟩
 |eq=>
  simp only[c2]at h
  obtain⟨hc,h⟩:=h.guard
  rw[bg]at hc
  exact⟨t,u,rfl,rfl,r.ok,r'.ok,hc.1,hc.2,hQ _ h⟩
 |ne=>
  simp only[c2]at h
  obtain⟨hc,h⟩:=h.guard
  rw[bg]at hc
  exact⟨t,u,rfl,rfl,r.ok,r'.ok,hc.1,hc.2,hQ _ h⟩
 |pJ=>
  cases u<;>first|exact nE h|skip
  ·obtain⟨s1,s2,h⟩:=Mc h
   exact⟨t,_,_,rfl,rfl,.inr r'.ok.1,r'.ok.2,r.ok,s1,s2,hQ _ h⟩
  obtain⟨s1,s2,h⟩:=Mc h
  exact⟨t,_,_,rfl,rfl,.inl r'.ok.1,r'.ok.2,r.ok,s1,s2,hQ _ h⟩
 |oi=>
 cases u<;>first|exact nE h|skip
 ·obtain⟨s1,s2,h⟩:=Mc h
  exact⟨t,_,_,rfl,rfl,.inr r'.ok.1,r'.ok.2,r.ok,s1,s2,hQ _ h⟩
 obtain⟨s1,s2,h⟩:=Mc h
 exact⟨t,_,_,rfl,rfl,.inl r'.ok.1,r'.ok.2,r.ok,s1,s2,hQ _ h⟩
theorem KE.bl{B:Addr->Prop}{j k:Nat}{b:Bool}(s:ag H H2)(h:KE p B H j k Q (.bl b)):Q (.bl b) H2:=h (.bl b) H2 rfl (Rs.a_ s rfl)
theorem Yo{Kc:D->Prop}{j1 k1 j2 k2:Nat}(hF:gE p tn Y H)(h1:jk tn x=some (j1,k1))(h2:jk tn y=some (j2,k2))
  (h:Lg p EX (aM Y) ((ev x (aR Y)).bind fun a=>(ev y (aR Y)).bind fun b=>c2 o a b) H Kc) (hQ:∀b H2,ag H H2->Kc (.bl b)->Q (.bl b) H2):qA (MM p o) (lE p EX tn x) (lE p EX tn y) (aM Y) H Q:=by
 refine l1 hF h1 h fun d t H1 ht R h=>l2 hF R.same h2 h fun d' t' H2 h_ R' h=>?_
 subst ht h_
 exact PQ (R.fwd R'.same) (R'.back R.same) h fun b hb=>hQ b H2 (R.same.trans R'.same) hb
theorem VU(hK:X.K=p.K)(hu:X.A.units+64<cLine)(ha:PE X a (lE p EX tn x))(hb:PE X b (lE p EX tn y))(hm:behindInMarks (Bp o) b=false):PE X (.Compare a [Bp o] [b] pos) (lE p EX tn (.cmp o x y)):=by
 refine PE.mono (Oq (FO hK hu o) ha hb hm) fun U H Q h=>?_
 obtain⟨Y,rfl,hF,j,k,hj,h⟩:=h
 obtain⟨⟨j1,k1⟩,h1,hj⟩:=bS hj
 obtain⟨⟨j2,k2⟩,h2,hj⟩:=bS hj
 simp only[ev]at h
 exact Yo hF h1 h2 h fun b H2 s hb=>KE.bl s hb
theorem TF(hK:X.K=p.K)(hu:X.A.units+64<cLine)(ha:PE X a (lE p EX tn x))(hb:PE X b (lE p EX tn y))(hm:behindInMarks (Bp o) b=false):PT X (.Compare a [Bp o] [b] pos) (lT p EX tn (.cmp o x y)):=by
 refine PT.mono (Os (FO hK hu o) ha hb hm) fun U H Q h=>?_
 obtain⟨Y,rfl,hF,hj,h⟩:=h
 obtain⟨q,hj⟩:=jD.mp hj
 obtain⟨⟨j1,k1⟩,h1,hj⟩:=bS hj
 obtain⟨⟨j2,k2⟩,h2,hj⟩:=bS hj
 simp only[tv,ev]at h
 exact Yo hF h1 h2 h.bind fun b H2 s hb=>⟨b,rfl,hb H2 s⟩
theorem Rp{Kc:D->Prop}{j1 k1 j2 k2 j3 k3:Nat}(hF:gE p tn Y H)(h1:jk tn x=some (j1,k1))(h2:jk tn y=some (j2,k2))(h3:jk tn z=some (j3,k3))
  (h:Lg p EX (aM Y) (ev (.chain o o' x y z) (aR Y)) H Kc) (hQ:∀b H2,ag H H2->Kc (.bl b)->Q (.bl b) H2):Mv (MM p o) (MM p o') (lE p EX tn x) (lE p EX tn y) (lE p EX tn z) (aM Y) H Q:=by
 simp only[ev]at h
 refine l1 hF h1 h fun d t H1 ht R h=>l2 hF R.same h2 h fun d' t' H2 h_ R' h=>?_
 subst ht h_
 refine PQ (R.fwd R'.same) (R'.back R.same) h.bind fun b h=>⟨b,rfl,?_⟩
 have s2:=R.same.trans R'.same
 cases b with
 |false=>exact hQ false H2 s2 h
 |true=>
 refine l2 hF s2 h3 h fun d'' t'' H3 wO wQ h=>?_
 subst wO
 exact PQ ((R'.back R.same).fwd wQ.same) (wQ.back s2) h fun b hb=>hQ b H3 (s2.trans wQ.same) hb
theorem Rq(hK:X.K=p.K)(hu:X.A.units+64<cLine)(ha:PE X a (lE p EX tn x))(hb:PE X b (lE p EX tn y))(hc:PE X c (lE p EX tn z))(hm:lastMarks [Bp o,Bp o'] [b,c]=false):PE X (.Compare a [Bp o,Bp o'] [b,c] pos) (lE p EX tn (.chain o o' x y z)):=by
 refine PE.mono (Ta (FO hK hu o) (FO hK hu o') ha hb hc hm) fun U H Q h=>?_
 obtain⟨Y,rfl,hF,j,k,hj,h⟩:=h
 obtain⟨⟨j1,k1⟩,h1,hj⟩:=bS hj
 obtain⟨⟨j2,k2⟩,h2,hj⟩:=bS hj
 obtain⟨⟨j3,k3⟩,h3,hj⟩:=bS hj
 exact Rp hF h1 h2 h3 h fun b H2 s hb=>KE.bl s hb
theorem PR(hK:X.K=p.K)(hu:X.A.units+64<cLine)(ha:PE X a (lE p EX tn x))(hb:PE X b (lE p EX tn y))(hc:PE X c (lE p EX tn z))(hm:lastMarks [Bp o,Bp o'] [b,c]=false):PT X (.Compare a [Bp o,Bp o'] [b,c] pos) (lT p EX tn (.chain o o' x y z)):=by
 refine PT.mono (Tb (FO hK hu o) (FO hK hu o') ha hb hc hm) fun U H Q h=>?_
 obtain⟨Y,rfl,hF,hj,h⟩:=h
 obtain⟨q,hj⟩:=jD.mp hj
 obtain⟨⟨j1,k1⟩,h1,hj⟩:=bS hj
 obtain⟨⟨j2,k2⟩,h2,hj⟩:=bS hj
 obtain⟨⟨j3,k3⟩,h3,hj⟩:=bS hj
 unfold tv at h
 exact Rp hF h1 h2 h3 h.bind fun b H2 s hb=>⟨b,rfl,hb H2 s⟩
theorem VV{t:T}:decide (t.val=V.aJ)=(match t.dat with|.aJ=>true|_=>false):=by
 cases t<;>rfl
theorem Yp{x:E}{n:Bool}{Y:Ft}{H:Hp}{Kc:D->Prop}{Q:VK}{j1 k1:Nat}(hF:gE p tn Y H)(h1:jk tn x=some (j1,k1))(h:Lg p EX (aM Y) (ev (.bA n x) (aR Y)) H Kc)(hQ:∀b H2,ag H H2->Kc (.bl b)->Q (.bl b) H2) :
  lE p EX tn x (aM Y) H fun v H1=>Q (.bl (if n then !decide (v=.aJ) else decide (v=.aJ))) H1:=by
 simp only[ev]at h
 refine l1 hF h1 h fun d t H1 ht R h=>?_
 subst ht
 refine hQ _ H1 R.same ?_
 have h:Kc (.bl (match t.dat with|.aJ=>!n|_=>n)):=h
 rw[VV]
 cases n<;>cases t<;>exact h
theorem VW{n:Bool}{j pos'}(ha:PE X a (lE p EX tn x)):PE X (.Compare a [if n then .IsNot else .Is] [.Constant .none j pos'] pos) (lE p EX tn (.bA n x)):=by
 have key:∀U H Q,lE p EX tn (.bA n x) U H Q->lE p EX tn x U H fun v H1=>Q (.bl (if n then !decide (v=.aJ) else decide (v=.aJ))) H1:=by
  intro U H Q h
  obtain⟨Y,rfl,hF,j,k,hj,h⟩:=h
  obtain⟨⟨j1,k1⟩,h1,hj⟩:=bS hj
  exact Yp hF h1 h fun b H2 s hb=>KE.bl s hb
 cases n with
 |true=>exact PE.mono (QI (Oo ha)) fun U H Q h=>key U H Q h
 |false=>exact PE.mono (QI (QH ha)) fun U H Q h=>key U H Q h
theorem TH{n:Bool}{j pos'}(ha:PE X a (lE p EX tn x)):PT X (.Compare a [if n then .IsNot else .Is] [.Constant .none j pos'] pos) (lT p EX tn (.bA n x)):=by
 have key:∀U H Q,lT p EX tn (.bA n x) U H Q->lE p EX tn x U H fun v H1=>∃c,V.bl (if n then !decide (v=.aJ) else decide (v=.aJ))=V.bl c/\Q c H1:=by
  intro U H Q h
  obtain⟨Y,rfl,hF,hj,h⟩:=h
  obtain⟨q,hj⟩:=jD.mp hj
  obtain⟨⟨j1,k1⟩,h1,hj⟩:=bS hj
  unfold tv at h
  exact Yp (Q:=fun v H1=>∃c,v=V.bl c/\Q c H1) hF h1 h.bind fun b H2 s hb=>⟨b,rfl,hb H2 s⟩
 cases n with
 |true=>exact PT.mono (QJ (Oo ha)) fun U H Q h=>key U H Q h
 |false=>exact PT.mono (QJ (QH ha)) fun U H Q h=>key U H Q h
end
section
variable{p:Px}{EX:cG}{tn:List Nat}{X:Cx}{pos:Pos}
theorem VX(ha:PE X a (lE p EX tn x)):PE X (.UnaryOp .USub a pos) (lE p EX tn (.neg x)):=by
 refine PE.mono (ZV XE ha) fun U H Q h=>?_
 obtain⟨Y,rfl,hF,j,k,hj,h⟩:=h
 obtain⟨⟨j1,k1⟩,h1,hj⟩:=bS hj
 simp only[ev]at h
 refine l1 hF h1 h fun d t H1 ht R h=>?_
 subst ht
 cases t<;>simp only[T.dat]at h
 all_goals first|exact nE h|exact⟨_,rfl,h (.int _) H1 rfl (Rs.a_ R.same rfl)⟩
theorem VY(ha:PE X a (lE p EX tn x)):PE X (.UnaryOp .Not a pos) (lE p EX tn (.not x)):=by
 refine PE.mono (Xn ha) fun U H Q h=>?_
 obtain⟨Y,rfl,hF,j,k,hj,h⟩:=h
 obtain⟨⟨j1,k1⟩,h1,hj⟩:=bS hj
 simp only[ev]at h
 refine l1 hF h1 h fun d t H1 ht R h=>?_
 subst ht
 cases t<;>simp only[T.dat]at h
 all_goals first|exact nE h|exact⟨_,rfl,h (.bl _) H1 rfl (Rs.a_ R.same rfl)⟩
theorem TJ{H:Hp}{t:T}{U:St}{H0:Hp}{Kc:Bool->Prop}(hK:X.K=p.K)(ok:t.Ok p H)(h:Lg p EX U (BP t.dat) H0 Kc):∃b,Tc X.K t.val H b/\Kc b:=by
 cases t<;>simp only[T.dat,BP]at h
 ·exact⟨false,rfl,h⟩
 ·exact⟨_,rfl,h⟩
 ·exact⟨_,rfl,h⟩
 ·exact nE h
 ·rename_i a ts
  refine⟨_,.inr (.inl ⟨_,dP.of ok.1,rfl⟩),?_⟩
  have h:Kc (!(T.ai ts).isEmpty):=h
  cases ts<;>exact h
 ·rename_i a ts
  refine⟨_,.inl ⟨_,.inl ok.1,rfl⟩,?_⟩
  have h:Kc (!(T.ai ts).isEmpty):=h
  cases ts<;>exact h
 ·exact nE h
 ·exact nE h
 exact nE h
abbrev MO:Expr->Bool
 |.UnaryOp .Not _ _=>false
 |.BoolOp _ _ _=>false
 |.IfExp _ _ _ _=>false
 |.Compare _ _ _ _=>false
 |_=>true
theorem Rr(h:MO a=true):∀whole,isTrue a env whole=(do let v <- whole;standAt a.pos;holding [v] (truthy v)):=by
 intro whole
 cases a with
 |UnaryOp o x q=>cases o<;>first|rfl|cases h
 |BoolOp _ _ _=>cases h
 |IfExp _ _ _ _=>cases h
 |Compare _ _ _ _=>cases h
 |_=>rfl
theorem PU(hK:X.K=p.K)(ha:PE X a (lE p EX tn x))(hp:MO a=true):PT X a (lT p EX tn x):=by
 refine PT.mono (Td ha (Rr hp)) fun U H Q h=>?_
 obtain⟨Y,rfl,hF,hj,h⟩:=h
 obtain⟨⟨j,k⟩,hj⟩:=jD.mp hj
 refine l1 hF hj h fun d t H1 ht R h=>?_
 subst ht
 obtain⟨b,tb,hb⟩:=TJ (X:=X) hK R.ok h
 exact⟨b,tb,hb H1 R.same⟩
theorem TK(ha:PT X a (lT p EX tn x)):PT X (.UnaryOp .Not a pos) (lT p EX tn (.not x)):=by
 refine PT.mono (Xk ha) fun U H Q h=>?_
 obtain⟨Y,rfl,hF,hj,h⟩:=h
 obtain⟨q,hj⟩:=jD.mp hj
 obtain⟨⟨j1,k1⟩,h1,hj⟩:=bS hj
 refine⟨Y,rfl,hF,by rw[h1];rfl,?_⟩
 unfold tv at h ⊢
 simp only[ev]at h
 cases q:ev x (aR Y) with
 |ok d=>
  rw[q]at h
  simp only[Res.bind_ok]at h ⊢
  cases d<;>simp only[Res.fT]at h
  all_goals first|exact nE h|exact h
 |exc c=>rw[q]at h;exact h
 |bad=>rw[q]at h;exact h
theorem Yq{k0:Bool}(ha:PE X a (lE p EX tn x)):PE X (.BoolOp (if k0 then .And else .Or) [a] pos) (lE p EX tn (.bo k0 (.cons x .nil))):=by
 refine PE.mono (Xl ha) fun U H Q h=>?_
 obtain⟨Y,rfl,hF,j,k,hj,h⟩:=h
 obtain⟨⟨j1,k1⟩,h1,hj⟩:=bS hj
 simp only[ev,evBo]at h
 have hj:=Option.some.inj hj
 refine⟨Y,rfl,hF,j1,k1,h1,h.mono (ag.refl _) fun d _ hd t H' ht R=>hd t H' ht (R.le ?_ ?_)⟩
 ·simp at hj;omega
 simp at hj
 obtain⟨h1,h2⟩:=hj
 rw[<- h2]
 split
 ·exact iE ..
 exact cK _
theorem VZ{k0:Bool}(ha:PE X a (lE p EX tn x))(hb:PE X (.BoolOp (if k0 then .And else .Or) (b::rest) pos) (lE p EX tn (.bo k0 (.cons y r)))) :
  PE X (.BoolOp (if k0 then .And else .Or) (a::b::rest) pos) (lE p EX tn (.bo k0 (.cons x (.cons y r)))):=by
 have key:∀U H Q,lE p EX tn (.bo k0 (.cons x (.cons y r))) U H Q->lE p EX tn x U H fun v H1=>∃c,v=.bl c/\if c=k0 then lE p EX tn (.bo k0 (.cons y r)) U H1 Q else Q (.bl c) H1:=by
  intro U H Q h
  obtain⟨Y,rfl,hF,j,k,hj,h⟩:=h
  obtain⟨⟨j1,k1⟩,h1,hj⟩:=bS hj
  obtain⟨⟨j2,k2⟩,h2,hj⟩:=bS hj
  have hj:=Option.some.inj hj
  simp only[Prod.mk.injEq]at hj
  simp only[ev,evBo]at h
  refine l1 hF h1 h fun d t H1 ht R h=>?_
  subst ht
  cases t<;>simp only[T.dat]at h
  all_goals first|exact nE h|skip
  rename_i c
  refine⟨c,rfl,?_⟩
  by_cases z:c=k0
  ·rw[if_pos z]at h ⊢
   refine⟨Y,rfl,hF.same R.same,j2,k2,h2,?_⟩
   simp only[ev]
   refine h.mono R.same fun d _ hd t H' ht R'=>hd t H' ht ((R'.back R.same).le (by omega) ?_)
   rw[<- hj.2]
   split
   ·exact kJ ..
   exact cK _
  rw[if_neg z]at h ⊢
  exact h (.bl c) H1 rfl (Rs.a_ R.same rfl)
 cases k0 with
 |true=>
  refine PE.mono (Xm ha hb) fun U H Q h=>?_
  refine(show ∀(A B:VK),(∀v H,A v H->B v H)->lE p EX tn x U H A->lE p EX tn x U H B from ?_) _ _ ?_ (key U H Q h)
  ·rintro A B m ⟨Y,e,hF,j,k,hj,h⟩
   exact⟨Y,e,hF,j,k,hj,h.mono (ag.refl _) fun d _ hd t H' ht R=>m _ _ (hd t H' ht R)⟩
  rintro v H1 ⟨c,rfl,h⟩
  exact⟨c,rfl,by cases c<;>simpa using h⟩
 |false=>
 refine PE.mono (ZP ha hb) fun U H Q h=>?_
 refine(show ∀(A B:VK),(∀v H,A v H->B v H)->lE p EX tn x U H A->lE p EX tn x U H B from ?_) _ _ ?_ (key U H Q h)
 ·rintro A B m ⟨Y,e,hF,j,k,hj,h⟩
  exact⟨Y,e,hF,j,k,hj,h.mono (ag.refl _) fun d _ hd t H' ht R=>m _ _ (hd t H' ht R)⟩
 rintro v H1 ⟨c,rfl,h⟩
 exact⟨c,rfl,by cases c<;>simpa using h⟩
theorem V0{k0:Bool}(ha:PT X a (lT p EX tn x)):PW X (.BoolOp (if k0 then .And else .Or) [a] pos) (lT p EX tn (.bo k0 (.cons x .nil))):=by
 have key:∀U H Q,lT p EX tn (.bo k0 (.cons x .nil)) U H Q->lT p EX tn x U H Q:=by
  rintro U H Q ⟨Y,rfl,hF,hj,h⟩
  refine⟨Y,rfl,hF,?_,by simpa only[tv,ev,evBo] using h⟩
  obtain⟨q,hj⟩:=jD.mp hj
  obtain⟨⟨j1,k1⟩,h1,hj⟩:=bS hj
  rw[h1];rfl
 cases k0 with
 |true=>exact fun wh pins s U H Q I h=>Vr ha wh pins s U H Q I (key U H Q h)
 |false=>exact fun wh pins s U H Q I h=>Xi ha wh pins s U H Q I (key U H Q h)
theorem TL{k0:Bool}(ha:PT X a (lT p EX tn x))(hb:PW X (.BoolOp (if k0 then .And else .Or) (b::rest) pos) (lT p EX tn (.bo k0 (.cons y r)))) :
  PW X (.BoolOp (if k0 then .And else .Or) (a::b::rest) pos) (lT p EX tn (.bo k0 (.cons x (.cons y r)))):=by
 have key:∀U H Q,lT p EX tn (.bo k0 (.cons x (.cons y r))) U H Q->lT p EX tn x U H fun c H1=>if c=k0 then lT p EX tn (.bo k0 (.cons y r)) U H1 Q else Q c H1:=by
  rintro U H Q ⟨Y,rfl,hF,hj,h⟩
  obtain⟨q,hj⟩:=jD.mp hj
  obtain⟨⟨j1,k1⟩,h1,hj⟩:=bS hj
  obtain⟨⟨j2,k2⟩,h2,hj⟩:=bS hj
  refine⟨Y,rfl,hF,by rw[h1];rfl,?_⟩
  simp only[tv,ev,evBo]at h ⊢
  cases q:ev x (aR Y) with
  |ok d=>
   rw[q]at h
   simp only[Res.bind_ok]at h ⊢
   cases d<;>simp only[Res.fT]at h
   all_goals first|exact nE h|skip
   rename_i c
   show ∀H',ag H H'->if c=k0 then _ else _
   intro H' s
   by_cases z:c=k0
   ·rw[if_pos z]at h ⊢
    refine⟨Y,rfl,hF.same s,by show(j0 tn _).isSome=true;rw[h2];rfl,?_⟩
    simp only[tv,ev]
    exact h.mono s fun b _ hb H2 s2=>hb H2 (s.trans s2)
   rw[if_neg z]at h ⊢
   exact h H' s
  |exc c=>rw[q]at h;exact h
  |bad=>rw[q]at h;exact h
 have mon:∀(U:St)(H:Hp)(A B:Bool->Hp->Prop),(∀v H,A v H->B v H)->lT p EX tn x U H A->lT p EX tn x U H B:=by
  rintro U H A B m ⟨Y,e,hF,hj,h⟩
  exact⟨Y,e,hF,hj,h.mono (ag.refl _) fun b _ hb H' s=>m _ _ (hb H' s)⟩
 cases k0 with
 |true=>exact fun wh pins s U H Q I h=>Xj ha hb wh pins s U H Q I (mon _ _ _ _ (fun c H1 h=>by cases c<;>simpa using h) (key U H Q h))
 |false=>exact fun wh pins s U H Q I h=>ZM ha hb wh pins s U H Q I (mon _ _ _ _ (fun c H1 h=>by cases c<;>simpa using h) (key U H Q h))
end
section
variable{p:Px}{EX:cG}{tn:List Nat}{X:Cx}{pos:Pos}
theorem MP(n:Nat)(i:Int):L2.dE n i=dE n i:=rfl
theorem PV{i:Int}{Kc:D->Prop}(h:Lg p EX U (bz (T.ai ts) i) H Kc):∃t∈ts,lh (ts.map T.val) i=some t.val/\Kc t.dat:=by
 unfold bz at h
 rw[Ao]at h
 cases q:dE ts.length i with
 |none=>rw[q]at h;exact nE h
 |some j=>
  rw[q]at h
  simp only[nh]at h
  rw[T.aw,dg]at h
  cases e:ts[j]? with
  |none=>rw[e]at h;exact nE h
  |some t=>
  rw[e]at h
  refine⟨t,cJ e,?_,h⟩
  unfold lh
  rw[aF,MP,q]
  show(ts.map T.val)[j]?=_
  rw[dg,e];rfl
theorem Rs.sub{B:Addr->Prop}{j k j':Nat}(r:Rs p B H H1 j k t)(ok:u.Ok p H1)(h:∀a∈u.rest j',a∈t.rest j):Rs p B H H1 j' 0 u :=
 ⟨r.same,ok,fun a m=>r.src a (h a m),by rw[T.cf];simp,T.bY u⟩
abbrev Bd:Expr->Bool
 |.Slice _ _ _ _=>false
 |_=>true
theorem Gr(h:Bd b=true):Ou b:=by
 intro o i
 cases b<;>first|rfl|cases h
theorem Yr(hK:X.K=p.K):nq X (fun x y H Q=>XN X.K x y H Q\/XO X.K x y H Q):=Kq.or Q4
theorem Rt(hK:X.K=p.K)(ha:PE X a (lE p EX tn x))(hb:PE X b (lE p EX tn y))(hp:Bd b=true):PE X (.Subscript a b pos) (lE p EX tn (.ix x y)):=by
 refine PE.mono (Ma (Yr hK) ha hb (Gr hp)) fun U H Q h=>?_
 obtain⟨Y,rfl,hF,j,k,hj,h⟩:=h
 obtain⟨⟨j1,k1⟩,h1,hj⟩:=bS hj
 obtain⟨⟨j2,k2⟩,h2,hj⟩:=bS hj
 obtain⟨hc,e⟩:=ES hj
 cases e
 have hc:=of_decide_eq_true hc
 subst hc
 simp only[ev]at h
 refine l1 hF h1 h fun d t H1 ht R h=>l2 hF R.same h2 h fun d' t' H2 h_ R' h=>?_
 subst ht h_
 have R:=R.fwd R'.same
 cases t<;>cases t'<;>simp only[T.dat,ixD]at h
 all_goals first|exact nE h|skip
 ·obtain⟨u,hu,e,h⟩:=PV h
  exact .inr ⟨_,_,_,_,rfl,rfl,dP.of R.ok.1,e,h u H2 rfl (R.sub (T.ae.mp R.ok.2 u hu) fun b m=>T.aa.mpr ⟨u,hu,m⟩)⟩
 obtain⟨u,hu,e,h⟩:=PV h
 exact .inl ⟨_,_,_,_,rfl,rfl,.inl R.ok.1,e,h u H2 rfl (R.sub (T.ae.mp R.ok.2 u hu) fun b m=>aL _ (T.aa.mpr ⟨u,hu,m⟩))⟩
theorem V1(ha:PE X a (lE p EX tn x))(hb:PE X b (lE p EX tn y))(hp:Bd b=true):PE X (.Subscript a b pos) (lE p EX tn (.cC x y)):=by
 refine PE.mono (Ma Kq ha hb (Gr hp)) fun U H Q h=>?_
 obtain⟨Y,rfl,hF,j,k,hj,h⟩:=h
 obtain⟨⟨j1,k1⟩,h1,hj⟩:=bS hj
 obtain⟨⟨j2,k2⟩,h2,hj⟩:=bS hj
 have hj:=Option.some.inj hj
 simp only[Prod.mk.injEq]at hj
 obtain⟨rfl,rfl⟩:=hj
 simp only[ev]at h
 refine l1 hF h1 h fun d t H1 ht R h=>l2 hF R.same h2 h fun d' t' H2 h_ R' h=>?_
 subst ht h_
 have R:=R.fwd R'.same
 cases t<;>cases t'<;>simp only[T.dat,FT]at h
 all_goals first|exact nE h|skip
 obtain⟨u,hu,e,h⟩:=PV h
 refine⟨_,_,_,_,rfl,rfl,.inl R.ok.1,e,h u H2 rfl (R.sub (T.ae.mp R.ok.2 u hu) fun b m=>?_)⟩
 cases j1 with
 |zero=>exact aL _ (T.aa.mpr ⟨u,hu,m⟩)
 |succ j1=>exact T.aa.mpr ⟨u,hu,m⟩
theorem JN(n d:Nat)(o:Option Int):HT.bp n d o=bp n d o:=by
 cases o with
 |none=>rfl
 |some v=>exact Int.ofNat_inj.mp (by rw[<- HT.hU v n d];unfold bp;simp only;split<;>omega)
theorem OA{α β:Type}(f:α->β)(xs:List α)(lo hi:Option Int):(cut xs lo hi).map f=cut (xs.map f) lo hi:=by
 unfold cut;rw[vi,vj,aF]
theorem OB(ts:List T)(lo hi:Option Int):HF (ts.map T.val) lo hi=(cut ts lo hi).map T.val:=by
 unfold HF cut
 rw[vi,vj,aF,JN,JN]
theorem Ix{α:Type}{xs:List α}{lo hi:Option Int}{x:α}(h:x∈cut xs lo hi):x∈xs:=qX (tJ h)
abbrev lO(p:Px)(EX:cG)(tn:List Nat)(e:E):TO:=fun U H Q=>∃Y,U=aM Y/\gE p tn Y H/\(jk tn e).isSome=true/\Lg p EX U (C5 e.isCN (ev e (aR Y))) H fun o=>∀H',ag H H'->Q o H'
theorem Lo:PO X none (lO p EX tn .cN):=by
 intro pins s U H Q I h
 obtain⟨Y,rfl,hF,hj,h⟩:=h
 exact Vw pins s _ H Q I (h H (ag.refl _))
theorem Lp(he:PE X e (lE p EX tn x))(hx:x.isCN=false):PO X (some e) (lO p EX tn x):=by
 intro pins s U H Q I h
 obtain⟨Y,rfl,hF,hj,h⟩:=h
 obtain⟨⟨j,k⟩,hj⟩:=jD.mp hj
 unfold C5 at h
 rw[hx,if_neg (by decide)]at h
 refine Vx he pins s _ H Q I (l1 hF hj h fun d t H1 ht R h=>?_)
 subst ht
 cases t<;>simp only[T.dat,DV]at h
 all_goals first|exact nE h|exact⟨_,rfl,h H1 R.same⟩
theorem OC:∀{ts:List T},(T.ai ts).all D.a_=true->∀t∈ts,t.sc=true
 |[],_,t,h=>nomatch h
 |u::r,h,t,ht=>by
  simp only[T.ai,eR,bg]at h
  rcases bB.mp ht with rfl|ht
  ·cases t<;>first|rfl|cases h.1
  exact OC h.2 t ht
theorem V2{t:T}{j:Nat}(h:t.sc=true):t.rest j=[]:=by cases t<;>first|rfl|cases h
theorem Ys{t:T}{j:Nat}(h:t.sc=true):t.adr j=[]:=by cases t<;>first|rfl|cases h
theorem MQ{ts:List T}{j:Nat}(h:∀t∈ts,t.sc=true):T.rests ts j=[]:=by
 refine nS.mpr fun b hb=>?_
 obtain⟨t,ht,q⟩:=T.aa.mp hb
 rw[V2 (h t ht)]at q;cases q
theorem OD{ts:List T}{j:Nat}(h:∀t∈ts,t.sc=true):T.aj ts j=[]:=by
 refine nS.mpr fun b hb=>?_
 obtain⟨t,ht,q⟩:=T.af.mp hb
 rw[Ys (h t ht)]at q;cases q
theorem TM{B:Addr->Prop}{j k:Nat}(s:ag H H1)(ok:(T.tup a ts).Ok p H1)(h:∀t∈ts,t.sc=true):Rs p B H H1 j k (.tup a ts) :=
 ⟨s,ok,by simp only[T.rest];rw[MQ h];simp,by simp only[T.adr];rw[OD h];simp,by unfold T.Nd;simp only[T.adr,T.rest];rw[MQ h,OD h];simp⟩
theorem V3{a:Expr}{lo hi:Option Expr}{p2:Pos}{x y z:E}(ha:PE X a (lE p EX tn x))(hl:PO X lo (lO p EX tn y))(hh:PO X hi (lO p EX tn z)):PE X (.Subscript a (.Slice lo hi none p2) pos) (lE p EX tn (.lN x y z)):=by
 refine PE.mono (Tf (Vy.or XM) ha hl hh) fun U H Q h=>?_
 obtain⟨Y,rfl,hF,j,k,hj,h⟩:=h
 obtain⟨⟨j1,k1⟩,h1,hj⟩:=bS hj
 obtain⟨q2,h2,hj⟩:=bS hj
 obtain⟨q3,h3,hj⟩:=bS hj
 obtain⟨hc,e⟩:=ES hj
 cases e
 have hc:=of_decide_eq_true hc
 simp only[ev]at h
 refine l1 hF h1 h fun d t H1 ht R h=>?_
 subst ht
 refine⟨Y,rfl,hF.same R.same,by rw[h2];rfl,h.bind.mono R.same fun l _ h H2 s2=>?_⟩
 refine⟨Y,rfl,hF.same (R.same.trans s2),by rw[h3];rfl,h.bind.mono (R.same.trans s2) fun u _ h H3 s3=>?_⟩
 have R:=R.fwd (s2.trans s3)
 cases t with
 |tup b ts=>
  simp only[T.dat,Fe]at h
  obtain⟨⟨g1,g2⟩,h⟩:=h.guard
  refine .inr ⟨b,_,rfl,dP.of R.ok.1,?_,fun q hq=>?_⟩
  ·rw[aF,JN,JN,<- Ao];exact g2
  rw[OB]
  have sn:=ag.new (o:=.tup ((cut ts l u).map T.val)) hq
  refine h (.tup q (cut ts l u)) _ (by simp only[T.dat,T.aw,OA]) (TM (R.same.trans sn) ⟨AX,T.ae.mpr fun w hw=>((T.ae.mp R.ok.2 w (Ix hw))).same sn⟩ fun w hw=>OC g1 w (Ix hw))
 |lst b ts=>
  simp only[T.dat,Fe]at h
  refine .inl ⟨b,_,rfl,.inl R.ok.1,fun q hq=>?_⟩
  rw[OB]
  refine h (.lst q (cut ts l u)) _ (by simp only[T.dat,T.aw,OA]) (GQ R.same (T.ae.mpr fun w hw=>T.ae.mp R.ok.2 w (Ix hw)) (fun c m=>?_) hq)
  obtain⟨w,hw,m⟩:=T.aa.mp m
  exact R.elems hc c (T.aa.mpr ⟨w,Ix hw,m⟩)
 |_=>exact nE h
theorem V4(ha:PE X a (lE p EX tn x))(hb:PE X b (lE p EX tn y))(hp:Bd b=true):PE X (.Subscript a b pos) (lE p EX tn (.nv x y)):=by
 refine PE.mono (Ma XQ ha hb (Gr hp)) fun U H Q h=>?_
 obtain⟨Y,rfl,hF,j,k,hj,h⟩:=h
 obtain⟨⟨j1,k1⟩,h1,hj⟩:=bS hj
 obtain⟨⟨j2,k2⟩,h2,hj⟩:=bS hj
 cases hj
 simp only[ev]at h
 refine l1 hF h1 h fun d t H1 ht R h=>l2 hF R.same h2 h fun d' t' H2 h_ R' h=>?_
 subst ht h_
 cases t with
 |str z=>
  cases t' with
  |int i=>
   simp only[T.dat,wH]at h
   by_cases c:z.length<=dn
   ·rw[if_pos c]at h
    cases q:(dE z.cps.toList.length i).bind (fun j=>z.cps.toList[j]?) with
    |none=>rw[q]at h;exact nE h
    |some u=>
    rw[q]at h
    exact⟨z,i,u,rfl,rfl,by rw[sizeLine_eq];exact c,q,h (.str _) H2 rfl (Rs.a_ (R.same.trans R'.same) rfl)⟩
   rw[if_neg c]at h;exact nE h
  |_=>exact nE h
 |_=>exact nE h
theorem Aad{n:Bool}{t u:T}{U:St}{H H2:Hp}{Kc:D->Prop}{Q:VK}(h:Lg p EX U (Ku n t.dat u.dat) H Kc)(hQ:∀b,Kc (.bl b)->Q (.bl b) H2):Tu n t.val u.val H2 Q:=by
 cases t with
 |str x=>
  cases u with
  |str y=>
   have h:Lg p EX U (match x.cps.toList with|[c]=>.ok (.bl ((decide (c∈y.cps.toList)) != n))|_=>.bad) H Kc:=h
   obtain⟨⟨l⟩⟩:=x
   match l,h with
   |[c],h=>exact⟨c,y,rfl,rfl,hQ _ h⟩
   |[],h=>exact nE h
   |_::_::_,h=>exact nE h
  |_=>exact nE h
 |_=>cases u<;>exact nE h
theorem T'{n:Bool}{Kc:D->Prop}{j1 k1 j2 k2:Nat}(hF:gE p tn Y H)(h1:jk tn x=some (j1,k1))(h2:jk tn y=some (j2,k2))
  (h:Lg p EX (aM Y) ((ev x (aR Y)).bind fun a=>(ev y (aR Y)).bind fun b=>Ku n a b) H Kc) (hQ:∀b H2,ag H H2->Kc (.bl b)->Q (.bl b) H2):qA (Tu n) (lE p EX tn x) (lE p EX tn y) (aM Y) H Q:=by
 refine l1 hF h1 h fun d t H1 ht R h=>l2 hF R.same h2 h fun d' t' H2 h_ R' h=>?_
 subst ht h_
 exact Aad h fun b hb=>hQ b H2 (R.same.trans R'.same) hb
theorem V5{n:Bool}(ha:PE X a (lE p EX tn x))(hb:PE X b (lE p EX tn y))(hm:behindInMarks (Je n) b=false):PE X (.Compare a [Je n] [b] pos) (lE p EX tn (.eY n x y)):=by
 refine PE.mono (Oq (Rk n) ha hb hm) fun U H Q h=>?_
 obtain⟨Y,rfl,hF,j,k,hj,h⟩:=h
 obtain⟨⟨j1,k1⟩,h1,hj⟩:=bS hj
 obtain⟨⟨j2,k2⟩,h2,hj⟩:=bS hj
 simp only[ev]at h
 exact T' hF h1 h2 h fun b H2 s hb=>KE.bl s hb
theorem TN{n:Bool}(ha:PE X a (lE p EX tn x))(hb:PE X b (lE p EX tn y))(hm:behindInMarks (Je n) b=false):PT X (.Compare a [Je n] [b] pos) (lT p EX tn (.eY n x y)):=by
 refine PT.mono (Os (Rk n) ha hb hm) fun U H Q h=>?_
 obtain⟨Y,rfl,hF,hj,h⟩:=h
 obtain⟨q,hj⟩:=jD.mp hj
 obtain⟨⟨j1,k1⟩,h1,hj⟩:=bS hj
 obtain⟨⟨j2,k2⟩,h2,hj⟩:=bS hj
 simp only[tv,ev]at h
 exact T' hF h1 h2 h.bind fun b H2 s hb=>⟨b,rfl,hb H2 s⟩
end
theorem V6{n:Nat}(h:n<1606938044258990275541962092341162602522202993782792835301376):n.log2<1920:=by
 by_cases c:n=0
 ·subst c;decide
 have e:(1606938044258990275541962092341162602522202993782792835301376:Nat)=2^200:=by decide +kernel
 have:=(tV c).mpr (e▸h)
 omega
abbrev qI(p:Px)(F:Fn):Sp:=fun vs H Q E=>∃ts:List T,vs=ts.map T.val/\T.cV p H ts/\ts.length=F.ar/\match F.den (T.ai ts) with
 |.ok d=>∀t H',t.dat=d->Rs p (fun a=>a∈T.rests ts 0) H H' 0 F.dep t->Q t.val H'
 |.exc c=>p.has (jL c)=true->∀H',ag H H'->XW p E c H'
 |.bad=>False
abbrev Yt(p:Px)(F:Fn):wz:=fun vs H Q=>∃ts:List T,vs=ts.map T.val/\T.cV p H ts/\ts.length=F.ar/\match F.den (T.ai ts) with
 |.ok d=>∀t H',t.dat=d->Rs p (fun a=>a∈T.rests ts 0) H H' 0 F.dep t->Q t.val H'
 |_=>False
abbrev U0(p:Px)(X:Cx)(F:Fn):Prop:=∃ps:List Str,ps.length=F.ar/\Yf X.prog X.w X.K X.mg X.base F.name F.lv ps (Yt p F)
abbrev PX(p:Px)(X:Cx)(F:Fn):Prop:=∃ps:List Str,ps.length=F.ar/\pD X.prog X.w X.K X.mg X.base F.name F.lv ps (qI p F)
abbrev U_(p:Px)(F:Fn):Sp:=fun vs H Q _=>∃(t:T)(ts:List T),vs=t.val::ts.map T.val/\t.Ok p H/\T.cV p H ts/\ts.length+1=F.ar/\t.Nd 2/\(∀b∈t.adr 2,(Mu H b)/\b∉T.rests ts 0)/\∃d,F.den (t.dat::T.ai ts)=.ok d /\
 ∀(t':T)(H':Hp),t'.dat=d->t'.val=t.val->t'.Ok p H'->t'.Nd 2->(∀b u,H b=some u->b∉t.adr 2->H' b=some u)->(∀b∈t'.adr 2,(b∈t.adr 2\/H b=none)/\Mu H' b)->Q .aJ H'
abbrev Yu(p:Px)(X:Cx)(F:Fn):Prop:=∃ps:List Str,ps.length=F.ar/\pD X.prog X.w X.K X.mg X.base F.name F.lv ps (U_ p F)
abbrev V_(p:Px)(F:Fn):Sp:=fun vs H Q _=>∃(ts:List T)(a:Addr)(us:List T),vs=ts.map T.val/\T.cV p H ts/\ts.length=F.ar/\ts[F.dep-1000]?=some (.lst a us)/\(∀(i:Nat)(u:T),i≠F.dep-1000->ts[i]?=some u->a∉u.rest 0)/\a∉T.rests us 0/\(Mu H a) /\
 ∃(b:Bool)(ds:List D),F.den (T.ai ts)=.ok (.tup [.bl b,.lst ds])/\∀(V':List T)(H':Hp),T.ai V'=ds->(T.lst a V').Ok p H'->(Mu H' a)->(∀c u,H c=some u->c≠a->H' c=some u)->Q (.bl b) H'
abbrev Yv(p:Px)(X:Cx)(F:Fn):Prop:=∃ps:List Str,ps.length=F.ar/\pD X.prog X.w X.K X.mg X.base F.name F.lv ps (V_ p F)
theorem E6:∀(m:Nat)(t:T)(k:Nat),t.dat.flat m k=true->t.rest k=[]
 |0,t,k,h=>by simp[D.flat]at h
 |m+1,t,k,h=>by
  cases t with
  |tup a ts=>
   simp only[T.dat,D.flat]at h
   simp only[T.rest]
   refine nS.mpr fun b hb=>?_
   obtain⟨t,ht,q⟩:=T.aa.mp hb
   rw[E6 m t k (Ev h t ht)]at q;cases q
  |lst a ts=>
   cases k with
   |zero=>simp[T.dat,D.flat]at h
   |succ k=>
   simp only[T.dat,D.flat]at h
   simp only[T.rest]
   refine nS.mpr fun b hb=>?_
   obtain⟨t,ht,q⟩:=T.aa.mp hb
   rw[E6 m t k (Ev h t ht)]at q;cases q
  |eS a ks ts=>
   cases k with
   |zero=>simp[T.dat,D.flat]at h
   |succ k=>
   simp only[T.dat,D.flat]at h
   simp only[T.rest]
   refine nS.mpr fun b hb=>?_
   obtain⟨t,ht,q⟩:=T.aa.mp hb
   rw[E6 m t k (Ev h t ht)]at q;cases q
  |eU a ks ts=>
   cases k with
   |zero=>simp[T.dat,D.flat]at h
   |succ k=>
   simp only[T.dat,D.flat]at h
   simp only[T.rest]
   refine nS.mpr fun b hb=>?_
   obtain⟨t,ht,q⟩:=T.aa.mp hb
   rw[E6 m t k (Ev h t ht)]at q;cases q
  |_=>rfl
abbrev An:Expr->Bool
 |.Starred _ _=>false
 |_=>true
theorem Ah(h:An e=true):starEach (e::es) env=(false,eval e env)::starEach es env:=by
 cases e<;>first|rfl|cases h
theorem AF:∀{es:List Expr},es.all An=true->(backTo pos (starEach es env)).any (·.1)=false
 |[],_=>rfl
 |e::es,h=>by
  rw[eR,bg]at h
  rw[Ah h.1]
  have ih:=AF (pos:=pos) (env:=env) h.2
  unfold backTo at ih ⊢
  rw[cT,tQ,ih];rfl
section
variable{p:Px}{EX:cG}{tn:List Nat}{X:Cx}{pos np:Pos}
theorem TQ(hx:E5 (cX X.prog X.w) X EX)(hF:PX p X F)(hr:b_ F.lv X.A)(hg:Gl X F.name)(la:(F.name==("__debug__" : Str))=false)(ha:PA X (e::es) (jM p EX tn (.cons x xs)))(aT:(e::es).all An=true)(hl:(Es.cons x xs).len=F.ar) :
  PE X (.Call (.Name F.name np) (e::es) [] pos) (lE p EX tn (.call F (.cons x xs))):=by
 obtain⟨ps,hps,hF⟩:=hF
 rw[eR,bg]at aT
 refine PE.mono (UW hF hr hg hx ha la (Ah aT.1) (AF aT.2)) fun U H Q h=>?_
 obtain⟨Y,rfl,sE,j,k,hj,h⟩:=h
 obtain⟨⟨j1,k1⟩,h1,hj⟩:=bS hj
 obtain⟨hc,e⟩:=ES hj
 cases e
 have hc:j1=0:=of_decide_eq_true hc
 subst hc
 simp only[ev]at h
 refine⟨Y,rfl,sE,0,k1,h1,h.bind.mono (ag.refl _) fun ds e hd ts H1 dF R=>?_⟩
 show qI p F (ts.map T.val++[]) H1 Q (EX (aM Y))
 rw[iB]
 refine⟨ts,rfl,R.ok,?_,?_⟩
 ·rw[<- Ao,dF,Ca _ _ _ e,hl]
 rw[dF]
 cases q:F.den ds with
 |ok d=>
  rw[q]at hd
  intro t H' ht R'
  refine hd t H' ht ⟨R.same.trans R'.same,R'.ok,fun a m=>?_,fun a m=>⟨R.same.free (R'.new a m).1,(R'.new a m).2⟩,R'.nd⟩
  rcases R'.src a m with z|z
  ·exact .inl (R.same.free z)
  exact R.src a z
 |exc c=>
  rw[q]at hd
  exact fun hc H' s=>hd hc H' (R.same.trans s)
 |bad=>rw[q]at hd;exact hd
theorem T.lQ:∀(t:T){d K:Nat},t.rest d=[]->d<=K->t.adr K=t.adr d:=by
 have lists:∀(ts:List T),(∀t∈ts,∀{d K:Nat},t.rest d=[]->d<=K->t.adr K=t.adr d)->∀{d K:Nat},T.rests ts d=[]->d<=K->T.aj ts K=T.aj ts d:=by
  intro ts
  induction ts with
  |nil=>intro _ d K _ _;rfl
  |cons t r ih=>
  intro h d K hr hk
  simp only[T.rests,List.append_eq_nil_iff]at hr
  show t.adr K++T.aj r K=t.adr d++T.aj r d
  rw[h t (aP ..) hr.1 hk,ih (fun u hu=>h u (aL _ hu)) hr.2 hk]
 refine T.ind (by intros;rfl) (by intros;rfl) (by intros;rfl) (by intros;rfl) (fun a ts ih d K h hk=>?_) (fun a ts ih d K h hk=>?_) (by intros;rfl) (fun a ks ts ih d K h hk=>?_) (fun a ks ts ih d K h hk=>?_)
 ·exact lists ts ih h hk
 ·cases d with
  |zero=>cases h
  |succ d=>
   cases K with
   |zero=>omega
   |succ K=>exact congrArg (a::·) (lists ts ih h (m8 hk))
 ·cases d with
  |zero=>cases h
  |succ d=>
   cases K with
   |zero=>omega
   |succ K=>exact congrArg (a::·) (lists ts ih h (m8 hk))
 cases d with
 |zero=>cases h
 |succ d=>
  cases K with
  |zero=>omega
  |succ K=>exact congrArg (a::·) (lists ts ih h (m8 hk))
theorem Ru(hx:E5 (cX X.prog X.w) X EX)(hF:PX p X F)(hr:b_ F.lv X.A)(hg:Gl X F.name)(la:(F.name==("__debug__" : Str))=false)(ha:PA X (e::es) (jM p EX tn (.cons x xs)))(aT:(e::es).all An=true)(hl:(Es.cons x xs).len=F.ar) :
  PE X (.Call (.Name F.name np) (e::es) [] pos) (lE p EX tn (.aK F (.cons x xs))):=by
 obtain⟨ps,hps,hF⟩:=hF
 rw[eR,bg]at aT
 refine PE.mono (UW hF hr hg hx ha la (Ah aT.1) (AF aT.2)) fun U H Q h=>?_
 obtain⟨Y,rfl,sE,j,k,hj,h⟩:=h
 obtain⟨⟨j1,k1⟩,h1,hj⟩:=bS hj
 have hj:=Option.some.inj hj
 simp only[Prod.mk.injEq]at hj
 obtain⟨rfl,rfl⟩:=hj
 simp only[ev]at h
 refine⟨Y,rfl,sE,j1,k1,h1,h.bind.mono (ag.refl _) fun ds e hd ts H1 dF R=>?_⟩
 show qI p F (ts.map T.val++[]) H1 Q (EX (aM Y))
 rw[iB]
 refine⟨ts,rfl,R.ok,?_,?_⟩
 ·rw[<- Ao,dF,Ca _ _ _ e,hl]
 rw[dF]
 cases q:F.den ds with
 |ok d=>
  rw[q]at hd
  obtain⟨hf,hd⟩:=Lg.guard hd
  intro t H' ht R'
  subst ht
  have r0:=E6 9 t F.dep hf
  have up:∀a,a∈t.rest 0->a∈t.adr F.dep:=fun a m=>by
   rcases (T.aB t F.dep).mp m with z|z
   ·exact z
   rw[r0]at z;cases z
  refine hd t H' rfl ⟨R.same.trans R'.same,R'.ok,fun a m=>.inl (R.same.free (R'.new a (up a m)).1),fun a m=>?_,?_⟩
  ·have:=R'.new a (up a ((T.aB t 9).mpr (.inl m)))
   exact⟨R.same.free this.1,this.2⟩
  by_cases c9:9<=F.dep
  ·exact T.c8 t c9 R'.nd
  have e9:=T.lQ t r0 (show F.dep<=9 by omega)
  refine⟨by rw[e9];exact R'.nd.1,fun a m _=>?_⟩
  have:=T.ay t (show F.dep<=9 by omega) m
  rw[r0]at this;cases this
 |exc c=>
  rw[q]at hd
  exact fun hc H' s=>hd hc H' (R.same.trans s)
 |bad=>rw[q]at hd;exact hd
theorem BT{b:Bi}{e:Expr}{es:List Expr}{x:E}{xs:Es}{ex:Expr}{r:List V->Hp->VK->Prop}(hp:PE X ex (vW r (jM p EX tn (.cons x xs))))
  (hr:∀(B:Addr->Prop)(H H1:Hp)(j1 k1 j k:Nat)(ts:List T)(U:St)(Q:VK),qH p B H H1 j1 k1 ts->(match b with|.list=>gj (decide (j1=0)) (0,1)|_=>some (0,9))=some (j,k)->
   Lg p EX U (biD b (T.ai ts)) H (KE p B H j k Q)->r (ts.map T.val) H1 Q):PE X ex (lE p EX tn (.bi b (.cons x xs))):=by
 refine PE.mono hp fun U H Q h=>?_
 obtain⟨Y,rfl,sE,j,k,hj,h⟩:=h
 obtain⟨⟨j1,k1⟩,h1,hj⟩:=bS hj
 simp only[ev]at h
 refine⟨Y,rfl,sE,j1,k1,h1,h.bind.mono (ag.refl _) fun ds e hd ts H1 dF R=>?_⟩
 subst dF
 exact hr (Sh tn Y) H H1 j1 k1 j k ts _ Q R hj hd
theorem HK:∀{ts:List T}{bs:List Bool},AM (T.ai ts)=some bs->ts.map T.val=bs.map V.bl
 |[],bs,h=>by simp[T.ai,AM]at h;subst h;rfl
 |t::r,bs,h=>by
  cases t<;>simp only[T.ai,T.dat,AM]at h
  all_goals first|cases h|skip
  obtain⟨bs',h1,rfl⟩:=fP.mp h
  simp[T.val,HK h1]
theorem GB:∀{ts:List T}{bs:List Int},AJ (T.ai ts)=some bs->ts.map T.val=bs.map V.int
 |[],bs,h=>by simp[T.ai,AJ]at h;subst h;rfl
 |t::r,bs,h=>by
  cases t<;>simp only[T.ai,T.dat,AJ]at h
  all_goals first|cases h|skip
  obtain⟨bs',h1,rfl⟩:=fP.mp h
  simp[T.val,GB h1]
section
variable{e:Expr}{es:List Expr}{x:E}{xs:Es}(hg:∀y:Str,y∈(["len", "min", "max", "abs", "int", "list", "tuple", "all", "any", "sum", "sorted", "isinstance", "str", "range", "enumerate", "zip", "reversed"]:List Str)->X.mg y=none)
 (ha:PA X (e::es) (jM p EX tn (.cons x xs))) (aT:(e::es).all An=true)
include hg ha aT
theorem V7(fW:Gl X "len"):PE X (.Call (.Name "len" np) (e::es) [] pos) (lE p EX tn (.bi .len (.cons x xs))):=by
 rw[eR,bg]at aT
 refine BT (es:=es) (e:=e) (CL My fW (hg _ (by simp)) PySem.boot_len ha (by decide) (by decide) (Ah aT.1) (AF aT.2)) fun B H H1 j1 k1 j k ts U Q R hj h=>?_
 rcases ts with _|⟨t,_|⟨u,r⟩⟩
 ·exact nE h
 ·cases t with
  |lst a us=>exact⟨a,_,rfl,.inl (.inl R.ok.1.1),by have:=h (.int _) H1 rfl (Rs.a_ R.same rfl);rw[Ao,<- aF (f:=T.val)]at this;exact this⟩
  |tup a us=>exact⟨a,_,rfl,.inr (dP.of R.ok.1.1),by have:=h (.int _) H1 rfl (Rs.a_ R.same rfl);rw[Ao,<- aF (f:=T.val)]at this;exact this⟩
  |_=>exact nE h
 exact nE h
theorem V8(fW:Gl X "int"):PE X (.Call (.Name "int" np) (e::es) [] pos) (lE p EX tn (.bi .int (.cons x xs))):=by
 rw[eR,bg]at aT
 refine BT (es:=es) (e:=e) (Gn QW fW (hg _ (by simp)) (by decide +kernel) ha (by decide) (by decide) (Ah aT.1) (AF aT.2)) fun B H H1 j1 k1 j k ts U Q R hj h=>?_
 rcases ts with _|⟨t,_|⟨u,r⟩⟩
 ·exact nE h
 ·cases t with
  |int i=>exact .inl ⟨i,rfl,h (.int _) H1 rfl (Rs.a_ R.same rfl)⟩
  |bl b=>exact .inr ⟨b,rfl,h (.int _) H1 rfl (Rs.a_ R.same rfl)⟩
  |_=>exact nE h
 exact nE h
theorem TU(fW:Gl X "list"):PE X (.Call (.Name "list" np) (e::es) [] pos) (lE p EX tn (.bi .list (.cons x xs))):=by
 rw[eR,bg]at aT
 refine BT (es:=es) (e:=e) (Gn MA fW (hg _ (by simp)) (by decide +kernel) ha (by decide) (by decide) (Ah aT.1) (AF aT.2)) fun B H H1 j1 k1 j k ts U Q R hj h=>?_
 obtain⟨hc,ej⟩:=ES hj
 cases ej
 have hc:j1=0:=of_decide_eq_true hc
 subst hc
 rcases ts with _|⟨t,_|⟨u,r⟩⟩
 ·exact nE h
 ·cases t with
  |lst a us=>exact⟨a,_,rfl,.inl (.inl R.ok.1.1),fun l hl=>h (.lst l us) _ rfl (GQ R.same R.ok.1.2 (fun c m=>R.src c (by simp[T.rests,T.rest,m])) hl)⟩
  |tup a us=>exact⟨a,_,rfl,.inr (dP.of R.ok.1.1),fun l hl=>h (.lst l us) _ rfl (GQ R.same R.ok.1.2 (fun c m=>R.src c (by simp[T.rests,T.rest,m])) hl)⟩
  |_=>exact nE h
 exact nE h
theorem V9(dR:X.calm=true)(fW:Gl X "all"):PE X (.Call (.Name "all" np) (e::es) [] pos) (lE p EX tn (.bi .all (.cons x xs))):=by
 rw[eR,bg]at aT
 refine BT (es:=es) (e:=e) (CL (Re dR) fW (hg _ (by simp)) (by decide +kernel) ha (by decide) (by decide) (Ah aT.1) (AF aT.2)) fun B H H1 j1 k1 j k ts U Q R hj h=>?_
 rcases ts with _|⟨t,_|⟨u,r⟩⟩
 ·exact nE h
 ·cases t with
  |lst a us=>
   have h:Lg p EX U ((AG (AM (T.ai us))).bind _) H (KE p B H j k Q):=h
   cases q:AM (T.ai us) with
   |none=>rw[q]at h;exact nE h
   |some bs=>
   rw[q]at h
   exact⟨a,bs,rfl,.inl (HK q▸R.ok.1.1),h (.bl _) H1 rfl (Rs.a_ R.same rfl)⟩
  |_=>exact nE h
 exact nE h
end
end
section
variable{p:Px}{EX:cG}{tn:List Nat}{X:Cx}{pos np:Pos}
theorem JO{ns:List Int}(h:Vals (ns.map V.int) ah):∃xs:Array (Int×Tok),ah.toArray=intItems xs/\ns=xs.toList.map (·.1):=by
 have hi:=Py h
 obtain⟨xs,hx⟩:=hi.allInts.items
 refine⟨xs,hx,?_⟩
 rw[<- nums_intItems,<- hx,<- hi.numsOf]
abbrev Aae:List V->Hp->VK->Prop:=fun xs H Q=>∃(l:Addr)(ns:List Int)(M:Int),xs=[.ref l]/\Rd H l (.lst (ns.map V.int))/\ns.max?=some M/\Q (.int M) H
abbrev Aaf:List V->Hp->VK->Prop:=fun xs H Q=>∃(l:Addr)(ns:List Int)(M:Int),xs=[.ref l]/\Rd H l (.lst (ns.map V.int))/\ns.min?=some M/\Q (.int M) H
theorem Rv(hc:X.calm=true):CG X (.builtin "max") Aae:=by
 intro pins s U H xs us Q I r h
 obtain⟨l,ns,M,rfl,hS,hM,q⟩:=h
 obtain⟨u,rfl,ru⟩:=EO r
 cases (show u=Value.ref l from ru)
 obtain⟨ah,rr,pl,_⟩:=I.list (.inl hS)
 obtain⟨xs,hx,rfl⟩:=JO rr
 have hl:=pl.isList
 rw[hx]at hl
 have b8:0<xs.size:=by
  rcases vw xs.size with z|z
  ·have:xs.toList=[]:=uZ (by simpa using z)
   rw[this]at hM;cases hM
  exact z
 refine max_intList (I.ok.hd hc) hl b8 fun v h' tk hv hk=>?_
 obtain⟨t,rfl⟩:=intItems_at hv
 obtain⟨h1,h2⟩:=argBest_gt (numAt xs) (xs.size-1)
 have e:M=numAt xs (argBest (fun i j=>decide (numAt xs i>numAt xs j)) (xs.size-1)):=by
  have:(xs.toList.map (·.1)).max?=some (numAt xs (argBest (fun i j=>decide (numAt xs i>numAt xs j)) (xs.size-1))):=by
   refine u_.mpr ⟨?_,fun a ha=>?_⟩
   ·rw[numAt_eq];exact getD_mem (by rw[aF,Array.length_toList];omega)
   obtain⟨j,hj,rfl⟩:=mem_getD ha
   rw[aF,Array.length_toList]at hj
   rw[<- numAt_eq];exact h2 j (by omega)
  exact Option.some.inj (hM.symm.trans this)
 exact⟨.int M,H,I.kept (t':=tk) hk,⟨t,by rw[e]⟩,q⟩
theorem Rx(hc:X.calm=true):CG X (.builtin "min") Aaf:=by
 intro pins s U H xs us Q I r h
 obtain⟨l,ns,M,rfl,hS,hM,q⟩:=h
 obtain⟨u,rfl,ru⟩:=EO r
 cases (show u=Value.ref l from ru)
 obtain⟨ah,rr,pl,_⟩:=I.list (.inl hS)
 obtain⟨xs,hx,rfl⟩:=JO rr
 have hl:=pl.isList
 rw[hx]at hl
 have b8:0<xs.size:=by
  rcases vw xs.size with z|z
  ·have:xs.toList=[]:=uZ (by simpa using z)
   rw[this]at hM;cases hM
  exact z
 refine min_intList (I.ok.hd hc) hl b8 fun v h' tk hv hk=>?_
 obtain⟨t,rfl⟩:=intItems_at hv
 obtain⟨h1,h2⟩:=argBest_lt (numAt xs) (xs.size-1)
 have e:M=numAt xs (argBest (fun i j=>decide (numAt xs i<numAt xs j)) (xs.size-1)):=by
  have:(xs.toList.map (·.1)).min?=some (numAt xs (argBest (fun i j=>decide (numAt xs i<numAt xs j)) (xs.size-1))):=by
   refine List.min?_eq_some_iff.mpr ⟨?_,fun a ha=>?_⟩
   ·rw[numAt_eq];exact getD_mem (by rw[aF,Array.length_toList];omega)
   obtain⟨j,hj,rfl⟩:=mem_getD ha
   rw[aF,Array.length_toList]at hj
   rw[<- numAt_eq];exact h2 j (by omega)
  exact Option.some.inj (hM.symm.trans this)
 exact⟨.int M,H,I.kept (t':=tk) hk,⟨t,by rw[e]⟩,q⟩
section
variable{e:Expr}{es:List Expr}{x:E}{xs:Es}(hg:∀y:Str,y∈(["len", "min", "max", "abs", "int", "list", "tuple", "all", "any", "sum", "sorted", "isinstance", "str", "range", "enumerate", "zip", "reversed"]:List Str)->X.mg y=none)
 (ha:PA X (e::es) (jM p EX tn (.cons x xs))) (aT:(e::es).all An=true)
include hg ha aT
theorem Wa(dR:X.calm=true)(fW:Gl X "max"):PE X (.Call (.Name "max" np) (e::es) [] pos) (lE p EX tn (.bi .max (.cons x xs))):=by
 rw[eR,bg]at aT
 refine BT (es:=es) (e:=e) (CL (QU dR) fW (hg _ (by simp)) (by decide +kernel) ha (by decide) (by decide) (Ah aT.1) (AF aT.2)) fun B H H1 j1 k1 j k ts U Q R hj h=>?_
 rcases ts with _|⟨t,_|⟨u,_|⟨v,r⟩⟩⟩
 ·exact nE h
 ·exact nE h
 ·obtain⟨i,m,rfl,rfl,h⟩:=Cu (t:=t) (u:=u) (Q:=fun r=>Lg p EX U r H (KE p B H j k Q)) id h
  refine⟨i,m,rfl,?_⟩
  have:=h (.int _) H1 rfl (Rs.a_ R.same rfl)
  have e:(if m>i then m else i)=max i m:=by split<;>omega
  rw[e];exact this
 exact nE h
theorem TV(dR:X.calm=true)(fW:Gl X "max"):PE X (.Call (.Name "max" np) (e::es) [] pos) (lE p EX tn (.bi .iJ (.cons x xs))):=by
 rw[eR,bg]at aT
 refine BT (es:=es) (e:=e) (CL (Rv dR) fW (hg _ (by simp)) (by decide +kernel) ha (by decide) (by decide) (Ah aT.1) (AF aT.2)) fun B H H1 j1 k1 j k ts U Q R hj h=>?_
 rcases ts with _|⟨t,_|⟨u,r⟩⟩
 ·exact nE h
 ·cases t with
  |lst a us=>
   have h:Lg p EX U ((AG (AJ (T.ai us))).bind fun ns=>(AG ns.max?).bind fun n=>.ok (.int n)) H (KE p B H j k Q):=h
   cases q:AJ (T.ai us) with
   |none=>rw[q]at h;exact nE h
   |some ns=>
    rw[q]at h
    have h:Lg p EX U ((AG ns.max?).bind fun n=>.ok (.int n)) H (KE p B H j k Q):=h
    cases q2:ns.max? with
    |none=>rw[q2]at h;exact nE h
    |some M=>
    rw[q2]at h
    exact⟨a,ns,M,rfl,GB q▸R.ok.1.1,q2,h (.int _) H1 rfl (Rs.a_ R.same rfl)⟩
  |_=>exact nE h
 exact nE h
theorem Wb(dR:X.calm=true)(fW:Gl X "min"):PE X (.Call (.Name "min" np) (e::es) [] pos) (lE p EX tn (.bi .min (.cons x xs))):=by
 rw[eR,bg]at aT
 refine BT (es:=es) (e:=e) (CL (QV dR) fW (hg _ (by simp)) (by decide +kernel) ha (by decide) (by decide) (Ah aT.1) (AF aT.2)) fun B H H1 j1 k1 j k ts U Q R hj h=>?_
 rcases ts with _|⟨t,_|⟨u,_|⟨v,r⟩⟩⟩
 ·exact nE h
 ·exact nE h
 ·obtain⟨i,m,rfl,rfl,h⟩:=Cu (t:=t) (u:=u) (Q:=fun r=>Lg p EX U r H (KE p B H j k Q)) id h
  refine⟨i,m,rfl,?_⟩
  have:=h (.int _) H1 rfl (Rs.a_ R.same rfl)
  have e:(if m<i then m else i)=min i m:=by split<;>omega
  rw[e];exact this
 exact nE h
theorem TW(dR:X.calm=true)(fW:Gl X "min"):PE X (.Call (.Name "min" np) (e::es) [] pos) (lE p EX tn (.bi .je (.cons x xs))):=by
 rw[eR,bg]at aT
 refine BT (es:=es) (e:=e) (CL (Rx dR) fW (hg _ (by simp)) (by decide +kernel) ha (by decide) (by decide) (Ah aT.1) (AF aT.2)) fun B H H1 j1 k1 j k ts U Q R hj h=>?_
 rcases ts with _|⟨t,_|⟨u,r⟩⟩
 ·exact nE h
 ·cases t with
  |lst a us=>
   have h:Lg p EX U ((AG (AJ (T.ai us))).bind fun ns=>(AG ns.min?).bind fun n=>.ok (.int n)) H (KE p B H j k Q):=h
   cases q:AJ (T.ai us) with
   |none=>rw[q]at h;exact nE h
   |some ns=>
    rw[q]at h
    have h:Lg p EX U ((AG ns.min?).bind fun n=>.ok (.int n)) H (KE p B H j k Q):=h
    cases q2:ns.min? with
    |none=>rw[q2]at h;exact nE h
    |some M=>
    rw[q2]at h
    exact⟨a,ns,M,rfl,GB q▸R.ok.1.1,q2,h (.int _) H1 rfl (Rs.a_ R.same rfl)⟩
  |_=>exact nE h
 exact nE h
theorem Wc(fW:Gl X "str"):PE X (.Call (.Name "str" np) (e::es) [] pos) (lE p EX tn (.bi .str (.cons x xs))):=by
 rw[eR,bg]at aT
 refine BT (es:=es) (e:=e) (Gn Ri fW (hg _ (by simp)) (by decide +kernel) ha (by decide) (by decide) (Ah aT.1) (AF aT.2)) fun B H H1 j1 k1 j k ts U Q R hj h=>?_
 rcases ts with _|⟨t,_|⟨u,r⟩⟩
 ·exact nE h
 ·cases t with
  |int i=>
   have h:Lg p EX U (if i.natAbs<1606938044258990275541962092341162602522202993782792835301376 then Res.ok (D.str (Str.ofString (toString i))) else .bad) H (KE p B H j k Q):=h
   by_cases c:i.natAbs<1606938044258990275541962092341162602522202993782792835301376
   ·rw[if_pos c]at h
    exact⟨i,rfl,V6 c,h (.str _) H1 rfl (Rs.a_ R.same rfl)⟩
   rw[if_neg c]at h;exact nE h
  |_=>exact nE h
 exact nE h
theorem TX(fW:Gl X "len"):PE X (.Call (.Name "len" np) (e::es) [] pos) (lE p EX tn (.bi .fw (.cons x xs))):=by
 rw[eR,bg]at aT
 refine BT (es:=es) (e:=e) (CL Mz fW (hg _ (by simp)) PySem.boot_len ha (by decide) (by decide) (Ah aT.1) (AF aT.2)) fun B H H1 j1 k1 j k ts U Q R hj h=>?_
 rcases ts with _|⟨t,_|⟨u,r⟩⟩
 ·exact nE h
 ·cases t with
  |str z=>
   have h:Lg p EX U (if z.length<=dn then Res.ok (D.int (z.length:Nat)) else .bad) H (KE p B H j k Q):=h
   by_cases c:z.length<=dn
   ·rw[if_pos c]at h
    exact⟨z,rfl,by rw[sizeLine_eq];exact c,h (.int _) H1 rfl (Rs.a_ R.same rfl)⟩
   rw[if_neg c]at h;exact nE h
  |_=>exact nE h
 exact nE h
theorem TY(fW:Gl X "int"):PE X (.Call (.Name "int" np) (e::es) [] pos) (lE p EX tn (.bi .cw (.cons x xs))):=by
 rw[eR,bg]at aT
 refine BT (es:=es) (e:=e) (Gn Rj fW (hg _ (by simp)) (by decide +kernel) ha (by decide) (by decide) (Ah aT.1) (AF aT.2)) fun B H H1 j1 k1 j k ts U Q R hj h=>?_
 rcases ts with _|⟨t,_|⟨u,r⟩⟩
 ·exact nE h
 ·cases t with
  |str z=>
   have h:Lg p EX U (if(z.cps.toList.all fun c=>decide (48<=c)&&decide (c<=57))=true/\z.cps.toList≠[]/\z.length<=640 then Res.ok (D.int ((z.cps.toList.foldl (fun acc c=>acc*10+(c-48)) 0:Nat):Int)) else .bad) H (KE p B H j k Q):=h
   by_cases c:(z.cps.toList.all fun c=>decide (48<=c)&&decide (c<=57))=true/\z.cps.toList≠[]/\z.length<=640
   ·rw[if_pos c]at h
    refine⟨z,rfl,fun d hd=>?_,c.2.1,c.2.2,h (.int _) H1 rfl (Rs.a_ R.same rfl)⟩
    have:=cz.mp c.1 d hd
    rw[bg]at this
    exact⟨of_decide_eq_true this.1,of_decide_eq_true this.2⟩
   rw[if_neg c]at h;exact nE h
  |_=>exact nE h
 exact nE h
end
end
structure jh(p:Px)(B:Addr->Prop)(H H1:Hp)(J:L2.It)(us:List T)(j:Nat)(ds:List D):Prop where
 same:ag H H1
 ok:T.cV p H1 us
 src:∀a∈T.rests us j,H a=none\/B a
 len:ds.length<=sizeLine
 go:∀(i:Nat)(H':Hp),T.cV p H' us->i<ds.length->J.go i H'
 stop:∀(i:Nat)(H':Hp),T.cV p H' us->ds.length<=i->J.stop i H'
 jF:∀(i:Nat)(H':Hp)(v:V)(mW:Hp)(d:D),T.cV p H' us->ds[i]?=some d->J.jF i H' v mW->ag H' mW/\∃t:T,t.val=v/\t.dat=d/\t.Ok p mW/\(∀a∈t.rest 0,a∈T.rests us 0)/\∀a∈t.rest 0,H a=none\/B a
abbrev lI(p:Px)(EX:cG)(tn:List Nat)(it:It):TI:=fun U H R=>∃Y,U=aM Y/\gE p tn Y H/\∃j,qG tn it=some j/\Lg p EX U (evI it (aR Y)) H fun ds=>∀J us H1,jh p (Sh tn Y) H H1 J us j ds->R J H1
theorem PI.mono(h:PI X tg e t)(m:∀U H Q,t' U H Q->t U H Q):PI X tg e t':=fun pins s U H Q I q=>h pins s U H Q I (m _ _ _ q)
section
variable{p:Px}{EX:cG}{tn:List Nat}{X:Cx}{pos np:Pos}{tg:Expr}
theorem Hd{i:Nat}(h:(T.ai ts)[i]?=some d):∃t,ts[i]?=some t/\t.dat=d:=by
 rw[T.aw,dg]at h
 obtain⟨t,h1,h2⟩:=fP.mp h
 exact⟨t,h1,h2⟩
theorem HL(hK:X.K=p.K){B:Addr->Prop}{j k:Nat}(r:Rs p B H H1 j k (.lst a ts))(hj:j<=1)(hl:ts.length<=sizeLine):jh p B H H1 (qz X.K a) [.lst a ts] j (T.ai ts) where
 same:=r.same
 ok:=⟨r.ok,trivial⟩
 src:=fun b m=>r.src b (by simpa[T.rests] using m)
 len:=by rw[Ao];exact hl
 go:=fun i H' ok h=>by
  rw[Ao]at h
  exact⟨_,(ts.map T.val)[i]'(by simpa using h),.inl ok.1.1,by simp[h]⟩
 stop:=fun i H' ok h=>⟨_,.inl ok.1.1,by simpa[Ao] using h⟩
 jF:=fun i H' v mW d ok h y=>by
  obtain⟨rfl,y⟩:=y
  obtain⟨t,ht,e⟩:=Hd h
  have:=y _ (.inl ok.1.1)
  rw[dg,ht]at this
  refine⟨ag.refl _,t,Option.some.inj this,e,T.ae.mp ok.1.2 t (cJ ht),fun b m=>by simp only[T.rests,T.rest,iB];exact aL _ (T.aa.mpr ⟨t,cJ ht,m⟩),fun b m=>r.elems hj b (T.aa.mpr ⟨t,cJ ht,m⟩)⟩
theorem TZ{B:Addr->Prop}{k:Nat}(r:Rs p B H H1 0 k (.tup a ts))(hl:ts.length<=sizeLine):jh p B H H1 (vQ X.K a) [.tup a ts] 0 (T.ai ts) where
 same:=r.same
 ok:=⟨r.ok,trivial⟩
 src:=fun b m=>r.src b (by simpa[T.rests] using m)
 len:=by rw[Ao];exact hl
 go:=fun i H' ok h=>by
  rw[Ao]at h
  exact⟨_,(ts.map T.val)[i]'(by simpa using h),dP.of ok.1.1,by simp[h]⟩
 stop:=fun i H' ok h=>⟨_,dP.of ok.1.1,by simpa[Ao] using h⟩
 jF:=fun i H' v mW d ok h y=>by
  obtain⟨rfl,y⟩:=y
  obtain⟨t,ht,e⟩:=Hd h
  have:=y _ (dP.of ok.1.1)
  rw[dg,ht]at this
  refine⟨ag.refl _,t,Option.some.inj this,e,T.ae.mp ok.1.2 t (cJ ht),fun b m=>by simp only[T.rests,T.rest,iB];exact T.aa.mpr ⟨t,cJ ht,m⟩,fun b m=>r.src b (T.aa.mpr ⟨t,cJ ht,m⟩)⟩
abbrev Abd(K:Frag)(tl:TE):TI:=fun U H R=>tl U H fun x H1=>∃a,x=.ref a/\((∃xs,fi K H1 a xs/\(xs.length<=sizeLine->R (qz K a) H1))\/(∃xs,dP K H1 a xs/\(xs.length<=sizeLine->R (vQ K a) H1)))
theorem MR(hl:PE X l tl):PI X tg l (Abd X.K tl):=by
 intro pins s U H R I h
 refine aW (hl pins s U H _ I h) fun v s1 ⟨x,H1,I1,r1,q1⟩=>?_
 obtain⟨a,e,q1⟩:=q1
 subst e
 cases r1
 rcases q1 with⟨xs,hq,q⟩|⟨xs,hq,q⟩
 ·obtain⟨ah,rv,pl,hz⟩:=I1.list hq
  refine wpAny_pyIter_list pl.isList ?_
  refine⟨s1.heap.objs.size,[s1.heap.objs.size],_,_,H1,rfl,I1.kept (t':=s1.toks) fun b o e=>Heap.get?_push_of_some _ e,QN a _,⟨_,Heap.get?_push_size _ rfl,rfl,rfl⟩,fun b hb=>?_,q hz⟩
  have e:b=s1.heap.objs.size:=by simpa using hb
  subst e
  exact I1.kU (bx _) (I1.aI.fresh (bx _))
 obtain⟨ah,rv,pl,hz⟩:=I1.tuple hq
 refine wpAny_pyIter_tuple (show s1.heap.IsTuple a ah.toArray from pl) ?_
 refine⟨s1.heap.objs.size,[s1.heap.objs.size],_,_,H1,rfl,I1.kept (t':=s1.toks) fun b o e=>Heap.get?_push_of_some _ e,Po a _,⟨_,Heap.get?_push_size _ rfl,rfl,rfl⟩,fun b hb=>?_,q hz⟩
 have e:b=s1.heap.objs.size:=by simpa using hb
 subst e
 exact I1.kU (bx _) (I1.aI.fresh (bx _))
theorem T0(hK:X.K=p.K)(he:PE X e (lE p EX tn x)):PI X tg e (lI p EX tn (.seq x)):=by
 refine PI.mono (MR he) fun U H R h=>?_
 obtain⟨Y,rfl,hF,j,hj,h⟩:=h
 obtain⟨⟨j1,k1⟩,h1,hj⟩:=bS hj
 split at hj
 ·rename_i z
  cases hj
  have z:j1=0:=z
  subst z
  simp only[evI]at h
  refine l1 hF h1 h fun d t H1 ht r h=>?_
  subst ht
  cases t with
  |lst a ts=>exact⟨a,rfl,.inl ⟨_,.inl r.ok.1,fun hz=>h _ _ _ (HL hK r (by omega) (by simpa using hz))⟩⟩
  |tup a ts=>exact⟨a,rfl,.inr ⟨_,dP.of r.ok.1,fun hz=>h _ _ _ (TZ r (by simpa using hz))⟩⟩
  |_=>exact nE h
 cases hj
theorem Ry(hK:X.K=p.K)(he:PE X e (lE p EX tn x)):PI X tg e (lI p EX tn (.bQ x)):=by
 refine PI.mono (MR he) fun U H R h=>?_
 obtain⟨Y,rfl,hF,j,hj,h⟩:=h
 obtain⟨⟨j1,k1⟩,h1,hj⟩:=bS hj
 split at hj
 ·rename_i z
  cases hj
  simp only[evI]at h
  refine l1 hF h1 h fun d t H1 ht r h=>?_
  subst ht
  cases t with
  |lst a ts=>exact⟨a,rfl,.inl ⟨_,.inl r.ok.1,fun hz=>h _ _ _ (HL hK r z (by simpa using hz))⟩⟩
  |_=>exact nE h
 cases hj
theorem T1{B:Addr->Prop}(s:ag H H1)(hl:z.length<=dn):jh p B H H1 (we z) [] 0 (Gp z) where
 same:=s
 ok:=trivial
 src:=fun c m=>nomatch m
 len:=by unfold Gp;rw[aF];exact hl
 go:=fun i H' _ h=>by unfold Gp at h;rw[aF]at h;exact h
 stop:=fun i H' _ h=>by unfold Gp at h;rw[aF]at h;exact h
 jF:=fun i H' v mW d _ h y=>by
  obtain⟨rfl,c,hc,rfl⟩:=y
  unfold Gp at h
  rw[dg]at h
  obtain⟨n,h1,h2⟩:=fP.mp h
  have e:z.cps.toList[i]?=some c:=by simpa using hc
  rw[e]at h1
  cases h1
  exact⟨ag.refl _,.str ⟨#[c]⟩,rfl,h2,trivial,by simp[T.rest],by simp[T.rest]⟩
theorem T2(he:PE X e (lE p EX tn x)):PI X tg e (lI p EX tn (.kA x)):=by
 refine PI.mono (Yc he) fun U H R h=>?_
 obtain⟨Y,rfl,hF,j,hj,h⟩:=h
 obtain⟨⟨j1,k1⟩,h1,hj⟩:=bS hj
 cases hj
 simp only[evI]at h
 refine l1 hF h1 h fun d t H1 ht r h=>?_
 subst ht
 cases t with
 |str z=>
  have h:Lg p EX (aM Y) (if z.length<=dn then Res.ok (Gp z) else .bad) H _:=h
  by_cases c:z.length<=dn
  ·rw[if_pos c]at h
   exact⟨z,rfl,h _ _ _ (T1 r.same c)⟩
  rw[if_neg c]at h;exact nE h
 |_=>exact nE h
theorem JP{B:Addr->Prop}{a b:Int}(s:ag H H1)(hl:(b-a).toNat<=dn):jh p B H H1 (rO a (b-a).toNat) [] 0 (Ay a b) where
 same:=s
 ok:=trivial
 src:=fun c m=>nomatch m
 len:=by unfold Ay;rw[aF,kI];exact hl
 go:=fun i H' _ h=>by unfold Ay at h;rw[aF,kI]at h;exact h
 stop:=fun i H' _ h=>by unfold Ay at h;rw[aF,kI]at h;exact h
 jF:=fun i H' v mW d _ h y=>by
  obtain⟨rfl,rfl⟩:=y
  unfold Ay at h
  rw[dg]at h
  obtain⟨n,h1,h2⟩:=fP.mp h
  have:n=i:=by
   obtain⟨_,e⟩:=gP.mp h1
   simpa using e.symm
  subst this
  exact⟨ag.refl _,.int (a+n),rfl,h2,trivial,by simp[T.rest],by simp[T.rest]⟩
theorem BC{i:Int}(h:BS i=true):-(2^62)<=i/\i<2^62:=by
 unfold BS at h
 rw[bg]at h
 exact⟨of_decide_eq_true h.1,of_decide_eq_true h.2⟩
theorem Wd(he:PE X e (lE p EX tn x))(aT:An e=true)(hg:Gl X "range")(hm:X.mg "range" = none):PI X tg (.Call (.Name "range" np) [e] [] pos) (lI p EX tn (.r1 x)):=by
 refine PI.mono (QO hg hm (A4 he CK (Ah aT)) (Ah aT)) fun U H R h=>?_
 obtain⟨Y,rfl,hF,j,hj,h⟩:=h
 obtain⟨⟨j1,k1⟩,h1,hj⟩:=bS hj
 cases hj
 simp only[evI]at h
 refine l1 hF h1 h fun d t H1 ht r h=>?_
 subst ht
 cases t with
 |int b=>
  obtain⟨hc,h⟩:=Lg.guard (r:=.ok (Ay 0 b)) h
  rw[bg,bg]at hc
  obtain⟨h3,h4⟩:=BC hc.1.2
  have hl:=of_decide_eq_true hc.2
  have:=h _ _ _ (JP (p:=p) r.same hl)
  rw[vF]at this
  exact⟨b,rfl,h3,h4,this⟩
 |_=>exact nE h
theorem We(he:PE X e (lE p EX tn x))(sF:PE X e' (lE p EX tn y))(aT:An e=true)(gF:An e'=true)(hg:Gl X "range")(hm:X.mg "range" = none):PI X tg (.Call (.Name "range" np) [e,e'] [] pos) (lI p EX tn (.r2 x y)):=by
 refine PI.mono (QP hg hm (A4 he (A4 sF CK (Ah gF)) (Ah aT)) (by rw[Ah aT,Ah gF];rfl) (Ah gF)) fun U H R h=>?_
 obtain⟨Y,rfl,hF,j,hj,h⟩:=h
 obtain⟨⟨j1,k1⟩,h1,hj⟩:=bS hj
 obtain⟨⟨j2,k2⟩,h2,hj⟩:=bS hj
 cases hj
 simp only[evI]at h
 refine l1 hF h1 h fun d t H1 ht r h=>l2 hF r.same h2 h fun d' t' H2 h_ r' h=>?_
 subst ht h_
 cases t with
 |int a=>
  cases t' with
  |int b=>
   obtain⟨hc,h⟩:=Lg.guard (r:=.ok (Ay a b)) h
   rw[bg,bg]at hc
   exact⟨a,b,rfl,⟨(BC hc.1.1).1,(BC hc.1.1).2,(BC hc.1.2).1,(BC hc.1.2).2⟩,h _ _ _ (JP (p:=p) (r.same.trans r'.same) (of_decide_eq_true hc.2))⟩
  |_=>exact nE h
 |_=>exact nE h
theorem Yw{a b c:Int}(hc:c≠0):om a b c=(Builtin.Range.rangeSize a b c).toNat:=by
 have key:∀x c:Int,0<c->((x+c-1)/c).toNat=(if 0<x then(x-1)/c+1 else 0).toNat:=fun x c hc=>by
  split
  ·rw[show x+c-1=x-1+1*c by omega,Int.add_mul_ediv_right _ _ (by omega)]
  have:(x+c-1)/c<1:=Int.ediv_lt_of_lt_mul hc (by omega)
  show _=0
  omega
 unfold om Builtin.Range.rangeSize
 by_cases h:0<c
 ·rw[if_pos h,if_pos h,key (b-a) c h]
  by_cases z:a<b
  ·rw[if_pos z,if_pos (by omega)]
  rw[if_neg z,if_neg (by omega)]
 rw[if_neg h,if_neg h,key (a-b) (-c) (by omega)]
 by_cases z:a>b
 ·rw[if_pos z,if_pos (by omega)]
 rw[if_neg z,if_neg (by omega)]
theorem Wf{B:Addr->Prop}{a c:Int}{n:Nat}(s:ag H H1)(hl:n<=dn):jh p B H H1 (Tr a c n) [] 0 (FW a c n) where
 same:=s
 ok:=trivial
 src:=fun c m=>nomatch m
 len:=by unfold FW;rw[aF,kI];exact hl
 go:=fun i H' _ h=>by unfold FW at h;rw[aF,kI]at h;exact h
 stop:=fun i H' _ h=>by unfold FW at h;rw[aF,kI]at h;exact h
 jF:=fun i H' v mW d _ h y=>by
  obtain⟨rfl,rfl⟩:=y
  unfold FW at h
  rw[dg]at h
  obtain⟨n,h1,h2⟩:=fP.mp h
  have:n=i:=by
   obtain⟨_,e⟩:=gP.mp h1
   simpa using e.symm
  subst this
  exact⟨ag.refl _,.int (a+n*c),rfl,h2,trivial,by simp[T.rest],by simp[T.rest]⟩
theorem Wg(he:PE X e (lE p EX tn x))(sF:PE X e' (lE p EX tn y))(pF:PE X e2 (lE p EX tn z))(aT:An e=true)(gF:An e'=true)(pK:An e2=true)(hg:Gl X "range")(hm:X.mg "range" = none):PI X tg (.Call (.Name "range" np) [e,e',e2] [] pos) (lI p EX tn (.r3 x y z)):=by
 refine PI.mono (Rg hg hm (A4 he (A4 sF (A4 pF CK (Ah pK)) (Ah gF)) (Ah aT)) (by rw[Ah aT,Ah gF,Ah pK];rfl) (by rw[Ah gF,Ah pK];rfl)) fun U H R h=>?_
 obtain⟨Y,rfl,hF,j,hj,h⟩:=h
 obtain⟨⟨j1,k1⟩,h1,hj⟩:=bS hj
 obtain⟨⟨j2,k2⟩,h2,hj⟩:=bS hj
 obtain⟨⟨j3,k3⟩,h3,hj⟩:=bS hj
 cases hj
 simp only[evI]at h
 refine l1 hF h1 h fun d t H1 ht r h=>l2 hF r.same h2 h fun d' t' H2 h_ r' h=>l2 hF (r.same.trans r'.same) h3 h fun d2 t2 H3 jl r2 h=>?_
 subst ht h_ jl
 cases t with
 |int a=>
  cases t' with
  |int b=>
   cases t2 with
   |int c=>
    obtain⟨hc,h⟩:=Lg.guard (r:=.ok (FW a c (om a b c))) h
    rw[bg,bg,bg,bg]at hc
    have h0:=of_decide_eq_true hc.1.2
    have hl:=of_decide_eq_true hc.2
    rw[Yw h0]at hl h
    exact⟨a,b,c,rfl,⟨(BC hc.1.1.1.1).1,(BC hc.1.1.1.1).2,(BC hc.1.1.1.2).1,(BC hc.1.1.1.2).2,(BC hc.1.1.2).1,(BC hc.1.1.2).2⟩,h0,hl,h _ _ _ (Wf (p:=p) ((r.same.trans r'.same).trans r2.same) hl)⟩
   |_=>exact nE h
  |_=>exact nE h
 |_=>exact nE h
end
abbrev Cv:List Nat->List T->Ft->Option Ft
 |[],[],Y=>some Y
 |i::is,t::ts,Y=>Cv is ts (Y.set i (some t))
 |_,_,_=>none
abbrev Dj:Tg->T->Ft->Option Ft
 |.nm i,t,Y=>some (Y.set i (some t))
 |.tp is,.tup _ ts,Y=>Cv is ts Y
 |.tp is,.lst _ ts,Y=>Cv is ts Y
 |_,_,_=>none
theorem FP(Y:Ft)(i:Nat)(t:T):aR (Y.set i (some t))=(aR Y).set i (some t.dat):=by unfold aR;rw[nW];rfl
theorem GS(Y:Ft)(i:Nat)(t:T):aM (Y.set i (some t))=(aM Y).set i (some t.val):=by unfold aM;rw[nW];rfl
theorem JQ:∀(is:List Nat)(ts:List T)(Y:Ft),HI is (T.ai ts) (aR Y)=(Cv is ts Y).map aR
 |[],[],Y=>rfl
 |[],t::ts,Y=>rfl
 |i::is,[],Y=>rfl
 |i::is,t::ts,Y=>by simp only[T.ai,HI,Cv];rw[<- FP,JQ is ts]
theorem HM(g:Tg)(t:T)(Y:Ft):CI g t.dat (aR Y)=(Dj g t Y).map aR:=by
 cases g with
 |nm i=>simp only[CI,Dj,abl,FP]
 |tp is=>cases t<;>first|rfl|exact JQ is _ Y
abbrev Dk:List Nat->oX
 |[]=>Xr
 |i::r=>UR (Gm i) (Dk r)
abbrev lG(K:Frag):Tg->TG
 |.nm i=>Gm i
 |.tp is=>fun v U H Q=>Xs K is.length (Dk is) v U H Q\/Ya K is.length (Dk is) v U H Q
theorem HN{Q:L2.St->Hp->Prop}:∀{is:List Nat}{ts:List T}{Y Y':Ft},Cv is ts Y=some Y'->Q (aM Y') H->Dk is (ts.map T.val) (aM Y) H Q
 |[],[],Y,Y',h,q=>by cases h;exact⟨rfl,q⟩
 |[],t::ts,Y,Y',h,q=>by cases h
 |i::is,[],Y,Y',h,q=>by cases h
 |i::is,t::ts,Y,Y',h,q=>by
  refine⟨t.val,ts.map T.val,rfl,?_⟩
  show Dk is (ts.map T.val) ((aM Y).set i (some t.val)) H Q
  rw[<- GS]
  exact HN (Y:=Y.set i (some t)) h q
theorem GC:∀{is:List Nat}{ts:List T}{Y Y':Ft},Cv is ts Y=some Y'->ts.length=is.length
 |[],[],Y,Y',h=>rfl
 |[],t::ts,Y,Y',h=>by cases h
 |i::is,[],Y,Y',h=>by cases h
 |i::is,t::ts,Y,Y',h=>by simp[GC (is:=is) (ts:=ts) (Y:=Y.set i (some t)) h]
theorem PY{K:Frag}{p:Px}{H:Hp}{g:Tg}{t:T}{Y Y':Ft}{Q:L2.St->Hp->Prop}(ok:t.Ok p H)(h:Dj g t Y=some Y')(q:Q (aM Y') H):lG K g t.val (aM Y) H Q:=by
 cases g with
 |nm i=>
  cases h
  show Q ((aM Y).set i (some t.val)) H
  rw[<- GS];exact q
 |tp is=>
  cases t with
  |tup a ts=>exact .inl ⟨a,ts.map T.val,rfl,dP.of ok.1,by rw[aF];exact GC h,HN h q⟩
  |lst a ts=>exact .inr ⟨a,ts.map T.val,rfl,.inl ok.1,by rw[aF];exact GC h,HN h q⟩
  |_=>cases h
abbrev Tg.sl:Tg->List Nat
 |.nm i=>[i]
 |.tp is=>is
theorem GD{n:Nat}{Q:L2.St->Hp->Prop}:∀{is:List Nat}{vs:List V}{U:L2.St},(∀i∈is,i<n)->Dk is vs U H Q->Dk is vs U H fun U' H'=>Q U' H'/\U'.length=U.length/\∀i,n<=i->U'[i]?=U[i]?
 |[],vs,U,_,h=>by obtain⟨e,q⟩:=h;exact⟨e,q,rfl,fun _ _=>rfl⟩
 |i::is,vs,U,hi,h=>by
  obtain⟨v,r,e,h⟩:=h
  refine⟨v,r,e,?_⟩
  have h2:=GD (n:=n) (is:=is) (U:=U.set i (some v)) (fun j hj=>hi j (aL _ hj)) h
  have mono:∀{is:List Nat}{vs:List V}{U:L2.St}{H:Hp}{A B:L2.St->Hp->Prop},(∀s h,A s h->B s h)->Dk is vs U H A->Dk is vs U H B:=by
   intro is
   induction is with
   |nil=>intro vs U H A B m h;exact⟨h.1,m _ _ h.2⟩
   |cons i is ih=>
   intro vs U H A B m h
   obtain⟨v,r,e,h⟩:=h
   exact⟨v,r,e,ih m h⟩
  refine mono (fun s h q=>⟨q.1,by rw[q.2.1,iD],fun k hk=>?_⟩) h2
  rw[q.2.2 k hk,gY (by have:=hi i (aP ..);omega)]
theorem Iy{K:Frag}{n:Nat}{g:Tg}(hg:∀i∈g.sl,i<n){v:V}{U:L2.St}{H:Hp}{Q:L2.St->Hp->Prop}(h:lG K g v U H Q):lG K g v U H fun U' H'=>Q U' H'/\U'.length=U.length/\∀i,n<=i->U'[i]?=U[i]?:=by
 cases g with
 |nm i=>exact⟨h,by rw[iD],fun k hk=>by rw[gY (by have:=hg i (gp.mpr rfl);omega)]⟩
 |tp is=>
 rcases h with⟨a,xs,e,s,l,h⟩|⟨a,xs,e,s,l,h⟩
 ·exact .inl ⟨a,xs,e,s,l,GD hg h⟩
 exact .inr ⟨a,xs,e,s,l,GD hg h⟩
theorem GF{P:Option T->Prop}:∀{is:List Nat}{ts:List T}{Y Y':Ft},Cv is ts Y=some Y'->(∀t∈ts,P (some t))->∀i o,Y'[i]?=some o->P o\/(i∉is/\Y[i]?=some o)
 |[],[],Y,Y',h,_,i,o,e=>by cases h;exact .inr ⟨by simp,e⟩
 |[],t::ts,Y,Y',h,_,_,_,_=>by cases h
 |i::is,[],Y,Y',h,_,_,_,_=>by cases h
 |i::is,t::ts,Y,Y',h,hp,j,o,e=>by
  rcases GF (P:=P) (is:=is) (ts:=ts) (Y:=Y.set i (some t)) h (fun u hu=>hp u (aL _ hu)) j o e with q|⟨q1,q2⟩
  ·exact .inl q
  by_cases z:i=j
  ·subst z
   rw[qV ]at q2
   cases w:Y[i]? with
   |none=>rw[w]at q2;cases q2
   |some x=>
   rw[w]at q2
   have:o=some t:=by simpa using q2.symm
   subst this
   exact .inl (hp t (aP ..))
  rw[gY z]at q2
  refine .inr ⟨?_,q2⟩
  intro m
  rcases bB.mp m with rfl|m
  ·exact z rfl
  exact q1 m
theorem JR{P:Option T->Prop}(h:Dj g t Y=some Y')(hp:P (some t))(W_:∀a ts,(t=.tup a ts\/t=.lst a ts)->∀u∈ts,P (some u))(i:Nat)(o:Option T)(e:Y'[i]?=some o):P o\/(i∉g.sl/\Y[i]?=some o):=by
 cases g with
 |nm k=>
  cases h
  by_cases z:k=i
  ·subst z
   rw[qV]at e
   cases w:Y[k]? with
   |none=>rw[w]at e;cases e
   |some x=>
   rw[w]at e
   have:o=some t:=by simpa using e.symm
   subst this;exact .inl hp
  rw[gY z]at e
  exact .inr ⟨by simpa[Tg.sl] using fun q=>z q.symm,e⟩
 |tp is=>
  cases t with
  |tup a ts=>exact GF (P:=P) h (fun u hu=>W_ a ts (.inl rfl) u hu) i o e
  |lst a ts=>exact GF (P:=P) h (fun u hu=>W_ a ts (.inr rfl) u hu) i o e
  |_=>cases h
theorem GT:∀{is:List Nat}{ts:List T}{Y Y':Ft},Cv is ts Y=some Y'->Y'.length=Y.length
 |[],[],Y,Y',h=>by cases h;rfl
 |[],t::ts,Y,Y',h=>by cases h
 |i::is,[],Y,Y',h=>by cases h
 |i::is,t::ts,Y,Y',h=>by rw[GT (is:=is) (ts:=ts) (Y:=Y.set i (some t)) h,iD]
theorem LM(h:Dj g t Y=some Y'):Y'.length=Y.length:=by
 cases g with
 |nm k=>cases h;rw[iD]
 |tp is=>cases t<;>first|cases h|exact GT h
abbrev Jg(nl:Nat)(fr:List Nat)(Y:Ft):Ft:=aaq nl none++fr.map fun j=>(Y[j]?).join
theorem Wh(nl:Nat)(fr:List Nat)(Y:Ft):aR (Jg nl fr Y)=lA nl fr (aR Y):=by
 unfold aR Jg lA
 rw[aax,oH,bH]
 congr 1
 refine fN fun j _=>?_
 simp only[Function.comp,dg]
 cases Y[j]? with
 |none=>rfl
 |some o=>rfl
theorem Wi(nl:Nat)(fr:List Nat)(Y:Ft):aM (Jg nl fr Y)=DT nl fr (aM Y):=by
 unfold aM Jg DT
 rw[aax,oH,bH]
 congr 1
 refine fN fun j _=>?_
 simp only[Function.comp,dg]
 cases Y[j]? with
 |none=>rfl
 |some o=>rfl
@[reducible]noncomputable def i8(nl:Nat)(fr:List Nat)(tn:List Nat):List Nat:=aaq nl 0++fr.map fun j=>tn.getD j 99
theorem OE{nl:Nat}{fr:List Nat}{tn:List Nat}{i:Nat}{j:Nat}(h:(Jg nl fr Y)[i]?=some (some t))(hj:(i8 nl fr tn)[i]?=some j)(bU:j<90):∃k:Nat,Y[k]?=some (some t)/\tn[k]?=some j:=by
 unfold Jg at h
 unfold i8 at hj
 by_cases hi:i<nl
 ·rw[oF (by simpa using hi),qi]at h
  split at h<;>cases h
 rw[kH (by simpa using hi),qW,dg]at h hj
 obtain⟨k,e1,e2⟩:=fP.mp h
 rw[e1]at hj
 have e3:tn.getD k 99=j:=by simpa using hj
 refine⟨k,?_,?_⟩
 ·cases w:Y[k]? with
  |none=>rw[w]at e2;cases e2
  |some o=>rw[w]at e2;exact congrArg some e2
 rw[iX]at e3
 cases w:tn[k]? with
 |none=>rw[w]at e3;simp at e3;omega
 |some x=>rw[w]at e3;exact congrArg some e3
theorem T.dU{k:Nat}(h1:T.cg ts k)(h2:T.cg us k)(c1:∀a∈T.aj ts k,a∉T.rests us 0)(c2:∀a∈T.aj us k,a∉T.rests ts 0):T.cg (ts++us) k:=by
 unfold T.cg
 rw[T.az,T.aq]
 refine⟨zM.mpr ⟨h1.1,h2.1,fun a ha b hb e=>?_⟩,fun a ha hb=>?_⟩
 ·subst e;exact c1 a ha ((T.aC us k).mpr (.inl hb))
 rcases bw.mp ha with ha|ha<;>rcases bw.mp hb with hb|hb
 ·exact h1.2 a ha hb
 ·exact c2 a hb ((T.aC ts k).mpr (.inr ha))
 ·exact c1 a hb ((T.aC us k).mpr (.inr ha))
 exact h2.2 a ha hb
abbrev Cw(f:D->Res (Option D)):List D->Res (List D)
 |[]=>.ok []
 |d::ds=>(f d).bind fun o=>(Cw f ds).bind fun r=>.ok (o.toList++r)
theorem OF{f:D->Res D}:∀ds:List D,DJ f ds=Cw (fun d=>(f d).bind fun x=>.ok (some x)) ds
 |[]=>rfl
 |d::ds=>by
  unfold DJ Cw
  rw[OF ds]
  cases f d<;>rfl
theorem Rz{f:D->Res (Option D)}:∀ds:List D,GP f ds=Cw (fun d=>match f d with|.ok o=>.ok o|_=>.bad) ds
 |[]=>rfl
 |d::ds=>by
  unfold GP Cw
  rw[Rz ds]
  cases f d with
  |ok o=>cases o<;>rfl
  |_=>rfl
@[reducible]noncomputable def wR:cG:=fun _ _ _ _=>False
section
variable{p:Px}{EX:cG}{tn:List Nat}{X:Cx}{pos np:Pos}
theorem MS{K:Frag}{nl:Nat}{fr:List Nat}{g:Tg}{it:It}{k:Nat}{f:D->Res (Option D)}{tc:Bx->TT}{elt:E}{Y:Ft}{H:Hp}{Q:VK}{ji:Nat}(hF:gE p tn Y H)(hji:qG tn it=some ji)(hg:∀i∈g.sl,i<nl)(hk:jk (i8 nl fr tn) elt=some (0,k))
  (hf:∀d:D,f d=.bad\/∃aQ,CI g d (lA nl fr (aR Y))=some aQ/\∃b:Bool,(∀(z:Bx)(jO:Ft)(H3:Hp)(N:Bool->Hp->Prop),aR jO=aQ->gE p (i8 nl fr tn) jO H3->(∀H5,ag H3 H5->N b H5)->tc z (aM jO) H3 N)/\f d=if b=true then(kr (ev elt aQ)).bind fun x=>.ok (some x) else .ok none)
  (h:Lg p EX (aM Y) ((evI it (aR Y)).bind fun ds=>(Cw f ds).bind fun r=>.ok (.lst r)) H (KE p (Sh tn Y) H 0 (k+1) Q)) :
  GO nl fr (lI p EX tn it) (fun _=>lG K g) tc (fun z=>lE p (fun _=>nO (EX z.U)) (i8 nl fr tn) elt) (aM Y) H Q:=by
 refine⟨Y,rfl,hF,ji,hji,h.bind.mono (ag.refl _) fun ds _ hd J us H1 IT=>?_⟩
 intro z D wU hD
 have uz:H D=none:=IT.same.free hD
 refine⟨fun i m acc H2=>m=ds.length-i/\i<=ds.length/\∃(ts:List T),acc=ts.map T.val/\Lg p EX (aM Y) ((Cw f (ds.drop i)).bind fun r'=>.ok (.lst (T.ai ts++r'))) H (KE p (Sh tn Y) H 0 (k+1) Q)/\ts.length<=i/\H2 D=some (.lst acc)/\(∀a u,a≠D->H1 a=some u->H2 a=some u) /\
  T.cV p H2 ts/\(∀a∈T.rests ts 0,(H a=none\/Sh tn Y a)/\a≠D)/\(∀a∈T.aj ts k,H1 a=none/\Mu H2 a)/\T.cg ts k,⟨ds.length,by simp,cK _,[],rfl,by simpa[T.ai] using hd,bx _,AX,fun a u n e=>by rw[Av n];exact e,trivial,by simp[T.rests],by simp[T.aj],by simp[T.cg,T.aj]⟩,?_⟩
 rintro i m acc H2 ⟨rfl,hi,ts,rfl,hr,dF,oq,kp,ok,src,new,nd⟩
 refine⟨oq,?_⟩
 have s2:ag H H2:=fun a u e=>kp a u (fun z=>by rw[z,uz]at e;cases e) (IT.same a u e)
 have jm:T.cV p H2 us:=T.ae.mpr fun u hu=>(T.ae.mp IT.ok u hu).keep fun a w e _=>kp a w (fun z=>by rw[z,hD]at e;cases e) e
 have out:D∉T.rests ts 0:=fun m=>(src D m).2 rfl
 rcases tS i ds.length with bU|j5
 ·refine .inr ⟨IT.go i H2 jm bU,fun x H3 y=>?_⟩
  have wV:ds[i]?=some ds[i]:=d_ bU
  obtain⟨s3,t,rfl,ht,tok,sG,lR⟩:=IT.jF i H2 x H3 ds[i] jm wV y
  have sH:ds.drop i=ds[i]::ds.drop (i+1):=u7 bU
  rw[sH]at hr
  simp only[Cw]at hr
  have hr:Lg p EX (aM Y) ((f ds[i]).bind fun o=>(Cw f (ds.drop (i+1))).bind fun r=>.ok (.lst (T.ai ts++(o.toList++r)))) H (KE p (Sh tn Y) H 0 (k+1) Q):=by
   cases q:f ds[i] with
   |ok x=>
    rw[q]at hr
    cases q2:Cw f (ds.drop (i+1)) with
    |ok r=>rw[q2]at hr;exact hr
    |exc c=>rw[q2]at hr;exact hr
    |bad=>rw[q2]at hr;exact hr
   |exc c=>rw[q]at hr;exact hr
   |bad=>rw[q]at hr;exact hr
  have hr:=hr.bind
  obtain⟨aQ,sI,b,uA,wW⟩:=(hf ds[i]).resolve_left fun q=>by rw[q]at hr;exact nE hr
  rw[wW]at hr
  rw[<- ht,<- Wh,HM]at sI
  obtain⟨jO,h4,W'⟩:=fP.mp sI
  have ot:ag H H3:=s2.trans s3
  have sJ:∀a∈t.rest 0,a≠D:=fun a m z=>by
   obtain⟨w,hw,m⟩:=T.aa.mp (sG a m)
   exact(T.ae.mp IT.ok w hw).fV m (z▸hD)
  have slot:∀(n:Nat)(w:T),jO[n]?=some (some w)->(w.Ok p H3/\∀a∈w.rest 0,(H a=none\/Sh tn Y a)/\a≠D/\H1 a≠none)\/(n∉g.sl/\(Jg nl fr Y)[n]?=some (some w)):=by
   intro n w e
   refine(JR (P:=fun o=>∀w,o=some w->(w.Ok p H3/\∀a∈w.rest 0,(H a=none\/Sh tn Y a)/\a≠D/\H1 a≠none)) h4 (fun w e=>?_) (fun a uB e u hu w e'=>?_) n (some w) e).imp (fun q=>q w rfl) id
   ·cases e
    refine⟨tok,fun a m=>⟨lR a m,sJ a m,fun z=>?_⟩⟩
    obtain⟨w',c_,m'⟩:=T.aa.mp (sG a m)
    exact(T.ae.mp IT.ok w' c_).fV m' z
   cases e'
   have sub:∀b∈u.rest 0,b∈t.rest 0:=fun b m=>by
    rcases e with rfl|rfl
    ·exact T.aa.mpr ⟨u,hu,m⟩
    exact aL _ (T.aa.mpr ⟨u,hu,m⟩)
   have uok:u.Ok p H3:=by
    rcases e with rfl|rfl
    ·exact T.ae.mp tok.2 u hu
    exact T.ae.mp tok.2 u hu
   refine⟨uok,fun b m=>?_⟩
   have m:=sub b m
   refine⟨lR b m,sJ b m,fun z=>?_⟩
   obtain⟨w',c_,m'⟩:=T.aa.mp (sG b m)
   exact(T.ae.mp IT.ok w' c_).fV m' z
  have F4:gE p (i8 nl fr tn) jO H3:=fun n w j e ej hj=>by
   rcases slot n w e with q|⟨_,q⟩
   ·exact q.1
   obtain⟨k',e1,e2⟩:=OE q ej hj
   exact(hF k' w j e1 e2 hj).same ot
  have S4:∀a,Sh (i8 nl fr tn) jO a->(H a=none\/Sh tn Y a)/\a≠D/\H1 a≠none:=by
   rintro a ⟨n,w,j,e,ej,hj,m⟩
   rcases slot n w e with q|⟨_,q⟩
   ·exact q.2 a (T.ay w (cK j) m)
   obtain⟨k',e1,e2⟩:=OE q ej hj
   have sh:Sh tn Y a:=⟨k',w,j,e1,e2,hj,m⟩
   have hd:=hF.fV sh
   exact⟨.inr sh,fun z=>hd (z▸uz),fun z=>hd (IT.same.free z)⟩
  rw[<- Wi]
  refine PY tok h4 (uA z jO H3 _ W' F4 fun H5 s5=>?_)
  have lU:ag H2 H5:=s3.trans s5
  cases b with
  |false=>
   rw[if_neg (by decide)]
   exact⟨ds.length-(i+1),by omega,rfl,bU,ts,rfl,hr,by omega,lU _ _ oq,fun a u n e=>lU _ _ (kp a u n e),ok.same lU,src,fun a m=>⟨(new a m).1,let ⟨vs,e,mu⟩:=(new a m).2;⟨vs,lU _ _ e,mu⟩⟩,nd⟩
  |true=>
  rw[if_pos rfl]at hr ⊢
  refine⟨jO,rfl,F4.same s5,0,k,hk,?_⟩
  rw[W']
  cases he:ev elt aQ with
  |exc c=>
   rw[he]at hr
   by_cases c9:1000<=c
   ·rw[show kr (Res.exc c:Res Pu.D)=.bad from if_pos c9]at hr;exact nE hr
   rw[show kr (Res.exc c:Res Pu.D)=.exc c from if_neg c9]at hr
   intro hc H' sx od wX
   have e:od=none:=by
    rcases wX with h|h
    ·exact h.2
    exact absurd h.1 c9
   refine⟨e,?_⟩
   rw[wU]
   exact hr hc H' ((ot.trans s5).trans sx) none (.inl ⟨Nat.lt_of_not_le c9,rfl⟩)
  |bad=>rw[he]at hr;exact nE hr
  |ok xo=>
  rw[he]at hr
  intro t' H6 h_ R
  have uC:ag H2 H6:=lU.trans R.same
  have X_:H6 D=some (.lst (ts.map T.val)):=uC _ _ oq
  refine⟨X_,by rw[aF];exact fO dF (gQ bU IT.len),ds.length-(i+1),by omega,rfl,bU,ts++[t'],by simp,?_,by simp;omega,AX,fun a u n e=>by rw[Av n];exact uC _ _ (kp a u n e),?_,?_,?_,?_⟩
  ·have e1:T.ai (ts++[t'])=T.ai ts++[xo]:=by
    rw[T.aw,aax,<- T.aw];simp[h_]
   rw[e1]
   simp only[jz,aaY,aaX]
   exact hr
  ·have tD:∀a∈t'.rest 0,a≠D:=fun a m z=>by
    rcases R.src a m with q|q
    ·rw[z,lU _ _ oq]at q;cases q
    exact(S4 a q).2.1 z
   refine T.ae.mpr fun w hw=>?_
   have kk:(∀a∈w.rest 0,a≠D)->w.Ok p H6->w.Ok p (L2.upd H6 D (.lst (ts.map T.val++[t'.val]))):=fun b8 aI=>aI.keep fun a u e hq=>by
    rw[Av ?_];exact e
    rintro rfl
    rcases hq with hq|hq
    ·exact b8 a hq rfl
    rw[X_]at e
    cases e;exact nomatch (show true=false from hq)
   rcases bw.mp hw with hw|hw
   ·exact kk (fun a m=>(src a (T.aa.mpr ⟨w,hw,m⟩)).2) ((T.ae.mp ok w hw).same uC)
   cases gp.mp hw
   exact kk tD R.ok
  ·intro a m
   rw[T.aq,bw]at m
   rcases m with m|m
   ·exact src a m
   have m:a∈t'.rest 0:=by simpa[T.rests] using m
   rcases R.src a m with q|q
   ·exact⟨.inl ((ot.trans s5).free q),fun z=>by rw[z,lU _ _ oq]at q;cases q⟩
   exact⟨(S4 a q).1,(S4 a q).2.1⟩
  ·intro a m
   rw[T.az,bw]at m
   rcases m with m|m
   ·obtain⟨n1,vs,e,mu⟩:=new a m
    have aD:a≠D:=fun z=>out (by rw[<- z];exact(T.aC ts k).mpr (.inl m))
    refine⟨n1,vs,?_,mu⟩
    rw[Av aD]
    exact uC _ _ e
   have m:a∈t'.adr k:=by simpa[T.aj] using m
   obtain⟨n1,vs,e,mu⟩:=R.new a m
   have aD:a≠D:=fun z=>by rw[z,lU _ _ oq]at n1;cases n1
   refine⟨?_,vs,by rw[Av aD];exact e,mu⟩
   cases w:H1 a with
   |none=>rfl
   |some u=>rw[lU _ _ (kp a u aD w)]at n1;cases n1
  refine T.dU nd (T.aY.mpr ⟨R.nd,by simp[T.cg,T.aj],by simp[T.rests],by simp[T.aj]⟩) (fun a m m'=>?_) (fun a m m'=>?_)
  ·have m':a∈t'.rest 0:=by simpa[T.rests] using m'
   rcases R.src a m' with q|q
   ·obtain⟨_,vs,e,mu⟩:=new a m
    rw[lU _ _ e]at q;cases q
   exact(S4 a q).2.2 (new a m).1
  have m:a∈t'.adr k:=by simpa[T.aj] using m
  obtain⟨w,hw,m'⟩:=T.aa.mp m'
  exact((T.ae.mp ok w hw).same lU).fV m' (R.new a m).1
 have qJ:i=ds.length:=rm hi j5
 subst qJ
 rw[ve]at hr
 have hr:KE p (Sh tn Y) H 0 (k+1) Q (.lst (T.ai ts++[])):=hr
 rw[iB]at hr
 refine .inl ⟨IT.stop _ H2 jm j5,hr (.lst D ts) H2 rfl ⟨s2,⟨.inl oq,ok⟩,fun a m=>?_,fun a m=>?_,?_,fun a m m'=>?_⟩⟩
 ·simp only[T.rest,bB]at m
  rcases m with rfl|m
  ·exact .inl uz
  exact(src a m).1
 ·simp only[T.adr,bB]at m
  rcases m with rfl|m
  ·exact⟨uz,_,oq,rfl⟩
  exact⟨IT.same.free (new a m).1,(new a m).2⟩
 ·simp only[T.adr,gy]
  exact⟨fun m=>out ((T.aC ts k).mpr (.inl m)),nd.1⟩
 simp only[T.adr,T.rest,bB]at m m'
 rcases m' with rfl|m'
 ·exact out ((T.aC ts k).mpr (.inr m))
 exact nd.2 a m m'
structure lV(X:Cx)(scope:Scope)(loc:List Str)(fr:List Nat)(bh:List Str):Prop where
 jJ:∀(j:Nat)(k:Nat)(x:Str),fr[j]?=some k->bh[j]?=some x->X.N[k]?=some x/\X.env.kindOf x=some .cell/\(x,NameKind.free)∈scope.names
 jK:bh.length=fr.length
 bW:∀y∈scope.names,y.2≠.cell
 bF:scope.kind=.function
 bV:∀y∈scope.names,y.2=.local->scope.names.lookup y.1=some .local
 cn:∀y∈scope.names,y.2=.free->X.env.kindOf y.1=some .cell
 gC:∀(x:Str),x∈bh->(relabel scope X.env).names.lookup x=some .cell
 lD:X.env.scope.kind=.function
theorem MT{K:Frag}{nl:Nat}{fr:List Nat}{g:Tg}{it:It}{elt:E}{U:L2.St}{H:Hp}{Q:VK}(hg:∀i∈g.sl,i<nl)(h:lE p EX tn (.ao nl fr g it elt) U H Q):GO nl fr (lI p EX tn it) (fun _=>lG K g) (fun _=>UV) (fun z=>lE p (fun _=>nO (EX z.U)) (i8 nl fr tn) elt) U H Q:=by
 obtain⟨Y,rfl,hF,j,k,hj,h⟩:=h
 obtain⟨ji,h1,hj⟩:=bS hj
 obtain⟨⟨j2,k2⟩,h2,hj⟩:=bS hj
 obtain⟨hc,e⟩:=ES hj
 cases e
 have hc:j2=0:=of_decide_eq_true hc
 subst hc
 simp only[ev]at h
 simp only[OF]at h
 refine MS hF h1 hg h2 (fun d=>?_) h
 cases hd:CI g d (lA nl fr (aR Y)) with
 |none=>exact .inl rfl
 |some aQ=>exact .inr ⟨aQ,rfl,true,fun _ jO H3 N _ _ hN=>hN H3 (ag.refl _),rfl⟩
theorem MU{K:Frag}{nl:Nat}{fr:List Nat}{g:Tg}{it:It}{cond elt:E}{U:L2.St}{H:Hp}{Q:VK}(hg:∀i∈g.sl,i<nl)(h:lE p EX tn (.a9 nl fr g it cond elt) U H Q):GO nl fr (lI p EX tn it) (fun _=>lG K g) (fun z=>lT p (fun _=>nO (EX z.U)) (i8 nl fr tn) cond) (fun z=>lE p (fun _=>nO (EX z.U)) (i8 nl fr tn) elt) U H Q:=by
 obtain⟨Y,rfl,hF,j,k,hj,h⟩:=h
 obtain⟨ji,h1,hj⟩:=bS hj
 obtain⟨q3,h3,hj⟩:=bS hj
 obtain⟨⟨j2,k2⟩,h2,hj⟩:=bS hj
 obtain⟨hc,e⟩:=ES hj
 cases e
 have hc:j2=0:=of_decide_eq_true hc
 subst hc
 simp only[ev]at h
 simp only[Rz]at h
 refine MS hF h1 hg h2 (fun d=>?_) h
 cases hd:CI g d (lA nl fr (aR Y)) with
 |none=>exact .inl rfl
 |some aQ=>
  dsimp only
  cases e1:(ev cond aQ).bind BP with
  |ok b=>
   cases b with
   |false=>
    exact .inr ⟨aQ,rfl,false,fun _ jO H3 N e4 F4 hN=>⟨jO,rfl,F4,by rw[h3];rfl,by unfold tv;rw[e4,e1];exact fun H5 s5=>hN H5 s5⟩,rfl⟩
   |true=>
    cases e2:ev elt aQ with
    |ok x=>exact .inr ⟨aQ,rfl,true,fun _ jO H3 N e4 F4 hN=>⟨jO,rfl,F4,by rw[h3];rfl,by unfold tv;rw[e4,e1];exact fun H5 s5=>hN H5 s5⟩,by rw[e2];rfl⟩
    |_=>exact .inl rfl
  |_=>exact .inl rfl
theorem RA{fr:List Nat}(hc:X.calm=true)(hp:EQ X EX/\X.stack=X.env::X.outer/\X.env.frame=some X.env.locals)(S:lV X scope loc fr bh)(hi:PI X tg iter (lI p EX tn it))(hg:∀i∈g.sl,i<loc.length)
  (hb:∀z:Bx,PG (X.aH scope z (loc++bh) EX) tg (lG X.K g)/\PE (X.aH scope z (loc++bh) EX) elt (lE p (fun _=>nO (EX z.U)) (i8 loc.length fr tn) x)) (hs:∀y,foldedSetIterable iter X.env y=pure y) :
  PE X (.ListComp elt [⟨tg,iter,[],0⟩] scope pos) (lE p EX tn (.ao loc.length fr g it x)) :=
 PE.mono (MJ loc fr bh hc hp.1 hp.2.1 hp.2.2 hi S.jJ S.jK S.bW S.bF S.bV S.cn S.gC S.lD (fun _ _ _ _ _ h=>Iy hg h) (fun z=>⟨(hb z).1,Ow,(hb z).2⟩) hs) fun U H Q h=>MT hg h
theorem RC{fr:List Nat}(hc:X.calm=true)(hp:EQ X EX/\X.stack=X.env::X.outer/\X.env.frame=some X.env.locals)(S:lV X scope loc fr bh)(hi:PI X tg iter (lI p EX tn it))(hg:∀i∈g.sl,i<loc.length)
  (hb:∀z:Bx,PG (X.aH scope z (loc++bh) EX) tg (lG X.K g)/\PT (X.aH scope z (loc++bh) EX) lW (lT p (fun _=>nO (EX z.U)) (i8 loc.length fr tn) c)/\PE (X.aH scope z (loc++bh) EX) elt (lE p (fun _=>nO (EX z.U)) (i8 loc.length fr tn) x)) (hs:∀y,foldedSetIterable iter X.env y=pure y) :
  PE X (.ListComp elt [⟨tg,iter,[lW],0⟩] scope pos) (lE p EX tn (.a9 loc.length fr g it c x)) :=
 PE.mono (MJ loc fr bh hc hp.1 hp.2.1 hp.2.2 hi S.jJ S.jK S.bW S.bF S.bV S.cn S.gC S.lD (fun _ _ _ _ _ h=>Iy hg h) (fun z=>⟨(hb z).1,Ox (hb z).2.1,(hb z).2.2⟩) hs) fun U H Q h=>MU hg h
theorem PS.mono{X:Cx}{st:Stmt}{t t':TS}(h:PS X st t)(m:∀D U H,t' D U H->t D U H):PS X st t':=fun pins s U H D I q=>h pins s U H D I (m _ _ _ q)
theorem PZ{fr:List Nat}{k:Nat}(hc:X.calm=true)(hp:EQ X EX/\X.stack=X.env::X.outer/\X.env.frame=some X.env.locals)(S:lV X scope loc fr bh)(hi:PI X tg iter (lI p EX tn it))(hg:∀i∈g.sl,i<loc.length)
  (hb:∀z:Bx,PG (X.aH scope z (loc++bh) EX) tg (lG X.K g)/\PE (X.aH scope z (loc++bh) EX) elt (lE p (fun _=>nO (EX z.U)) (i8 loc.length fr tn) x)) (hs:∀y,foldedSetIterable iter X.env y=pure y)
  (hN:X.N.Nodup) (hk:X.N[k]?=some y) (hx:Loc X.env.scope y) (hf:X.fn y=true\/X.env.scope.names.lookup y=some .local) (lH:swapsWith (.ListComp elt [⟨tg,iter,[],0⟩] scope pos) (some (.Name y py)) lJ.line X.env=pure true) :
  PS X (.Assign [.Name y py] (.ListComp elt [⟨tg,iter,[],0⟩] scope pos) lJ) (HD (lE p EX tn (.ao loc.length fr g it x)) (Gm k)) :=
 PS.mono (IY loc fr bh hc hp.1 hp.2.1 hp.2.2 hi S.jJ S.jK S.bW S.bF S.bV S.cn S.gC S.lD (fun _ _ _ _ _ h=>Iy hg h) (fun z=>⟨(hb z).1,Ow,(hb z).2⟩) hs hN hk hx hf lH) fun D U H h=>MT hg h
theorem P0{fr:List Nat}{k:Nat}(hc:X.calm=true)(hp:EQ X EX/\X.stack=X.env::X.outer/\X.env.frame=some X.env.locals)(S:lV X scope loc fr bh)(hi:PI X tg iter (lI p EX tn it))(hg:∀i∈g.sl,i<loc.length)
  (hb:∀z:Bx,PG (X.aH scope z (loc++bh) EX) tg (lG X.K g)/\PT (X.aH scope z (loc++bh) EX) lW (lT p (fun _=>nO (EX z.U)) (i8 loc.length fr tn) c)/\PE (X.aH scope z (loc++bh) EX) elt (lE p (fun _=>nO (EX z.U)) (i8 loc.length fr tn) x)) (hs:∀y,foldedSetIterable iter X.env y=pure y)
  (hN:X.N.Nodup) (hk:X.N[k]?=some y) (hx:Loc X.env.scope y) (hf:X.fn y=true\/X.env.scope.names.lookup y=some .local) (lH:swapsWith (.ListComp elt [⟨tg,iter,[lW],0⟩] scope pos) (some (.Name y py)) lJ.line X.env=pure true) :
  PS X (.Assign [.Name y py] (.ListComp elt [⟨tg,iter,[lW],0⟩] scope pos) lJ) (HD (lE p EX tn (.a9 loc.length fr g it c x)) (Gm k)) :=
 PS.mono (IY loc fr bh hc hp.1 hp.2.1 hp.2.2 hi S.jJ S.jK S.bW S.bF S.bV S.cn S.gC S.lD (fun _ _ _ _ _ h=>Iy hg h) (fun z=>⟨(hb z).1,Ox (hb z).2.1,(hb z).2.2⟩) hs hN hk hx hf lH) fun D U H h=>MU hg h
end
structure dz where
 N:List Str
 sc:Scope
 fn:Bool
 rz:Bool
 cm:Bool
abbrev GG(sc:Scope)(x:Str):Bool:=match sc.names.lookup x with
 |some .local=>true
 |some .cell=>true
 |some .free=>true
 |_=>false
abbrev He(c:dz)(x:Str):Bool:=match c.sc.names.lookup x with
 |some .local=>true
 |some .cell=>c.fn
 |_=>false
abbrev fy(sc:Scope)(x:Str):Bool:=match sc.names.lookup x with
 |some .globalImplicit=>true
 |_=>false
abbrev BM(x:Str):Bool:=!(x==("__debug__" : Str))&&!(x==("__classdict__" : Str))
abbrev Gs(scope outer:Scope):Scope :=
 {scope with names:=scope.names.map fun(n,k)=>if(k==.free&&outer.kind==.function&&outer.names.lookup n==some .cell) then(n,.cell) else(n,k)}
theorem MV(scope:Scope)(env:Env):relabel scope env=Gs scope env.scope:=rfl
abbrev FY:List Str:=["len", "min", "max", "abs", "int", "list", "tuple", "all", "any", "sum", "sorted", "isinstance", "str", "range", "enumerate", "zip", "reversed"]
abbrev kC(c:dz):Tg->Expr->Bool
 |.nm i,.Name x _=>(c.N[i]?==some x)&&He c x
 |.tp is,.Tuple es _ _=>lX c is es&&c.cm
 |_,_=>false
where lX (c:dz):List Nat->List Expr->Bool
 |[],[]=>true
 |i::is,.Name x _::es=>(c.N[i]?==some x)&&He c x&&lX c is es
 |_,_=>false
abbrev uD(c:dz)(scope:Scope)(loc:List Str)(fr:List Nat)(bh:List Str):Bool :=
 decide (bh.length=fr.length)&&((fr.zip bh).all fun q=>(c.N[q.1]?==some q.2)&&(c.sc.names.lookup q.2==some .cell)&&scope.names.contains (q.2,NameKind.free)) &&
 (scope.names.all fun y=>(y.2 != .cell)&&(y.2 != .local||scope.names.lookup y.1==some .local)&&(y.2 != .free||c.sc.names.lookup y.1==some .cell))&&(scope.kind==.function)&&(c.sc.kind==.function) &&
 (bh.all fun x=>(Gs scope c.sc).names.lookup x==some .cell)&&decide (loc++bh).Nodup
abbrev Hf(c:dz)(fr:List Nat):List Str:=fr.map fun j=>c.N.getD j ""
abbrev Fq:Expr->List Str
 |.Name x _=>[x]
 |.Tuple es _ _=>es.filterMap fun|.Name x _=>some x|_=>none
 |_=>[]
abbrev Abb:Expr->Option (List Expr×Nat×Pos)
 |.Tuple es k p=>some (es,k,p)
 |_=>none
abbrev Dq:Expr->Bool
 |.Set _ _ _=>false
 |_=>true
abbrev Jh:List Str:=["RoomError", "BadShape", "NoNode", "NoPage", "NotRooms", "NotATree", "BadRoom", "Unlike", "BadScale", "BadStore", "BadName", "BadLength", "Twice", "Full", "NoThing", "NoDeed", "NoLine"]
abbrev AE(n:Nat):Str:=Jh.getD n "RoomError"
theorem P5(n:Nat):(AE n==("__debug__" : Str))=false:=by
 have h:∀x∈Jh,(x==("__debug__" : Str))=false:=by decide
 unfold AE
 rw[iX]
 cases q:Jh[n]? with
 |none=>decide
 |some x=>exact h x (cJ q)
abbrev Kw:Kd->String
 |.int => "int"
 |.bool => "bool"
 |.str => "str"
 |.list => "list"
 |.tuple => "tuple"
 |.dict => "dict"
 |.lM => "ValueError"
 |.cls _ => ""
abbrev GU:Kd->Str
 |.cls n=>AE n
 |k=>Str.ofString (Kw k)
abbrev T3(c:dz)(k:Kd):Expr->Bool
 |.Name x _=>(x==GU k)&&fy c.sc x
 |_=>false
abbrev X':Expr->Bool
 |.Name _ _=>true
 |_=>false
abbrev Yx:Expr->Bool
 |.Constant _ _ _=>true
 |_=>false
abbrev P6:Expr->Bool
 |.Name _ _=>true
 |.Subscript _ _ _=>true
 |_=>false
abbrev RE:Bi->Str
 |.len => "len"
 |.min => "min"
 |.max => "max"
 |.iJ => "max"
 |.je => "min"
 |.int => "int"
 |.list => "list"
 |.all => "all"
 |.str => "str"
 |.fw => "len"
 |.cw => "int"
abbrev Yy:Bi->Bool
 |_=>true
abbrev FZ:Bi->Bool
 |.len=>true
 |.int=>true
 |.list=>true
 |_=>false
mutual
noncomputable def E.bq:E->Bool
 |.not a=>a.bq
 |.bo _ es=>es.nB
 |_=>true
noncomputable def Es.nB:Es->Bool
 |.nil=>true
 |.cons e r=>e.bq&&r.nB
end
abbrev Ky(gens:List Comprehension)(f:Expr->Expr->List Expr->Bool):Bool:=match gens with
 |[⟨tg,iter,ifs,n⟩]=>decide (n=0)&&f tg iter ifs
 |_=>false
abbrev P7(es:List Expr)(f:Expr->Bool):Bool:=match es with
 |[e]=>f e
 |_=>false
theorem Fs{f:Expr->Expr->List Expr->Bool}(h:Ky gens f=true):∃tg iter ifs,gens=[⟨tg,iter,ifs,0⟩]/\f tg iter ifs=true:=by
 cases gens with
 |nil=>exact au h
 |cons g r=>
  cases r with
  |nil=>
   cases g with
   |mk tg iter ifs n=>
   have h:(decide (n=0)&&f tg iter ifs)=true:=h
   rw[bg]at h
   cases of_decide_eq_true h.1
   exact⟨_,_,_,rfl,h.2⟩
  |cons _ _=>cases g;exact au h
theorem MW{f:Expr->Bool}(h:P7 es f=true):∃e,es=[e]/\f e=true:=by
 unfold P7 at h
 split at h
 ·exact⟨_,rfl,h⟩
 cases h
abbrev MX:Expr->Bool
 |.Constant .none _ _=>true
 |_=>false
abbrev JS(b:Bool)(f:Expr->Bool):Option Expr->Bool
 |none=>b
 |some l=>!b&&f l
abbrev sL:Expr->Nat
 |.Slice _ _ _ _=>10
 |_=>9
abbrev sM:Expr->Nat
 |.Name _ _=>20
 |.Attribute _ _ _=>21
 |_=>22
abbrev kF:List Keyword->Expr->Nat
 |[],f=>sM f
 |_::_,_=>22
abbrev kX:Expr->Nat
 |.Name _ _=>0
 |.Constant _ _ _=>1
 |.Tuple _ _ _=>2
 |.List _ _=>3
 |.BinOp _ _ _ _=>4
 |.UnaryOp _ _ _=>5
 |.Compare _ _ _ _=>6
 |.BoolOp _ _ _=>7
 |.IfExp _ _ _ _=>8
 |.Subscript _ r _=>sL r
 |.Dict _ _ _=>11
 |.ListComp _ _ _ _=>12
 |.Attribute _ _ _=>13
 |.Call f _ ks _=>kF ks f
 |_=>30
abbrev kE:E->Nat
 |.nm _=>0
 |.cN=>1
 |.cB _=>1
 |.cI _=>1
 |.cS _=>1
 |.gl _ _=>0
 |.tup _=>2
 |.lst _=>3
 |.bin _ _ _=>4
 |.neg _=>5
 |.not _=>5
 |.cmp _ _ _=>6
 |.chain _ _ _ _ _=>6
 |.bA _ _=>6
 |.bo _ _=>7
 |.ix _ _=>9
 |.gU _ _=>9
 |.cC _ _=>9
 |.nv _ _=>9
 |.fJ _ _=>21
 |.eY _ _ _=>6
 |.i7 _ _=>21
 |.lN _ _ _=>10
 |.call _ _=>20
 |.aK _ _=>20
 |.bi _ _=>20
 |.jY _ _=>20
 |.mt _ _ _=>21
 |.ao _ _ _ _ _=>12
 |.a9 _ _ _ _ _ _=>12
abbrev g2(x:E)(e:Expr)(r:Bool):Bool:=(cU (kE x) 99||cU (kX e) (kE x))&&r
mutual
noncomputable def cj(c:dz):E->Expr->Bool
 |.nm i,.Name x _=>(c.N[i]?==some x)&&GG c.sc x&&BM x
 |.cN,.Constant .none _ _=>true
 |.cB b,.Constant (.bool b') _ _=>b==b'
 |.cI i,.Constant (.int i') _ _=>i==i'
 |.cS x,.Constant (.str x') _ _=>x==x'
 |.gl x d,.Name y _=>(x==y)&&fy c.sc y&&BM y&&D.a_ d
 |.tup es,.Tuple xs _ _=>ba c es xs&&decide (es.len<=1000)
 |.lst es,.List xs _=>ba c es xs&&decide (es.len<=1000)
 |.bin o a b,.BinOp l op r _=>(op==PL o)&&(g2 a l (cj c a l))&&(g2 b r (cj c b r))
 |.neg a,.UnaryOp .USub l _=>(g2 a l (cj c a l))
 |.not a,.UnaryOp .Not l _=>(g2 a l (cj c a l))
 |.cmp o a b,.Compare l [op] [r] _=>(op==Bp o)&&(g2 a l (cj c a l))&&(g2 b r (cj c b r))&&Dq r
 |.chain o o' a b d,.Compare l [op,nk] [r,r'] _=>(op==Bp o)&&(nk==Bp o')&&(g2 a l (cj c a l))&&(g2 b r (cj c b r))&&(g2 d r' (cj c d r'))&&Dq r'
 |.bA n a,.Compare l [op] [r] _=>(op==if n then .IsNot else .Is)&&MX r&&(g2 a l (cj c a l))
 |.bo k es,.BoolOp op xs _=>(op==if k then .And else .Or)&&ba c es xs
 |.ix a i,.Subscript a' i' _=>(g2 a a' (cj c a a'))&&(g2 i i' (cj c i i'))&&Bd i'
 |.gU a i,.Subscript a' i' _=>(g2 a a' (cj c a a'))&&(g2 i i' (cj c i i'))&&Bd i'
 |.cC a i,.Subscript a' i' _=>(g2 a a' (cj c a a'))&&(g2 i i' (cj c i i'))&&Bd i'
 |.nv a i,.Subscript a' i' _=>(g2 a a' (cj c a a'))&&(g2 i i' (cj c i i'))&&Bd i'
 |.i7 a b,.Call (.Attribute o name ap) [e] [] cp=>(name==("join" : Str))&&(g2 a o (cj c a o))&&Yx o&&(g2 b e (cj c b e))&&An e&&(ap.endLine==cp.line)
 |.fJ a b,.Call (.Attribute o name ap) [e] [] cp=>(name==("split" : Str))&&(g2 a o (cj c a o))&&P6 o&&(g2 b e (cj c b e))&&An e&&(ap.endLine==cp.line)
 |.eY n a b,.Compare l [op] [r] _=>(op==L2.Je n)&&(g2 a l (cj c a l))&&(g2 b r (cj c b r))&&Dq r
 |.lN a lo hi,.Subscript a' (.Slice sN kD none _) _=>(g2 a a' (cj c a a'))&&JS lo.isCN (fun e=>g2 lo e (cj c lo e)) sN&&JS hi.isCN (fun e=>g2 hi e (cj c hi e)) kD
 |.call f es,.Call (.Name x _) xs [] _=>(x==f.name)&&fy c.sc x&&BM x&&ba c es xs&&decide (es.len=f.ar)&&decide (0<es.len)&&c.cm
 |.aK f es,.Call (.Name x _) xs [] _=>(x==f.name)&&fy c.sc x&&BM x&&ba c es xs&&decide (es.len=f.ar)&&decide (0<es.len)&&c.cm
 |.bi b es,.Call (.Name x _) xs [] _=>(x==RE b)&&fy c.sc x&&Yy b&&ba c es xs&&decide (0<es.len)&&(c.cm||FZ b)
 |.mt .count a es,.Call (.Attribute o name ap) xs [] cp=>(name==("count" : Str))&&(g2 a o (cj c a o))&&P6 o&&ba c es xs&&decide (es.len=1)&&(ap.endLine==cp.line)
 |.mt .index a es,.Call (.Attribute o name ap) xs [] cp=>(name==("index" : Str))&&(g2 a o (cj c a o))&&X' o&&ba c es xs&&decide (es.len=1)&&(ap.endLine==cp.line)
 |.jY a k,.Call (.Name x _) [l,r] [] _=>(x==("isinstance" : Str))&&fy c.sc x&&(g2 a l (cj c a l))&&T3 c k r&&An l
 |.ao nl fr g it elt,.ListComp e8 gens scope _=>Ky gens fun tg iter ifs=>c.rz&&c.cm&&ifs.isEmpty&&uD c scope (Fq tg) fr (Hf c fr)&&decide (nl=(Fq tg).length)&&(g.sl.all fun i=>decide (i<nl))&&sO c tg it iter&&Dq iter &&
   kC ⟨Fq tg++Hf c fr,Gs scope c.sc,false,false,c.cm⟩ g tg&&(g2 elt e8 (cj ⟨Fq tg++Hf c fr,Gs scope c.sc,false,false,c.cm⟩ elt e8))
 |.a9 nl fr g it cond elt,.ListComp e8 gens scope _=>Ky gens fun tg iter ifs=>P7 ifs fun lW=>c.rz&&c.cm&&uD c scope (Fq tg) fr (Hf c fr)&&decide (nl=(Fq tg).length)&&(g.sl.all fun i=>decide (i<nl))&&sO c tg it iter&&Dq iter &&
   kC ⟨Fq tg++Hf c fr,Gs scope c.sc,false,false,c.cm⟩ g tg&&(g2 cond lW (cj ⟨Fq tg++Hf c fr,Gs scope c.sc,false,false,c.cm⟩ cond lW))&&cond.bq&&(g2 elt e8 (cj ⟨Fq tg++Hf c fr,Gs scope c.sc,false,false,c.cm⟩ elt e8))
 |_,_=>false
noncomputable def ba(c:dz):Es->List Expr->Bool
 |.nil,[]=>true
 |.cons e r,x::xs=>(g2 e x (cj c e x))&&An x&&ba c r xs
 |_,_=>false
noncomputable def sO(c:dz)(tg:Expr):It->Expr->Bool
 |.seq e,x=>(g2 e x (cj c e x))
 |.bQ e,x=>(g2 e x (cj c e x))
 |.r1 a,.Call (.Name x _) [l] [] _=>(x==("range" : Str))&&fy c.sc x&&(g2 a l (cj c a l))&&An l
 |.r2 a b,.Call (.Name x _) [l,r] [] _=>(x==("range" : Str))&&fy c.sc x&&(g2 a l (cj c a l))&&An l&&(g2 b r (cj c b r))&&An r
 |.r3 a b d,.Call (.Name x _) [l,r,o] [] _=>(x==("range" : Str))&&fy c.sc x&&(g2 a l (cj c a l))&&An l&&(g2 b r (cj c b r))&&An r&&(g2 d o (cj c d o))&&An o
 |.kA a,e=>(g2 a e (cj c a e))
 |_,_=>false
end
abbrev bc(c:dz)(x:E)(e:Expr):Bool:=g2 x e (cj c x e)
theorem AD{c:dz}{x:E}{e:Expr}(h:bc c x e=true)(hn:cU (kE x) 99=false:=by rfl):cU (kX e) (kE x)=true:=by
 unfold bc g2 at h
 rw[hn,qt,bg]at h
 exact h.1
theorem HP{c:dz}{x:E}{e:Expr}(h:bc c x e=true):cj c x e=true:=by
 unfold bc g2 at h
 rw[bg]at h
 exact h.2
abbrev Abe(r:Expr):Prop:=∃j q,r=.Constant .none j q
theorem RF{r:Expr}(h:MX r=true):Abe r:=by
 cases r with
 |Constant k j q=>
  cases k<;>first|exact⟨_,_,rfl⟩|exact au h
 |_=>exact au h
theorem U2{y:E}(z:y.isCN=true):y=.cN:=by cases y<;>first|rfl|exact au z
theorem Yz(r:Expr):sL r=9\/sL r=10:=by cases r<;>first|exact .inl rfl|exact .inr rfl
theorem YA(f:Expr):20<=sM f:=by cases f<;>first|exact bx 20|exact qp 20|exact ng 20 2
theorem Aag(ks:List Keyword)(f:Expr):20<=kF ks f:=by
 cases ks with
 |nil=>exact YA f
 |cons _ _=>exact ng 20 2
theorem lY{n:Nat}{r:Expr}{P:Prop}(h:cU (sL r) n=true)(c:(cU 9 n||cU 10 n)=false:=by rfl):P:=by
 rw[Bool.or_eq_false_iff]at c
 rcases Yz r with z|z<;>rw[z]at h
 ·exact au (c.1.symm.trans h)
 exact au (c.2.symm.trans h)
theorem lZ{n:Nat}{f:Expr}{ks:List Keyword}{P:Prop}(h:cU (kF ks f) n=true)(c:Nat.ble 20 n=false:=by rfl):P:=au (c.symm.trans (Nat.ble_eq_true_of_le (zP h▸Aag ks f)))
abbrev RG(e:Expr):Prop:=∃a b,e=.Name a b
theorem RH(h:cU (kX e) 0=true):RG e:=by
 cases e<;>first|exact⟨_,_,rfl⟩|exact au h|exact lZ h|exact lY h
abbrev P8(e:Expr):Prop:=∃a b c,e=.Constant a b c
theorem Fu(h:cU (kX e) 1=true):P8 e:=by
 cases e<;>first|exact⟨_,_,_,rfl⟩|exact au h|exact lZ h|exact lY h
abbrev IsTuple(e:Expr):Prop:=∃a b c,e=.Tuple a b c
theorem Wj(h:cU (kX e) 2=true):IsTuple e:=by
 cases e<;>first|exact⟨_,_,_,rfl⟩|exact au h|exact lZ h|exact lY h
abbrev IsList(e:Expr):Prop:=∃a b,e=.List a b
theorem isList(h:cU (kX e) 3=true):IsList e:=by
 cases e<;>first|exact⟨_,_,rfl⟩|exact au h|exact lZ h|exact lY h
abbrev Wk(e:Expr):Prop:=∃a b c d,e=.BinOp a b c d
theorem Wl(h:cU (kX e) 4=true):Wk e:=by
 cases e<;>first|exact⟨_,_,_,_,rfl⟩|exact au h|exact lZ h|exact lY h
abbrev RI(e:Expr):Prop:=∃a b c,e=.UnaryOp a b c
theorem Lq(h:cU (kX e) 5=true):RI e:=by
 cases e<;>first|exact⟨_,_,_,rfl⟩|exact au h|exact lZ h|exact lY h
abbrev RJ(e:Expr):Prop:=∃a b c d,e=.Compare a b c d
theorem Gu(h:cU (kX e) 6=true):RJ e:=by
 cases e<;>first|exact⟨_,_,_,_,rfl⟩|exact au h|exact lZ h|exact lY h
abbrev T4(e:Expr):Prop:=∃a b c,e=.BoolOp a b c
theorem T5(h:cU (kX e) 7=true):T4 e:=by
 cases e<;>first|exact⟨_,_,_,rfl⟩|exact au h|exact lZ h|exact lY h
abbrev P9(e:Expr):Prop:=∃a b c d,e=.ListComp a b c d
theorem JT(h:cU (kX e) 12=true):P9 e:=by
 cases e<;>first|exact⟨_,_,_,_,rfl⟩|exact au h|exact lZ h|exact lY h
abbrev N0(e:Expr):Prop:=∃a b c,e=.Attribute a b c
abbrev N3(e:Expr):Prop:=∃a b c,e=.Subscript a b c
theorem ET(h:cU (kX e) 9=true):N3 e:=by
 cases e<;>first|exact⟨_,_,_,rfl⟩|exact au h|exact lZ h
abbrev Abf(r:Expr):Prop:=∃l u s q,r=.Slice l u s q
theorem Abg(h:cU (sL r) 10=true):Abf r:=by
 cases r<;>first|exact⟨_,_,_,_,rfl⟩|exact au h
abbrev Abh(e:Expr):Prop:=∃a l u s q b,e=.Subscript a (.Slice l u s q) b
theorem Abi(h:cU (kX e) 10=true):Abh e:=by
 cases e with
 |Subscript a r b=>
  obtain⟨l,u,s,q,rfl⟩:=Abg h
  exact⟨_,_,_,_,_,_,rfl⟩
 |Call f xs ks q=>exact lZ h
 |_=>exact au h
abbrev YB(e:Expr):Prop:=∃x p xs q,e=.Call (.Name x p) xs [] q
abbrev YC(e:Expr):Prop:=∃o n p xs q,e=.Call (.Attribute o n p) xs [] q
theorem isF(h:Nat.ble (sM f) 21=true):RG f\/N0 f:=by
 cases f<;>first|exact .inl ⟨_,_,rfl⟩|exact .inr ⟨_,_,_,rfl⟩|exact au h
theorem Y_(h:(cU (kX e) 20||cU (kX e) 21)=true):YB e\/YC e:=by
 cases e with
 |Call f xs ks q=>
  cases ks with
  |cons _ _=>exact au h
  |nil=>
  have h:(cU (sM f) 20||cU (sM f) 21)=true:=h
  rcases isF (by
   rcases oP.mp h with z|z<;>rw[zP z]<;>rfl) with⟨a,b,rfl⟩|⟨a,b,c,rfl⟩
  ·exact .inl ⟨_,_,_,_,rfl⟩
  exact .inr ⟨_,_,_,_,_,rfl⟩
 |Subscript a r b=>
  rcases oP.mp h with z|z
  ·exact lY z
  exact lY z
 |_=>exact au h
theorem isCN(h:cU (kX e) 20=true):YB e:=by
 rcases Y_ (oP.mpr (.inl h)) with z|⟨o,n,q,xs,r,rfl⟩
 ·exact z
 exact au h
theorem Qa(h:cU (kX e) 21=true):YC e:=by
 rcases Y_ (oP.mpr (.inr h)) with⟨x,q,xs,r,rfl⟩|z
 ·exact au h
 exact z
inductive j6 where
 |fn (F:Fn)
 |fm (F:Fn)
 |fc (F:Fn)
 |cl (n:Nat)
 |rs (n:Nat)
 |mk (n:Nat)
 |f0 (F:Fn)
 |gl (x:Str) (d:D)
mutual
noncomputable def E.need:E->List j6
 |.nm _=>[]
 |.cN=>[]
 |.cB _=>[]
 |.cI _=>[]
 |.cS _=>[]
 |.gl x d=>[.gl x d]
 |.tup es=>es.need
 |.lst es=>es.need
 |.bin _ a b=>a.need++b.need
 |.neg a=>a.need
 |.not a=>a.need
 |.cmp _ a b=>a.need++b.need
 |.chain _ _ a b c=>a.need++(b.need++c.need)
 |.bA _ a=>a.need
 |.bo _ es=>es.need
 |.ix a i=>a.need++i.need
 |.gU a i=>a.need++i.need
 |.cC a i=>a.need++i.need
 |.nv a i=>a.need++i.need
 |.i7 a b=>a.need++b.need
 |.fJ a b=>a.need++b.need
 |.eY _ a b=>a.need++b.need
 |.lN a lo hi=>a.need++(lo.need++hi.need)
 |.call f es=>.fn f::es.need
 |.aK f es=>.fn f::es.need
 |.bi _ es=>es.need
 |.jY a k=>(match k with|.cls n=>[.cl n]|_=>[])++a.need
 |.mt _ a es=>a.need++es.need
 |.ao _ _ _ it elt=>it.need++elt.need
 |.a9 _ _ _ it cond elt=>it.need++(cond.need++elt.need)
noncomputable def Es.need:Es->List j6
 |.nil=>[]
 |.cons e r=>e.need++r.need
noncomputable def It.need:It->List j6
 |.seq e=>e.need
 |.bQ e=>e.need
 |.r1 a=>a.need
 |.r2 a b=>a.need++b.need
 |.r3 a b c=>a.need++(b.need++c.need)
 |.kA e=>e.need
end
abbrev dT:D->T
 |.bl b=>.bl b
 |.int i=>.int i
 |.str x=>.str x
 |_=>.aJ
theorem YD(h:D.a_ d=true):(dT d).dat=d/\(dT d).sc=true:=by cases d<;>first|exact⟨rfl,rfl⟩|cases h
abbrev aE(p:Px)(lv:Nat)(X:Cx):j6->Prop
 |.fn F=>F.lv<=lv/\PX p X F
 |.fm F=>F.lv<=lv/\Yu p X F
 |.fc F=>F.lv<=lv/\Yv p X F
 |.cl n=>p.has n=true/\X.mg (AE n)=some (.ref (p.cl n))
 |.rs n=>p.has n=true/\nsIn X.K mainGlobals (AE n)=some (some (.ref (p.cl n)))/\excIn X.K (p.cl n) Gz "ValueError.__new__" = true
 |.f0 F=>F.lv<=lv/\U0 p X F
 |.mk n=>p.has n=true/\nsIn X.K mainGlobals (AE n)=some (some (.ref (p.cl n)))/\excIn X.K (p.cl n) Gz "ValueError.__new__" = true/\keepIn X.K (.ref (p.cl n))=true
 |.gl x d=>∃u,X.mg x=some u/\RelV (dT d).val u
structure Kx(p:Px):Prop where
 no:p.has 999=false
 lt:∀c,p.has c=true->c<1000
 ks:∀c,p.has c=true->subIn p.K (.ref (p.cl c)) (.ref (p.cl c))=some true
 x:∀c,p.has c=true->iI p.K (p.cl c)
 kb:∀c,p.has c=true->∀T∈(["int", "bool", "str", "list", "tuple", "dict"]:List String),kitOne p.K (.ref (p.cl c)) (.type T)=some false
 kv:∀c,p.has c=true->kitOne p.K (.ref (p.cl c)) (.type "ValueError")=some true
 kc:∀c d,p.has c=true->p.has d=true->kitOne p.K (.ref (p.cl c)) (.ref (p.cl d))=some (oj c d)
structure Ct(p:Px)(c:dz)(lv:Nat)(X:Cx)(EX:cG):Prop where
 K:X.K=p.K
 N:X.N=c.N
 sc:X.env.scope=c.sc
 nd:X.N.Nodup
 calm:c.cm=true->X.calm=true
 room:c.cm=true->b_ lv X.A
 un:X.A.units+64<cLine
 r0:lK lv X.A
 blt:∀y∈FY,X.mg y=none
 bt:∀y∈(["bool", "dict", "ValueError", "set"]:List Str),X.mg y=none
 pass:E5 (cX X.prog X.w) X EX
 fn:c.fn=true->∀x,X.fn x=true
 kx:Kx p
 ph:c.rz=true->EQ X EX/\X.stack=X.env::X.outer/\X.env.frame=some X.env.locals
section
variable{p:Px}{c:dz}{lv:Nat}{X:Cx}{EX:cG}{tn:List Nat}{pos np:Pos}
theorem Ct.gl(C:Ct p c lv X EX)(h:fy c.sc x=true):Gl X x:=by
 unfold fy at h
 show X.env.scope.names.lookup x=_
 rw[C.sc]
 split at h
 ·assumption
 cases h
theorem Ct.qK(C:Ct p c lv X EX)(h:GG c.sc x=true):rJ X.env.scope x:=by
 unfold GG at h
 unfold rJ
 rw[C.sc]
 split at h
 ·exact .inl ‹_›
 ·exact .inr (.inl ‹_›)
 ·exact .inr (.inr ‹_›)
 cases h
theorem Ct.loc(C:Ct p c lv X EX)(h:He c x=true):L2.Loc X.env.scope x/\(X.fn x=true\/X.env.scope.names.lookup x=some .local):=by
 unfold He at h
 unfold L2.Loc
 rw[C.sc]
 split at h
 ·rename_i e;exact⟨.inl e,.inr e⟩
 ·rename_i e;exact⟨.inr e,.inl (C.fn h x)⟩
 cases h
theorem BU(h:BM x=true):(x==("__debug__" : Str))=false/\(x==("__classdict__" : Str))=false:=by
 unfold BM at h
 rw[bg,rq,rq]at h
 exact h
theorem Ct.hu(C:Ct p c lv X EX):X.A.units+64<cLine:=C.un
theorem U3(C:Ct p c lv X EX):∀{is:List Nat}{es:List Expr},kC.lX c is es=true->qy X es (Dk is)/\(assignEach es X.env).length=is.length/\(assignEach es X.env).findIdx? (·.1)=none
 |[],[],_=>⟨Vt,rfl,rfl⟩
 |[],e::es,h=>au h
 |i::is,[],h=>au h
 |i::is,e::es,h=>by
  cases e with
  |Name x q=>
   have h:((c.N[i]?==some x)&&He c x&&kC.lX c is es)=true:=h
   rw[bg,bg]at h
   obtain⟨⟨h1,h2⟩,h3⟩:=h
   obtain⟨a1,a2,a3⟩:=U3 C h3
   obtain⟨l1,l2⟩:=C.loc h2
   refine⟨S7 (Op C.nd (by rw[C.N];exact beq_iff_eq.mp h1) l1 l2) a1 rfl,?_,?_⟩
   ·show(assignEach es X.env).length+1=_;rw[a2];rfl
   show List.findIdx? (·.1) ((false,_)::assignEach es X.env)=none
   rw[List.findIdx?_cons,a3];rfl
  |_=>exact au h
theorem Ji(C:Ct p c lv X EX)(h:kC c g e=true):PG X e (lG X.K g):=by
 cases g with
 |nm i=>
  cases e with
  |Name x q=>
   have h:((c.N[i]?==some x)&&He c x)=true:=h
   rw[bg]at h
   obtain⟨l1,l2⟩:=C.loc h.2
   exact Op C.nd (by rw[C.N];exact beq_iff_eq.mp h.1) l1 l2
  |_=>exact au h
 |tp is=>
  cases e with
  |Tuple es k q=>
   rw[show kC c (.tp is) (.Tuple es k q)=(kC.lX c is es&&c.cm) from rfl,bg]at h
   obtain⟨a1,a2,a3⟩:=U3 C h.1
   intro pins s U H v u Q I r hw
   rcases hw with hw|hw
   ·exact Xt (C.calm h.2) a1 a2 a3 pins s U H v u Q I r hw
   exact Yb (C.calm h.2) a1 a2 a3 pins s U H v u Q I r hw
  |_=>exact au h
theorem OG{α β:Type}{xs:List α}{ys:List β}{j:Nat}{a:α}{b:β}(h1:xs[j]?=some a)(h2:ys[j]?=some b):(a,b)∈xs.zip ys:=by
 have:(xs.zip ys)[j]?=some (a,b):=by rw[List.getElem?_zip_eq_some];exact⟨h1,h2⟩
 exact cJ this
theorem Me(C:Ct p c lv X EX){fr:List Nat}(h:uD c scope loc fr bh=true):lV X scope loc fr bh/\(loc++bh).Nodup:=by
 unfold uD at h
 simp only[bg,decide_eq_true_eq,cz,beq_iff_eq,bne_iff_ne,tZ]at h
 obtain⟨⟨⟨⟨⟨⟨h1,h2⟩,h3⟩,h4⟩,h5⟩,h6⟩,h7⟩:=h
 refine⟨⟨fun j k x e1 e2=>?_,h1,fun y hy=>(h3 y hy).1.1,h4,fun y hy e=>?_,fun y hy e=>?_,fun x hx=>?_,by rw[C.sc];exact h5⟩,h7⟩
 ·obtain⟨⟨q1,q2⟩,q3⟩:=h2 (k,x) (OG e1 e2)
  refine⟨by rw[C.N];exact q1,?_,by simpa using q3⟩
  show X.env.scope.names.lookup x=_
  rw[C.sc];exact q2
 ·rcases (h3 y hy).1.2 with q|q
  ·exact absurd e q
  exact q
 ·rcases (h3 y hy).2 with q|q
  ·exact absurd e q
  show X.env.scope.names.lookup y.1=_
  rw[C.sc];exact q
 rw[MV,C.sc];exact h6 x hx
theorem Ct.aH(C:Ct p c lv X EX){scope:Scope}{N:List Str}(hN:N.Nodup)(z:Bx):Ct p ⟨N,Gs scope c.sc,false,false,c.cm⟩ lv (X.aH scope z N EX) (fun _=>nO (EX z.U)) where
 K:=C.K
 N:=rfl
 sc:=by show relabel scope X.env=_;rw[MV,C.sc]
 nd:=hN
 calm:=C.calm
 room:=C.room
 un:=C.un
 r0:=C.r0
 blt:=C.blt
 bt:=C.bt
 pass:=Aaa
 fn:=fun z=>nomatch z
 kx:=C.kx
 ph:=fun z=>nomatch z
theorem aE.aH(h:aE p lv X n):aE p lv (X.aH scope z N EX) n:=by
 cases n<;>exact h
theorem Ew(h:Dq e=true):∀y,foldedSetIterable e env y=pure y:=by
 intro y
 cases e<;>first|rfl|cases h
theorem C6(h:Dq e=true):behindInMarks op e=false:=by
 cases e<;>first|rfl|cases h
end
section
variable{p:Px}{c:dz}{lv:Nat}{X:Cx}{EX:cG}{tn:List Nat}{pos np:Pos}
abbrev GdE(p:Px)(X:Cx)(EX:cG)(tn:List Nat)(x:E)(e:Expr):Prop:=PE X e (lE p EX tn x)/\(x.bq=true->PT X e (lT p EX tn x))
theorem AH(C:Ct p c lv X EX)(h:PE X e (lE p EX tn x))(hp:MO e=true):PE X e (lE p EX tn x)/\(x.bq=true->PT X e (lT p EX tn x)):=⟨h,fun _=>PU C.K h hp⟩
abbrev uE(p:Px):Kd->Value
 |.cls n=>.ref (p.cl n)
 |k=>.type (Kw k)
abbrev Mf(p:Px):Kd->Prop
 |.cls n=>p.has n=true
 |_=>True
theorem YE(C:Ct p c lv X EX){H:Hp}{t:T}(ok:t.Ok p H):∃ty,lq X.K H t.val ty/\∀k b,Dd t.dat k=.ok b->Mf p k->kitOne X.K ty (uE p k)=some b:=by
 cases t with
 |aJ=>exact⟨_,.of .aJ,fun k b h _=>by cases k<;>cases h<;>rfl⟩
 |bl x=>exact⟨_,.of (.bl x),fun k b h _=>by cases k<;>cases h<;>rfl⟩
 |int x=>exact⟨_,.of (.int x),fun k b h _=>by cases k<;>cases h<;>rfl⟩
 |str x=>exact⟨_,.of (.str x),fun k b h _=>by cases k<;>cases h<;>rfl⟩
 |tup a ts=>exact⟨_,.of (.tup ok.1),fun k b h _=>by cases k<;>cases h<;>rfl⟩
 |lst a ts=>
  rcases ok.1 with e|⟨o,e⟩
  ·exact⟨_,.of (.lst e),fun k b h _=>by cases k<;>cases h<;>rfl⟩
  exact⟨_,.of (.fh e),fun k b h _=>by cases k<;>cases h<;>rfl⟩
 |eS a ks ts=>exact⟨_,.of (.dK ok.1.1),fun k b h _=>by cases k<;>cases h<;>rfl⟩
 |eU a ks ts=>exact⟨_,.of (.dT ok.1.1),fun k b h _=>by cases k<;>cases h<;>rfl⟩
 |cq a n=>
 have main:∀m,n≠999->p.has m=true->jL n=m->lq X.K H (V.ref a) (Value.ref (p.cl m))->∃ty,lq X.K H (T.cq a n).val ty/\∀k b,Dd (T.cq a n).dat k=.ok b->Mf p k->kitOne X.K ty (uE p k)=some b:=by
  intro m hn hs hk ku
  have nj:(n==999)=false:=beq_eq_false_iff_ne.mpr hn
  refine⟨_,ku,fun k b h hh=>?_⟩
  rw[C.K]
  have kb:=C.kx.kb m hs
  cases k with
  |lM=>
   have h:(if(n==999)=true then Res.bad else Res.ok true)=Res.ok b:=h
   rw[nj,if_neg (by decide)]at h
   cases h;exact C.kx.kv m hs
  |cls m'=>
   have h:(if(n==999)=true then Res.bad else Res.ok (oj (jL n) m'))=Res.ok b:=h
   rw[nj,if_neg (by decide),hk]at h
   cases h;exact C.kx.kc m m' hs hh
  |dict=>
   have h:Res.ok (n==999)=Res.ok b:=h
   rw[nj]at h
   cases h;exact kb _ (by decide)
  |_=>cases h;exact kb _ (by decide)
 rcases ok with⟨ok,lt⟩|⟨⟨dx,ob,e1,e2,hs⟩,ge⟩
 ·by_cases hn:n=999
  ·subst hn
   refine⟨_,.C_ (by rw[ok.1];rfl),fun k b h _=>?_⟩
   cases k<;>cases h<;>rfl
  have hs:=ok.2.resolve_left hn
  exact main n hn hs (if_neg (rl lt)) (.exc (by rw[ok.1];unfold sC;rw[if_neg hn]) (C.K▸C.kx.x n hs))
 exact main 4 (fun z=>by subst z;exact absurd ge (by decide)) hs (if_pos ge) (.C' e1 (C.K▸C.kx.x 4 hs))
theorem Wm(C:Ct p c lv X EX)(hl:PE X l (lE p EX tn x))(hr:PE X r (tC v))(aT:An l=true)(gF:An r=true)(fW:Gl X "isinstance")(uF:v_ v=some cv)
  (hk:∀(H:Hp)(t:T)(b:Bool),t.Ok p H->Dd t.dat k=.ok b->∃ty,lq X.K H t.val ty/\kitOne X.K ty cv=some b):PE X (.Call (.Name "isinstance" np) [l,r] [] pos) (lE p EX tn (.jY x k)):=by
 refine PE.mono (CL Tl fW (C.blt _ (by simp[FY])) (by decide +kernel) (A4 hl (A4 hr CK (Ah gF)) (Ah aT)) (by decide) (by decide) (Ah aT) (AF (by simp[gF]))) fun U H Q h=>?_
 obtain⟨Y,rfl,hF,j,k',hj,h⟩:=h
 obtain⟨⟨j1,k1⟩,h1,hj⟩:=bS hj
 simp only[ev]at h
 refine l1 hF h1 h fun d t H1 ht R h=>?_
 subst ht
 cases q:Dd t.dat k with
 |ok b=>
  rw[q]at h
  obtain⟨ty,h2,h3⟩:=hk H1 t b R.ok q
  exact⟨t.val,v,cv,ty,b,rfl,uF,h2,h3,h (.bl b) H1 rfl (Rs.a_ R.same rfl)⟩
 |exc n=>
  rw[q]at h
  cases t with
  |cq a c=>
   have hx:∀f,dX (T.cq a c).dat f≠.exc n:=fun f e=>by
    unfold T.dat dX at e
    split at e<;>simp_all
    split at e<;>cases e
   cases k with
   |lM=>exact absurd (show dX (T.cq a c).dat (fun _=>true)=.exc n from q) (hx _)
   |cls m=>exact absurd (show dX (T.cq a c).dat (fun c=>oj c m)=.exc n from q) (hx _)
   |_=>cases q
  |_=>cases k<;>cases q
 |bad=>rw[q]at h;exact nE h
theorem YF(C:Ct p c lv X EX)(h:T3 c k r=true)(hn:∀n,k=.cls n->aE p lv X (.cl n)):∃v cv,PE X r (tC v)/\v_ v=some cv/\An r=true/\∀(H:Hp)(t:T)(b:Bool),t.Ok p H->Dd t.dat k=.ok b->∃ty,lq X.K H t.val ty/\kitOne X.K ty cv=some b:=by
 cases r with
 |Name x q=>
  have h:((x==GU k)&&fy c.sc x)=true:=h
  rw[bg,beq_iff_eq]at h
  obtain⟨rfl,h⟩:=h
  have fin:Mf p k->∀(H:Hp)(t:T)(b:Bool),t.Ok p H->Dd t.dat k=.ok b->∃ty,lq X.K H t.val ty/\kitOne X.K ty (uE p k)=some b:=fun hk H t b ok e=>let ⟨ty,a,f⟩:=YE C ok;⟨ty,a,f _ _ e hk⟩
  have key:(∃n,k=.cls n)\/(Mf p k/\uE p k=.type (Kw k)/\X.mg (GU k)=none/\bootBuiltins (GU k)=some (.type (Kw k))/\GU k≠"__name__" /\ (GU k==("__debug__" : Str))=false):=by
   cases k with
   |cls n=>exact .inl ⟨n,rfl⟩
   |bool=>exact .inr ⟨trivial,rfl,C.bt _ (by decide),by decide +kernel,by decide,by decide⟩
   |dict=>exact .inr ⟨trivial,rfl,C.bt _ (by decide),by decide +kernel,by decide,by decide⟩
   |lM=>exact .inr ⟨trivial,rfl,C.bt _ (by decide),by decide +kernel,by decide,by decide⟩
   |_=>exact .inr ⟨trivial,rfl,C.blt _ (by decide),by decide +kernel,by decide,by decide⟩
  rcases key with⟨n,rfl⟩|⟨k1,k2,k3,k4,k5,k6⟩
  ·obtain⟨h1,h2⟩:=hn n rfl
   exact⟨.ref (p.cl n),.ref (p.cl n),On (C.gl h) h2 rfl (P5 n),rfl,rfl,fin h1⟩
  exact⟨.ty (Kw k),.type (Kw k),Vq (C.gl h) k3 k4 rfl k5 k6,rfl,rfl,k2▸fin k1⟩
 |_=>exact au h
theorem MY:∀{ts:List T}{bs:List Bool},AM (T.ai ts)=some bs->ts.map T.val=bs.map V.bl
 |[],bs,h=>by cases h;rfl
 |t::r,bs,h=>by
  cases t with
  |bl b=>
   have h:(AM (T.ai r)).map (b::·)=some bs:=h
   obtain⟨cs,h1,rfl⟩:=fP.mp h
   rw[cT,cT,MY h1];rfl
  |_=>cases h
theorem Lr(hl:PE X o (lE p EX tn x))(hb:attributeBase o "count" X.env (eval o X.env)=eval o X.env)(he:PE X e (lE p EX tn y))(aT:An e=true)(h3:(ap.endLine==cp.line)=true):PE X (.Call (.Attribute o "count" ap) [e] [] cp) (lE p EX tn (.mt .count x (.cons y .nil))):=by
 refine PE.mono (G9 PySem.F.plainAttrs_list PySem.F.slot_list_count PySem.F.type_list_count Tm hl (A4 he CK (Ah aT)) hb (by rw[Ah aT];rfl) h3 (Ah aT) rfl) fun U H Q h=>?_
 obtain⟨Y,rfl,hF,j,k',hj,h⟩:=h
 obtain⟨⟨j1,k1⟩,h1,hj⟩:=bS hj
 obtain⟨⟨j2,k2⟩,h2,hj⟩:=bS hj
 obtain⟨⟨j3,k3⟩,wY,_⟩:=bS h2
 simp only[ev,evs]at h
 refine l1 hF h1 h fun d t H1 ht R h=>?_
 subst ht
 cases t with
 |lst a ts=>
  refine⟨.inl ⟨rfl,_,.inl R.ok.1⟩,?_⟩
  rw[show dL (T.lst a ts).dat=true from rfl,if_pos rfl]at h
  rw[show(((ev y (aR Y)).bind fun x=>(Res.ok []).bind fun xs=>Res.ok (x::xs)).bind fun ds=>qF .count (T.lst a ts).dat ds)=(ev y (aR Y)).bind fun d2=>qF .count (T.lst a ts).dat [d2] from by cases ev y (aR Y)<;>rfl]at h
  refine l2 hF R.same wY h fun d2 t2 H2 jl R2 h=>?_
  subst jl
  cases t2 with
  |bl k=>
   have h:Lg p EX (aM Y) ((AG (AM (T.ai ts))).bind fun bs=>Res.ok (D.int ((bs.filter (·==k)).length:Int))) H (KE p (Sh tn Y) H j k' Q):=h
   cases q:AM (T.ai ts) with
   |none=>rw[q]at h;exact nE h
   |some bs=>
   rw[q]at h
   have ou:=(R.ok.same R2.same).1
   rw[MY q]at ou
   exact⟨a,bs,k,rfl,rfl,ou,h (.int _) H2 rfl (Rs.a_ (R.same.trans R2.same) rfl)⟩
  |_=>exact nE h
 |_=>exact nE h
theorem MZ:∀{ts:List T}{ns:List Int},AJ (T.ai ts)=some ns->ts.map T.val=ns.map V.int
 |[],ns,h=>by cases h;rfl
 |t::r,ns,h=>by
  cases t with
  |int b=>
   have h:(AJ (T.ai r)).map (b::·)=some ns:=h
   obtain⟨cs,h1,rfl⟩:=fP.mp h
   rw[cT,cT,MZ h1];rfl
  |_=>cases h
theorem OH{v:Int}:∀{ns:List Int}{j:Nat},Eu v ns=some j->ns[j]?=some v/\∀m,m<j->ns[m]?≠some v
 |[],j,h=>nomatch h
 |x::r,j,h=>by
  rw[Eu]at h
  split at h
  ·rename_i c
   cases h
   exact⟨by rw[c];rfl,fun m hm=>absurd hm (by omega)⟩
  rename_i c
  obtain⟨i,h1,rfl⟩:=fP.mp h
  obtain⟨h2,h3⟩:=OH h1
  refine⟨by simpa using h2,fun m hm=>?_⟩
  cases m with
  |zero=>intro z;cases z;exact c rfl
  |succ m=>
  have:=h3 m (by omega)
  simpa using this
theorem OI:∀{ts:List T}{ns:List Str},DX (T.ai ts)=some ns->ts.map T.val=ns.map V.str
 |[],ns,h=>by cases h;rfl
 |t::r,ns,h=>by
  cases t with
  |str b=>
   have h:(DX (T.ai r)).map (b::·)=some ns:=h
   obtain⟨cs,h1,rfl⟩:=fP.mp h
   rw[cT,cT,OI h1];rfl
  |_=>cases h
theorem Ls(z:Str):∀(ts:List Str)(x:Str),(⟨ts.foldl (fun acc p=>acc++z.cps++p.cps) x.cps⟩:Str)=Str.join z (x::ts)
 |[],x=>rfl
 |y::r,x=>by
  have ih:=Ls z r (x++z++y)
  have e:Str.join z ((x++z++y)::r)=x++z++Str.join z (y::r):=by
   cases r with
   |nil=>rfl
   |cons a b=>
   show(x++z++y)++z++Str.join z (a::b)=x++z++(y++z++Str.join z (a::b))
   show(⟨_⟩:Str)=⟨_⟩
   congr 1
   show((x.cps++z.cps++y.cps)++z.cps)++(Str.join z (a::b)).cps=(x.cps++z.cps)++((y.cps++z.cps)++(Str.join z (a::b)).cps)
   simp only[Array.append_assoc]
  exact ih.trans e
theorem Wn(z:Str)(ts:List Str):Txt.join z ts=Str.join z ts:=by
 cases ts with
 |nil=>rfl
 |cons x r=>exact Ls z r x
theorem Wo(hl:PE X o (lE p EX tn x))(hb:attributeBase o "join" X.env (eval o X.env)=eval o X.env)(he:PE X e (lE p EX tn y))(aT:An e=true)(h3:(ap.endLine==cp.line)=true):PE X (.Call (.Attribute o "join" ap) [e] [] cp) (lE p EX tn (.i7 x y)):=by
 refine PE.mono (G9 PySem.F.plainAttrs_str PySem.F.slot_str_join PySem.F.type_str_join VF hl (A4 he CK (Ah aT)) hb (by rw[Ah aT];rfl) h3 (Ah aT) rfl) fun U H Q h=>?_
 obtain⟨Y,rfl,hF,j,k',hj,h⟩:=h
 obtain⟨⟨j1,k1⟩,h1,hj⟩:=bS hj
 obtain⟨⟨j2,k2⟩,h2,hj⟩:=bS hj
 simp only[ev]at h
 refine l1 hF h1 h fun d t H1 ht R h=>?_
 subst ht
 cases t with
 |str z=>
  refine⟨rfl,?_⟩
  rw[show dS (T.str z).dat=true from rfl,if_pos rfl]at h
  refine l2 hF R.same h2 h fun d2 t2 H2 jl R2 h=>?_
  subst jl
  cases t2 with
  |lst a ts=>
   have h:Lg p EX (aM Y) ((AG (DX (T.ai ts))).bind fun ns=>if ns.foldl (fun n t=>n+t.length+z.length) 0<=dn then .ok (.str (Str.join z ns)) else .bad) H (KE p (Sh tn Y) H j k' Q):=h
   cases q:DX (T.ai ts) with
   |none=>rw[q]at h;exact nE h
   |some ns=>
   rw[q]at h
   have h:Lg p EX (aM Y) (if ns.foldl (fun n t=>n+t.length+z.length) 0<=dn then .ok (.str (Str.join z ns)) else .bad) H (KE p (Sh tn Y) H j k' Q):=h
   by_cases c:ns.foldl (fun n t=>n+t.length+z.length) 0<=dn
   ·rw[if_pos c]at h
    have ou:=R2.ok.1
    rw[OI q]at ou
    refine⟨z,a,ns,rfl,rfl,.inl ou,?_,?_⟩
    ·unfold JoinOk PySem.Builtin.Str.tooLong
     rw[sizeLine_eq]
     simp only[List.foldl_toArray,rq,decide_eq_false_iff_not,iZ]
     exact c
    rw[Wn]
    exact h (.str _) H2 rfl (Rs.a_ (R.same.trans R2.same) rfl)
   rw[if_neg c]at h;exact nE h
  |_=>exact nE h
 |_=>exact nE h
theorem RK(l:List Str):T.ai (l.map T.str)=l.map D.str:=by
 rw[T.aw,bH];rfl
theorem OJ(hl:PE X o (lE p EX tn x))(hb:attributeBase o "split" X.env (eval o X.env)=eval o X.env)(he:PE X e (lE p EX tn y))(aT:An e=true)(h3:(ap.endLine==cp.line)=true):PE X (.Call (.Attribute o "split" ap) [e] [] cp) (lE p EX tn (.fJ x y)):=by
 refine PE.mono (G9 PySem.F.plainAttrs_str PySem.F.slot_str_split PySem.F.type_str_split Tt hl (A4 he CK (Ah aT)) hb (by rw[Ah aT];rfl) h3 (Ah aT) rfl) fun U H Q h=>?_
 obtain⟨Y,rfl,hF,j,k',hj,h⟩:=h
 obtain⟨⟨j1,k1⟩,h1,hj⟩:=bS hj
 obtain⟨⟨j2,k2⟩,h2,hj⟩:=bS hj
 cases hj
 simp only[ev]at h
 refine l1 hF h1 h fun d t H1 ht R h=>?_
 subst ht
 cases t with
 |str z=>
  refine⟨rfl,?_⟩
  rw[show dS (T.str z).dat=true from rfl,if_pos rfl]at h
  refine l2 hF R.same h2 h fun d2 t2 H2 jl R2 h=>?_
  subst jl
  cases t2 with
  |str y=>
   have h:Lg p EX (aM Y) (if y.length≠0/\z.length<=dn/\(PySem.Txt.split z y).length<=dn then .ok (.lst ((PySem.Txt.split z y).map .str)) else .bad) H (KE p (Sh tn Y) H 0 1 Q):=h
   obtain⟨⟨g1,g2,g3⟩,h⟩:=h.guard
   refine⟨z,y,rfl,rfl,g1,by rw[sizeLine_eq];exact g2,by rw[sizeLine_eq];exact g3,fun q hq=>?_⟩
   have e:(PySem.Txt.split z y).map V.str=((PySem.Txt.split z y).map T.str).map T.val:=by rw[bH];rfl
   rw[e]
   refine h (.lst q ((PySem.Txt.split z y).map T.str)) _ (by simp only[T.dat];rw[RK]) (GQ (R.same.trans R2.same) (T.ae.mpr fun w hw=>?_) (fun c m=>?_) hq)
   ·obtain⟨u,_,rfl⟩:=a8.mp hw;trivial
   obtain⟨w,hw,m⟩:=T.aa.mp m
   obtain⟨u,_,rfl⟩:=a8.mp hw
   simp[T.rest]at m
  |_=>exact nE h
 |_=>exact nE h
theorem RL(hl:PE X (.Name z pz) (lE p EX tn x))(he:PE X e (lE p EX tn y))(aT:An e=true)(h3:(ap.endLine==cp.line)=true):PE X (.Call (.Attribute (.Name z pz) "index" ap) [e] [] cp) (lE p EX tn (.mt .index x (.cons y .nil))):=by
 refine PE.mono (G9 PySem.F.plainAttrs_list PySem.F.slot_list_index PySem.F.type_list_index Tq hl (A4 he CK (Ah aT)) rfl (by rw[Ah aT];rfl) h3 (Ah aT) rfl) fun U H Q h=>?_
 obtain⟨Y,rfl,hF,j,k',hj,h⟩:=h
 obtain⟨⟨j1,k1⟩,h1,hj⟩:=bS hj
 obtain⟨⟨j2,k2⟩,h2,hj⟩:=bS hj
 obtain⟨⟨j3,k3⟩,wY,_⟩:=bS h2
 simp only[ev,evs]at h
 refine l1 hF h1 h fun d t H1 ht R h=>?_
 subst ht
 cases t with
 |lst a ts=>
  refine⟨.inl ⟨rfl,_,.inl R.ok.1⟩,?_⟩
  rw[show dL (T.lst a ts).dat=true from rfl,if_pos rfl]at h
  rw[show(((ev y (aR Y)).bind fun x=>(Res.ok []).bind fun xs=>Res.ok (x::xs)).bind fun ds=>qF .index (T.lst a ts).dat ds)=(ev y (aR Y)).bind fun d2=>qF .index (T.lst a ts).dat [d2] from by cases ev y (aR Y)<;>rfl]at h
  refine l2 hF R.same wY h fun d2 t2 H2 jl R2 h=>?_
  subst jl
  cases t2 with
  |int v=>
   have h:Lg p EX (aM Y) ((AG (AJ (T.ai ts))).bind fun ns=>(AG (Eu v ns)).bind fun j=>Res.ok (D.int (j:Nat))) H (KE p (Sh tn Y) H j k' Q):=h
   cases q:AJ (T.ai ts) with
   |none=>rw[q]at h;exact nE h
   |some ns=>
    rw[q]at h
    have h:Lg p EX (aM Y) ((AG (Eu v ns)).bind fun j=>Res.ok (D.int (j:Nat))) H (KE p (Sh tn Y) H j k' Q):=h
    cases q2:Eu v ns with
    |none=>rw[q2]at h;exact nE h
    |some i=>
    rw[q2]at h
    have ou:=(R.ok.same R2.same).1
    rw[MZ q]at ou
    exact⟨a,ns,v,i,rfl,rfl,ou,OH q2,h (.int _) H2 rfl (Rs.a_ (R.same.trans R2.same) rfl)⟩
  |_=>exact nE h
 |_=>exact nE h
theorem Wp(h:PE X e (lE p EX tn (.ix a i))):PE X e (lE p EX tn (.gU a i)):=by
 refine PE.mono h fun U H Q hq=>?_
 obtain⟨Y,rfl,hF,j,k,hj,hq⟩:=hq
 obtain⟨⟨j1,k1⟩,h1,hj⟩:=bS hj
 obtain⟨⟨j2,k2⟩,h2,hj⟩:=bS hj
 obtain⟨hc,ej⟩:=ES hj
 cases ej
 refine⟨Y,rfl,hF,0,0,by show(jk tn _).bind _=_;rw[h1];show(jk tn _).bind _=_;rw[h2];exact if_pos hc,?_⟩
 rw[show ev (.gU a i) (aR Y)=(ev (.ix a i) (aR Y)).bind fun d=>if D.a_ d=true then .ok d else .bad by rw[ev,ev]]at hq
 refine hq.bind.mono (ag.refl _) fun d _ h t H1 ht R=>?_
 subst ht
 obtain⟨hs,h⟩:=Lg.guard h
 exact h t H1 rfl (Rs.a_ R.same (by cases t<;>first|rfl|cases hs))
end
end Pu
end
section
set_option maxHeartbeats 1000000
namespace Pu
open PySem PySem.Spec PyProof.Rows PySem.W L2
theorem Ab{a b:Bool}(h:(a&&b)=true):a=true/\b=true:=bg _ _ |>.mp h
theorem As{p:Px}{lv:Nat}{X:Cx}{a b:List j6}(h:∀n∈a++b,aE p lv X n):(∀n∈a,aE p lv X n)/\∀n∈b,aE p lv X n:=⟨fun n m=>h n (eO _ m),fun n m=>h n (du _ m)⟩
theorem C7:∀{es:Es}{xs:List Expr},ba c es xs=true->xs.all An=true/\xs.length=es.len
 |.nil,[],_=>⟨rfl,rfl⟩
 |.nil,x::xs,h=>au h
 |.cons e r,[],h=>au h
 |.cons e r,x::xs,h=>by
  have h:(bc c e x&&An x&&ba c r xs)=true:=h
  obtain⟨h,h3⟩:=Ab h
  obtain⟨h1,h2⟩:=Ab h
  obtain⟨a,b⟩:=C7 h3
  exact⟨by rw[eR,h2,a];rfl,by rw[jS,b,Es.len]⟩
mutual
theorem snd{p:Px}{lv:Nat}:∀(x:E){c:dz}{X:Cx}{EX:cG}{tn:List Nat}(C:Ct p c lv X EX)(e:Expr),(∀n∈x.need,aE p lv X n)->bc c x e=true->GdE p X EX tn x e
 |.nm i,c,X,EX,tn,C,e,hn,h=>by
  obtain⟨y,q,rfl⟩:=RH (AD h)
  have h:((c.N[i]?==some y)&&GG c.sc y&&BM y)=true:=h
  obtain⟨h,h3⟩:=Ab h
  obtain⟨h1,h2⟩:=Ab h
  obtain⟨d1,d2⟩:=BU h3
  exact AH C (Yj (by rw[C.N];exact beq_iff_eq.mp h1) (C.qK h2) d1 d2) rfl
 |.cN,c,X,EX,tn,C,e,hn,h=>by
  obtain⟨k,j,q,rfl⟩:=Fu (AD h)
  cases k with
  |none=>exact AH C (JM (t:=.aJ) Xg rfl (fun _=>rfl)) rfl
  |_=>exact au h
 |.cB b,c,X,EX,tn,C,e,hn,h=>by
  obtain⟨k,j,q,rfl⟩:=Fu (AD h)
  cases k with
  |bool b'=>
   cases beq_iff_eq.mp (show(b==b')=true from h)
   exact AH C (JM (t:=.bl b) ZK rfl (fun _=>rfl)) rfl
  |_=>exact au h
 |.cI b,c,X,EX,tn,C,e,hn,h=>by
  obtain⟨k,j,q,rfl⟩:=Fu (AD h)
  cases k with
  |int b'=>
   cases beq_iff_eq.mp (show(b==b')=true from h)
   exact AH C (JM (t:=.int b) Xf rfl (fun _=>rfl)) rfl
  |_=>exact au h
 |.cS b,c,X,EX,tn,C,e,hn,h=>by
  obtain⟨k,j,q,rfl⟩:=Fu (AD h)
  cases k with
  |str b'=>
   cases beq_iff_eq.mp (show(b==b')=true from h)
   exact AH C (JM (t:=.str b) Xh rfl (fun _=>rfl)) rfl
  |_=>exact au h
 |.gl y d,c,X,EX,tn,C,e,hn,h=>by
  obtain⟨y',q,rfl⟩:=RH (AD h)
  have h:((y==y')&&fy c.sc y'&&BM y'&&D.a_ d)=true:=h
  obtain⟨h,h4⟩:=Ab h
  obtain⟨h,h3⟩:=Ab h
  obtain⟨h1,h2⟩:=Ab h
  cases beq_iff_eq.mp h1
  obtain⟨u,m,r⟩:=hn (.gl y d) (gp.mpr rfl)
  obtain⟨e1,e2⟩:=YD h4
  exact AH C (JM (t:=dT d) (On (C.gl h2) m r (BU h3).1) e2 (fun _=>by rw[e1];rfl)) rfl
 |.tup es,c,X,EX,tn,C,e,hn,h=>by
  obtain⟨xs,k,q,rfl⟩:=Wj (AD h)
  obtain⟨h1,h2⟩:=Ab (show(ba c es xs&&decide (es.len<=1000))=true from h)
  exact AH C (VL (ia es C xs hn h1).1 (of_decide_eq_true h2)) rfl
 |.lst es,c,X,EX,tn,C,e,hn,h=>by
  obtain⟨xs,q,rfl⟩:=isList (AD h)
  obtain⟨h1,h2⟩:=Ab (show(ba c es xs&&decide (es.len<=1000))=true from h)
  exact AH C (VM (ia es C xs hn h1).1 (of_decide_eq_true h2)) rfl
 |.bin o a b,c,X,EX,tn,C,e,hn,h=>by
  obtain⟨l,op,r,q,rfl⟩:=Wl (AD h)
  obtain⟨h,h3⟩:=Ab (show((op==PL o)&&bc c a l&&bc c b r)=true from h)
  obtain⟨h1,h2⟩:=Ab h
  cases beq_iff_eq.mp h1
  obtain⟨n1,n2⟩:=As hn
  exact AH C (VT (snd a C l n1 h2).1 (snd b C r n2 h3).1) rfl
 |.neg a,c,X,EX,tn,C,e,hn,h=>by
  obtain⟨o,l,q,rfl⟩:=Lq (AD h)
  cases o with
  |USub=>exact AH C (VX (snd a C l hn h).1) rfl
  |_=>exact au h
 |.not a,c,X,EX,tn,C,e,hn,h=>by
  obtain⟨o,l,q,rfl⟩:=Lq (AD h)
  cases o with
  |Not=>
   obtain⟨h1,h2⟩:=snd a C (tn:=tn) l hn h
   exact⟨VY h1,fun ht=>TK (h2 ht)⟩
  |_=>exact au h
 |.cmp o a b,c,X,EX,tn,C,e,hn,h=>by
  obtain⟨l,ops,rs,q,rfl⟩:=Gu (AD h)
  match ops,rs,h with
  |[op],[r],h=>
   obtain⟨h,h4⟩:=Ab (show((op==Bp o)&&bc c a l&&bc c b r&&Dq r)=true from h)
   obtain⟨h,h3⟩:=Ab h
   obtain⟨h1,h2⟩:=Ab h
   cases beq_iff_eq.mp h1
   obtain⟨n1,n2⟩:=As hn
   have A:=(snd a C (tn:=tn) l n1 h2).1
   have B:=(snd b C (tn:=tn) r n2 h3).1
   exact⟨VU C.K C.hu A B (C6 h4),fun _=>TF C.K C.hu A B (C6 h4)⟩
  |[],_,h=>exact au h
  |[_],[],h=>exact au h
  |[_],_::_::_,h=>exact au h
  |_::_::_,_,h=>exact au h
 |.chain o o' a b d,c,X,EX,tn,C,e,hn,h=>by
  obtain⟨l,ops,rs,q,rfl⟩:=Gu (AD h)
  match ops,rs,h with
  |[op,nk],[r,r'],h=>
   obtain⟨h,h6⟩:=Ab (show((op==Bp o)&&(nk==Bp o')&&bc c a l&&bc c b r&&bc c d r'&&Dq r')=true from h)
   obtain⟨h,h5⟩:=Ab h
   obtain⟨h,h4⟩:=Ab h
   obtain⟨h,h3⟩:=Ab h
   obtain⟨h1,h2⟩:=Ab h
   cases beq_iff_eq.mp h1
   cases beq_iff_eq.mp h2
   obtain⟨n1,n2⟩:=As hn
   obtain⟨n2,n3⟩:=As n2
   have A:=(snd a C (tn:=tn) l n1 h3).1
   have B:=(snd b C (tn:=tn) r n2 h4).1
   have D:=(snd d C (tn:=tn) r' n3 h5).1
   exact⟨Rq C.K C.hu A B D (C6 h6),fun _=>PR C.K C.hu A B D (C6 h6)⟩
  |[],_,h=>exact au h
  |[_],_,h=>exact au h
  |[_,_],[],h=>exact au h
  |[_,_],[_],h=>exact au h
  |[_,_],_::_::_::_,h=>exact au h
  |_::_::_::_,_,h=>exact au h
 |.bA n a,c,X,EX,tn,C,e,hn,h=>by
  obtain⟨l,ops,rs,q,rfl⟩:=Gu (AD h)
  match ops,rs,h with
  |[op],[r],h=>
   obtain⟨h,h3⟩:=Ab (show((op==if n then .IsNot else .Is)&&MX r&&bc c a l)=true from h)
   obtain⟨h1,h2⟩:=Ab h
   cases beq_iff_eq.mp h1
   have A:=(snd a C (tn:=tn) l hn h3).1
   obtain⟨j,q',rfl⟩:=RF h2
   exact⟨VW A,fun _=>TH A⟩
  |[],_,h=>exact au h
  |[_],[],h=>exact au h
  |[_],_::_::_,h=>exact au h
  |_::_::_,_,h=>exact au h
 |.bo k es,c,X,EX,tn,C,e,hn,h=>by
  obtain⟨op,xs,q,rfl⟩:=T5 (AD h)
  obtain⟨h1,h2⟩:=Ab (show((op==if k then .And else .Or)&&ba c es xs)=true from h)
  cases beq_iff_eq.mp h1
  obtain⟨a1,a2⟩:=(ia es C (tn:=tn) xs hn h2).2 k q
  exact⟨a1,fun ht=>(a2 ht).pt⟩
 |.ix a i,c,X,EX,tn,C,e,hn,h=>by
  obtain⟨l,r,q,rfl⟩:=ET (AD h)
  replace h:=HP h
  obtain⟨h,h3⟩:=Ab (show(bc c a l&&bc c i r&&Bd r)=true from h)
  obtain⟨h1,h2⟩:=Ab h
  obtain⟨n1,n2⟩:=As hn
  exact AH C (Rt C.K (snd a C l n1 h1).1 (snd i C r n2 h2).1 h3) rfl
 |.gU a i,c,X,EX,tn,C,e,hn,h=>by
  obtain⟨l,r,q,rfl⟩:=ET (AD h)
  replace h:=HP h
  obtain⟨h,h3⟩:=Ab (show(bc c a l&&bc c i r&&Bd r)=true from h)
  obtain⟨h1,h2⟩:=Ab h
  obtain⟨n1,n2⟩:=As hn
  exact AH C (Wp (Rt C.K (snd a C l n1 h1).1 (snd i C r n2 h2).1 h3)) rfl
 |.cC a i,c,X,EX,tn,C,e,hn,h=>by
  obtain⟨l,r,q,rfl⟩:=ET (AD h)
  replace h:=HP h
  obtain⟨h,h3⟩:=Ab (show(bc c a l&&bc c i r&&Bd r)=true from h)
  obtain⟨h1,h2⟩:=Ab h
  obtain⟨n1,n2⟩:=As hn
  exact AH C (V1 (snd a C l n1 h1).1 (snd i C r n2 h2).1 h3) rfl
 |.nv a i,c,X,EX,tn,C,e,hn,h=>by
  obtain⟨l,r,q,rfl⟩:=ET (AD h)
  replace h:=HP h
  obtain⟨h,h3⟩:=Ab (show(bc c a l&&bc c i r&&Bd r)=true from h)
  obtain⟨h1,h2⟩:=Ab h
  obtain⟨n1,n2⟩:=As hn
  exact AH C (V4 (snd a C l n1 h1).1 (snd i C r n2 h2).1 h3) rfl
 |.fJ a b,c,X,EX,tn,C,e,hn,h=>by
  obtain⟨o,name,ap,xs,cp,rfl⟩:=Qa (AD h)
  match xs,h with
  |[e],h=>
   obtain⟨h,h6⟩:=Ab (show((name==("split" : Str))&&bc c a o&&P6 o&&bc c b e&&An e&&(ap.endLine==cp.line))=true from h)
   obtain⟨h,h5⟩:=Ab h
   obtain⟨h,h4⟩:=Ab h
   obtain⟨h,h3⟩:=Ab h
   obtain⟨h1,h2⟩:=Ab h
   cases beq_iff_eq.mp h1
   obtain⟨n1,n2⟩:=As hn
   have A:=(snd a C (tn:=tn) o n1 h2).1
   cases o with
   |Name _ _=>exact AH C (OJ A rfl (snd b C (tn:=tn) e n2 h4).1 h5 h6) rfl
   |Subscript _ _ _=>exact AH C (OJ A rfl (snd b C (tn:=tn) e n2 h4).1 h5 h6) rfl
   |_=>exact au h3
  |[],h=>exact au h
  |_::_::_,h=>exact au h
 |.eY n a b,c,X,EX,tn,C,e,hn,h=>by
  obtain⟨l,ops,rs,q,rfl⟩:=Gu (AD h)
  match ops,rs,h with
  |[op],[r],h=>
   obtain⟨h,h4⟩:=Ab (show((op==L2.Je n)&&bc c a l&&bc c b r&&Dq r)=true from h)
   obtain⟨h,h3⟩:=Ab h
   obtain⟨h1,h2⟩:=Ab h
   cases beq_iff_eq.mp h1
   obtain⟨n1,n2⟩:=As hn
   have A:=(snd a C (tn:=tn) l n1 h2).1
   have B:=(snd b C (tn:=tn) r n2 h3).1
   exact⟨V5 A B (C6 h4),fun _=>TN A B (C6 h4)⟩
  |[],_,h=>exact au h
  |[_],[],h=>exact au h
  |[_],_::_::_,h=>exact au h
  |_::_::_,_,h=>exact au h
 |.i7 a b,c,X,EX,tn,C,e,hn,h=>by
  obtain⟨o,name,ap,xs,cp,rfl⟩:=Qa (AD h)
  match xs,h with
  |[e],h=>
   obtain⟨h,h6⟩:=Ab (show((name==("join" : Str))&&bc c a o&&Yx o&&bc c b e&&An e&&(ap.endLine==cp.line))=true from h)
   obtain⟨h,h5⟩:=Ab h
   obtain⟨h,h4⟩:=Ab h
   obtain⟨h,h3⟩:=Ab h
   obtain⟨h1,h2⟩:=Ab h
   cases beq_iff_eq.mp h1
   obtain⟨n1,n2⟩:=As hn
   have A:=(snd a C (tn:=tn) o n1 h2).1
   cases o with
   |Constant _ _ _=>exact AH C (Wo A rfl (snd b C (tn:=tn) e n2 h4).1 h5 h6) rfl
   |_=>exact au h3
  |[],h=>exact au h
  |_::_::_,h=>exact au h
 |.lN a lo hi,c,X,EX,tn,C,e,hn,h=>by
  obtain⟨l,sN,kD,st,q2,q,rfl⟩:=Abi (AD h)
  cases st with
  |none=>
   obtain⟨h,h3⟩:=Ab (show(bc c a l&&JS lo.isCN (bc c lo) sN&&JS hi.isCN (bc c hi) kD)=true from h)
   obtain⟨h1,h2⟩:=Ab h
   obtain⟨n1,n2⟩:=As hn
   obtain⟨n2,n3⟩:=As n2
   have P1:PO X sN (lO p EX tn lo):=by
    cases sN with
    |none=>cases U2 h2;exact Lo
    |some l'=>
    obtain⟨g1,g2⟩:=Ab h2
    exact Lp (snd lo C l' n2 g2).1 (by simpa using g1)
   have P2:PO X kD (lO p EX tn hi):=by
    cases kD with
    |none=>cases U2 h3;exact Lo
    |some l'=>
    obtain⟨g1,g2⟩:=Ab h3
    exact Lp (snd hi C l' n3 g2).1 (by simpa using g1)
   exact AH C (V3 (snd a C l n1 h1).1 P1 P2) rfl
  |some _=>exact au h
 |.call f es,c,X,EX,tn,C,e,hn,h=>by
  obtain⟨y,q',xs,q,rfl⟩:=isCN (AD h)
  obtain⟨h,h7⟩:=Ab (show((y==f.name)&&fy c.sc y&&BM y&&ba c es xs&&decide (es.len=f.ar)&&decide (0<es.len)&&c.cm)=true from h)
  obtain⟨h,h6⟩:=Ab h
  obtain⟨h,h5⟩:=Ab h
  obtain⟨h,h4⟩:=Ab h
  obtain⟨h,h3⟩:=Ab h
  obtain⟨h1,h2⟩:=Ab h
  cases beq_iff_eq.mp h1
  obtain⟨s1,s2⟩:=C7 h4
  obtain⟨f1,f2⟩:=hn (.fn f) (aP ..)
  have A:=(ia es C (tn:=tn) xs (fun n m=>hn n (aL _ m)) h4).1
  cases es with
  |nil=>cases of_decide_eq_true h6
  |cons e1 r1=>
   cases xs with
   |nil=>cases s2
   |cons x1 xr=>exact AH C (TQ C.pass f2 ((C.room h7).mono f1) (C.gl h2) (BU h3).1 A s1 (of_decide_eq_true h5)) rfl
 |.aK f es,c,X,EX,tn,C,e,hn,h=>by
  obtain⟨y,q',xs,q,rfl⟩:=isCN (AD h)
  obtain⟨h,h7⟩:=Ab (show((y==f.name)&&fy c.sc y&&BM y&&ba c es xs&&decide (es.len=f.ar)&&decide (0<es.len)&&c.cm)=true from h)
  obtain⟨h,h6⟩:=Ab h
  obtain⟨h,h5⟩:=Ab h
  obtain⟨h,h4⟩:=Ab h
  obtain⟨h,h3⟩:=Ab h
  obtain⟨h1,h2⟩:=Ab h
  cases beq_iff_eq.mp h1
  obtain⟨s1,s2⟩:=C7 h4
  obtain⟨f1,f2⟩:=hn (.fn f) (aP ..)
  have A:=(ia es C (tn:=tn) xs (fun n m=>hn n (aL _ m)) h4).1
  cases es with
  |nil=>cases of_decide_eq_true h6
  |cons e1 r1=>
   cases xs with
   |nil=>cases s2
   |cons x1 xr=>exact AH C (Ru C.pass f2 ((C.room h7).mono f1) (C.gl h2) (BU h3).1 A s1 (of_decide_eq_true h5)) rfl
 |.bi b es,c,X,EX,tn,C,e,hn,h=>by
  obtain⟨y,q',xs,q,rfl⟩:=isCN (AD h)
  obtain⟨h,h6⟩:=Ab (show((y==RE b)&&fy c.sc y&&Yy b&&ba c es xs&&decide (0<es.len)&&(c.cm||FZ b))=true from h)
  obtain⟨h,h5⟩:=Ab h
  obtain⟨h,h4⟩:=Ab h
  obtain⟨h,h3⟩:=Ab h
  obtain⟨h1,h2⟩:=Ab h
  cases beq_iff_eq.mp h1
  obtain⟨s1,s2⟩:=C7 h4
  have A:=(ia es C (tn:=tn) xs hn h4).1
  cases es with
  |nil=>cases of_decide_eq_true h5
  |cons e1 r1=>
   cases xs with
   |nil=>cases s2
   |cons x1 xr=>
    refine AH C ?_ rfl
    cases b with
    |len=>exact V7 C.blt A s1 (C.gl h2)
    |min=>exact Wb C.blt A s1 (C.calm (by rw[show FZ .min=false from rfl,qr]at h6;exact h6)) (C.gl h2)
    |max=>exact Wa C.blt A s1 (C.calm (by rw[show FZ .max=false from rfl,qr]at h6;exact h6)) (C.gl h2)
    |iJ=>exact TV C.blt A s1 (C.calm (by rw[show FZ .iJ=false from rfl,qr]at h6;exact h6)) (C.gl h2)
    |je=>exact TW C.blt A s1 (C.calm (by rw[show FZ .je=false from rfl,qr]at h6;exact h6)) (C.gl h2)
    |int=>exact V8 C.blt A s1 (C.gl h2)
    |list=>exact TU C.blt A s1 (C.gl h2)
    |all=>exact V9 C.blt A s1 (C.calm (by rw[show FZ .all=false from rfl,qr]at h6;exact h6)) (C.gl h2)
    |str=>exact Wc C.blt A s1 (C.gl h2)
    |fw=>exact TX C.blt A s1 (C.gl h2)
    |cw=>exact TY C.blt A s1 (C.gl h2)
 |.jY a k,c,X,EX,tn,C,e,hn,h=>by
  obtain⟨y,q',xs,q,rfl⟩:=isCN (AD h)
  match xs,h with
  |[l,r],h=>
   obtain⟨h,h5⟩:=Ab (show((y==("isinstance" : Str))&&fy c.sc y&&bc c a l&&T3 c k r&&An l)=true from h)
   obtain⟨h,h4⟩:=Ab h
   obtain⟨h,h3⟩:=Ab h
   obtain⟨h1,h2⟩:=Ab h
   cases beq_iff_eq.mp h1
   obtain⟨n1,n2⟩:=As hn
   obtain⟨v,cv,e1,e2,e3,e4⟩:=YF C h4 (fun n e=>n1 _ (by subst e;exact gp.mpr rfl))
   exact AH C (Wm C (snd a C l n2 h3).1 e1 h5 e3 (C.gl h2) e2 e4) rfl
  |[],h=>exact au h
  |[_],h=>exact au h
  |_::_::_::_,h=>exact au h
 |.mt m a es,c,X,EX,tn,C,e,hn,h=>by
  cases m with
  |index=>
   obtain⟨o,name,ap,xs,cp,rfl⟩:=Qa (AD h)
   obtain⟨h,h6⟩:=Ab (show((name==("index" : Str))&&bc c a o&&X' o&&ba c es xs&&decide (es.len=1)&&(ap.endLine==cp.line))=true from h)
   obtain⟨h,h5⟩:=Ab h
   obtain⟨h,h4⟩:=Ab h
   obtain⟨h,h3⟩:=Ab h
   obtain⟨h1,h2⟩:=Ab h
   cases beq_iff_eq.mp h1
   obtain⟨n1,n2⟩:=As hn
   have A:=(snd a C (tn:=tn) o n1 h2).1
   cases o with
   |Name z pz=>
    match es,xs,h4,h5,n2 with
    |.cons y .nil,[e],h4,_,n2=>
     obtain⟨g,_⟩:=Ab (show(bc c y e&&An e&&ba c .nil [])=true from h4)
     obtain⟨g1,g2⟩:=Ab g
     exact AH C (RL A (snd y C (tn:=tn) e (fun n m=>n2 n (eO _ m)) g1).1 g2 h6) rfl
    |.cons y .nil,[],h4,_,_=>exact au h4
    |.cons y .nil,_::_::_,h4,_,_=>
     obtain⟨_,g⟩:=Ab h4
     exact au g
    |.nil,_,_,h5,_=>cases of_decide_eq_true h5
    |.cons _ (.cons _ _),_,_,h5,_=>exact absurd (of_decide_eq_true h5) (by simp[Es.len])
   |_=>exact au h3
  |count=>
   obtain⟨o,name,ap,xs,cp,rfl⟩:=Qa (AD h)
   obtain⟨h,h6⟩:=Ab (show((name==("count" : Str))&&bc c a o&&P6 o&&ba c es xs&&decide (es.len=1)&&(ap.endLine==cp.line))=true from h)
   obtain⟨h,h5⟩:=Ab h
   obtain⟨h,h4⟩:=Ab h
   obtain⟨h,h3⟩:=Ab h
   obtain⟨h1,h2⟩:=Ab h
   cases beq_iff_eq.mp h1
   obtain⟨n1,n2⟩:=As hn
   have A:=(snd a C (tn:=tn) o n1 h2).1
   cases o with
   |Name z pz=>
    match es,xs,h4,h5,n2 with
    |.cons y .nil,[e],h4,_,n2=>
     obtain⟨g,_⟩:=Ab (show(bc c y e&&An e&&ba c .nil [])=true from h4)
     obtain⟨g1,g2⟩:=Ab g
     exact AH C (Lr A rfl (snd y C (tn:=tn) e (fun n m=>n2 n (eO _ m)) g1).1 g2 h6) rfl
    |.cons y .nil,[],h4,_,_=>exact au h4
    |.cons y .nil,_::_::_,h4,_,_=>
     obtain⟨_,g⟩:=Ab h4
     exact au g
    |.nil,_,_,h5,_=>cases of_decide_eq_true h5
    |.cons _ (.cons _ _),_,_,h5,_=>exact absurd (of_decide_eq_true h5) (by simp[Es.len])
   |Subscript z1 z2 z3=>
    match es,xs,h4,h5,n2 with
    |.cons y .nil,[e],h4,_,n2=>
     obtain⟨g,_⟩:=Ab (show(bc c y e&&An e&&ba c .nil [])=true from h4)
     obtain⟨g1,g2⟩:=Ab g
     exact AH C (Lr A rfl (snd y C (tn:=tn) e (fun n m=>n2 n (eO _ m)) g1).1 g2 h6) rfl
    |.cons y .nil,[],h4,_,_=>exact au h4
    |.cons y .nil,_::_::_,h4,_,_=>
     obtain⟨_,g⟩:=Ab h4
     exact au g
    |.nil,_,_,h5,_=>cases of_decide_eq_true h5
    |.cons _ (.cons _ _),_,_,h5,_=>exact absurd (of_decide_eq_true h5) (by simp[Es.len])
   |_=>exact au h3
 |.ao nl fr g it elt,c,X,EX,tn,C,e,hn,h=>by
  obtain⟨e8,gens,scope,q,rfl⟩:=JT (AD h)
  obtain⟨tg,iter,ifs,rfl,h⟩:=Fs h
  obtain⟨h,h7⟩:=Ab h
  obtain⟨h,h6⟩:=Ab h
  obtain⟨h,h5⟩:=Ab h
  obtain⟨h,h4⟩:=Ab h
  obtain⟨h,h3⟩:=Ab h
  obtain⟨h,h2⟩:=Ab h
  obtain⟨h,h1⟩:=Ab h
  obtain⟨h,h0⟩:=Ab h
  obtain⟨j7,dR⟩:=Ab h
  cases ifs with
  |cons _ _=>cases h0
  |nil=>
  have h2:=of_decide_eq_true h2
  subst h2
  obtain⟨S,nd⟩:=Me C h1
  obtain⟨n1,n2⟩:=As hn
  refine AH C (RA (C.calm dR) (C.ph j7) S (l0 it C iter n1 h4) (fun i hi=>of_decide_eq_true (cz.mp h3 i hi)) (fun z=>⟨?_,?_⟩) (Ew h5)) rfl
  ·exact Ji (C.aH nd z) h6
  exact(snd elt (C.aH nd z) e8 (fun n m=>(n2 n m).aH) h7).1
 |.a9 nl fr g it cond elt,c,X,EX,tn,C,e,hn,h=>by
  obtain⟨e8,gens,scope,q,rfl⟩:=JT (AD h)
  obtain⟨tg,iter,ifs,rfl,h⟩:=Fs h
  obtain⟨lW,rfl,h⟩:=MW h
  obtain⟨h,h9⟩:=Ab h
  obtain⟨h,h8⟩:=Ab h
  obtain⟨h,h7⟩:=Ab h
  obtain⟨h,h6⟩:=Ab h
  obtain⟨h,h5⟩:=Ab h
  obtain⟨h,h4⟩:=Ab h
  obtain⟨h,h3⟩:=Ab h
  obtain⟨h,h2⟩:=Ab h
  obtain⟨h,h1⟩:=Ab h
  obtain⟨j7,dR⟩:=Ab h
  have h2:=of_decide_eq_true h2
  subst h2
  obtain⟨S,nd⟩:=Me C h1
  obtain⟨n1,n2⟩:=As hn
  obtain⟨n2,n3⟩:=As n2
  refine AH C (RC (C.calm dR) (C.ph j7) S (l0 it C iter n1 h4) (fun i hi=>of_decide_eq_true (cz.mp h3 i hi)) (fun z=>⟨?_,?_,?_⟩) (Ew h5)) rfl
  ·exact Ji (C.aH nd z) h6
  ·exact(snd cond (C.aH nd z) lW (fun n m=>(n2 n m).aH) h7).2 h8
  exact(snd elt (C.aH nd z) e8 (fun n m=>(n3 n m).aH) h9).1
theorem ia{p:Px}{lv:Nat}:∀(es:Es){c:dz}{X:Cx}{EX:cG}{tn:List Nat}(C:Ct p c lv X EX)(xs:List Expr),(∀n∈es.need,aE p lv X n)->ba c es xs=true->
  PA X xs (jM p EX tn es)/\∀(k:Bool)(q:Pos),PE X (.BoolOp (if k then .And else .Or) xs q) (lE p EX tn (.bo k es))/\(es.nB=true->PW X (.BoolOp (if k then .And else .Or) xs q) (lT p EX tn (.bo k es)))
 |.nil,c,X,EX,tn,C,xs,hn,h=>by
  cases xs with
  |nil=>
   refine⟨TB,fun k q=>⟨fun pins s U H Q I h=>?_,fun _ wh pins s U H Q I h=>?_⟩⟩
   ·obtain⟨Y,rfl,hF,j,k',hj,h⟩:=h
    simp only[ev,evBo]at h
    exact nE h
   obtain⟨Y,rfl,hF,hj,h⟩:=h
   simp only[tv,ev,evBo]at h
   exact nE h
  |cons _ _=>exact au h
 |.cons e r,c,X,EX,tn,C,xs,hn,h=>by
  cases xs with
  |nil=>exact au h
  |cons x xs=>
   obtain⟨h,h3⟩:=Ab (show(bc c e x&&An x&&ba c r xs)=true from h)
   obtain⟨h1,h2⟩:=Ab h
   obtain⟨n1,n2⟩:=As hn
   obtain⟨A1,A2⟩:=snd e C (tn:=tn) x n1 h1
   obtain⟨B1,B2⟩:=ia r C (tn:=tn) xs n2 h3
   refine⟨Rl A1 B1 (Ah h2),fun k q=>?_⟩
   cases r with
   |nil=>
    cases xs with
    |nil=>exact⟨Yq A1,fun z=>V0 (A2 (Ab (show(e.bq&&true)=true from z)).1)⟩
    |cons _ _=>exact au h3
   |cons e' r'=>
    cases xs with
    |nil=>exact au h3
    |cons x' xs'=>
    obtain⟨C1,C2⟩:=B2 k q
    exact⟨VZ A1 C1,fun z=>let ⟨z1,z2⟩:=Ab (show(e.bq&&(Es.cons e' r').nB)=true from z);TL (A2 z1) (C2 z2)⟩
theorem l0{p:Px}{lv:Nat}:∀(it:It){c:dz}{X:Cx}{EX:cG}{tn:List Nat}{tg:Expr}(C:Ct p c lv X EX)(e:Expr),(∀n∈it.need,aE p lv X n)->sO c tg it e=true->PI X tg e (lI p EX tn it)
 |.seq a,c,X,EX,tn,tg,C,e,hn,h=>T0 C.K (snd a C e hn h).1
 |.bQ a,c,X,EX,tn,tg,C,e,hn,h=>Ry C.K (snd a C e hn h).1
 |.r1 a,c,X,EX,tn,tg,C,e,hn,h=>by
  cases e with
  |Call fn xs ks q=>
   cases fn with
   |Name y q'=>
    match xs,ks,h with
    |[l],[],h=>
     obtain⟨h,h4⟩:=Ab (show((y==("range" : Str))&&fy c.sc y&&bc c a l&&An l)=true from h)
     obtain⟨h,h3⟩:=Ab h
     obtain⟨h1,h2⟩:=Ab h
     cases beq_iff_eq.mp h1
     exact Wd (snd a C l hn h3).1 h4 (C.gl h2) (C.blt _ (by simp[FY]))
    |[],_,h=>exact au h
    |_::_::_,_,h=>exact au h
    |[_],_::_,h=>exact au h
   |_=>exact au h
  |_=>exact au h
 |.r2 a b,c,X,EX,tn,tg,C,e,hn,h=>by
  cases e with
  |Call fn xs ks q=>
   cases fn with
   |Name y q'=>
    match xs,ks,h with
    |[l,r],[],h=>
     obtain⟨h,h6⟩:=Ab (show((y==("range" : Str))&&fy c.sc y&&bc c a l&&An l&&bc c b r&&An r)=true from h)
     obtain⟨h,h5⟩:=Ab h
     obtain⟨h,h4⟩:=Ab h
     obtain⟨h,h3⟩:=Ab h
     obtain⟨h1,h2⟩:=Ab h
     cases beq_iff_eq.mp h1
     obtain⟨n1,n2⟩:=As hn
     exact We (snd a C l n1 h3).1 (snd b C r n2 h5).1 h4 h6 (C.gl h2) (C.blt _ (by simp[FY]))
    |[],_,h=>exact au h
    |[_],_,h=>exact au h
    |_::_::_::_,_,h=>exact au h
    |[_,_],_::_,h=>exact au h
   |_=>exact au h
  |_=>exact au h
 |.r3 a b d,c,X,EX,tn,tg,C,e,hn,h=>by
  cases e with
  |Call fn xs ks q=>
   cases fn with
   |Name y q'=>
    match xs,ks,h with
    |[l,r,o],[],h=>
     obtain⟨h,h8⟩:=Ab (show((y==("range" : Str))&&fy c.sc y&&bc c a l&&An l&&bc c b r&&An r&&bc c d o&&An o)=true from h)
     obtain⟨h,h7⟩:=Ab h
     obtain⟨h,h6⟩:=Ab h
     obtain⟨h,h5⟩:=Ab h
     obtain⟨h,h4⟩:=Ab h
     obtain⟨h,h3⟩:=Ab h
     obtain⟨h1,h2⟩:=Ab h
     cases beq_iff_eq.mp h1
     obtain⟨n1,n23⟩:=As hn
     obtain⟨n2,n3⟩:=As n23
     exact Wg (snd a C l n1 h3).1 (snd b C r n2 h5).1 (snd d C o n3 h7).1 h4 h6 h8 (C.gl h2) (C.blt _ (by simp[FY]))
    |[],_,h=>exact au h
    |[_],_,h=>exact au h
    |[_,_],_,h=>exact au h
    |_::_::_::_::_,_,h=>exact au h
    |[_,_,_],_::_,h=>exact au h
   |_=>exact au h
  |_=>exact au h
 |.kA a,c,X,EX,tn,tg,C,e,hn,h=>T2 (snd a C (tn:=tn) e hn (show bc c a e=true from by cases e<;>exact h)).1
end
end Pu
end
section
namespace Pu
open PySem PySem.Spec PyProof.Rows PySem.W L2
inductive Md where
 |sh
 |ow (k:Nat)
 |br (k:Nat)
 |dead
 deriving DecidableEq
@[reducible]noncomputable def Ms:=List Md
abbrev Md.tn:Md->Nat
 |.sh=>0
 |.ow k=>k
 |.br k=>k
 |.dead=>99
abbrev Md.le:Md->Md->Bool
 |_,.dead=>true
 |.sh,.sh=>true
 |.ow _,.sh=>true
 |.ow k,.ow k'=>decide (0<k'/\k'<=k)
 |.br k,.br k'=>decide (k=k')
 |_,_=>false
abbrev Md.small:Md->Bool
 |.ow k=>decide (0<k/\k<90)
 |.br k=>decide (k<90)
 |_=>true
abbrev Md.meet(a b:Md):Md:=if a=b then a else match a,b with
 |.ow k,.ow k'=>if 0<min k k' then .ow (min k k') else .sh
 |.ow _,.sh=>.sh
 |.sh,.ow _=>.sh
 |_,_=>.dead
abbrev a7(m:Ms):List Nat:=m.map Md.tn
theorem A8{i j:Nat}(h:(a7 m)[i]?=some j):∃d,m[i]?=some d/\d.tn=j:=by
 unfold a7 at h
 rw[dg]at h
 exact fP.mp h
theorem AV{i:Nat}(h:m[i]?=some d):(a7 m)[i]?=some d.tn:=by
 unfold a7;rw[dg,h];rfl
abbrev Own(m:Ms)(Y:Ft)(a:Addr):Prop:=∃(i:Nat)(t:T)(k:Nat),Y[i]?=some (some t)/\m[i]?=some (.ow k)/\a∈t.adr k
abbrev Md.low:Md->Nat
 |.sh=>0
 |.ow _=>0
 |.br k=>k
 |.dead=>99
structure Sf(p:Px)(H0:Hp)(A0:Addr->Prop)(m:Ms)(Y:Ft)(H:Hp):Prop where
 len:Y.length=m.length
 small:∀d∈m,d.small=true
 same:ag H0 H
 ok:gE p (a7 m) Y H
 own:∀(i:Nat)(t:T)(k:Nat)(a:Addr),Y[i]?=some (some t)->m[i]?=some (.ow k)->a∈t.adr k->H0 a=none/\Mu H a
 src:∀a,Sh (a7 m) Y a->H0 a=none\/A0 a
 nd:∀(i:Nat)(t:T)(k:Nat),Y[i]?=some (some t)->m[i]?=some (.ow k)->t.Nd k
 sep:∀(i j:Nat)(t u:T)(k:Nat)(d:Md),i≠j->Y[i]?=some (some t)->m[i]?=some (.ow k)->Y[j]?=some (some u)->m[j]?=some d->d≠.dead->∀a∈t.adr k,a∉u.rest d.low
 top:∀(i j:Nat)(t u:T)(k k2:Nat),Y[i]?=some (some t)->m[i]?=some (.ow k)->Y[j]?=some (some u)->m[j]?=some (.br k2)->∀a ts,t=.lst a ts->a∉u.rest 0
section
variable{p:Px}{H0:Hp}{A0:Addr->Prop}{m m':Ms}{Y:Ft}{H H':Hp}
theorem Sf.at(S:Sf p H0 A0 m Y H){i:Nat}(e:Y[i]?=some (some t))(h:m[i]?=some d)(hd:d≠.dead):t.Ok p H:=by
 refine S.ok i t d.tn e (AV h) ?_
 have:=S.small d (cJ h)
 cases d with
 |sh=>exact(by decide:(0:Nat)<90)
 |ow k=>exact(of_decide_eq_true this).2
 |br k=>exact of_decide_eq_true this
 |dead=>exact absurd rfl hd
theorem Sf.dG(S:Sf p H0 A0 m Y H)(o:Own m Y a):H0 a=none/\Mu H a:=by
 obtain⟨i,t,k,e,h,q⟩:=o
 exact S.own i t k a e h q
theorem Sf.l7(S:Sf p H0 A0 m Y H)(o:Own m Y a):¬Sh (a7 m) Y a:=by
 rintro⟨j,u,jj,e',h',l,q'⟩
 obtain⟨i,t,k,e,h,q⟩:=o
 obtain⟨d,hd,rfl⟩:=A8 h'
 have lu:d≠.dead:=fun z=>by subst z;exact absurd l (by decide)
 by_cases z:i=j
 ·subst z
  rw[h]at hd;cases hd
  rw[e]at e'
  cases e'
  exact(S.nd i _ k e h).2 a q' q
 refine S.sep i j t u k d z e h e' hd lu a q (T.ay u ?_ q')
 cases d<;>simp[Md.low,Md.tn]
theorem Sf.grow(S:Sf p H0 A0 m Y H)(s:ag H H'):Sf p H0 A0 m Y H' :=
 ⟨S.len,S.small,S.same.trans s,S.ok.same s,fun i t k a e h q=>⟨(S.own i t k a e h q).1,let ⟨vs,z,mu⟩:=(S.own i t k a e h q).2;⟨vs,s _ _ z,mu⟩⟩,S.src,S.nd,S.sep,S.top⟩
abbrev eh(m m':Ms):Bool:=decide (m.length=m'.length)&&(m.zip m').all fun q=>q.1.le q.2
theorem Ex(h:eh m m'=true){i:Nat}(e:m'[i]?=some d'):∃d,m[i]?=some d/\d.le d'=true:=by
 unfold eh at h
 obtain⟨h1,h2⟩:=Ab h
 have h1:=of_decide_eq_true h1
 have hi:i<m.length:=by
  rw[h1];exact(gP.mp e).1
 refine⟨m[i],d_ hi,cz.mp h2 (m[i],d') (OG (d_ hi) e)⟩
theorem Hg(h:∀d∈m,d.small=true):eh m m=true:=by
 unfold eh
 simp only[decide_true,aa4]
 refine cz.mpr fun q hq=>?_
 obtain⟨i,hi,e⟩:=qY hq
 have kD:i<m.length:=by simpa using hi
 have hs:=h m[i] (vf kD)
 have:q=(m[i],m[i]):=by rw[<- e];simp
 rw[this]
 generalize m[i]=d at hs
 cases d<;>simp_all[Md.le,Md.small]
theorem Sf.weak(S:Sf p H0 A0 m Y H)(h:eh m m'=true):Sf p H0 A0 m' Y H:=by
 have hl:m.length=m'.length:=of_decide_eq_true (Ab (show(decide (m.length=m'.length)&&_)=true from h)).1
 have shd:∀a,Sh (a7 m') Y a->Sh (a7 m) Y a\/Own m Y a:=by
  rintro a ⟨i,t,j,e,ej,l,q⟩
  obtain⟨d',ey,rfl⟩:=A8 ej
  obtain⟨d,hd,le⟩:=Ex h ey
  have sm:=S.small d (cJ hd)
  cases d' with
  |dead=>exact absurd l (by decide)
  |sh=>
   cases d with
   |sh=>exact .inl ⟨i,t,0,e,AV hd,by decide,q⟩
   |ow k=>
    rcases (T.aB t k).mp q with z|z
    ·exact .inr ⟨i,t,k,e,hd,z⟩
    exact .inl ⟨i,t,k,e,AV hd,(of_decide_eq_true sm).2,z⟩
   |_=>cases le
  |ow k'=>
   cases d with
   |ow k=>
    rcases (T.aB t k).mp (T.ay t (cK _) q) with z|z
    ·exact .inr ⟨i,t,k,e,hd,z⟩
    exact .inl ⟨i,t,k,e,AV hd,(of_decide_eq_true sm).2,z⟩
   |_=>cases le
  |br k'=>
   cases d with
   |br k=>
    have:k=k':=of_decide_eq_true le
    subst this
    exact .inl ⟨i,t,k,e,AV hd,of_decide_eq_true sm,q⟩
   |_=>cases le
 have nD:∀{i:Nat}{k':Nat},m'[i]?=some (.ow k')->∃k,m[i]?=some (.ow k)/\k'<=k:=by
  intro i k' ey
  obtain⟨d,hd,le⟩:=Ex h ey
  cases d with
  |ow k=>exact⟨k,hd,(of_decide_eq_true le).2⟩
  |_=>cases le
 refine⟨S.len.trans hl,fun d' ey=>?_,S.same,fun i t j e ej l=>?_,fun i t k' a e hk q=>?_,fun a sh=>?_,fun i t k' e hk=>?_,fun i j t u k' d' ne e hk e' ey nd a q=>?_,fun i j t u k' k2 e hk e' ey a ts z=>?_⟩
 ·obtain⟨i,hi,rfl⟩:=qY ey
  obtain⟨d,hd,le⟩:=Ex h (d_ hi)
  have sm:=S.small d (cJ hd)
  generalize m'[i]=d' at le
  cases d'<;>cases d<;>simp_all[Md.le,Md.small]<;>omega
 ·obtain⟨d',ey,rfl⟩:=A8 ej
  obtain⟨d,hd,le⟩:=Ex h ey
  refine S.at e hd fun z=>?_
  subst z
  cases d'<;>first|exact absurd l (by decide)|cases le
 ·obtain⟨k,hd,le⟩:=nD hk
  exact S.own i t k a e hd (T.ax t le q)
 ·rcases shd a sh with z|z
  ·exact S.src a z
  exact .inl (S.dG z).1
 ·obtain⟨k,hd,le⟩:=nD hk
  exact T.c8 t le (S.nd i t k e hd)
 ·obtain⟨k,hd,le⟩:=nD hk
  obtain⟨d,wZ,lj⟩:=Ex h ey
  have lu:d≠.dead:=fun z=>by subst z;cases d'<;>first|exact nd rfl|cases lj
  refine fun q'=>S.sep i j t u k d ne e hd e' wZ lu a (T.ax t le q) (T.ay u ?_ q')
  cases d'<;>cases d<;>first|exact cK _|(cases lj;done)|exact absurd rfl nd|skip
  exact i9 (of_decide_eq_true lj)
 obtain⟨k,hd,le⟩:=nD hk
 obtain⟨d,wZ,lj⟩:=Ex h ey
 cases d with
 |br k3=>exact S.top i j t u k k3 e hd e' wZ a ts z
 |_=>cases lj
abbrev up(l:List Nat):List Nat:=l++l.map (·+1000)
theorem RM{x i:Nat}(h:i≠x):(aM (Y.set x s))[i]?=(aM Y)[i]?:=by
 unfold aM
 rw[dg,dg,gY (Ne.symm h)]
theorem YG{i:Nat}(h:Y'[i]?=Y[i]?):(aM Y')[i]?=(aM Y)[i]?:=by
 unfold aM
 rw[dg,dg,h]
theorem M0{x i:Nat}{l:List Nat}(h:i+1000∉x::(x+1000)::l):i≠x:=fun z=>h (by rw[z];exact aL _ (aP ..))
theorem nup{i:Nat}{l:List Nat}(h:i+1000∉up l):i∉l:=fun z=>h (du _ (a8.mpr ⟨i,z,rfl⟩))
theorem Wq(Y:Ft)(x:Nat)(t:T):aM (Y.set x (some t))=(aM Y).set x (some t.val):=by
 unfold aM
 rw[nW];rfl
theorem YH{x:Nat}(h:Y[x]?=some (some t))(e:t'.val=t.val):aM (Y.set x (some t'))=aM Y:=by
 rw[Wq,e]
 refine vb fun i=>?_
 by_cases z:x=i
 ·subst z
  rw[qV,DL h];rfl
 rw[gY z]
theorem M1{i x y:Nat}{l:List Nat}(h:i∈[x,y]):i∈x::y::l:=by
 rcases bB.mp h with e|e
 ·rw[e];exact aP ..
 rw[gp.mp e];exact aL _ (aP ..)
structure cE(m m':Ms)(w0:List Nat)(Y Y':Ft)(H H':Hp):Prop where
 keep:∀a u,H a=some u->¬Own m Y a->H' a=some u
 grow:∀a,Own m' Y' a->Own m Y a\/H a=none
 wr:∀i,i∉w0->Y'[i]?=Y[i]?
 ad:∀i,i+1000∉w0->(aM Y')[i]?=(aM Y)[i]?
theorem Own.weak(h:eh m m'=true)(o:Own m' Y a):Own m Y a:=by
 obtain⟨i,t,k,e,hk,q⟩:=o
 obtain⟨d,hd,le⟩:=Ex h hk
 cases d with
 |ow k2=>exact⟨i,t,k2,e,hd,T.ax t (of_decide_eq_true le).2 q⟩
 |_=>cases le
theorem cE.refl(wr:List Nat)(h:eh m m'=true)(s:ag H H'):cE m m' wr Y Y H H':=⟨fun a u e _=>s a u e,fun a o=>.inl (o.weak h),fun _ _=>rfl,fun _ _=>rfl⟩
theorem cE.trans{w1 w2:List Nat}(a:cE m1 m2 w1 l8 fk H1 H2)(b:cE m2 m3 w2 fk w5 H2 H3):cE m1 m3 (w1++w2) l8 w5 H1 H3:=by
 refine⟨fun x u e n=>b.keep x u (a.keep x u e n) fun o=>?_,fun x o=>?_,fun i hi=>?_,fun i hi=>(b.ad i fun h=>hi (du _ h)).trans (a.ad i fun h=>hi (eO _ h))⟩
 ·rcases a.grow x o with z|z
  ·exact n z
  rw[e]at z;cases z
 ·rcases b.grow x o with z|z
  ·exact a.grow x z
  cases q:H1 x with
  |none=>exact .inr rfl
  |some u=>
  refine .inl (Classical.byContradiction fun n=>?_)
  rw[a.keep x u q n]at z;cases z
 rw[b.wr i (fun h=>hi (du _ h)),a.wr i (fun h=>hi (eO _ h))]
theorem cE.mono{w1 w2:List Nat}(a:cE m m' w1 Y Y' H H')(h:∀i∈w1,i∈w2):cE m m' w2 Y Y' H H':=⟨a.keep,a.grow,fun i hi=>a.wr i fun q=>hi (h i q),fun i hi=>a.ad i fun q=>hi (h _ q)⟩
end
abbrev l_(k:Nat):Md:=if k=0 then .sh else .ow k
theorem HQ{k k':Nat}(h:l_ k=.ow k'):k'=k/\k≠0:=by unfold l_ at h;split at h<;>simp_all
theorem YI{k k':Nat}(h:l_ k=.br k'):False:=by unfold l_ at h;split at h<;>simp_all
section
variable{p:Px}{H0:Hp}{A0:Addr->Prop}{m m':Ms}{Y:Ft}{H H1:Hp}
theorem Ai{α:Type}{l:List α}{x i:Nat}{v w:α}(h:(l.set x v)[i]?=some w):(i=x/\w=v)\/(i≠x/\l[i]?=some w):=by
 by_cases z:x=i
 ·subst z
  rw[qV]at h
  cases q:l[x]? with
  |none=>rw[q]at h;cases h
  |some y=>
  rw[q]at h
  exact .inl ⟨rfl,by simpa using h.symm⟩
 rw[gY z]at h
 exact .inr ⟨fun e=>z e.symm,h⟩
theorem RN{x k ke:Nat}(S:Sf p H0 A0 m Y H)(R:Rs p (Sh (a7 m) Y) H H1 0 ke t)(hk:k<=ke)(hx:x<m.length)(w8:k<90):Sf p H0 A0 (m.set x (l_ k)) (Y.set x (some t)) H1/\cE m (m.set x (l_ k)) [x,x+1000] Y (Y.set x (some t)) H H1:=by
 have S1:=S.grow R.same
 have fV:∀{i:Nat}{u:T}{d:Md},Y[i]?=some (some u)->m[i]?=some d->d≠.dead->∀a∈u.rest 0,H a≠none:=fun e hd nd a q=>(S.at e hd nd).fV q
 have pL:∀a∈t.adr k,H a=none:=fun a q=>(R.new a (T.ax t hk q)).1
 have pM:∀a,Own m Y a->a∉t.rest 0:=fun a o q=>by
  rcases R.src a q with z|z
  ·obtain⟨_,vs,e,mu⟩:=S.dG o
   rw[e]at z;cases z
  exact S.l7 o z
 have w9:∀a,Own (m.set x (l_ k)) (Y.set x (some t)) a->a∈t.adr k\/Own m Y a:=by
  rintro a ⟨i,u,k',e,bJ,q⟩
  rcases Ai e with⟨rfl,e2⟩|⟨ne,e⟩
  ·cases e2
   rcases Ai bJ with⟨_,z⟩|⟨z,_⟩
   ·obtain⟨rfl,_⟩:=HQ z.symm
    exact .inl q
   exact absurd rfl z
  rcases Ai bJ with⟨z,_⟩|⟨_,z⟩
  ·exact absurd z ne
  exact .inr ⟨i,u,k',e,z,q⟩
 refine⟨⟨by rw[iD,iD];exact S.len,fun d hd=>?_,S1.same,fun i u j e ej l=>?_,fun i u k' a e bJ q=>?_,fun a sh=>?_,fun i u k' e bJ=>?_,fun i j u w k' d ne e bJ e' hd nd a q=>?_,fun i j u w k' k2 e bJ e' hd a ts z=>?_⟩,
  fun a u e _=>R.same a u e,fun a o=>?_,fun i hi=>?_,fun i hi=>RM (M0 hi)⟩
 ·rcases qh hd with z|z
  ·exact S.small d z
  subst z
  unfold l_
  split
  ·rfl
  exact decide_eq_true ⟨by omega,w8⟩
 ·obtain⟨d,hd,rfl⟩:=A8 ej
  rcases Ai e with⟨rfl,e2⟩|⟨ne,e⟩
  ·cases e2;exact R.ok
  rcases Ai hd with⟨z,_⟩|⟨_,z⟩
  ·exact absurd z ne
  exact S1.ok i u _ e (AV z) l
 ·rcases Ai e with⟨rfl,e2⟩|⟨ne,e⟩
  ·cases e2
   rcases Ai bJ with⟨_,z⟩|⟨z,_⟩
   ·obtain⟨rfl,_⟩:=HQ z.symm
    have:=R.new a (T.ax _ hk q)
    exact⟨S.same.free this.1,this.2⟩
   exact absurd rfl z
  rcases Ai bJ with⟨z,_⟩|⟨_,z⟩
  ·exact absurd z ne
  exact S1.own i u k' a e z q
 ·obtain⟨i,u,j,e,ej,l,q⟩:=sh
  obtain⟨d,hd,rfl⟩:=A8 ej
  rcases Ai e with⟨rfl,e2⟩|⟨ne,e⟩
  ·cases e2
   rcases R.src a (T.ay _ (cK _) q) with z|z
   ·exact .inl (S.same.free z)
   exact S.src a z
  rcases Ai hd with⟨z,_⟩|⟨_,z⟩
  ·exact absurd z ne
  exact S.src a ⟨i,u,_,e,AV z,l,q⟩
 ·rcases Ai e with⟨rfl,e2⟩|⟨ne,e⟩
  ·cases e2
   rcases Ai bJ with⟨_,z⟩|⟨z,_⟩
   ·obtain⟨rfl,_⟩:=HQ z.symm
    exact T.c8 _ hk R.nd
   exact absurd rfl z
  rcases Ai bJ with⟨z,_⟩|⟨_,z⟩
  ·exact absurd z ne
  exact S.nd i u k' e z
 ·rcases Ai e with⟨rfl,e2⟩|⟨n1,e1⟩
  ·cases e2
   rcases Ai bJ with⟨_,z⟩|⟨z,_⟩
   ·obtain⟨rfl,_⟩:=HQ z.symm
    rcases Ai e' with⟨z',_⟩|⟨n2,e3⟩
    ·exact absurd z'.symm ne
    rcases Ai hd with⟨z',_⟩|⟨_,qL⟩
    ·exact absurd z' n2
    exact fun q'=>fV e3 qL nd a (T.ay w (cK _) q') (pL a q)
   exact absurd rfl z
  rcases Ai bJ with⟨z,_⟩|⟨_,uG⟩
  ·exact absurd z n1
  rcases Ai e' with⟨z4,e2⟩|⟨n2,e3⟩
  ·cases e2
   exact fun q'=>pM a ⟨i,u,k',e1,uG,q⟩ (T.ay _ (cK _) q')
  rcases Ai hd with⟨z,_⟩|⟨_,qL⟩
  ·exact absurd z n2
  exact S.sep i j u w k' d ne e1 uG e3 qL nd a q
 ·rcases Ai hd with⟨_,z'⟩|⟨n2,qL⟩
  ·exact(YI z'.symm).elim
  rcases Ai e' with⟨z',_⟩|⟨_,e3⟩
  ·exact absurd z' n2
  rcases Ai e with⟨z4,e2⟩|⟨n1,e1⟩
  ·cases e2
   rcases Ai bJ with⟨_,z'⟩|⟨z',_⟩
   ·obtain⟨z5,Z_⟩:=HQ z'.symm
    subst z
    have mem:a∈(T.lst a ts).adr k:=by
     cases k with
     |zero=>exact absurd rfl Z_
     |succ n=>exact aP ..
    exact fun q'=>fV e3 qL (by intro c;cases c) a q' (pL a mem)
   exact absurd z4 z'
  rcases Ai bJ with⟨z',_⟩|⟨_,uG⟩
  ·exact absurd z' n1
  exact S.top i j u w k' k2 e1 uG e3 qL a ts z
 ·rcases w9 a o with z|z
  ·exact .inr (pL a z)
  exact .inl z
 rw[gY (fun z=>hi (by simp[z]))]
abbrev Ap(m:Ms)(is:List Nat)(d:Md):Ms:=is.foldl (fun m i=>m.set i d) m
theorem Ff(d:Md):∀(is:List Nat)(m:Ms),(Ap m is d).length=m.length
 |[],m=>rfl
 |i::is,m=>by show(Ap (m.set i d) is d).length=_;rw[Ff d is,iD]
theorem Fv:∀{is:List Nat}{m:Ms}{i:Nat},(Ap m is d)[i]?=some d'->(i∈is/\d'=d)\/(i∉is/\m[i]?=some d')
 |[],m,i,h=>.inr ⟨by simp,h⟩
 |j::is,m,i,h=>by
  rcases Fv (is:=is) (m:=m.set j d) h with⟨z1,z2⟩|⟨z1,z2⟩
  ·exact .inl ⟨aL _ z1,z2⟩
  rcases Ai z2 with⟨rfl,e⟩|⟨ne,e⟩
  ·exact .inl ⟨aP ..,e⟩
  exact .inr ⟨fun q=>by rcases bB.mp q with q|q;exact ne q;exact z1 q,e⟩
theorem HR:∀{is:List Nat}{ts:List T}{Y Y':Ft}{i:Nat},Cv is ts Y=some Y'->i∉is->Y'[i]?=Y[i]?
 |[],[],Y,Y',i,h,_=>by cases h;rfl
 |[],t::ts,Y,Y',i,h,_=>by cases h
 |j::is,[],Y,Y',i,h,_=>by cases h
 |j::is,t::ts,Y,Y',i,h,hi=>by
  rw[HR (is:=is) (ts:=ts) (Y:=Y.set j (some t)) h (fun q=>hi (aL _ q)),gY (fun z=>hi (by simp[z]))]
theorem N4{i:Nat}(h:Dj g t Y=some Y')(hi:i∉g.sl):Y'[i]?=Y[i]?:=by
 cases g with
 |nm k=>cases h;rw[gY (fun z=>hi (by simp[Tg.sl,z]))]
 |tp is=>cases t<;>first|cases h|exact HR h hi
theorem Wr{is:List Nat}(S:Sf p H0 A0 m Y H)(s:ag H H1)(hlen:Y'.length=Y.length)(hin:∀(i:Nat)(u:T),i∈is->Y'[i]?=some (some u)->u.Ok p H1/\∀a∈u.rest 0,(H0 a=none\/A0 a)/\¬Own m Y a)(pN:∀i,i∉is->Y'[i]?=Y[i]?) :
  Sf p H0 A0 (Ap m is .sh) Y' H1/\cE m (Ap m is .sh) (up is) Y Y' H H1:=by
 have S1:=S.grow s
 have AH:∀{i:Nat}{u:T}{d:Md},Y'[i]?=some (some u)->(Ap m is .sh)[i]?=some d->(d=.sh/\u.Ok p H1/\∀a∈u.rest 0,(H0 a=none\/A0 a)/\¬Own m Y a)\/(Y[i]?=some (some u)/\m[i]?=some d):=by
  intro i u d e hd
  rcases Fv hd with⟨z1,z2⟩|⟨z1,z2⟩
  ·exact .inl ⟨z2,hin i u z1 e⟩
  exact .inr ⟨(pN i z1)▸e,z2⟩
 have pM:∀{u:T},(∀a∈u.rest 0,(H0 a=none\/A0 a)/\¬Own m Y a)->∀a,Own m Y a->a∉u.rest 0:=fun src a o q=>(src a q).2 o
 refine⟨⟨by rw[hlen,Ff];exact S.len,fun d hd=>?_,S1.same,fun i u j e ej l=>?_,fun i u k' a e bJ q=>?_,fun a sh=>?_,fun i u k' e bJ=>?_,fun i j u w k' d ne e bJ e' hd nd a q=>?_,fun i j u w k' k2 e bJ e' hd a ts z=>?_⟩,
  fun a u e _=>s a u e,fun a o=>?_,fun i hi=>pN i fun z=>hi (eO _ z),fun i hi=>YG (pN i (nup hi))⟩
 ·obtain⟨i,hi,rfl⟩:=qY hd
  rcases Fv (d_ hi) with⟨_,z⟩|⟨_,z⟩
  ·rw[z];rfl
  exact S.small _ (cJ z)
 ·obtain⟨d,hd,rfl⟩:=A8 ej
  rcases AH e hd with⟨_,q,_⟩|⟨q1,q2⟩
  ·exact q
  exact S1.ok i u _ q1 (AV q2) l
 ·rcases AH e bJ with⟨z,_⟩|⟨q1,q2⟩
  ·cases z
  exact S1.own i u k' a q1 q2 q
 ·obtain⟨i,u,j,e,ej,l,q⟩:=sh
  obtain⟨d,hd,rfl⟩:=A8 ej
  rcases AH e hd with⟨_,_,q'⟩|⟨q1,q2⟩
  ·exact(q' a (T.ay u (cK _) q)).1
  exact S.src a ⟨i,u,_,q1,AV q2,l,q⟩
 ·rcases AH e bJ with⟨z,_⟩|⟨q1,q2⟩
  ·cases z
  exact S.nd i u k' q1 q2
 ·rcases AH e bJ with⟨z,_⟩|⟨q1,q2⟩
  ·cases z
  rcases AH e' hd with⟨_,_,q'⟩|⟨q3,q4⟩
  ·exact fun q5=>pM q' a ⟨i,u,k',q1,q2,q⟩ (T.ay w (cK _) q5)
  exact S.sep i j u w k' d ne q1 q2 q3 q4 nd a q
 ·rcases AH e bJ with⟨z,_⟩|⟨q1,q2⟩
  ·cases z
  rcases AH e' hd with⟨z',_⟩|⟨q3,q4⟩
  ·cases z'
  exact S.top i j u w k' k2 q1 q2 q3 q4 a ts z
 obtain⟨i,u,k',e,bJ,q⟩:=o
 rcases AH e bJ with⟨z,_⟩|⟨q1,q2⟩
 ·cases z
 exact .inl ⟨i,u,k',q1,q2,q⟩
theorem Sf.pO(S:Sf p H0 A0 m Y H)(h:H a=none\/Sh (a7 m) Y a):(H0 a=none\/A0 a)/\¬Own m Y a:=by
 rcases h with z|z
 ·refine⟨.inl (S.same.free z),fun o=>?_⟩
  obtain⟨_,vs,e,mu⟩:=S.dG o
  rw[e]at z;cases z
 exact⟨S.src a z,fun o=>S.l7 o z⟩
theorem RP(S:Sf p H0 A0 m Y H)(s:ag H H1)(ok:t.Ok p H1)(src:∀a∈t.rest 0,(H0 a=none\/A0 a)/\¬Own m Y a)(h:Dj g t Y=some Y'):Sf p H0 A0 (Ap m g.sl .sh) Y' H1/\cE m (Ap m g.sl .sh) (up g.sl) Y Y' H H1:=by
 refine Wr S s (LM h) (fun i u hi e=>?_) (fun i hi=>N4 h hi)
 rcases JR (P:=fun o=>∀w,o=some w->w.Ok p H1/\∀a∈w.rest 0,(H0 a=none\/A0 a)/\¬Own m Y a) h (fun w e=>by cases e;exact⟨ok,src⟩)
   (fun a ts e u hu w e'=>by
    cases e'
    rcases e with e|e
    ·subst e
     exact⟨T.ae.mp ok.2 u hu,fun b q=>src b (T.aa.mpr ⟨u,hu,q⟩)⟩
    subst e
    exact⟨T.ae.mp ok.2 u hu,fun b q=>src b (aL _ (T.aa.mpr ⟨u,hu,q⟩))⟩) i (some u) e with q|⟨q,_⟩
 ·exact q u rfl
 exact absurd hi q
theorem Aah(S:Sf p H0 A0 m Y H)(s:ag H H1)(ok:t.Ok p H1)(src:∀a∈t.rest 0,H a=none\/Sh (a7 m) Y a)(h:Dj g t Y=some Y'):Sf p H0 A0 (Ap m g.sl .sh) Y' H1/\cE m (Ap m g.sl .sh) (up g.sl) Y Y' H H1 :=
 RP S s ok (fun a q=>S.pO (src a q)) h
end
abbrev AY:List (Bool×Int)->T->Option T
 |[],t=>some t
 | (false,i)::r,.lst _ ts=>(dE ts.length i).bind fun j=>(ts[j]?).bind fun t=>AY r t
 | (true,i)::r,.tup _ ts=>(dE ts.length i).bind fun j=>(ts[j]?).bind fun t=>AY r t
 |_,_=>none
abbrev F0(s:T):List (Bool×Int)->T->Option T
 |[],_=>some s
 | (false,i)::r,.lst a ts=>(dE ts.length i).bind fun j=>(ts[j]?).bind fun t=>(F0 s r t).map fun t'=>.lst a (ts.set j t')
 | (true,i)::r,.tup a ts=>(dE ts.length i).bind fun j=>(ts[j]?).bind fun t=>(F0 s r t).map fun t'=>.tup a (ts.set j t')
 |_,_=>none
abbrev aO:List (Bool×Int)->Nat
 |[]=>0
 | (false,_)::r=>aO r+1
 | (true,_)::r=>aO r
theorem E7{α:Type}{l:List α}{j:Nat}{x:α}(h:l[j]?=some x):∃l1 l2,l=l1++x::l2/\∀y,l.set j y=l1++y::l2:=by
 obtain⟨hj,e⟩:=gP.mp h
 refine⟨l.take j,l.drop (j+1),?_,fun y=>?_⟩
 ·rw[<- e,List.getElem_cons_drop,List.take_append_drop]
 rw[List.set_eq_take_append_cons_drop,if_pos hj]
theorem DM{l1 l2:List T}{c:T}{k:Nat}:T.cg (l1++c::l2) k ↔ T.cg (l1++l2) k/\c.Nd k/\(∀a∈c.adr k,a∉T.rests (l1++l2) 0)/\(∀a∈T.aj (l1++l2) k,a∉c.rest 0):=by
 induction l1 with
 |nil=>
  rw[aaX,aaX,T.aY]
  exact⟨fun⟨a,b,c,d⟩=>⟨b,a,c,d⟩,fun⟨b,a,c,d⟩=>⟨a,b,c,d⟩⟩
 |cons x l1 ih=>
 rw[aaY,aaY,T.aY,T.aY,ih]
 simp only[T.aq,T.az,T.rests,T.aj,bw,not_or]
 constructor
 ·rintro⟨h1,⟨h2,h3,h4,h5⟩,h6,h7⟩
  refine⟨⟨h1,h2,fun a q=>⟨(h6 a q).1,(h6 a q).2.2⟩,fun a q=>h7 a ?_⟩,h3,fun a q=>⟨fun z=>h7 a (.inr (.inl q)) z,h4 a q⟩,fun a q=>?_⟩
  ·rcases q with q|q
   ·exact .inl q
   exact .inr (.inr q)
  rcases q with q|q
  ·exact(h6 a q).2.1
  exact h5 a q
 rintro⟨⟨h1,h2,h6,h7⟩,h3,h4,h5⟩
 refine⟨h1,⟨h2,h3,fun a q=>(h4 a q).2,fun a q=>h5 a (.inr q)⟩,fun a q=>⟨(h6 a q).1,h5 a (.inl q),(h6 a q).2⟩,fun a q=>?_⟩
 rcases q with q|q|q
 ·exact h7 a (.inl q)
 ·exact(h4 a q).1
 exact h7 a (.inr q)
section
variable{p:Px}
theorem E8:∀(q:List (Bool×Int)){t s:T}{k:Nat},AY q t=some s->aO q<=k->(∀b∈s.rest 0,b∈t.rest 0)/\(∀b∈s.adr (k-aO q),b∈t.adr k)
 |[],t,s,k,h,_=>by cases h;exact⟨fun b q=>q,fun b q=>q⟩
 | (false,i)::r,.lst a ts,s,k,h,hl=>by
  simp only[AY]at h
  obtain⟨j,_,h⟩:=bS h
  obtain⟨c,hc,h⟩:=bS h
  cases k with
  |zero=>simp[aO]at hl
  |succ k=>
  obtain⟨h1,h2⟩:=E8 r (k:=k) h (by simp[aO]at hl;exact hl)
  refine⟨fun b q=>aL _ (T.aa.mpr ⟨c,cJ hc,h1 b q⟩),fun b q=>aL _ (T.af.mpr ⟨c,cJ hc,h2 b ?_⟩)⟩
  have:k+1-aO ((false,i)::r)=k-aO r:=by simp only[aO];omega
  rw[this]at q;exact q
 | (true,i)::r,.tup a ts,s,k,h,hl=>by
  simp only[AY]at h
  obtain⟨j,_,h⟩:=bS h
  obtain⟨c,hc,h⟩:=bS h
  obtain⟨h1,h2⟩:=E8 r (k:=k) h hl
  exact⟨fun b q=>T.aa.mpr ⟨c,cJ hc,h1 b q⟩,fun b q=>T.af.mpr ⟨c,cJ hc,h2 b q⟩⟩
 | (false,i)::r,.tup a ts,s,k,h,_=>by cases h
 | (true,i)::r,.lst a ts,s,k,h,_=>by cases h
 | (b,i)::r,.aJ,s,k,h,_=>by cases b<;>cases h
 | (b,i)::r,.bl _,s,k,h,_=>by cases b<;>cases h
 | (b,i)::r,.int _,s,k,h,_=>by cases b<;>cases h
 | (b,i)::r,.str _,s,k,h,_=>by cases b<;>cases h
 | (b,i)::r,.cq _ _,s,k,h,_=>by cases b<;>cases h
 | (b,i)::r,.eS _ _ _,s,k,h,_=>by cases b<;>cases h
 | (b,i)::r,.eU _ _ _,s,k,h,_=>by cases b<;>cases h
theorem RQ{l1 l2:List T}{c c':T}{k:Nat}{F N:Addr->Prop}(nG:∀b,F b->N b)(gG:T.cg (l1++c::l2) k)(nd':c'.Nd k)(hA:∀b∈c'.adr k,b∈c.adr k\/F b)(hB:∀b∈c'.rest k,b∈c.rest k\/N b)(hF:∀b,F b->b∉T.rests (l1++c::l2) 0)(hN:∀b,N b->b∉T.aj (l1++c::l2) k) :
  T.cg (l1++c'::l2) k/\(∀b∈T.aj (l1++c'::l2) k,b∈T.aj (l1++c::l2) k\/F b)/\(∀b∈T.rests (l1++c'::l2) k,b∈T.rests (l1++c::l2) k\/N b):=by
 obtain⟨m1,m2,m3,m4⟩:=DM.mp gG
 have inm:∀b,b∈T.rests (l1++l2) 0->b∈T.rests (l1++c::l2) 0:=fun b q=>by
  simp only[T.aq,T.rests,bw]at q ⊢
  rcases q with q|q
  ·exact .inl q
  exact .inr (.inr q)
 have Z':∀b,b∈T.aj (l1++l2) k->b∈T.aj (l1++c::l2) k:=fun b q=>by
  simp only[T.az,T.aj,bw]at q ⊢
  rcases q with q|q
  ·exact .inl q
  exact .inr (.inr q)
 have cm:∀b,b∈c.adr k->b∈T.aj (l1++c::l2) k:=fun b q=>by
  simp only[T.az,T.aj,bw]
  exact .inr (.inl q)
 refine⟨DM.mpr ⟨m1,nd',fun b q q'=>?_,fun b q q'=>?_⟩,fun b q=>?_,fun b q=>?_⟩
 ·rcases hA b q with z|z
  ·exact m3 b z q'
  exact hF b z (inm b q')
 ·rcases (T.aB c' k).mp q' with z|z
  ·rcases hA b z with y|y
   ·exact m4 b q ((T.aB c k).mpr (.inl y))
   exact hN b (nG b y) (Z' b q)
  rcases hB b z with y|y
  ·exact m4 b q ((T.aB c k).mpr (.inr y))
  exact hN b y (Z' b q)
 ·simp only[T.az,T.aj,bw]at q ⊢
  rcases q with q|q|q
  ·exact .inl (.inl q)
  ·exact(hA b q).imp (fun z=>.inr (.inl z)) id
  exact .inl (.inr (.inr q))
 simp only[T.aq,T.rests,bw]at q ⊢
 rcases q with q|q|q
 ·exact .inl (.inl q)
 ·exact(hB b q).imp (fun z=>.inr (.inl z)) id
 exact .inl (.inr (.inr q))
theorem Ey{H H':Hp}{a:Addr}{t:T}(bG:∀b w,H b=some w->b≠a->H' b=some w)(dw:Mu H a)(ok:t.Ok p H)(hn:a∉t.rest 0):t.Ok p H':=by
 refine ok.keep fun b w e q=>bG b w e fun z=>?_
 subst z
 rcases q with q|q
 ·exact hn q
 obtain⟨vs,z,mu⟩:=dw
 rw[z]at e
 cases e
 rw[mu]at q;cases q
theorem M2{H H':Hp}{a:Addr}{ts us:List T}{F N:Addr->Prop}(bG:∀b w,H b=some w->b≠a->H' b=some w)(dw:Mu H a)(hs:(T.lst a us).Ok p H')(nG:∀b,F b->N b) :
  ∀(q:List (Bool×Int)){t:T}{k:Nat},AY q t=some (.lst a ts)->aO q<k->t.Nd k->t.Ok p H->(∀b,F b->b∉t.rest 0)->(∀b,N b->b∉t.adr k)->(∀b∈T.aj us (k-1-aO q),b∈T.aj ts (k-1-aO q)\/F b)->
   (∀b∈T.rests us (k-1-aO q),b∈T.rests ts (k-1-aO q)\/N b)->T.cg us (k-1-aO q)->
   ∃t',F0 (.lst a us) q t=some t'/\t'.val=t.val/\t'.Ok p H'/\t'.Nd k/\(∀b∈t'.adr k,b∈t.adr k\/F b)/\(∀b∈t'.rest k,b∈t.rest k\/N b)
 |[],t,k,h,hl,nd,ok,hF,hN,hA,hB,kG=>by
  cases h
  cases k with
  |zero=>cases hl
  |succ k=>
  have e:k+1-1-aO []=k:=by simp[aO]
  rw[e]at hA hB kG
  obtain⟨n1,n2⟩:=nd
  simp only[T.adr,gy]at n1
  refine⟨_,rfl,rfl,hs,⟨?_,fun b m m'=>?_⟩,fun b m=>?_,fun b m=>hB b m⟩
  ·simp only[T.adr,gy]
   refine⟨fun m=>?_,kG.1⟩
   rcases hA a m with z|z
   ·exact n1.1 z
   exact hF a z (aP ..)
  ·simp only[T.adr,T.rest,bB]at m m'
   rcases m' with rfl|m'
   ·rcases hB b m with z|z
    ·exact n2 b z (aP ..)
    exact hN b z (aP ..)
   exact kG.2 b m m'
  simp only[T.adr,bB]at m ⊢
  rcases m with m|m
  ·exact .inl (.inl m)
  exact(hA b m).imp .inr id
 | (false,i)::r,.lst b0 cs,k,h,hl,nd,ok,hF,hN,hA,hB,kG=>by
  simp only[AY]at h
  obtain⟨j,hj,h⟩:=bS h
  obtain⟨c,hc,h⟩:=bS h
  cases k with
  |zero=>cases hl
  |succ k=>
  have rM:aO r<k:=by simp only[aO]at hl;omega
  have e:k+1-1-aO ((false,i)::r)=k-1-aO r:=by simp only[aO];omega
  rw[e]at hA hB kG
  obtain⟨n1,n2⟩:=nd
  simp only[T.adr,T.rest,gy]at n1 n2
  have gG:T.cg cs k:=⟨n1.2,fun x hx hy=>n2 x hx (aL _ hy)⟩
  have dR:=cJ hc
  obtain⟨l1,l2,e1,e2⟩:=E7 hc
  rw[e1]at gG
  obtain⟨m1,m2,m3,m4⟩:=DM.mp gG
  obtain⟨uH,oy⟩:=E8 r (k:=k) h (by omega)
  have bZ:a∈c.adr k:=oy a (by
   have:k-aO r=(k-aO r-1)+1:=by omega
   rw[this];exact aP ..)
  obtain⟨c',p1,p2,p3,p4,p5,p6⟩:=M2 bG dw hs nG r h rM m2 (T.ae.mp ok.2 c dR) (fun b f q=>hF b f (aL _ (T.aa.mpr ⟨c,dR,q⟩))) (fun b n q=>hN b n (aL _ (T.af.mpr ⟨c,dR,q⟩))) hA hB kG
  obtain⟨q1,q2,q3⟩:=RQ nG gG p4 p5 p6 (fun b f q=>hF b f (aL _ (by rw[e1];exact q))) (fun b n q=>hN b n (aL _ (by rw[e1];exact q)))
  have ab:b0≠a:=fun z=>n1.1 (by rw[z,T.af];exact⟨c,dR,bZ⟩)
  have hv:(l1++c'::l2).map T.val=cs.map T.val:=by rw[e1];simp[p2]
  refine⟨.lst b0 (l1++c'::l2),by simp only[F0,hj,nh,hc,p1,abl,e2],rfl,⟨?_,T.ae.mpr fun w hw=>?_⟩,⟨?_,fun b m m'=>?_⟩,fun b m=>?_,fun b m=>?_⟩
  ·rw[hv]
   rcases ok.1 with z|⟨o,z⟩
   ·exact .inl (bG _ _ z ab)
   exact .inr ⟨o,bG _ _ z ab⟩
  ·rcases bw.mp hw with hw|hw
   ·refine Ey bG dw (T.ae.mp ok.2 w (by rw[e1];exact eO _ hw)) fun q=>m3 a bZ ?_
    rw[T.aq];exact eO _ (T.aa.mpr ⟨w,hw,q⟩)
   rcases bB.mp hw with rfl|hw
   ·exact p3
   refine Ey bG dw (T.ae.mp ok.2 w (by rw[e1];exact du _ (aL _ hw))) fun q=>m3 a bZ ?_
   rw[T.aq];exact du _ (T.aa.mpr ⟨w,hw,q⟩)
  ·simp only[T.adr,gy]
   refine⟨fun m=>?_,q1.1⟩
   rcases q2 b0 m with z|z
   ·exact n1.1 (by rw[e1];exact z)
   exact hF b0 z (aP ..)
  ·simp only[T.adr,T.rest,bB]at m m'
   rcases m' with rfl|m'
   ·rcases q3 b m with z|z
    ·exact n2 b (by rw[e1];exact z) (aP ..)
    exact hN b z (aP ..)
   exact q1.2 b m m'
  ·simp only[T.adr,bB]at m ⊢
   rcases m with m|m
   ·exact .inl (.inl m)
   rw[e1];exact(q2 b m).imp .inr id
  simp only[T.rest]at m ⊢
  rw[e1];exact q3 b m
 | (true,i)::r,.tup b0 cs,k,h,hl,nd,ok,hF,hN,hA,hB,kG=>by
  simp only[AY]at h
  obtain⟨j,hj,h⟩:=bS h
  obtain⟨c,hc,h⟩:=bS h
  have rM:aO r<k:=hl
  have gG:T.cg cs k:=nd
  have dR:=cJ hc
  obtain⟨l1,l2,e1,e2⟩:=E7 hc
  rw[e1]at gG
  obtain⟨m1,m2,m3,m4⟩:=DM.mp gG
  obtain⟨uH,oy⟩:=E8 r (k:=k) h (by omega)
  have bZ:a∈c.adr k:=oy a (by
   have:k-aO r=(k-aO r-1)+1:=by omega
   rw[this];exact aP ..)
  obtain⟨c',p1,p2,p3,p4,p5,p6⟩:=M2 bG dw hs nG r h rM m2 (T.ae.mp ok.2 c dR) (fun b f q=>hF b f (T.aa.mpr ⟨c,dR,q⟩)) (fun b n q=>hN b n (T.af.mpr ⟨c,dR,q⟩)) hA hB kG
  obtain⟨q1,q2,q3⟩:=RQ nG gG p4 p5 p6 (fun b f q=>hF b f (by rw[T.rest,e1];exact q)) (fun b n q=>hN b n (by rw[T.adr,e1];exact q))
  have ab:b0≠a:=fun z=>by
   obtain⟨vs,y,mu⟩:=dw
   have:=ok.1
   rw[z,y]at this;cases this
   exact nomatch (show false=true from mu)
  have hv:(l1++c'::l2).map T.val=cs.map T.val:=by rw[e1];simp[p2]
  refine⟨.tup b0 (l1++c'::l2),by simp only[F0,hj,nh,hc,p1,abl,e2],rfl,⟨?_,T.ae.mpr fun w hw=>?_⟩,q1,fun b m=>?_,fun b m=>?_⟩
  ·rw[hv];exact bG _ _ ok.1 ab
  ·rcases bw.mp hw with hw|hw
   ·refine Ey bG dw (T.ae.mp ok.2 w (by rw[e1];exact eO _ hw)) fun q=>m3 a bZ ?_
    rw[T.aq];exact eO _ (T.aa.mpr ⟨w,hw,q⟩)
   rcases bB.mp hw with rfl|hw
   ·exact p3
   refine Ey bG dw (T.ae.mp ok.2 w (by rw[e1];exact du _ (aL _ hw))) fun q=>m3 a bZ ?_
   rw[T.aq];exact du _ (T.aa.mpr ⟨w,hw,q⟩)
  ·simp only[T.adr]at m ⊢
   rw[e1];exact q2 b m
  simp only[T.rest]at m ⊢
  rw[e1];exact q3 b m
 | (false,i)::r,.tup a ts,k,h,_,_,_,_,_,_,_,_=>by cases h
 | (true,i)::r,.lst a ts,k,h,_,_,_,_,_,_,_,_=>by cases h
 | (b,i)::r,.aJ,k,h,_,_,_,_,_,_,_,_=>by cases b<;>cases h
 | (b,i)::r,.bl _,k,h,_,_,_,_,_,_,_,_=>by cases b<;>cases h
 | (b,i)::r,.int _,k,h,_,_,_,_,_,_,_,_=>by cases b<;>cases h
 | (b,i)::r,.str _,k,h,_,_,_,_,_,_,_,_=>by cases b<;>cases h
 | (b,i)::r,.cq _ _,k,h,_,_,_,_,_,_,_,_=>by cases b<;>cases h
 | (b,i)::r,.eS _ _ _,k,h,_,_,_,_,_,_,_,_=>by cases b<;>cases h
 | (b,i)::r,.eU _ _ _,k,h,_,_,_,_,_,_,_,_=>by cases b<;>cases h
end
theorem JU:∀(q:List (Bool×Int)){t s:T}{k:Nat},AY q t=some s->aO q<=k->t.Nd k->s.Nd (k-aO q)
 |[],t,s,k,h,_,n=>by cases h;exact n
 | (false,i)::r,.lst a ts,s,k,h,hl,n=>by
  simp only[AY]at h
  obtain⟨j,_,h⟩:=bS h
  obtain⟨c,hc,h⟩:=bS h
  cases k with
  |zero=>simp[aO]at hl
  |succ k=>
  obtain⟨n1,n2⟩:=n
  simp only[T.adr,T.rest,gy]at n1 n2
  have gG:T.cg ts k:=⟨n1.2,fun x hx hy=>n2 x hx (aL _ hy)⟩
  obtain⟨l1,l2,e1,_⟩:=E7 hc
  rw[e1]at gG
  have:=JU r (k:=k) h (by simp[aO]at hl;exact hl) (DM.mp gG).2.1
  have e:k+1-aO ((false,i)::r)=k-aO r:=by simp only[aO];omega
  rw[e];exact this
 | (true,i)::r,.tup a ts,s,k,h,hl,n=>by
  simp only[AY]at h
  obtain⟨j,_,h⟩:=bS h
  obtain⟨c,hc,h⟩:=bS h
  have gG:T.cg ts k:=n
  obtain⟨l1,l2,e1,_⟩:=E7 hc
  rw[e1]at gG
  exact JU r (k:=k) h hl (DM.mp gG).2.1
 | (false,i)::r,.tup a ts,s,k,h,_,_=>by cases h
 | (true,i)::r,.lst a ts,s,k,h,_,_=>by cases h
 | (b,i)::r,.aJ,s,k,h,_,_=>by cases b<;>cases h
 | (b,i)::r,.bl _,s,k,h,_,_=>by cases b<;>cases h
 | (b,i)::r,.int _,s,k,h,_,_=>by cases b<;>cases h
 | (b,i)::r,.str _,s,k,h,_,_=>by cases b<;>cases h
 | (b,i)::r,.cq _ _,s,k,h,_,_=>by cases b<;>cases h
theorem Jj(ts:List T)(j:Nat)(t:T):T.ai (ts.set j t)=(T.ai ts).set j t.dat:=by rw[T.aw,T.aw,nW]
theorem Iz{f:List D->Option (List D)}:∀(q:List (Bool×Int)){t:T}{d':D},CP f q t.dat=some d'->∃a ts iK,AY q t=some (.lst a ts)/\f (T.ai ts)=some iK/\∀us t',T.ai us=iK->F0 (.lst a us) q t=some t'->t'.dat=d'
 |[],t,d',h=>by
  cases t with
  |lst a ts=>
   simp only[T.dat,CP]at h
   obtain⟨iK,h1,rfl⟩:=fP.mp h
   exact⟨a,ts,iK,rfl,h1,fun us t' e1 e2=>by cases e2;simp[T.dat,e1]⟩
  |_=>cases h
 | (b,i)::r,t,d',h=>by
  cases b with
  |false=>
   cases t with
   |lst a ts=>
    simp only[T.dat,CP,Ao]at h
    obtain⟨j,hj,h⟩:=bS h
    obtain⟨d,hd,h⟩:=bS h
    obtain⟨d2,h1,rfl⟩:=fP.mp h
    obtain⟨c,hc,rfl⟩:=Hd hd
    obtain⟨a',uB,iK,s1,s2,s3⟩:=Iz r h1
    refine⟨a',uB,iK,by simp only[AY,hj,nh,hc,s1],s2,fun us t' e1 e2=>?_⟩
    simp only[F0,hj,nh,hc]at e2
    obtain⟨c',e3,rfl⟩:=fP.mp e2
    simp only[T.dat,Jj,s3 us c' e1 e3]
   |_=>cases h
  |true=>
   cases t with
   |tup a ts=>
    simp only[T.dat,CP,Ao]at h
    obtain⟨j,hj,h⟩:=bS h
    obtain⟨d,hd,h⟩:=bS h
    obtain⟨d2,h1,rfl⟩:=fP.mp h
    obtain⟨c,hc,rfl⟩:=Hd hd
    obtain⟨a',uB,iK,s1,s2,s3⟩:=Iz r h1
    refine⟨a',uB,iK,by simp only[AY,hj,nh,hc,s1],s2,fun us t' e1 e2=>?_⟩
    simp only[F0,hj,nh,hc]at e2
    obtain⟨c',e3,rfl⟩:=fP.mp e2
    simp only[T.dat,Jj,s3 us c' e1 e3]
   |_=>cases h
section
variable{p:Px}{H0:Hp}{A0:Addr->Prop}{m m1:Ms}{Y:Ft}{H H1:Hp}
theorem RR{x k:Nat}{t:T}{q:List (Bool×Int)}{a:Addr}{ts us:List T}{F N:Addr->Prop}(S:Sf p H0 A0 m Y H)(s:ag H H1)(hx:Y[x]?=some (some t))(hm:m[x]?=some (.ow k))(hq:AY q t=some (.lst a ts))(hl:aO q<k)(rR:T.cV p H1 us)(nG:∀b,F b->N b)
  (hA:∀b∈T.aj us (k-1-aO q),b∈T.aj ts (k-1-aO q)\/F b) (hB:∀b∈T.rests us (k-1-aO q),b∈T.rests ts (k-1-aO q)\/N b) (kG:T.cg us (k-1-aO q))
  (f0:∀b,F b->b∉t.rest 0) (f1:∀b,F b->H0 b=none/\Mu H1 b) (f4:∀b,F b->Own m Y b\/H b=none) (n0:∀b,N b->b∉t.adr k) (n1:∀b,N b->H0 b=none\/A0 b)
  (hlen:m1.length=m.length) (dq:m1[x]?=some (.ow k)) (ma:∀(j:Nat)(d:Md),j≠x->m1[j]?=some d->d≠.dead->m[j]?=some d/\(q≠[]->∀k2,d≠.br k2))
  (f2:∀(j:Nat)(u:T)(d:Md),j≠x->Y[j]?=some (some u)->m1[j]?=some d->d≠.dead->∀b,F b->b∉u.rest d.low) (n2:∀(i:Nat)(u:T)(k':Nat),i≠x->Y[i]?=some (some u)->m1[i]?=some (.ow k')->∀b,N b->b∉u.adr k') :
  ∃t',F0 (.lst a us) q t=some t'/\t'.val=t.val/\Sf p H0 A0 m1 (Y.set x (some t')) (L2.upd H1 a (.lst (us.map T.val)))/\cE m m1 [x] Y (Y.set x (some t')) H (L2.upd H1 a (.lst (us.map T.val))):=by
 have S1:=S.grow s
 obtain⟨uH,oy⟩:=E8 q (k:=k) hq (by omega)
 have ek:k-aO q=(k-1-aO q)+1:=by omega
 have bZ:a∈t.adr k:=oy a (by rw[ek];exact aP ..)
 have oz:a∈t.rest 0:=(T.aB t k).mpr (.inl bZ)
 have gG:=JU q hq (by omega:aO q<=k) (S.nd x t k hx hm)
 rw[ek]at gG
 obtain⟨nd1,nd2⟩:=gG
 simp only[T.adr,T.rest,gy]at nd1 nd2
 have dw:Mu H1 a:=(S1.own x t k a hx hm bZ).2
 have bG:∀b w,H1 b=some w->b≠a->L2.upd H1 a (.lst (us.map T.val)) b=some w:=fun b w e n=>by rw[Av n];exact e
 have aus:a∉T.rests us 0:=fun z=>by
  rcases (T.aC us (k-1-aO q)).mp z with z|z
  ·rcases hA a z with y|y
   ·exact nd1.1 y
   exact f0 a y oz
  rcases hB a z with y|y
  ·exact nd2 a y (aP ..)
  exact n0 a y bZ
 have hs:(T.lst a us).Ok p (L2.upd H1 a (.lst (us.map T.val))):=⟨.inl AX,T.ae.mpr fun u hu=>Ey bG dw (T.ae.mp rR u hu) fun z=>aus (T.aa.mpr ⟨u,hu,z⟩)⟩
 obtain⟨t',p1,p2,p3,p4,p5,p6⟩:=M2 bG dw hs nG q hq hl (S.nd x t k hx hm) (S1.at hx hm (by intro c;cases c)) f0 n0 hA hB kG
 have w_:∀b∈t'.rest 0,b∈t.rest 0\/N b:=fun b z=>by
  rcases (T.aB t' k).mp z with z|z
  ·exact(p5 b z).imp (fun y=>(T.aB t k).mpr (.inl y)) (nG b)
  exact(p6 b z).imp (fun y=>(T.aB t k).mpr (.inr y)) id
 have sm0:0<k/\k<90:=of_decide_eq_true (S.small _ (cJ hm))
 have sm:=sm0.2
 have other:∀{j:Nat}{u:T}{d:Md},j≠x->Y[j]?=some (some u)->m1[j]?=some d->d≠.dead->u.Ok p (L2.upd H1 a (.lst (us.map T.val))):=by
  intro j u d ne e hd nd
  obtain⟨h1,h2⟩:=ma j d ne hd nd
  refine Ey bG dw (S1.at e h1 nd) ?_
  cases d with
  |sh=>exact S.sep x j t u k _ (Ne.symm ne) hx hm e h1 nd a bZ
  |ow k2=>exact S.sep x j t u k _ (Ne.symm ne) hx hm e h1 nd a bZ
  |br k2=>
   cases q with
   |nil=>
    cases hq
    exact S.top x j _ u k k2 hx hm e h1 a ts rfl
   |cons _ _=>exact absurd rfl (h2 (by simp) k2)
  |dead=>exact absurd rfl nd
 refine⟨t',p1,p2,⟨by rw[iD,hlen];exact S.len,fun d hd=>?_,fun b u e=>?_,fun i u j e ej l=>?_,fun i u k' b e bJ z=>?_,fun b sh=>?_,fun i u k' e bJ=>?_,fun i j u w k' d ne e bJ e' hd nd b z=>?_,fun i j u w k' k2 e bJ e' hd b cs z=>?_⟩,
  fun b u e n=>?_,fun b o=>?_,fun i hi=>?_,fun i _=>by rw[YH hx p2]⟩
 ·obtain⟨i,hi,rfl⟩:=qY hd
  by_cases z:i=x
  ·subst z
   rw[d_ hi]at dq
   rw[Option.some.inj dq]
   exact decide_eq_true sm0
  by_cases y:m1[i]=.dead
  ·rw[y];rfl
  exact S.small _ (cJ (ma i _ z (d_ hi) y).1)
 ·rw[Av (fun z=>by
   have:=(S.own x t k a hx hm bZ).1
   rw[z]at e
   rw[this]at e;cases e)]
  exact S1.same b u e
 ·obtain⟨d,hd,rfl⟩:=A8 ej
  rcases Ai e with⟨rfl,e2⟩|⟨ne,e1⟩
  ·cases e2;exact p3
  exact other ne e1 hd (fun z=>by subst z;exact absurd l (by decide))
 ·rcases Ai e with⟨rfl,e2⟩|⟨ne,e1⟩
  ·cases e2
   rw[dq]at bJ
   cases bJ
   rcases p5 b z with y|y
   ·obtain⟨y1,vs,y2,mu⟩:=S1.own i t k b hx hm y
    by_cases w:b=a
    ·subst w;exact⟨y1,_,AX,rfl⟩
    exact⟨y1,vs,bG _ _ y2 w,mu⟩
   obtain⟨y1,vs,y2,mu⟩:=f1 b y
   exact⟨y1,vs,bG _ _ y2 (fun w=>f0 b y (w▸oz)),mu⟩
  obtain⟨h1,_⟩:=ma i _ ne bJ (by intro c;cases c)
  obtain⟨y1,vs,y2,mu⟩:=S1.own i u k' b e1 h1 z
  exact⟨y1,vs,bG _ _ y2 (fun w=>S.sep x i t u k _ (Ne.symm ne) hx hm e1 h1 (by intro c;cases c) a bZ (w▸(T.aB u k').mpr (.inl z))),mu⟩
 ·obtain⟨i,u,j,e,ej,l,z⟩:=sh
  obtain⟨d,hd,rfl⟩:=A8 ej
  rcases Ai e with⟨rfl,e2⟩|⟨ne,e1⟩
  ·cases e2
   rw[dq]at hd
   cases hd
   rcases p6 b z with y|y
   ·exact S.src b ⟨i,t,k,hx,AV hm,sm,y⟩
   exact n1 b y
  obtain⟨h1,_⟩:=ma i _ ne hd (fun z=>by subst z;exact absurd l (by decide))
  exact S.src b ⟨i,u,_,e1,AV h1,l,z⟩
 ·rcases Ai e with⟨rfl,e2⟩|⟨ne,e1⟩
  ·cases e2
   rw[dq]at bJ
   cases bJ
   exact p4
  exact S.nd i u k' e1 (ma i _ ne bJ (by intro c;cases c)).1
 ·rcases Ai e with⟨rfl,e2⟩|⟨ne1,e1⟩
  ·cases e2
   rw[dq]at bJ
   cases bJ
   rcases Ai e' with⟨z',_⟩|⟨ne2,e3⟩
   ·exact absurd z'.symm ne
   rcases p5 b z with y|y
   ·exact S.sep i j t w k d ne hx hm e3 (ma j d ne2 hd nd).1 nd b y
   exact f2 j w d ne2 e3 hd nd b y
  obtain⟨h1,_⟩:=ma i _ ne1 bJ (by intro c;cases c)
  rcases Ai e' with⟨z',e2⟩|⟨ne2,e3⟩
  ·cases e2
   subst z'
   rw[dq]at hd
   cases hd
   intro y
   rcases w_ b y with y|y
   ·exact S.sep i j u t k' _ ne e1 h1 hx hm (by intro c;cases c) b z y
   exact n2 i u k' ne1 e1 bJ b y z
  exact S.sep i j u w k' d ne e1 h1 e3 (ma j d ne2 hd nd).1 nd b z
 ·have ne2:j≠x:=fun y=>by subst y;rw[dq]at hd;cases hd
  rcases Ai e' with⟨y,_⟩|⟨_,e3⟩
  ·exact absurd y ne2
  obtain⟨h3,h4⟩:=ma j _ ne2 hd (by intro c;cases c)
  rcases Ai e with⟨rfl,e2⟩|⟨ne1,e1⟩
  ·cases e2
   rw[dq]at bJ
   cases bJ
   cases q with
   |nil=>
    cases hq
    cases p1
    cases z
    exact S.top i j _ w k k2 hx hm e3 h3 _ ts rfl
   |cons _ _=>exact absurd rfl (h4 (by simp) k2)
  exact S.top i j u w k' k2 e1 (ma i _ ne1 bJ (by intro c;cases c)).1 e3 h3 b cs z
 ·rw[Av (show b≠a from fun z=>n ⟨x,t,k,hx,hm,by rw[z];exact bZ⟩)]
  exact s b u e
 ·obtain⟨i,u,k',e,bJ,z⟩:=o
  rcases Ai e with⟨rfl,e2⟩|⟨ne,e1⟩
  ·cases e2
   rw[dq]at bJ
   cases bJ
   rcases p5 b z with y|y
   ·exact .inl ⟨i,t,k,hx,hm,y⟩
   exact f4 b y
  exact .inl ⟨i,u,k',e1,(ma i _ ne bJ (by intro c;cases c)).1,z⟩
 rw[gY (fun z=>hi (by simp[z]))]
end
structure Zx where
 p:Px
 H0:Hp
 A0:Addr->Prop
 EX:cG
 mx:Ms
 dep:Nat
abbrev Um.kind:Um->Nat
 |.append=>1
 |.extend=>2
 |_=>0
mutual
noncomputable def uI:S->List Nat
 |.asg x _ _=>[x,x+1000]
 |.gv _ _=>[]
 |.dead _=>[]
 |.eE xs _=>up xs
 |.set x _ _ _=>[x]
 |.mut x _ _ _=>[x]
 |.expr _=>[]
 |.iff _ a b=>bj a++bj b
 |.wh _ b=>bj b
 |.cY g _ b=>up g.sl++bj b
 |.ret _=>[]
 |.gD _=>[]
 |.raise _ _=>[]
 |.fx b _ i h e=>bj b++(i::(i+1000)::(bj h++bj e))
noncomputable def bj:Ss->List Nat
 |.nil=>[]
 |.cons s r=>uI s++bj r
end
abbrev Aai(a b:Ms):Ms:=List.zipWith Md.meet a b
abbrev IA:Option Ms->Option Ms->Option Ms
 |none,b=>b
 |a,none=>a
 |some a,some b=>some (Aai a b)
abbrev Mg(i:Nat):Option Ms->Option Ms
 |some m=>some (m.set i .dead)
 |none=>none
abbrev oA:Option Ms->Option Ms->Bool
 |some a,some r=>eh a r
 |none,_=>true
 |some _,none=>false
abbrev E.xa:E->Option Nat
 |.nm x=>some x
 |_=>none
theorem aJ{α:Type}{y:α}{P:Prop}(h:none=some y):P:=nomatch h
theorem RS{e:E}{x:Nat}(h:e.xa=some x):e=.nm x:=by
 cases e<;>first|exact aJ h|(cases h;rfl)
abbrev It.sP:It->Option Nat
 |.bQ e=>e.xa
 |_=>none
abbrev rk(m:Ms)(e:E):Option Nat:=match e with
 |.nm i=>match m[i]? with
  |some (.ow k)=>some k
  |some .sh=>some 0
  |_=>none
 |e=>(jk (a7 m) e).bind fun x=>if x.1=0 then some x.2 else none
abbrev Mh(m:Ms):E->Option (Nat×Nat)
 |.nm i=>match m[i]? with
  |some (.ow k)=>some (i,k)
  |_=>none
 |_=>none
theorem T6{i k:Nat}(h:Mh m e=some (i,k)):e=.nm i/\m[i]?=some (.ow k):=by
 unfold Mh at h
 split at h
 ·split at h
  ·cases h;exact⟨rfl,‹_›⟩
  cases h
 cases h
abbrev qM(m:Ms):List Nat->Es->Option Nat
 |_,.nil=>some 9
 |I,.cons e r=>match Mh m e with
  |some (i,k)=>if i∈I then none else(qM m (i::I) r).bind fun k2=>some (min k k2)
  |none=>(jk (a7 m) e).bind fun c=>if c.1=0 then(qM m I r).bind fun k2=>some (min c.2 k2) else none
abbrev CQ(m:Ms):Ms:=m.map fun d=>match d with
 |.br _=>.dead
 |d=>d
abbrev F3(m:Ms):List (Bool×E)->Bool
 |[]=>true
 | (_,e)::r=>(jk (a7 m) e).isSome&&F3 m r
abbrev ib:List (Bool×E)->Nat
 |[]=>0
 | (false,_)::r=>ib r+1
 | (true,_)::r=>ib r
abbrev Es.sQ(m:Ms):Es->Option (Nat×Nat)
 |.cons e .nil=>e.xa.bind fun y=>(match m[y]? with
  |some (.ow k)=>some (y,k)
  |_=>none)
 |_=>none
abbrev xb{α:Type}(o:Option Md)(f:Nat->Option α):Option α:=match o with
 |some (.ow k)=>f k
 |_=>none
theorem Ws{α:Type}{o:Option Md}{f:Nat->Option α}{y:α}(h:xb o f=some y):∃k,o=some (.ow k)/\f k=some y:=by
 unfold xb at h
 split at h
 ·exact⟨_,rfl,h⟩
 cases h
theorem M3{c:Prop}[Decidable c]{α:Type}{x:Option α}{y:α}(h:(if c then x else none)=some y):c/\x=some y:=by
 split at h
 ·exact⟨‹_›,h⟩
 cases h
mutual
noncomputable def msS(mx:Ms)(dep:Nat):S->Ms->Option (Option Ms)
 |.asg x k e,m=>(jk (a7 m) e).bind fun c=>if c.1=0/\k<=c.2/\x<m.length/\k<90/\eh m mx=true then some (some (m.set x (l_ k))) else none
 |.gv x k,m=>if eh m (m.set x (l_ k))=true then some (some (m.set x (l_ k))) else none
 |.dead x,m=>if eh m (m.set x .dead)=true then some (some (m.set x .dead)) else none
 |.eE xs e,m=>(jk (a7 m) e).bind fun c=>if c.1=0/\eh m mx=true then some (some (Ap m xs .sh)) else none
 |.set x p i e,m=>(jk (a7 m) e).bind fun c=>(jk (a7 m) i).bind fun _=>match m[x]? with
  |some (.ow k)=>if c.1=0/\ib p<k/\k-1-ib p<=c.2/\F3 m p=true/\eh m mx=true then some (some (if p.isEmpty then m else CQ m)) else none
  |_=>none
 |.mut x p u es,m=>xb m[x]? fun k=>if ib p<k/\F3 m p=true/\eh m mx=true then(match es.sQ m with
    |some (y,ky)=>if u=.append/\y≠x/\k-1-ib p<=ky/\p.isEmpty=true then some (some (m.set y (.br ky))) else none
    |none=>(j0 (a7 m) es).bind fun c=>if(c.1=0\/(u=.extend/\c.1<=1))/\(k-1-ib p=0\/(u.kind=1/\k-1-ib p<=c.2)\/(u.kind=2/\k-ib p<=c.2)\/u.kind=0) then some (some (if p.isEmpty then m else CQ m)) else none) else none
 |.expr e,m=>(jk (a7 m) e).bind fun _=>if eh m mx=true then some (some m) else none
 |.iff c a b,m=>(jk (a7 m) c).bind fun _=>if eh m mx=true then(eF mx dep a m).bind fun ra=>(eF mx dep b m).bind fun rb=>if oA ra (IA ra rb)=true/\oA rb (IA ra rb)=true then some (IA ra rb) else none
  else none
 |.wh c b,m=>(jk (a7 m) c).bind fun _=>if eh m mx=true then(eF mx dep b m).bind fun r=>match r with
   |none=>some (some m)
   |some mb=>if eh mb m=true then some (some m) else none
  else none
 |.cY g it b,m=>(qG (a7 m) it).bind fun j=>if eh m mx=true/\eh m (Ap m g.sl .dead)=true/\(j=0\/∃x,it.sP=some x/\x∉bj b/\x∉up g.sl) then(eF mx dep b (Ap (Ap m g.sl .dead) g.sl .sh)).bind fun r=>match r with
   |none=>some (some (Ap m g.sl .dead))
   |some mb=>if eh mb (Ap m g.sl .dead)=true then some (some (Ap m g.sl .dead)) else none
  else none
 |.ret e,m=>(rk m e).bind fun k=>if(dep<=k/\dep<1000)/\eh m mx=true then some none else none
 |.gD es,m=>(qM m [] es).bind fun k=>if(dep<=k/\dep<1000)/\eh m mx=true then some none else none
 |.raise _ es,m=>(j0 (a7 m) es).bind fun _=>if eh m mx=true then some none else none
 |.fx b _ i h e,m=>if eh m (Ap m (bj b) .dead)=true then(eF (Ap m (bj b) .dead) dep b m).bind fun rb=>
   (eF (aaq m.length .dead) dep h ((Ap m (bj b) .dead).set i .sh)).bind fun rh=>
    (match rb with
     |none=>some none
     |some m1=>eF mx dep e m1).bind fun re=>if oA re (IA re (Mg i rh))=true/\oA (Mg i rh) (IA re (Mg i rh))=true then some (IA re (Mg i rh)) else none
  else none
noncomputable def eF(mx:Ms)(dep:Nat):Ss->Ms->Option (Option Ms)
 |.nil,m=>some (some m)
 |.cons s r,m=>(msS mx dep s m).bind fun o=>match o with
  |none=>some none
  |some m1=>eF mx dep r m1
end
abbrev cx(Z:Zx)(w:List Nat)(d:D)(Y:Ft)(E:Ends):Prop:=if Z.dep<1000 then ∀(t:T)(H':Hp),t.dat=d->Rs Z.p Z.A0 Z.H0 H' 0 Z.dep t->E.rt t.val H'
 else Z.dep∉w/\∀(b:Bool)(us:List T)(a:Addr)(H':Hp),d=.tup [.bl b,.lst (T.ai us)]->(aM Y)[Z.dep-1000]?=some (some (.ref a))->(T.lst a us).Ok Z.p H'->(Mu H' a)->ag Z.H0 H'->E.rt (.bl b) H'
theorem cx.lo{Z:Zx}{w:List Nat}{d:D}{Y:Ft}{E:Ends}(h:cx Z w d Y E)(hd:Z.dep<1000){t:T}{H':Hp}(e:t.dat=d)(R:Rs Z.p Z.A0 Z.H0 H' 0 Z.dep t):E.rt t.val H':=by
 unfold cx at h
 rw[if_pos hd]at h
 exact h t H' e R
theorem cx.to{Z Z2:Zx}{w w2:List Nat}{d:D}{Y fk:Ft}{E E2:Ends}(h:cx Z w d Y E)(hw:∀i∈w2,i∈w)(hv:∀i,i+1000∉w->(aM fk)[i]?=(aM Y)[i]?)(he:E2.rt=E.rt:=by rfl)(hz:cx Z2 w2 d fk E2=cx Z w2 d fk E2:=by rfl):cx Z2 w2 d fk E2:=by
 rw[hz];clear hz
 unfold cx at *
 rw[he]
 split
 ·rename_i c;rw[if_pos c]at h;exact h
 rename_i c
 rw[if_neg c]at h
 have e:Z.dep-1000+1000=Z.dep:=Nat.sub_add_cancel (iZ.mp c)
 refine⟨fun z=>h.1 (hw _ z),fun b us a H' e1 e2=>h.2 b us a H' e1 ?_⟩
 rw[<- hv (Z.dep-1000) (by rw[e];exact h.1)]
 exact e2
abbrev bE(Z:Zx)(m:Ms)(r:Option Ms)(w:List Nat)(o:Out)(Y:Ft)(H:Hp)(D:Ends):Prop:=match o with
 |.bb aQ=>∀(m':Ms)(Y':Ft)(H':Hp),r=some m'->aR Y'=aQ->Sf Z.p Z.H0 Z.A0 m' Y' H'->cE m m' w Y Y' H H'->D.nx (aM Y') H'
 |.ret d=>cx Z w d Y D
 |.exc c aQ=>Z.p.has (jL c)=true->∀(Y':Ft)(H':Hp),aR Y'=aQ->Sf Z.p Z.H0 Z.A0 Z.mx Y' H'->cE m Z.mx w Y Y' H H'->XW Z.p (Z.EX (aM Y')) c H'
 |.bad=>False
abbrev lS(Z:Zx)(s:S):TS:=fun D U H=>∃Y m r,U=aM Y/\Sf Z.p Z.H0 Z.A0 m Y H/\msS Z.mx Z.dep s m=some r/\bE Z m r (uI s) (ex s (aR Y)) Y H D
abbrev fX(Z:Zx)(s:Ss):TS:=fun D U H=>∃Y m r,U=aM Y/\Sf Z.p Z.H0 Z.A0 m Y H/\eF Z.mx Z.dep s m=some r/\bE Z m r (bj s) (exs s (aR Y)) Y H D
theorem gu.mono{X:Cx}{st:List Stmt}{t t':TS}(h:gu X st t)(m:∀D U H,t' D U H->t D U H):gu X st t':=fun pins s U H D I q=>h pins s U H D I (m _ _ _ q)
section
variable{Z:Zx}{m:Ms}{r:Option Ms}{w:List Nat}{Y:Ft}{H:Hp}{D:Ends}{X:Cx}{pos:Pos}
theorem bE.lg{α:Type}{q:Res α}{f:α->Out}(S:Sf Z.p Z.H0 Z.A0 m Y H)(hm:eh m Z.mx=true)(h:bE Z m r w (q.out (aR Y) f) Y H D):Lg Z.p Z.EX (aM Y) q H fun a=>bE Z m r w (f a) Y H D:=by
 cases q with
 |ok a=>exact h
 |exc c=>exact fun hc H' s=>h hc Y H' rfl ((S.weak hm).grow s) (cE.refl w hm s)
 |bad=>exact h
theorem AI{c:Prop}[Decidable c]{α:Type}{x y:α}(h:(if c then some x else none)=some y):c/\x=y:=by
 split at h
 ·exact⟨‹_›,Option.some.inj h⟩
 cases h
theorem YJ{x k:Nat}(h:lS Z (.asg x k e) D U H):∃Y m,U=aM Y/\Sf Z.p Z.H0 Z.A0 m Y H/\HD (lE Z.p Z.EX (a7 m) e) (Gm x) D U H:=by
 obtain⟨Y,m,r,rfl,S,hr,h⟩:=h
 obtain⟨⟨j1,k1⟩,h1,hr⟩:=bS hr
 obtain⟨⟨c1,c2,c3,c4,c5⟩,rfl⟩:=AI hr
 have c1:j1=0:=c1
 subst c1
 refine⟨Y,m,rfl,S,Y,rfl,S.ok,0,k1,h1,?_⟩
 simp only[ex]at h
 refine(h.lg S c5).mono (ag.refl _) fun d _ h t H1 ht R=>?_
 subst ht
 obtain⟨S2,P2⟩:=RN S R c2 c3 c4
 show D.nx ((aM Y).set x (some t.val)) H1
 rw[<- GS]
 exact h _ _ H1 rfl (FP Y x t) S2 P2
end
theorem Qb{i:Nat}(h:(CQ m)[i]?=some d):(d=.dead)\/(m[i]?=some d/\∀k2,d≠.br k2):=by
 unfold CQ at h
 rw[dg]at h
 obtain⟨d',h1,h2⟩:=fP.mp h
 cases d' with
 |br k=>exact .inl h2.symm
 |sh=>cases h2;exact .inr ⟨h1,by simp⟩
 |ow k=>cases h2;exact .inr ⟨h1,by simp⟩
 |dead=>exact .inl h2.symm
theorem RT{i k:Nat}(h:m[i]?=some (.ow k)):(CQ m)[i]?=some (.ow k):=by
 unfold CQ;rw[dg,h];rfl
section
variable{p:Px}{H0:Hp}{A0:Addr->Prop}{m:Ms}{Y:Ft}{H H1:Hp}
theorem RU{x k:Nat}{q:List (Bool×Int)}(S:Sf p H0 A0 m Y H)(s:ag H H1)(hx:Y[x]?=some (some t))(hm:m[x]?=some (.ow k))(hq:AY q t=some (.lst a ts))(hl:aO q<k)(rR:T.cV p H1 us)
  (hA:∀b∈T.aj us (k-1-aO q),b∈T.aj ts (k-1-aO q)\/b∈T.aj es (k-1-aO q)) (hB:∀b∈T.rests us (k-1-aO q),b∈T.rests ts (k-1-aO q)\/b∈T.rests es 0)
  (kG:T.cg ts (k-1-aO q)->(∀b∈T.aj es (k-1-aO q),b∉T.rests ts 0)->(∀b∈T.aj ts (k-1-aO q),b∉T.rests es 0)->T.cg us (k-1-aO q))
  (src:∀b∈T.rests es 0,H b=none\/Sh (a7 m) Y b) (new:∀b∈T.aj es (k-1-aO q),H b=none/\Mu H1 b) :
  ∃t',F0 (.lst a us) q t=some t'/\t'.val=t.val/\Sf p H0 A0 (if q.isEmpty then m else CQ m) (Y.set x (some t')) (L2.upd H1 a (.lst (us.map T.val)))/\cE m (if q.isEmpty then m else CQ m) [x] Y (Y.set x (some t')) H (L2.upd H1 a (.lst (us.map T.val))):=by
 have fV:∀{j:Nat}{u:T}{d:Md},Y[j]?=some (some u)->m[j]?=some d->d≠.dead->∀b∈u.rest 0,H b≠none:=fun e hd nd b z=>(S.at e hd nd).fV z
 obtain⟨uH,oy⟩:=E8 q (k:=k) hq (by omega)
 have ek:k-aO q=(k-1-aO q)+1:=by omega
 have gG:=JU q hq (by omega:aO q<=k) (S.nd x t k hx hm)
 rw[ek]at gG oy
 have xc:T.cg ts (k-1-aO q):=by
  obtain⟨n1,n2⟩:=gG
  simp only[T.adr,T.rest,gy]at n1 n2
  exact⟨n1.2,fun b z y=>n2 b z (aL _ y)⟩
 have hxd:∀b∈t.rest 0,H b≠none:=fV hx hm (by intro c;cases c)
 have jn:∀b∈T.rests es 0,¬Own m Y b:=fun b z o=>by
  rcases src b z with y|y
  ·obtain⟨_,vs,e,mu⟩:=S.dG o
   rw[e]at y;cases y
  exact S.l7 o y
 have uJ:∀(j:Nat)(d:Md),(if q.isEmpty then m else CQ m)[j]?=some d->d≠.dead->m[j]?=some d/\(q≠[]->∀k2,d≠.br k2):=by
  intro j d hd nd
  cases q with
  |nil=>exact⟨hd,fun z=>absurd rfl z⟩
  |cons z r=>
  rcases Qb hd with y|⟨y1,y2⟩
  ·exact absurd y nd
  exact⟨y1,fun _=>y2⟩
 refine RR (F:=fun b=>b∈T.aj es (k-1-aO q)) (N:=fun b=>b∈T.rests es 0) S s hx hm hq hl rR (fun b z=>(T.aC es _).mpr (.inl z)) hA hB ?_ (fun b z y=>hxd b y (new b z).1) (fun b z=>⟨S.same.free (new b z).1,(new b z).2⟩) (fun b z=>.inr (new b z).1)
  (fun b z y=>jn b z ⟨x,t,k,hx,hm,y⟩) (fun b z=>?_) ?_ ?_ (fun j d _ hd nd=>uJ j d hd nd) (fun j u d ne e hd nd b z y=>?_) (fun i u k' ne e hk b z y=>?_)
 ·refine kG xc (fun b z y=>?_) (fun b z y=>?_)
  ·exact hxd b (uH b (aL _ y)) (new b z).1
  exact jn b y ⟨x,t,k,hx,hm,oy b (aL _ z)⟩
 ·rcases src b z with y|y
  ·exact .inl (S.same.free y)
  exact S.src b y
 ·split
  ·rfl
  unfold CQ;rw[aF]
 ·split
  ·exact hm
  exact RT hm
 ·exact fV e (uJ j d hd nd).1 nd b (T.ay u (cK _) y) (new b z).1
 exact jn b z ⟨i,u,k',e,(uJ i _ hk (by intro c;cases c)).1,y⟩
theorem M4{k:Nat}(ne:e.Nd k)(h1:T.cg ts k)(h2:∀b∈T.aj [e] k,b∉T.rests ts 0)(h3:∀b∈T.aj ts k,b∉T.rests [e] 0):T.cg (ts++[e]) k :=
 T.dU h1 (T.aY.mpr ⟨ne,by simp[T.cg,T.aj],by simp[T.rests],by simp[T.aj]⟩) h3 h2
theorem Wt{ts:List T}{j:Nat}{c e:T}{k:Nat}(hc:ts[j]?=some c)(ne:e.Nd k)(h1:T.cg ts k)(h2:∀b∈T.aj [e] k,b∉T.rests ts 0)(h3:∀b∈T.aj ts k,b∉T.rests [e] 0) :
  T.cg (ts.set j e) k/\(∀b∈T.aj (ts.set j e) k,b∈T.aj ts k\/b∈T.aj [e] k)/\(∀b∈T.rests (ts.set j e) k,b∈T.rests ts k\/b∈T.rests [e] 0):=by
 obtain⟨l1,l2,e1,e2⟩:=E7 hc
 rw[e1]at h1 h2 h3
 rw[e2,e1]
 refine⟨DM.mpr ⟨(DM.mp h1).1,ne,fun b z y=>h2 b (by simpa[T.aj] using z) ?_,fun b z y=>h3 b ?_ (by simpa[T.rests] using y)⟩,fun b z=>?_,fun b z=>?_⟩
 ·simp only[T.aq,T.rests,bw]at y ⊢
  rcases y with y|y
  ·exact .inl y
  exact .inr (.inr y)
 ·simp only[T.az,T.aj,bw]at z ⊢
  rcases z with z|z
  ·exact .inl z
  exact .inr (.inr z)
 ·simp only[T.az,T.aj,bw,iB]at z ⊢
  rcases z with z|z|z
  ·exact .inl (.inl z)
  ·exact .inr z
  exact .inl (.inr (.inr z))
 simp only[T.aq,T.rests,bw,iB]at z ⊢
 rcases z with z|z|z
 ·exact .inl (.inl z)
 ·exact .inr (T.ay e (cK _) z)
 exact .inl (.inr (.inr z))
end
theorem HS:∀(q:List (Bool×E))(δ:Fr)(c:Nat),evP q δ≠.exc c
 |[],δ,c=>by simp[evP]
 | (t,e)::r,δ,c=>by
  simp only[evP]
  split
  ·cases h:evP r δ with
   |ok is=>simp
   |exc c'=>exact absurd h (HS r δ c')
   |bad=>simp
  simp
theorem M5:∀(q:List (Bool×E)){δ:Fr}{b:Bool}{e:E}{is:List (Bool×Int)},evP (q++[(b,e)]) δ=.ok is->∃js i,evP q δ=.ok js/\ev e δ=.ok (.int i)/\is=js++[(b,i)]
 |[],δ,b,e,is,h=>by
  simp only[aaX,evP]at h
  split at h
  ·rename_i i he
   simp only[Res.bind_ok]at h
   cases h
   exact⟨[],i,rfl,he,rfl⟩
  cases h
 | (t,e')::r,δ,b,e,is,h=>by
  simp only[aaY,evP]at h
  split at h
  ·rename_i i' sF
   obtain⟨js',h1,h2⟩:=Res.cb h
   cases h2
   obtain⟨js,i,h3,h4,rfl⟩:=M5 r h1
   exact⟨(t,i')::js,i,by simp only[evP,sF,h3,Res.bind_ok],h4,rfl⟩
  cases h
theorem HU:∀(q:List (Bool×Int)){t s':T}{b:Bool}{i:Int},AY (q++[(b,i)]) t=some s'->∃s,AY q t=some s/\AY [(b,i)] s=some s'
 |[],t,s',b,i,h=>⟨t,rfl,h⟩
 | (c,j)::r,t,s',b,i,h=>by
  cases c with
  |false=>
   cases t with
   |lst a ts=>
    simp only[aaY,AY]at h ⊢
    obtain⟨n,h1,h⟩:=bS h
    obtain⟨u,h2,h⟩:=bS h
    obtain⟨s,h3,h4⟩:=HU r h
    exact⟨s,by rw[h1];simp only[nh];rw[h2];exact h3,h4⟩
   |_=>cases h
  |true=>
   cases t with
   |tup a ts=>
    simp only[aaY,AY]at h ⊢
    obtain⟨n,h1,h⟩:=bS h
    obtain⟨u,h2,h⟩:=bS h
    obtain⟨s,h3,h4⟩:=HU r h
    exact⟨s,by rw[h1];simp only[nh];rw[h2];exact h3,h4⟩
   |_=>cases h
theorem GV:∀(q:List (Bool×Int)){t s:T},t.Ok p H->AY q t=some s->s.Ok p H
 |[],t,s,ok,h=>by cases h;exact ok
 | (c,j)::r,t,s,ok,h=>by
  cases c with
  |false=>
   cases t with
   |lst a ts=>
    simp only[AY]at h
    obtain⟨n,h1,h⟩:=bS h
    obtain⟨u,h2,h⟩:=bS h
    exact GV r (T.ae.mp ok.2 u (cJ h2)) h
   |_=>cases h
  |true=>
   cases t with
   |tup a ts=>
    simp only[AY]at h
    obtain⟨n,h1,h⟩:=bS h
    obtain⟨u,h2,h⟩:=bS h
    exact GV r (T.ae.mp ok.2 u (cJ h2)) h
   |_=>cases h
theorem Wu{b:Bool}{i:Int}(h:AY [(b,i)] s=some s'):(∃a ts,s=.lst a ts/\lh (ts.map T.val) i=some s'.val)\/(∃a ts,s=.tup a ts/\lh (ts.map T.val) i=some s'.val):=by
 cases b with
 |false=>
  cases s with
  |lst a ts=>
   simp only[AY]at h
   obtain⟨n,h1,h⟩:=bS h
   obtain⟨u,h2,h⟩:=bS h
   cases h
   refine .inl ⟨a,ts,rfl,?_⟩
   unfold lh
   rw[aF,MP,h1]
   show(ts.map T.val)[n]?=_
   rw[dg,h2];rfl
  |_=>cases h
 |true=>
  cases s with
  |tup a ts=>
   simp only[AY]at h
   obtain⟨n,h1,h⟩:=bS h
   obtain⟨u,h2,h⟩:=bS h
   cases h
   refine .inr ⟨a,ts,rfl,?_⟩
   unfold lh
   rw[aF,MP,h1]
   show(ts.map T.val)[n]?=_
   rw[dg,h2];rfl
  |_=>cases h
abbrev U4(tn:List Nat)(q:List (Bool×E)):Prop:=∀e∈q,(jk tn e.2).isSome=true
abbrev pP(p:Px)(EX:cG)(tn:List Nat)(x:Nat)(q:List (Bool×E)):TE:=fun U H Q=>∃Y t is s,U=aM Y/\gE p tn Y H/\U4 tn q/\Y[x]?=some (some t)/\t.Ok p H/\evP q (aR Y)=.ok is/\AY is t=some s/\∀H',ag H H'->Q s.val H'
abbrev GH(c:dz)(x:Nat):List (Bool×E)->Expr->Bool
 |[],.Name y _=>(c.N[x]?==some y)&&GG c.sc y&&BM y
 | (_,e)::r,.Subscript o i _=>GH c x r o&&bc c e i&&Bd i
 |_,_=>false
section
variable{p:Px}{c:dz}{lv:Nat}{X:Cx}{EX:cG}{tn:List Nat}{pos np:Pos}
theorem Qc(C:Ct p c lv X EX){x:Nat}:∀{rp:List (Bool×E)}{o:Expr},(∀e∈rp,∀n∈e.2.need,aE p lv X n)->GH c x rp o=true->PE X o (pP p EX tn x rp.reverse)
 |[],o,hn,h=>by
  cases o with
  |Name y q=>
   obtain⟨h,h3⟩:=Ab (show((c.N[x]?==some y)&&GG c.sc y&&BM y)=true from h)
   obtain⟨h1,h2⟩:=Ab h
   obtain⟨d1,d2⟩:=BU h3
   refine PE.mono (GK (by rw[C.N];exact beq_iff_eq.mp h1) (C.qK h2) d1 d2) fun U H Q h=>?_
   obtain⟨Y,t,is,s,rfl,hF,_,ht,ok,e,hs,hq⟩:=h
   simp only[List.reverse_nil,evP]at e
   cases e
   cases hs
   exact⟨_,DL ht,hq H (ag.refl _)⟩
  |_=>exact au h
 | (b,e)::rp,o,hn,h=>by
  cases o with
  |Subscript o' i q=>
   obtain⟨h,h3⟩:=Ab (show(GH c x rp o'&&bc c e i&&Bd i)=true from h)
   obtain⟨h1,h2⟩:=Ab h
   have A:=Qc C (rp:=rp) (o:=o') (fun e he=>hn e (aL _ he)) h1
   have B:=(snd e C (tn:=tn) i (hn (b,e) (aP ..)) h2).1
   refine PE.mono (Ma (Kq.or Q4) A B (Gr h3)) fun U H Q h=>?_
   rw[List.reverse_cons]at h
   obtain⟨Y,t,is,s,rfl,hF,hj,ht,ok,ev1,hs,hq⟩:=h
   obtain⟨js,n,e1,e2,rfl⟩:=M5 _ ev1
   obtain⟨s1,lC,kq⟩:=HU _ hs
   refine⟨Y,t,js,s1,rfl,hF,fun e he=>hj e (eO _ he),ht,ok,e1,lC,fun H1 sm=>?_⟩
   obtain⟨⟨j,k⟩,oo⟩:=jD.mp (hj (b,e) (du _ (gp.mpr rfl)))
   refine⟨Y,rfl,hF.same sm,j,k,oo,?_⟩
   rw[e2]
   intro t2 H2 jl R
   have hv:t2.val=.int n:=by cases t2<;>simp[T.dat]at jl<;>simp[T.val,jl]
   rw[hv]
   have ok1:=(GV _ ok lC).same (sm.trans R.same)
   rcases Wu kq with⟨a,ts,rfl,at1⟩|⟨a,ts,rfl,at1⟩
   ·exact .inl ⟨a,_,n,_,rfl,rfl,.inl ok1.1,at1,hq H2 (sm.trans R.same)⟩
   exact .inr ⟨a,_,n,_,rfl,rfl,dP.of ok1.1,at1,hq H2 (sm.trans R.same)⟩
  |_=>exact au h
theorem Gv:∀{q:List (Bool×E)},F3 m q=true->U4 (a7 m) q
 |[],_=>fun e he=>nomatch he
 | (b,e)::r,h=>by
  obtain⟨h1,h2⟩:=Ab (show((jk (a7 m) e).isSome&&F3 m r)=true from h)
  intro e' he
  rcases bB.mp he with rfl|he
  ·exact h1
  exact Gv h2 e' he
theorem M6:∀{q:List (Bool×E)}{δ:Fr}{is:List (Bool×Int)},evP q δ=.ok is->aO is=ib q/\is.isEmpty=q.isEmpty
 |[],δ,is,h=>by simp only[evP]at h;cases h;exact⟨rfl,rfl⟩
 | (b,e)::r,δ,is,h=>by
  simp only[evP]at h
  split at h
  ·obtain⟨js,h1,h2⟩:=Res.cb h
   cases h2
   have:=(M6 h1).1
   cases b<;>simp[aO,ib,this]
  cases h
theorem OK{δ:Fr}{x:Nat}{f:D->Option D}{w:List Nat}(h:bE Z m r w (upd (aR Y) x f) Y H En):∃t d',Y[x]?=some (some t)/\f t.dat=some d'/\bE Z m r w (.bb ((aR Y).set x (some d'))) Y H En:=by
 unfold upd at h
 cases q:(aR Y)[x]? with
 |none=>rw[q]at h;exact nE h
 |some o=>
  rw[q]at h
  cases o with
  |none=>exact nE h
  |some d=>
   have:get (aR Y) x=.ok d:=by unfold get;rw[q]
   obtain⟨t,ht,rfl⟩:=FL this
   simp only at h
   cases q2:f t.dat with
   |none=>rw[q2]at h;exact nE h
   |some d'=>rw[q2]at h;exact⟨t,d',ht,q2,h⟩
end
theorem M7{x:Nat}(h:Y[x]?=some (some t))(e:t'.val=t.val):aM (Y.set x (some t'))=aM Y:=by
 rw[GS,e]
 refine vb fun i=>?_
 by_cases z:x=i
 ·subst z
  rw[qV,DL h];rfl
 rw[gY z]
theorem M8(h:Rd H a (.lst vs))(hp:Mu H a):H a=some (.lst vs):=by
 rcases h with h|⟨o,h⟩
 ·exact h
 obtain⟨ws,e,mu⟩:=hp
 rw[h]at e;cases e
 exact nomatch (show false=true from mu)
section
variable{Z:Zx}{m:Ms}{r:Option Ms}{w:List Nat}{Y:Ft}{H:Hp}{D:Ends}{X:Cx}{pos:Pos}{U:L2.St}
theorem YK{x:Nat}{q:List (Bool×E)}(h:lS Z (.set x q i e) D U H):∃m,HD (lE Z.p Z.EX (a7 m) e) (Xu (pP Z.p Z.EX (a7 m) x q) (lE Z.p Z.EX (a7 m) i) UU) D U H:=by
 obtain⟨Y,m,r,rfl,S,hr,h⟩:=h
 refine⟨m,?_⟩
 obtain⟨⟨j1,k1⟩,h1,hr⟩:=bS hr
 obtain⟨⟨j2,k2⟩,h2,hr⟩:=bS hr
 split at hr
 ·rename_i k dq
  obtain⟨⟨c1,c2,c3,c4,c5⟩,rfl⟩:=AI hr
  have c1:j1=0:=c1
  subst c1
  simp only[ex]at h
  refine⟨Y,rfl,S.ok,0,k1,h1,(h.lg S c5).mono (ag.refl _) fun d _ h te H1 xf R=>?_⟩
  subst xf
  cases ep:evP q (aR Y) with
  |exc c=>exact absurd ep (HS _ _ _)
  |bad=>rw[ep]at h;exact nE h
  |ok is=>
  rw[ep]at h
  cases ei:ev i (aR Y) with
  |exc c=>rw[ei]at h;exact nE h
  |bad=>rw[ei]at h;exact nE h
  |ok di=>
  rw[ei]at h
  cases di with
  |int n=>
   simp only at h
   obtain⟨t,d',ht,hu,h⟩:=OK (δ:=aR Y) h
   obtain⟨a,ts,iK,hs,hf,ey⟩:=Iz is hu
   unfold Mb at hf
   obtain⟨j,hj,rfl⟩:=fP.mp hf
   rw[Ao]at hj
   obtain⟨l1,l2⟩:=M6 ep
   refine⟨Y,t,is,.lst a ts,rfl,S.ok.same R.same,Gv c4,ht,(S.at ht dq (by intro c;cases c)).same R.same,ep,hs,fun H2 s2=>?_⟩
   refine⟨Y,rfl,S.ok.same (R.same.trans s2),j2,k2,h2,?_⟩
   rw[ei]
   intro t2 H3 jl R3
   have hv:t2.val=.int n:=by cases t2<;>simp[T.dat]at jl<;>simp[T.val,jl]
   rw[hv]
   have s3:ag H1 H3:=s2.trans R3.same
   have ot:ag H H3:=R.same.trans s3
   have S3:=S.grow ot
   have hl:aO is<k:=by rw[l1];exact c2
   have bZ:a∈t.adr k:=(E8 is (k:=k) hs (by omega)).2 a (by
    have:k-aO is=(k-aO is-1)+1:=by omega
    rw[this];exact aP ..)
   have jP:=GV _ (S3.at ht dq (by intro c;cases c)) hs
   have dw:=M8 jP.1 (S3.own x t k a ht dq bZ).2
   have n_:j<ts.length:=by
    unfold dE at hj
    split at hj
    ·split at hj
     ·cases hj;omega
     cases hj
    split at hj
    ·cases hj;omega
    cases hj
   have hc:ts[j]?=some ts[j]:=d_ n_
   refine⟨a,_,n,j,rfl,rfl,dw,by rw[aF];exact hj,?_⟩
   rw[<- nW]
   have R':Rs Z.p (Sh (a7 m) Y) H H3 0 (k-1-aO is) te:=(R.fwd s3).le (bx _) (by rw[l1];exact c3)
   obtain⟨t',p1,p2,S4,P4⟩:=RU (us:=ts.set j te) (es:=[te]) S ot ht dq hs hl (T.ae.mpr fun w hw=>by
     rcases qh hw with z|rfl
     ·exact T.ae.mp jP.2 w z
     exact R'.ok)
    (fun b z=>(show b∈T.aj ts _\/b∈T.aj [te] _ from by
     obtain⟨w,hw,z2⟩:=T.af.mp z
     rcases qh hw with y|rfl
     ·exact .inl (T.af.mpr ⟨w,y,z2⟩)
     exact .inr (by simpa[T.aj] using z2)))
    (fun b z=>(by
     obtain⟨w,hw,z2⟩:=T.aa.mp z
     rcases qh hw with y|rfl
     ·exact .inl (T.aa.mpr ⟨w,y,z2⟩)
     exact .inr (by simpa[T.rests] using T.ay w (cK _) z2)))
    (fun n1 n2 n3=>(Wt hc R'.nd n1 n2 n3).1)
    (fun b z=>R'.src b (by simpa[T.rests] using z)) (fun b z=>R'.new b (by simpa[T.aj] using z))
   have:=h _ _ _ (by rw[l2]) (by rw[FP,ey _ _ (Jj ..) p1]) S4 P4
   rw[M7 ht p2]at this
   exact this
  |_=>exact nE h
 cases hr
theorem OL{K:Frag}{H:Hp}{a:Addr}{vs:List V}(h:H a=some (.lst vs)):n8 K "list" (.ref a) H:=.inl ⟨rfl,_,fi.of h⟩
theorem M9{x:Nat}{q:List (Bool×E)}{k:Nat}(S:Sf Z.p Z.H0 Z.A0 m Y H)(dq:m[x]?=some (.ow k))(c2:ib q<k)(c4:F3 m q=true)(h:bE Z m r [x] (ex (.mut x q u es) (aR Y)) Y H D) :
  ∃t is ds a ts iK,Y[x]?=some (some t)/\evP q (aR Y)=.ok is/\evs es (aR Y)=.ok ds/\AY is t=some (.lst a ts)/\aO is=ib q/\is.isEmpty=q.isEmpty/\jZ u ds (T.ai ts)=some iK /\
   (∀H3,ag H H3->H3 a=some (.lst (ts.map T.val))/\T.cV Z.p H3 ts/\a∈t.adr k) /\
   (∀us m' H3 t',T.ai us=iK->r=some m'->F0 (.lst a us) is t=some t'->t'.val=t.val->Sf Z.p Z.H0 Z.A0 m' (Y.set x (some t')) (L2.upd H3 a (.lst (us.map T.val)))->cE m m' [x] Y (Y.set x (some t')) H (L2.upd H3 a (.lst (us.map T.val)))->D.nx (aM Y) (L2.upd H3 a (.lst (us.map T.val)))):=by
 simp only[ex]at h
 cases ep:evP q (aR Y) with
 |exc c=>exact absurd ep (HS _ _ _)
 |bad=>rw[ep]at h;exact nE h
 |ok is=>
 rw[ep]at h
 cases ee:evs es (aR Y) with
 |exc c=>rw[ee]at h;exact nE h
 |bad=>rw[ee]at h;exact nE h
 |ok ds=>
 rw[ee]at h
 simp only at h
 obtain⟨t,d',ht,hu,h⟩:=OK (δ:=aR Y) h
 obtain⟨a,ts,iK,hs,hf,ey⟩:=Iz is hu
 obtain⟨l1,l2⟩:=M6 ep
 refine⟨t,is,ds,a,ts,iK,ht,rfl,rfl,hs,l1,l2,hf,fun H3 ot=>?_,fun us m' H3 t' e1 e2 p1 p2 S4 P4=>?_⟩
 ·have S3:=S.grow ot
  have hl:aO is<k:=by rw[l1];exact c2
  have bZ:a∈t.adr k:=(E8 is (k:=k) hs (by omega)).2 a (by
   have:k-aO is=(k-aO is-1)+1:=by omega
   rw[this];exact aP ..)
  have jP:=GV _ (S3.at ht dq (by intro c;cases c)) hs
  exact⟨M8 jP.1 (S3.own x t k a ht dq bZ).2,jP.2,bZ⟩
 have:=h m' _ _ e2 (by rw[FP,ey us t' e1 p1]) S4 P4
 rw[M7 ht p2]at this
 exact this
abbrev rUm:Um->V->List V->Hp->VK->Prop
 |.append=>Iv
 |.extend=>fun x vs H Q=>∃l b xs zs,x=.ref l/\vs=[.ref b]/\H l=some (.lst xs)/\Rd H b (.lst zs)/\xs.length+zs.length<=sizeLine/\Q .aJ (L2.upd H l (.lst (xs++zs)))
 |.clear=>Q6
abbrev T7:V->List V->Hp->VK->Prop:=fun x vs H Q=>∃l b xs zs,x=.ref l/\vs=[.ref b]/\H l=some (.lst xs)/\Rd H b (.lst zs)/\xs.length+zs.length<=sizeLine/\Q .aJ (L2.upd H l (.lst (xs++zs)))
end
section
variable{X:Cx}
theorem Qd:vZ X "list.extend" T7:=by
 intro pins s U H x vs v us Q I rx rv h
 obtain⟨l,b,xs,zs,rfl,rfl,hH,hB,hz,q⟩:=h
 cases rx
 obtain⟨u,rfl,ru⟩:=rv.one
 cases ru
 obtain⟨z,ah,n,r,hl,e⟩:=I.pv hH
 obtain⟨z2,jf,n2,r2,hl2,e2⟩:=Inv.nA I hB
 have z_:ah.toArray.size+jf.toArray.size<=sizeLine:=by rw[eQ,eQ];omega
 have lP:¬(!ah.toArray.isEmpty&&Builtin.List.listTooLong (ah.toArray.size+jf.toArray.size))=true:=by
  rw[MB z_,ab7]
  exact qq
 refine call_meets F.slot_list_extend ⟨_,e,rfl⟩ F.entry_list_extend (F.args_list_extend_2 _ _)
  (AutoSeq1.list_extend_list_list_0 l ah.toArray n b jf.toArray n2 lP (by rw[eQ];omega) (by omega)) ⟨e,e2,?_⟩
 refine⟨.aJ,_,I.pq (its':=ah++jf) hH e (by simp) (r.append r2) ?_,rfl,q⟩
 rw[eP]
 omega
end
section
variable{Z:Zx}{m:Ms}{r:Option Ms}{w:List Nat}{Y:Ft}{H:Hp}{D:Ends}{X:Cx}{pos:Pos}{U:L2.St}
theorem Wv{x:Nat}{q:List (Bool×E)}{k:Nat}(hK:X.K=Z.p.K)(S:Sf Z.p Z.H0 Z.A0 m Y H)(dq:m[x]?=some (.ow k))(c2:ib q<k)(c4:F3 m q=true){j1 k1:Nat}(h1:j0 (a7 m) es=some (j1,k1))
  (hc:(j1=0\/(u=.extend/\j1<=1))/\(k-1-ib q=0\/(u.kind=1/\k-1-ib q<=k1)\/(u.kind=2/\k-ib q<=k1)\/u.kind=0)) (hr:r=some (if q.isEmpty then m else CQ m)) (h:bE Z m r [x] (ex (.mut x q u es) (aR Y)) Y H D) :
  pP Z.p Z.EX (a7 m) x q (aM Y) H fun v H1=>n8 X.K "list" v H1/\jM Z.p Z.EX (a7 m) es (aM Y) H1 fun vs H2=>rUm u v vs H2 fun _ H3=>D.nx (aM Y) H3:=by
 obtain⟨t,is,ds,a,ts,iK,ht,ep,ee,hs,l1,l2,hf,dw,xg⟩:=M9 S dq c2 c4 h
 subst hr
 refine⟨Y,t,is,.lst a ts,rfl,S.ok,Gv c4,ht,S.at ht dq (by intro c;cases c),ep,hs,fun H1 s1=>⟨OL (dw H1 s1).1,?_⟩⟩
 refine⟨Y,rfl,S.ok.same s1,j1,k1,h1,?_⟩
 rw[ee]
 intro xh H2 xf R
 subst xf
 have s2:ag H H2:=s1.trans R.same
 obtain⟨p0,jP,bZ⟩:=dw H2 s2
 have hl:aO is<k:=by rw[l1];exact c2
 have fin:∀us hJ,T.ai us=iK->T.cV Z.p H2 us->(∀b∈T.aj us (k-1-aO is),b∈T.aj ts (k-1-aO is)\/b∈T.aj hJ (k-1-aO is))->(∀b∈T.rests us (k-1-aO is),b∈T.rests ts (k-1-aO is)\/b∈T.rests hJ 0)->
   (T.cg ts (k-1-aO is)->(∀b∈T.aj hJ (k-1-aO is),b∉T.rests ts 0)->(∀b∈T.aj ts (k-1-aO is),b∉T.rests hJ 0)->T.cg us (k-1-aO is))->(∀b∈T.rests hJ 0,H b=none\/Sh (a7 m) Y b)->(∀b∈T.aj hJ (k-1-aO is),H b=none/\Mu H2 b)->
   D.nx (aM Y) (L2.upd H2 a (.lst (us.map T.val))):=by
  intro us hJ e1 e2 e3 e4 e5 e6 e7
  obtain⟨t',p1,p2,S4,P4⟩:=RU (us:=us) (es:=hJ) S s2 ht dq hs hl e2 e3 e4 e5 e6 e7
  rw[l2]at S4 P4
  exact xg us _ H2 t' e1 rfl p1 p2 S4 P4
 have hz:ts.length<=sizeLine\/True:=.inr trivial
 cases u with
 |append=>
  rcases xh with _|⟨te,_|⟨xi,sR⟩⟩
  ·cases hf
  ·simp only[T.ai,jZ]at hf
   obtain⟨bU,rfl⟩:=AI hf
   have hj:j1=0:=by
    rcases hc.1 with z|⟨z,_⟩
    ·exact z
    cases z
   subst hj
   have sS:k-1-aO is<=k1\/k-1-aO is=0:=by
    rw[l1]
    rcases hc.2 with z|⟨_,z⟩|⟨z,_⟩|z
    ·exact .inr z
    ·exact .inl z
    ·cases z
    cases z
   refine⟨a,_,te.val,rfl,rfl,p0,by rw[aF,<- Ao];exact bU,?_⟩
   have:=fin (ts++[te]) [te] (by rw[T.aw,aax,<- T.aw];rfl) (T.ae.mpr fun w hw=>by
     rcases bw.mp hw with z|z
     ·exact T.ae.mp jP w z
     exact T.ae.mp R.ok w z)
    (fun b z=>by rw[T.az,bw]at z;exact z) (fun b z=>by
     rw[T.aq,bw]at z
     refine z.imp id fun z=>?_
     simp only[T.rests,iB]at z ⊢
     exact T.ay te (cK _) z)
    (fun n1 n2 n3=>M4 (by
     rcases sS with z|z
     ·exact(T.eZ z R.nd:T.cg [te] _) |> fun w=>(T.aY.mp w).1
     rw[z];exact T.bY te) n1 n2 n3)
    (fun b z=>(R.src b z).imp s1.free id) (fun b z=>by
     rcases sS with y|y
     ·obtain⟨w,hw,z⟩:=T.af.mp z
      have:=R.new b (T.af.mpr ⟨w,hw,T.ax w y z⟩)
      exact⟨s1.free this.1,this.2⟩
     rw[y,T.cD]at z;cases z)
   rw[aax]at this
   exact this
  have:jZ .append (T.ai (te::xi::sR)) (T.ai ts)=none:=rfl
  rw[this]at hf;cases hf
 |extend=>
  rcases xh with _|⟨te,_|⟨xi,sR⟩⟩
  ·cases hf
  ·cases te with
   |lst b0 hJ=>
    simp only[T.ai,T.dat,jZ]at hf
    obtain⟨bU,rfl⟩:=AI hf
    have hj:j1<=1:=by
     rcases hc.1 with z|⟨_,z⟩
     ·omega
     exact z
    have sS:k-1-aO is+1<=k1\/k-1-aO is=0:=by
     rw[l1]
     rcases hc.2 with z|⟨z,_⟩|⟨_,z⟩|z
     ·exact .inr z
     ·cases z
     ·exact .inl (by omega)
     cases z
    refine⟨a,b0,_,_,rfl,rfl,p0,R.ok.1.1,by rw[aF,aF,<- Ao,<- Ao];exact bU,?_⟩
    have nde:T.cg hJ (k-1-aO is):=by
     rcases sS with z|z
     ·obtain⟨n1,n2⟩:=(T.aY.mp (T.eZ z R.nd)).1
      simp only[T.adr,T.rest,gy]at n1 n2
      exact⟨n1.2,fun b y w=>n2 b y (aL _ w)⟩
     rw[z];exact T.fU _
    have:=fin (ts++hJ) hJ (by rw[T.aw,aax,<- T.aw,<- T.aw]) (T.ae.mpr fun w hw=>by
      rcases bw.mp hw with z|z
      ·exact T.ae.mp jP w z
      exact T.ae.mp R.ok.1.2 w z)
     (fun b z=>by rw[T.az,bw]at z;exact z) (fun b z=>by
      rw[T.aq,bw]at z
      refine z.imp id fun z=>?_
      obtain⟨w,hw,z2⟩:=T.aa.mp z
      exact T.aa.mpr ⟨w,hw,T.ay w (cK _) z2⟩)
     (fun n1 n2 n3=>T.dU n1 nde n3 n2)
     (fun b z=>(R.src b (by
      simp only[T.rests,iB]
      exact T.ay (.lst b0 hJ) hj (j':=1) z)).imp s1.free id) (fun b z=>by
      rcases sS with y|y
      ·have:=R.new b (T.af.mpr ⟨.lst b0 hJ,gp.mpr rfl,T.ax (.lst b0 hJ) y (aL _ z)⟩)
       exact⟨s1.free this.1,this.2⟩
      rw[y,T.cD]at z;cases z)
    rw[aax]at this
    exact this
   |_=>cases hf
  have:jZ .extend (T.ai (te::xi::sR)) (T.ai ts)=none:=rfl
  rw[this]at hf;cases hf
 |clear=>
 rcases xh with _|⟨te,sR⟩
 ·cases hf
  refine⟨a,_,rfl,rfl,p0,?_⟩
  exact fin [] [] rfl trivial (fun b z=>nomatch z) (fun b z=>nomatch z) (fun n1 _ _=>by simp[T.cg,T.aj]) (fun b z=>nomatch z) (fun b z=>nomatch z)
 have:jZ .clear (T.ai (te::sR)) (T.ai ts)=none:=rfl
 rw[this]at hf;cases hf
end
section
variable{p:Px}{H0:Hp}{A0:Addr->Prop}{m:Ms}{Y:Ft}{H H1:Hp}
theorem Aaj{y ky:Nat}(S:Sf p H0 A0 (m.set y .dead) Y H)(hy:Y[y]?=some (some ty))(hm:y<m.length)(w8:ky<90)(ok:ty.Ok p H)(src:∀a∈ty.rest ky,H0 a=none\/A0 a)
  (sep:∀(i:Nat)(t:T)(k:Nat),Y[i]?=some (some t)->(m.set y .dead)[i]?=some (.ow k)->∀a∈t.adr k,a∉ty.rest ky) (top:∀(i:Nat)(t:T)(k:Nat),Y[i]?=some (some t)->(m.set y .dead)[i]?=some (.ow k)->∀a ts,t=.lst a ts->a∉ty.rest 0):Sf p H0 A0 (m.set y (.br ky)) Y H:=by
 have back:∀{i:Nat}{d:Md},(m.set y (.br ky))[i]?=some d->(i=y/\d=.br ky)\/(i≠y/\(m.set y .dead)[i]?=some d):=by
  intro i d h
  rcases Ai h with z|⟨z1,z2⟩
  ·exact .inl z
  exact .inr ⟨z1,by rw[gY (Ne.symm z1)];exact z2⟩
 have qN:∀{i k:Nat},(m.set y (.br ky))[i]?=some (.ow k)->(m.set y .dead)[i]?=some (.ow k):=by
  intro i k h
  rcases back h with⟨_,z⟩|⟨_,z⟩
  ·cases z
  exact z
 refine⟨by have:=S.len;rw[iD]at this ⊢;exact this,fun d hd=>?_,S.same,fun i t j e ej l=>?_,fun i t k a e hk q=>S.own i t k a e (qN hk) q,fun a sh=>?_,fun i t k e hk=>S.nd i t k e (qN hk),fun i j t u k d ne e hk e' hd nd a q=>?_,fun i j t u k k2 e hk e' hd a ts z=>?_⟩
 ·obtain⟨i,hi,rfl⟩:=qY hd
  rcases back (d_ hi) with⟨_,z⟩|⟨_,z⟩
  ·rw[z];exact decide_eq_true w8
  exact S.small _ (cJ z)
 ·obtain⟨d,hd,rfl⟩:=A8 ej
  rcases back hd with⟨rfl,z⟩|⟨_,z⟩
  ·rw[hy]at e;cases e;exact ok
  exact S.ok i t _ e (AV z) l
 ·obtain⟨i,t,j,e,ej,l,q⟩:=sh
  obtain⟨d,hd,rfl⟩:=A8 ej
  rcases back hd with⟨rfl,z⟩|⟨_,z⟩
  ·rw[hy]at e;cases e;subst z;exact src a q
  exact S.src a ⟨i,t,_,e,AV z,l,q⟩
 ·rcases back hd with⟨rfl,z⟩|⟨_,z⟩
  ·rw[hy]at e';cases e';subst z;exact sep i t k e (qN hk) a q
  exact S.sep i j t u k d ne e (qN hk) e' z nd a q
 rcases back hd with⟨rfl,z'⟩|⟨_,z'⟩
 ·rw[hy]at e';cases e';exact top i t k e (qN hk) a ts z
 exact S.top i j t u k k2 e (qN hk) e' z' a ts z
theorem Ww{x y k ky:Nat}{ty:T}{a:Addr}{ts:List T}(S:Sf p H0 A0 m Y H)(s:ag H H1)(hx:Y[x]?=some (some (.lst a ts)))(hm:m[x]?=some (.ow k))(hy:Y[y]?=some (some ty))(gV:m[y]?=some (.ow ky))(b8:y≠x)(hk:k-1<=ky) :
  Sf p H0 A0 (m.set y (.br ky)) (Y.set x (some (.lst a (ts++[ty])))) (L2.upd H1 a (.lst ((ts++[ty]).map T.val)))/\cE m (m.set y (.br ky)) [x] Y (Y.set x (some (.lst a (ts++[ty])))) H (L2.upd H1 a (.lst ((ts++[ty]).map T.val))):=by
 have S1:=S.grow s
 have sm:0<k/\k<90:=of_decide_eq_true (S.small _ (cJ hm))
 have xj:0<ky/\ky<90:=of_decide_eq_true (S.small _ (cJ gV))
 have no:∀{k0:Nat},Md.ow k0≠.dead:=by intro k0 c;cases c
 have xk:y<m.length:=(gP.mp gV).1
 have uK:∀b∈(T.lst a ts).adr k,b∉ty.rest 0:=S.sep x y _ ty k _ (Ne.symm b8) hx hm hy gV no
 have syx:∀b∈ty.adr ky,b∉(T.lst a ts).rest 0:=S.sep y x ty _ ky _ b8 hy gV hx hm no
 obtain⟨k',rfl⟩:∃k',k=k'+1:=⟨k-1,by omega⟩
 have bZ:a∈(T.lst a ts).adr (k'+1):=aP ..
 have ndx:=S.nd x _ _ hx hm
 have xc:T.cg ts k':=by
  obtain⟨n1,n2⟩:=ndx
  simp only[T.adr,T.rest,gy]at n1 n2
  exact⟨n1.2,fun b z y=>n2 b z (aL _ y)⟩
 have bJ:k'<=ky:=by omega
 have okx:=S1.at hx hm no
 have oky:=S1.at hy gV no
 have e0:k'+1-1-aO []=k':=by simp[aO]
 obtain⟨t',p1,p2,S2,P2⟩:=RR (F:=fun b=>b∈ty.adr k') (N:=fun b=>b∈ty.rest 0) (m1:=m.set y .dead) (us:=ts++[ty]) (q:=[]) S s hx hm rfl (by simp[aO])
  (T.ae.mpr fun w hw=>by
   rcases bw.mp hw with z|z
   ·exact T.ae.mp okx.2 w z
   cases gp.mp z;exact oky)
  (fun b z=>(T.aB ty k').mpr (.inl z))
  (by
   rw[e0]
   intro b z
   rw[T.az,bw]at z
   exact z.imp id fun z=>by simpa[T.aj] using z)
  (by
   rw[e0]
   intro b z
   rw[T.aq,bw]at z
   exact z.imp id fun z=>T.ay ty (cK k') (by simpa[T.rests] using z))
  (by
   rw[e0]
   exact M4 (T.c8 ty bJ (S.nd y ty ky hy gV)) xc (fun b z w=>syx b (T.ax ty bJ (by simpa[T.aj] using z)) (aL _ w)) (fun b z w=>uK b (aL _ z) (by simpa[T.rests] using w)))
  (fun b z=>syx b (T.ax ty bJ z)) (fun b z=>S1.own y ty ky b hy gV (T.ax ty bJ z)) (fun b z=>.inl ⟨y,ty,ky,hy,gV,T.ax ty bJ z⟩) (fun b z w=>uK b w z)
  (fun b z=>by
   rcases (T.aB ty ky).mp z with w|w
   ·exact .inl (S.own y ty ky b hy gV w).1
   exact S.src b ⟨y,ty,ky,hy,AV gV,xj.2,w⟩)
  (by rw[iD]) (by rw[gY b8];exact hm)
  (fun j d ne hd nd=>by
   rcases Ai hd with⟨_,z⟩|⟨_,z⟩
   ·exact absurd z nd
   exact⟨z,fun w=>absurd rfl w⟩)
  (fun j u d ne e hd nd b z=>by
   rcases Ai hd with⟨_,w⟩|⟨w,hd⟩
   ·exact absurd w nd
   exact S.sep y j ty u ky d (Ne.symm w) hy gV e hd nd b (T.ax ty bJ z))
  (fun i u k2 ne e fL b z w=>by
   rcases Ai fL with⟨_,w'⟩|⟨w',fL⟩
   ·cases w'
   exact S.sep i y u ty k2 _ w' e fL hy gV no b w z)
 cases p1
 have hy':(Y.set x (some (.lst a (ts++[ty]))))[y]?=some (some ty):=by rw[gY (Ne.symm b8)];exact hy
 have pQ:a∉ty.rest 0:=uK a bZ
 refine⟨Aaj S2 hy' xk xj.2 ?_ (fun b z=>S.src b ⟨y,ty,ky,hy,AV gV,xj.2,z⟩) (fun i t k2 e fL b z w=>?_) (fun i t k2 e fL b cs z=>?_),P2.keep,fun b o=>P2.grow b ?_,P2.wr,P2.ad⟩
 ·refine Ey (H:=H1) (fun b w e n=>by rw[Av n];exact e) (S1.own x _ _ a hx hm bZ).2 oky pQ
 ·rcases Ai e with⟨rfl,e2⟩|⟨n1,e1⟩
  ·cases e2
   rcases Ai fL with⟨w',_⟩|⟨_,fL⟩
   ·exact b8 w'.symm
   rw[hm]at fL
   cases fL
   simp only[T.adr,T.az,T.aj,bB,bw,iB]at z
   rcases z with rfl|z|z
   ·exact pQ (T.ay ty (cK _) w)
   ·exact uK b (aL _ z) (T.ay ty (cK _) w)
   exact(S.nd y ty ky hy gV).2 b w (T.ax ty bJ z)
  rcases Ai fL with⟨_,w'⟩|⟨w',fL⟩
  ·cases w'
  exact S.sep i y t ty k2 _ w' e1 fL hy gV no b z (T.ay ty (cK _) w)
 ·rcases Ai e with⟨rfl,e2⟩|⟨n1,e1⟩
  ·cases e2
   cases z
   exact pQ
  rcases Ai fL with⟨_,w'⟩|⟨w',fL⟩
  ·cases w'
  subst z
  have:=of_decide_eq_true (S.small _ (cJ fL))
  refine S.sep i y _ ty k2 _ w' e1 fL hy gV no b ?_
  obtain⟨k3,rfl⟩:∃k3,k2=k3+1:=⟨k2-1,by omega⟩
  exact aP ..
 obtain⟨i,t,k2,e,fL,z⟩:=o
 refine⟨i,t,k2,e,?_,z⟩
 rcases Ai fL with⟨_,w'⟩|⟨w',fL⟩
 ·cases w'
 rw[gY (Ne.symm w')];exact fL
end
section
variable{Z:Zx}{m:Ms}{r:Option Ms}{Y:Ft}{H:Hp}{D:Ends}{X:Cx}
theorem YL{x y k ky:Nat}(S:Sf Z.p Z.H0 Z.A0 m Y H)(dq:m[x]?=some (.ow k))(gV:m[y]?=some (.ow ky))(b8:y≠x)(hk:k-1<=ky)(hr:r=some (m.set y (.br ky)))(h:bE Z m r [x] (ex (.mut x [] .append (.cons (.nm y) .nil)) (aR Y)) Y H D) :
  pP Z.p Z.EX (a7 m) x [] (aM Y) H fun v H1=>n8 X.K "list" v H1/\(UT (S5 y) XG) (aM Y) H1 fun vs H2=>Iv v vs H2 fun _ H3=>D.nx (aM Y) H3:=by
 have sm:0<k/\k<90:=of_decide_eq_true (S.small _ (cJ dq))
 obtain⟨t,is,ds,a,ts,iK,ht,ep,ee,hs,l1,l2,hf,dw,xg⟩:=M9 S dq (by simp[ib];omega) rfl h
 cases ep
 cases hs
 subst hr
 simp only[evs,ev]at ee
 obtain⟨d,e1,ee⟩:=Res.cb ee
 cases ee
 obtain⟨ty,hy,rfl⟩:=FL e1
 simp only[jZ]at hf
 obtain⟨bU,rfl⟩:=AI hf
 refine⟨Y,_,[],.lst a ts,rfl,S.ok,Gv rfl,ht,S.at ht dq (by intro c;cases c),rfl,rfl,fun H1 s1=>⟨OL (dw H1 s1).1,?_⟩⟩
 refine⟨ty.val,DL hy,?_⟩
 show Iv (.ref a) [ty.val] H1 (fun _ H3=>D.nx (aM Y) H3)
 refine⟨a,_,ty.val,rfl,rfl,(dw H1 s1).1,by rw[aF,<- Ao];exact bU,?_⟩
 obtain⟨S2,P2⟩:=Ww S s1 ht dq hy gV b8 hk
 have:=xg (ts++[ty]) _ H1 _ (by rw[T.aw,aax,<- T.aw];rfl) rfl rfl rfl S2 P2
 rw[aax]at this
 exact this
end
section
variable{Z:Zx}{m:Ms}{r:Option Ms}{w:List Nat}{Y:Ft}{H:Hp}{D:Ends}{X:Cx}{pos:Pos}{U:L2.St}
theorem Wx{K:Frag}{xs:List Nat}{e:E}(h:lS Z (.eE xs e) D U H):∃m,HD (lE Z.p Z.EX (a7 m) e) (lG K (.tp xs)) D U H:=by
 obtain⟨Y,m,r,rfl,S,hr,h⟩:=h
 refine⟨m,?_⟩
 obtain⟨⟨j1,k1⟩,h1,hr⟩:=bS hr
 obtain⟨⟨c1,c2⟩,rfl⟩:=AI hr
 have c1:j1=0:=c1
 subst c1
 simp only[ex]at h
 refine⟨Y,rfl,S.ok,0,k1,h1,(h.lg S c2).mono (ag.refl _) fun d _ h t H1 ht R=>?_⟩
 subst ht
 rw[HM]at h
 cases q:Dj (.tp xs) t Y with
 |none=>rw[q]at h;exact nE h
 |some Y'=>
 rw[q]at h
 obtain⟨S2,P2⟩:=Aah S R.same R.ok R.src q
 exact PY R.ok q (h _ Y' H1 rfl rfl S2 P2)
theorem Wy(h:lS Z (.expr e) D U H):∃m,UQ (lE Z.p Z.EX (a7 m) e) D U H:=by
 obtain⟨Y,m,r,rfl,S,hr,h⟩:=h
 refine⟨m,?_⟩
 obtain⟨⟨j1,k1⟩,h1,hr⟩:=bS hr
 obtain⟨c2,rfl⟩:=AI hr
 simp only[ex]at h
 exact⟨Y,rfl,S.ok,j1,k1,h1,(h.lg S c2).mono (ag.refl _) fun d _ h t H1 ht R=>h m Y H1 rfl rfl (S.grow R.same) (cE.refl _ (Hg S.small) R.same)⟩
theorem RV{c:Nat}(h:c<1000):jL c=c:=if_neg (rl h)
theorem T8{c:Nat}(bU:c<1000)(h:lS Z (.raise c es) D U H):∃m,jM Z.p Z.EX (a7 m) es U H fun vs H1=>vs.length=es.len/\(Z.p.has c=true->Z.EX U (.ref (Z.p.cl c)) none H1):=by
 obtain⟨Y,m,r,rfl,S,hr,h⟩:=h
 refine⟨m,?_⟩
 obtain⟨⟨j1,k1⟩,h1,hr⟩:=bS hr
 obtain⟨c2,rfl⟩:=AI hr
 simp only[ex]at h
 refine⟨Y,rfl,S.ok,j1,k1,h1,(h.lg S c2).mono (ag.refl _) fun ds e h ts H1 dF R=>⟨?_,fun hc=>(by
  have k:=RV bU
  have:=h (by rw[k];exact hc) Y H1 rfl ((S.weak c2).grow R.same) (cE.refl _ c2 R.same) none (.inl ⟨bU,rfl⟩)
  rw[k]at this;exact this)⟩⟩
 rw[aF,<- Ao,dF,Ca _ _ _ e]
theorem YM{e:E}(h:lS Z (.ret e) D U H):(∃(i:Nat)(t:T),e=.nm i/\U[i]?=some (some t.val)/\D.rt t.val H)\/∃m,lE Z.p Z.EX (a7 m) e U H D.rt:=by
 obtain⟨Y,m,r,rfl,S,hr,h⟩:=h
 obtain⟨k,hk,hr⟩:=bS hr
 obtain⟨⟨⟨c1,c0⟩,c2⟩,rfl⟩:=AI hr
 simp only[ex]at h
 have gen:∀j,(jk (a7 m) e=some (j,k))->j=0->∃m,lE Z.p Z.EX (a7 m) e (aM Y) H D.rt:=by
  intro j hj hz
  subst hz
  refine⟨m,Y,rfl,S.ok,0,k,hj,(h.lg S c2).mono (ag.refl _) fun d _ h t H1 ht R=>cx.lo h c0 ht ⟨S.same.trans R.same,R.ok,fun a q=>?_,fun a q=>?_,T.c8 t c1 R.nd⟩⟩
  ·rcases R.src a q with z|z
   ·exact .inl (S.same.free z)
   exact S.src a z
  have:=R.new a (T.ax t c1 q)
  exact⟨S.same.free this.1,this.2⟩
 by_cases uL:∃i,e=.nm i
 ·obtain⟨i,rfl⟩:=uL
  simp only[rk]at hk
  cases q:get (aR Y) i with
  |exc c=>unfold get at q;split at q<;>cases q
  |bad=>simp only[ev,q]at h;exact nE h
  |ok d=>
  obtain⟨t,ht,rfl⟩:=FL q
  simp only[ev,q]at h
  refine .inl ⟨i,t,rfl,DL ht,cx.lo h c0 rfl ?_⟩
  split at hk
  ·rename_i k0 hm
   cases hk
   have sm:0<k/\k<90:=of_decide_eq_true (S.small _ (cJ hm))
   refine⟨S.same,S.at ht hm (by intro c;cases c),fun a z=>?_,fun a z=>S.own i t k a ht hm (T.ax t c1 z),T.c8 t c1 (S.nd i t k ht hm)⟩
   rcases (T.aB t k).mp z with y|y
   ·exact .inl (S.own i t k a ht hm y).1
   exact S.src a ⟨i,t,k,ht,AV hm,sm.2,y⟩
  ·rename_i hm
   cases hk
   have c1:Z.dep=0:=by omega
   rw[c1]
   exact⟨S.same,S.at ht hm (by intro c;cases c),fun a z=>S.src a ⟨i,t,0,ht,AV hm,by decide,z⟩,by rw[T.cf];simp,T.bY t⟩
  cases hk
 refine .inr ?_
 have:rk m e=(jk (a7 m) e).bind fun x=>if x.1=0 then some x.2 else none:=by
  cases e<;>first|rfl|exact absurd ⟨_,rfl⟩ uL
 rw[this]at hk
 obtain⟨⟨j1,k1⟩,h1,hk⟩:=bS hk
 obtain⟨z,rfl⟩:=AI hk
 exact gen j1 h1 z
theorem bE.weak{r1 r2:Option Ms}{w1 w2:List Nat}{o:Out}(h:bE Z m r2 w2 o Y H D)(hj:oA r1 r2=true)(hw:∀i∈w1,i∈w2):bE Z m r1 w1 o Y H D:=by
 cases o with
 |bb aQ=>
  intro m' Y' H' e1 e2 S P
  subst e1
  cases r2 with
  |none=>cases hj
  |some m2=>exact h m2 Y' H' rfl e2 (S.weak hj) ⟨P.keep,fun a o=>P.grow a (o.weak hj),fun i hi=>P.wr i fun q=>hi (hw i q),fun i hi=>P.ad i fun q=>hi (hw _ q)⟩
 |ret d=>exact h.to hw fun _ _=>rfl
 |exc c aQ=>exact fun hc Y' H' e S P=>h hc Y' H' e S (P.mono hw)
 |bad=>exact h
theorem YN(h:lS Z (.iff c a b) D U H):∃m,Xo (lT Z.p Z.EX (a7 m) c) (fX Z a) (fX Z b) D U H:=by
 obtain⟨Y,m,r,rfl,S,hr,h⟩:=h
 refine⟨m,?_⟩
 obtain⟨⟨j1,k1⟩,h1,hr⟩:=bS hr
 split at hr
 ·rename_i c2
  obtain⟨ra,h2,hr⟩:=bS hr
  obtain⟨rb,h3,hr⟩:=bS hr
  obtain⟨⟨c3,c4⟩,rfl⟩:=AI hr
  simp only[ex]at h
  refine⟨Y,rfl,S.ok,by rw[h1];rfl,(h.lg S c2).mono (ag.refl _) fun t _ h H1 s1=>?_⟩
  have S1:=S.grow s1
  have shift:∀{o:Out}{r0:Option Ms}{w0:List Nat},bE Z m r0 w0 o Y H D->bE Z m r0 w0 o Y H1 D:=by
   intro o r0 w0 h
   cases o with
   |bb aQ=>exact fun m' Y' H' e1 e2 S P=>h m' Y' H' e1 e2 S ⟨fun a u e n=>P.keep a u (s1 a u e) n,fun a o=>(P.grow a o).imp id s1.free,P.wr,P.ad⟩
   |ret d=>exact h
   |exc c aQ=>exact fun hc Y' H' e S P=>h hc Y' H' e S ⟨fun a u e n=>P.keep a u (s1 a u e) n,fun a o=>(P.grow a o).imp id s1.free,P.wr,P.ad⟩
   |bad=>exact h
  cases t with
  |true=>
   rw[if_pos rfl]at h
   show(if true=true then fX Z a D (aM Y) H1 else fX Z b D (aM Y) H1)
   rw[if_pos rfl]
   exact⟨Y,m,ra,rfl,S1,h2,shift (h.weak c3 fun i hi=>eO _ hi)⟩
  |false=>
  rw[if_neg (by decide)]at h
  show(if false=true then fX Z a D (aM Y) H1 else fX Z b D (aM Y) H1)
  rw[if_neg (by decide)]
  exact⟨Y,m,rb,rfl,S1,h3,shift (h.weak c4 fun i hi=>du _ hi)⟩
 cases hr
theorem bE.shift(s1:ag H H1)(h:bE Z m r w o Y H D):bE Z m r w o Y H1 D:=by
 cases o with
 |bb aQ=>exact fun m' Y' H' e1 e2 S P=>h m' Y' H' e1 e2 S ⟨fun a u e n=>P.keep a u (s1 a u e) n,fun a o=>(P.grow a o).imp id s1.free,P.wr,P.ad⟩
 |ret d=>exact h
 |exc c aQ=>exact fun hc Y' H' e S P=>h hc Y' H' e S ⟨fun a u e n=>P.keep a u (s1 a u e) n,fun a o=>(P.grow a o).imp id s1.free,P.wr,P.ad⟩
 |bad=>exact h
theorem bE.after{m1:Ms}{l8:Ft}{H1:Hp}{w1 w2:List Nat}{o:Out}(P:cE m m1 w1 Y l8 H H1)(xm:∀i∈w1,i∈w)(sT:∀i∈w2,i∈w)(h:bE Z m r w o Y H D):bE Z m1 r w2 o l8 H1 D:=by
 cases o with
 |bb aQ=>exact fun m' Y' H' e1 e2 S Q=>h m' Y' H' e1 e2 S ((P.trans Q).mono fun i hi=>by
   rcases bw.mp hi with z|z
   ·exact xm i z
   exact sT i z)
 |ret d=>exact h.to sT fun i hi=>P.ad i fun z=>hi (xm _ z)
 |exc c aQ=>exact fun hc Y' H' e S Q=>h hc Y' H' e S ((P.trans Q).mono fun i hi=>by
   rcases bw.mp hi with z|z
   ·exact xm i z
   exact sT i z)
 |bad=>exact h
theorem YO{s:S}{rest:Ss}(h:fX Z (.cons s rest) D U H):lS Z s {D with nx:=fX Z rest D} U H:=by
 obtain⟨Y,m,r,rfl,S,hr,h⟩:=h
 obtain⟨r1,h1,hr⟩:=bS hr
 refine⟨Y,m,r1,rfl,S,h1,?_⟩
 simp only[exs]at h
 cases q:ex s (aR Y) with
 |bb aQ=>
  rw[q]at h
  intro m' Y' H' e1 e2 S' P
  subst e1
  simp only at hr
  refine⟨Y',m',r,rfl,S',hr,?_⟩
  rw[e2]
  exact h.after P (fun i hi=>eO _ hi) (fun i hi=>du _ hi)
 |ret d=>rw[q]at h;exact cx.to (show cx Z _ d Y D from h) (fun i hi=>eO _ hi) fun _ _=>rfl
 |exc c aQ=>
  rw[q]at h
  exact fun hc Y' H' e S' P=>h hc Y' H' e S' (P.mono fun i hi=>eO _ hi)
 |bad=>rw[q]at h;exact h
theorem YQ(h:fX Z .nil D U H):D.nx U H:=by
 obtain⟨Y,m,r,rfl,S,hr,h⟩:=h
 cases hr
 exact h m Y H rfl rfl S (cE.refl _ (Hg S.small) (ag.refl _))
theorem Wz(hs:(∃x k,s=.gv x k)\/(∃x,s=.dead x))(h:fX Z (.cons s rest) D U H):fX Z rest D U H:=by
 obtain⟨Y,m,r,rfl,S,hr,h⟩:=h
 obtain⟨r1,h1,hr⟩:=bS hr
 rcases hs with⟨x,k,rfl⟩|⟨x,rfl⟩
 ·obtain⟨c,rfl⟩:=AI h1
  refine⟨Y,_,r,rfl,S.weak c,hr,?_⟩
  simp only[exs,ex,Out.then_nxt]at h
  exact h.after (w1:=[]) (cE.refl _ c (ag.refl _)) (fun i hi=>nomatch hi) (fun i hi=>du _ hi)
 obtain⟨c,rfl⟩:=AI h1
 refine⟨Y,_,r,rfl,S.weak c,hr,?_⟩
 simp only[exs,ex,Out.then_nxt]at h
 exact h.after (w1:=[]) (cE.refl _ c (ag.refl _)) (fun i hi=>nomatch hi) (fun i hi=>du _ hi)
end
section
variable{Z:Zx}{m:Ms}{r:Option Ms}{w:List Nat}{Y:Ft}{H:Hp}{D:Ends}{X:Cx}{pos:Pos}{U:L2.St}
theorem Aak(h:lS Z (.wh c b) D U H):∃m,QM (lT Z.p Z.EX (a7 m) c) (fX Z b) D U H:=by
 obtain⟨Y,m,r,rfl,S,hr,h⟩:=h
 refine⟨m,?_⟩
 obtain⟨⟨j1,k1⟩,h1,hr⟩:=bS hr
 split at hr
 ·rename_i c2
  obtain⟨rb,h2,hr⟩:=bS hr
  have pR:r=some m/\oA rb (some m)=true:=by
   cases rb with
   |none=>exact⟨(Option.some.inj hr).symm,rfl⟩
   |some mb=>
   obtain⟨z,e⟩:=AI hr
   exact⟨e.symm,z⟩
  obtain⟨rfl,hj⟩:=pR
  simp only[ex]at h
  refine⟨fun n U H'=>∃Y',U=aM Y'/\Sf Z.p Z.H0 Z.A0 m Y' H'/\cE m m (bj b) Y Y' H H'/\bE Z m (some m) (bj b) (AR (tv c) (exs b) n (aR Y')) Y H D,⟨FU,Y,rfl,S,cE.refl _ (Hg S.small) (ag.refl _),h⟩,?_⟩
  rintro n U' H' ⟨Y',rfl,S',P',h'⟩
  cases n with
  |zero=>exact nE h'
  |succ n=>
   simp only[AR]at h'
   have hb:=h'.after (w:=bj b) (w1:=bj b) (w2:=bj b) P' (fun _ z=>z) (fun _ z=>z)
   refine⟨Y',rfl,S'.ok,by rw[h1];rfl,(hb.lg S' c2).mono (ag.refl _) fun t et pS H1 s1=>?_⟩
   rw[et]at h'
   simp only[Res.out_ok]at h'
   cases t with
   |false=>
    show(if false=true then _ else D.nx (aM Y') H1)
    rw[if_neg (by decide)]
    rw[if_neg (by decide)]at h'
    exact h' m Y' H1 rfl rfl (S'.grow s1) ⟨fun a u e n=>s1 _ _ (P'.keep a u e n),P'.grow,P'.wr,P'.ad⟩
   |true=>
    rw[if_pos rfl]at h' pS
    show(if true=true then _ else _)
    rw[if_pos rfl]
    refine⟨fun fj H2=>∃fk,fj=aM fk/\Sf Z.p Z.H0 Z.A0 m fk H2/\cE m m (bj b) Y fk H H2/\bE Z m (some m) (bj b) (AR (tv c) (exs b) n (aR fk)) Y H D,fun fj H2 q=>⟨n,vx n,q⟩,?_⟩
    refine⟨Y',m,rb,rfl,S'.grow s1,h2,?_⟩
    have qO:=pS.shift s1
    have P1:cE m m (bj b) Y Y' H H1:=⟨fun a u e n=>s1 _ _ (P'.keep a u e n),P'.grow,P'.wr,P'.ad⟩
    cases q:exs b (aR Y') with
    |bb sA=>
     rw[q]at h'
     intro m' fk H2 e1 e2 S2 P2
     subst e1
     have hle:eh m' m=true:=hj
     refine⟨fk,rfl,S2.weak hle,((P1.trans P2).mono (w2:=bj b) (fun i hi=>by simpa using hi)) |> fun P3=>⟨P3.keep,fun a o=>P3.grow a (Own.weak hle o),P3.wr,P3.ad⟩,?_⟩
     rw[e2];exact h'
    |ret d=>rw[q]at qO;exact qO
    |exc c' aQ=>rw[q]at qO;exact qO
    |bad=>rw[q]at qO;exact qO
 cases hr
theorem cE.pU(h:eh m1 m2=true)(P:cE m m1 w Y Y' H H'):cE m m2 w Y Y' H H':=⟨P.keep,fun a o=>P.grow a (Own.weak h o),P.wr,P.ad⟩
theorem Na{K:Frag}{g:Tg}{b:Ss}{J:L2.It}{us:List T}{ds:List Pu.D}{j:Nat}{H1:Hp}{rb:Option Ms}(S:Sf Z.p Z.H0 Z.A0 m Y H)(IT:jh Z.p (Sh (a7 m) Y) H H1 J us j ds)(hd:eh m (Ap m g.sl .dead)=true)
  (h2:eF Z.mx Z.dep b (Ap (Ap m g.sl .dead) g.sl .sh)=some rb) (hj:oA rb (some (Ap m g.sl .dead))=true)
  (per:∀(Y':Ft)(H':Hp),Sf Z.p Z.H0 Z.A0 (Ap m g.sl .dead) Y' H'->cE m (Ap m g.sl .dead) (up g.sl++bj b) Y Y' H1 H'->T.cV Z.p H' us)
  (h:bE Z m (some (Ap m g.sl .dead)) (up g.sl++bj b) (Bc g (exs b) ds (aR Y)) Y H1 D) :
  ∃W:Nat->Nat->L2.St->Hp->Prop,(∃n,W 0 n (aM Y) H1)/\∀i n U H,W i n U H->(J.stop i H/\D.nx U H)\/(J.go i H/\∃N:L2.St->Hp->Prop,(∀U' H',N U' H'->∃n',n'<n/\W (i+1) n' U' H')/\∀x H',J.jF i H x H'->lG K g x U H' fun fj H2=>fX Z b {D with nx:=N,ct:=N,bk:=D.nx} fj H2):=by
 have S1:=S.grow IT.same
 have oB:∀a,(H a=none\/Sh (a7 m) Y a)->(Z.H0 a=none\/Z.A0 a)/\¬Own m Y a:=fun a q=>S.pO q
 refine⟨fun i n U H'=>n=ds.length-i/\i<=ds.length/\∃Y',U=aM Y'/\Sf Z.p Z.H0 Z.A0 (Ap m g.sl .dead) Y' H'/\cE m (Ap m g.sl .dead) (up g.sl++bj b) Y Y' H1 H'/\bE Z m (some (Ap m g.sl .dead)) (up g.sl++bj b) (Bc g (exs b) (ds.drop i) (aR Y')) Y H1 D,
  ⟨ds.length,by simp,cK _,Y,rfl,S1.weak hd,cE.refl _ hd (ag.refl _),by simpa using h⟩,?_⟩
 rintro i n U' H' ⟨rfl,hi,Y',rfl,S',P',h'⟩
 have jm:=per Y' H' S' P'
 rcases tS i ds.length with bU|j5
 ·have wV:ds[i]?=some ds[i]:=d_ bU
  rw[u7 bU]at h'
  simp only[Bc]at h'
  refine .inr ⟨IT.go i H' jm bU,fun fj H2=>∃fk,fj=aM fk/\Sf Z.p Z.H0 Z.A0 (Ap m g.sl .dead) fk H2/\cE m (Ap m g.sl .dead) (up g.sl++bj b) Y fk H1 H2/\bE Z m (some (Ap m g.sl .dead)) (up g.sl++bj b) (Bc g (exs b) (ds.drop (i+1)) (aR fk)) Y H1 D,
   fun fj H2 q=>⟨ds.length-(i+1),by omega,rfl,bU,q⟩,fun x mW y=>?_⟩
  obtain⟨s2,t,rfl,ht,tok,sG,lR⟩:=IT.jF i H' x mW ds[i] jm wV y
  rw[<- ht,HM]at h'
  cases q:Dj g t Y' with
  |none=>rw[q]at h';exact nE h'
  |some fk=>
   rw[q]at h'
   simp only[abl]at h'
   have src:∀a∈t.rest 0,(Z.H0 a=none\/Z.A0 a)/\¬Own (Ap m g.sl .dead) Y' a:=fun a z=>by
    refine⟨(oB a (lR a z)).1,fun o=>?_⟩
    rcases P'.grow a o with w|w
    ·exact(oB a (lR a z)).2 w
    obtain⟨v,hv,z2⟩:=T.aa.mp (sG a z)
    exact(T.ae.mp IT.ok v hv).fV z2 w
   obtain⟨S2,P2⟩:=RP S' s2 tok src q
   refine PY tok q ⟨fk,_,rb,rfl,S2,h2,?_⟩
   have P3:=P'.trans P2
   have h3:=h'.after (w:=up g.sl++bj b) (w2:=bj b) P3 (fun i hi=>by
    simp only[bw]at hi ⊢
    rcases hi with (hi|hi)|hi
    ·exact .inl hi
    ·exact .inr hi
    exact .inl hi) (fun i hi=>du _ hi)
   cases e:exs b (aR fk) with
   |bb δ3=>
    rw[e]at h'
    intro m' w5 H3 e1 e2 S3 P4
    subst e1
    have hle:eh m' (Ap m g.sl .dead)=true:=hj
    refine⟨w5,rfl,S3.weak hle,cE.pU hle ((P3.trans P4).mono fun i hi=>?_),?_⟩
    ·simp only[bw]at hi ⊢
     rcases hi with ((hi|hi)|hi)|hi
     ·exact .inl hi
     ·exact .inr hi
     ·exact .inl hi
     exact .inr hi
    rw[e2];exact h'
   |ret d=>rw[e]at h3;exact h3
   |exc c' aQ=>rw[e]at h3;exact h3
   |bad=>rw[e]at h3;exact h3
 refine .inl ⟨IT.stop i H' jm j5,?_⟩
 have qJ:i=ds.length:=rm hi j5
 subst qJ
 rw[ve]at h'
 exact h' _ Y' H' rfl rfl S' P'
theorem YR{K:Frag}{g:Tg}{it:It}{b:Ss}(h:lS Z (.cY g it b) D U H):(∃m,Xw (lI Z.p Z.EX (a7 m) it) (lG K g) (fX Z b) D U H) \/
  (∃x,it=.bQ (.nm x)/\∃v a xs,U[x]?=some (some v)/\v=.ref a/\fi X.K H a xs/\(X.K=Z.p.K->xs.length<=sizeLine->∃W:Nat->Nat->L2.St->Hp->Prop,(∃n,W 0 n U H)/\∀i n U H,W i n U H->((qz X.K a).stop i H/\D.nx U H)\/((qz X.K a).go i H/\∃N:L2.St->Hp->Prop,(∀U' H',N U' H'->∃n',n'<n/\W (i+1) n' U' H') /\
   ∀x H',(qz X.K a).jF i H x H'->lG K g x U H' fun fj H2=>fX Z b {D with nx:=N,ct:=N,bk:=D.nx} fj H2))):=by
 obtain⟨Y,m,r,rfl,S,hr,h⟩:=h
 obtain⟨j,h1,hr⟩:=bS hr
 split at hr
 ·rename_i c
  obtain⟨c1,c2,c3⟩:=c
  obtain⟨rb,h2,hr⟩:=bS hr
  have pR:r=some (Ap m g.sl .dead)/\oA rb (some (Ap m g.sl .dead))=true:=by
   cases rb with
   |none=>exact⟨(Option.some.inj hr).symm,rfl⟩
   |some mb=>
   obtain⟨z,e⟩:=AI hr
   exact⟨e.symm,z⟩
  obtain⟨rfl,hj⟩:=pR
  simp only[ex]at h
  by_cases z:j=0
  ·subst z
   refine .inl ⟨m,Y,rfl,S.ok,0,h1,(h.lg S c1).mono (ag.refl _) fun ds _ h J us H1 IT=>?_⟩
   refine Na S IT c2 h2 hj (fun Y' H' S' P'=>?_) (h.shift IT.same)
   have S1:=S.grow IT.same
   refine T.ae.mpr fun u hu=>(T.ae.mp IT.ok u hu).keep fun a w e q=>P'.keep a w e fun o=>?_
   rcases q with q|q
   ·exact(S.pO (IT.src a (T.aa.mpr ⟨u,hu,q⟩))).2 o
   obtain⟨_,vs,e2,mu⟩:=S1.dG o
   rw[e2]at e
   cases e;rw[mu]at q;cases q
  rcases c3 with c3|⟨x,c3,c4,c5⟩
  ·exact absurd c3 z
  have hit:it=.bQ (.nm x):=by
   cases it with
   |bQ e=>exact congrArg It.bQ (RS c3)
   |_=>exact aJ c3
  subst hit
  refine .inr ⟨x,rfl,?_⟩
  have sU:=h.lg S c1
  cases q:get (aR Y) x with
  |exc c=>unfold get at q;split at q<;>cases q
  |bad=>simp only[evI,ev,q,Res.fT]at sU;exact nE sU
  |ok d=>
   obtain⟨t,ht,rfl⟩:=FL q
   simp only[evI,ev,q,Res.bind_ok]at sU
   cases t with
   |lst a ts=>
    simp only[qG]at h1
    obtain⟨⟨j1,k1⟩,h3,h1⟩:=bS h1
    obtain⟨hj1,e1⟩:=AI h1
    have e1:j1=j:=e1
    subst e1
    have h3:(match (a7 m)[x]? with|some j=>gj (decide (j<90)) (j,0)|none=>none)=some (j1,k1):=h3
    split at h3
    ·rename_i j' oo
     obtain⟨bU,e⟩:=ES h3
     cases e
     have jP:=S.ok x _ j1 ht oo (of_decide_eq_true bU)
     refine⟨_,a,ts.map T.val,DL ht,rfl,.inl jP.1,fun hK hz=>?_⟩
     have R:Rs Z.p (Sh (a7 m) Y) H H j1 0 (.lst a ts):=⟨ag.refl _,jP,fun b m'=>.inr ⟨x,_,j1,ht,oo,of_decide_eq_true bU,m'⟩,by rw[T.cf];simp,T.bY _⟩
     refine Na S (HL hK R hj1 (by simpa using hz)) c2 h2 hj (fun Y' H' S' P'=>?_) sU
     obtain⟨d,hd,ed⟩:=A8 oo
     have lu:d≠.dead:=fun w=>by subst w;subst ed;exact absurd (of_decide_eq_true bU) (by decide)
     have hx':(Ap m g.sl .dead)[x]?=some d:=by
      have hlen:x<(Ap m g.sl .dead).length:=by rw[Ff];exact(gP.mp hd).1
      rcases Fv (d_ hlen) with⟨w,_⟩|⟨_,w⟩
      ·exact absurd (eO _ w) c5
      rw[d_ hlen]
      rw[hd]at w
      exact w.symm
     refine⟨S'.at (i:=x) (by rw[P'.wr x (fun w=>by rcases bw.mp w with w|w;exact c5 w;exact c4 w)];exact ht) hx' lu,trivial⟩
    cases h3
   |_=>exact nE sU
 cases hr
end
section
variable{p:Px}{H0:Hp}{A0:Addr->Prop}{m:Ms}{Y:Ft}{H H1:Hp}
theorem WA{x:Nat}(S:Sf p H0 A0 m Y H):Sf p H0 A0 (m.set x .dead) (Y.set x s) H:=by
 have back:∀{i:Nat}{u:T}{d:Md},d≠.dead->(Y.set x s)[i]?=some (some u)->(m.set x .dead)[i]?=some d->Y[i]?=some (some u)/\m[i]?=some d:=by
  intro i u d nd e h
  rcases Ai h with⟨_,z⟩|⟨z1,z2⟩
  ·exact absurd z nd
  rcases Ai e with⟨z,_⟩|⟨_,e⟩
  ·exact absurd z z1
  exact⟨e,z2⟩
 have no:∀{k:Nat},Md.ow k≠.dead:=by intro k c;cases c
 have nb:∀{k:Nat},Md.br k≠.dead:=by intro k c;cases c
 have lt:∀{d:Md},d.tn<90->d≠.dead:=fun l z=>by subst z;exact absurd l (by decide)
 refine⟨by rw[iD,iD];exact S.len,fun d hd=>?_,S.same,fun i t j e ej l=>?_,fun i t k a e hk q=>?_,fun a sh=>?_,fun i t k e hk=>?_,fun i j t u k d ne e hk e' hd nd a q=>?_,fun i j t u k k2 e hk e' hd a ts z=>?_⟩
 ·rcases qh hd with z|z
  ·exact S.small d z
  subst z;rfl
 ·obtain⟨d,hd,rfl⟩:=A8 ej
  obtain⟨q1,q2⟩:=back (lt l) e hd
  exact S.ok i t _ q1 (AV q2) l
 ·obtain⟨q1,q2⟩:=back no e hk
  exact S.own i t k a q1 q2 q
 ·obtain⟨i,t,j,e,ej,l,q⟩:=sh
  obtain⟨d,hd,rfl⟩:=A8 ej
  obtain⟨q1,q2⟩:=back (lt l) e hd
  exact S.src a ⟨i,t,_,q1,AV q2,l,q⟩
 ·obtain⟨q1,q2⟩:=back no e hk
  exact S.nd i t k q1 q2
 ·obtain⟨q1,q2⟩:=back no e hk
  obtain⟨q3,q4⟩:=back nd e' hd
  exact S.sep i j t u k d ne q1 q2 q3 q4 nd a q
 obtain⟨q1,q2⟩:=back no e hk
 obtain⟨q3,q4⟩:=back nb e' hd
 exact S.top i j t u k k2 q1 q2 q3 q4 a ts z
end
theorem YS(kx:Kx p){k n:Nat}(hk:p.has k=true)(hn:p.has n=true)(h:oj k n=true):exmOne p.K (.ref (p.cl k)) (.ref (p.cl n))=some true:=by
 have k1:=kx.kc k n hk hn
 rw[h]at k1
 unfold exmOne
 rw[if_pos (by rw[(kx.x n hn).sb];rfl)]
 by_cases b8:p.cl k=p.cl n
 ·rw[b8]
  unfold kitCls
  dsimp only
  rw[if_pos (by rw[(kx.x n hn).cc,(kx.x n hn).ty];rfl)]
  exact kx.ks n hn
 unfold kitOne at k1
 rw[if_neg (fun z=>b8 (by
  have:=eq_of_beq z
  injection this with this))]at k1
 exact k1
theorem T9(Y:Ft)(i:Nat):aM (Y.set i none)=(aM Y).set i none:=by unfold aM;rw[nW];rfl
theorem Ua(Y:Ft)(i:Nat):aR (Y.set i none)=(aR Y).set i none:=by unfold aR;rw[nW];rfl
section
variable{Z:Zx}{m:Ms}{r:Option Ms}{w:List Nat}{Y:Ft}{H:Hp}{D:Ends}{U:L2.St}
theorem Ub{i:Nat}:cE m (m.set i .dead) [i,i+1000] Y (Y.set i none) H H:=by
 refine⟨fun a u e _=>e,fun a o=>?_,fun j hj=>by rw[gY (fun z=>hj (by simp[z]))],fun j hj=>RM (M0 hj)⟩
 obtain⟨j,u,k',e,hk,q⟩:=o
 rcases Ai hk with⟨_,z⟩|⟨z1,z2⟩
 ·cases z
 rcases Ai e with⟨z,_⟩|⟨_,e⟩
 ·exact absurd z z1
 exact .inl ⟨j,u,k',e,z2,q⟩
theorem YT{A0:Addr->Prop}{i:Nat}(S:Sf p H0 A0 m Y H)(R:Rs p (Sh (a7 m) Y) H H1 0 0 t):Sf p H0 A0 (m.set i .sh) (Y.set i (some t)) H1/\cE m (m.set i .sh) [i,i+1000] Y (Y.set i (some t)) H H1:=by
 by_cases hl:i<m.length
 ·exact RN S R (bx 0) hl (by decide)
 have hl:=nc hl
 rw[tI hl,tI (by rw[S.len];exact hl)]
 exact⟨S.grow R.same,cE.refl _ (Hg S.small) R.same⟩
theorem YU{K:Frag}{b h e:Ss}{n i:Nat}(hK:K=Z.p.K)(kx:Kx Z.p)(hn:Z.p.has n=true)(hq:lS Z (.fx b n i h e) D U H):∃mb mh,XV K (.ref (Z.p.cl n)) i (fun E _ _=>fX {Z with EX:=E,mx:=mb} b) (fun _=>fX {Z with EX:=wR,mx:=mh} h) (fX Z e) D U H:=by
 obtain⟨Y,m,r,rfl,S,hr,hq⟩:=hq
 obtain⟨c2,hr⟩:=M3 hr
 skip
 obtain⟨rb,h1,hr⟩:=bS hr
 obtain⟨rh,h2,hr⟩:=bS hr
 obtain⟨re,h3,hr⟩:=bS hr
 obtain⟨⟨c3,c4⟩,rfl⟩:=AI hr
 refine⟨Ap m (bj b) .dead,aaq m.length .dead,fun W pn=>⟨Y,m,rb,rfl,S,h1,?_⟩⟩
 simp only[ex]at hq
 cases q:exs b (aR Y) with
 |bad=>rw[q]at hq;exact hq
 |ret d=>rw[q]at hq;exact cx.to (show cx Z _ d Y D from hq) (fun j hj=>eO _ hj) fun _ _=>rfl
 |bb δ1=>
  rw[q]at hq
  intro m1 l8 H1 em e2 S1 P1
  subst em e2
  refine⟨l8,m1,re,rfl,S1,h3,?_⟩
  exact((show bE Z m _ _ (exs e (aR l8)) Y H D from hq).weak (w1:=uI (.fx b n i h e)) c3 (fun _ z=>z)).after P1 (fun j hj=>eO _ hj) (fun j hj=>du _ (aL _ (aL _ (du _ hj))))
 |exc k δ1=>
 rw[q]at hq
 intro hk l8 H1 e2 S1 P1
 subst e2
 simp only at hq
 intro od wX
 by_cases cc:cat k n=true
 ·rw[if_pos cc]at hq
  refine⟨_,rfl,hK▸YS kx hk hn cc,fun a ha=>?_⟩
  have sm:ag H1 (L2.upd H1 a (qD a (Z.p.cl (jL k)) od)):=fun a' u e=>by
   rw[L2.Av (fun z=>by subst z;rw[ha]at e;cases e)];exact e
  have xok:S_ Z.p (L2.upd H1 a (qD a (Z.p.cl (jL k)) od)) a k:=by
   rcases wX with⟨lt,rfl⟩|⟨ge,dx,ob,rfl,xn⟩
   ·have kk:=RV lt
    rw[kk]at hk ⊢
    exact .inl ⟨⟨by rw[L2.AX];unfold sC;rw[if_neg (fun z=>by rw[z,kx.no]at hk;cases hk)];rfl,.inr hk⟩,lt⟩
   have kk:jL k=4:=if_pos ge
   rw[kk]at hk ⊢
   exact .inr ⟨⟨dx,ob,L2.AX,by rw[L2.Av (fun z=>by subst z;rw[ha]at xn;cases xn)];exact xn,hk⟩,ge⟩
  have R:Rs Z.p (Sh (a7 (Ap m (bj b) .dead)) l8) H1 (L2.upd H1 a (qD a (Z.p.cl (jL k)) od)) 0 0 (.cq a k):=⟨sm,xok,by simp[T.rest],by simp[T.adr],by simp[T.Nd,T.adr]⟩
  obtain⟨S2,P2⟩:=YT S1 R (i:=i)
  refine⟨l8.set i (some (.cq a k)),_,rh,by rw[GS];rfl,S2,h2,?_⟩
  rw[FP]
  cases q2:exs h ((aR l8).set i (some (.cq k))) with
  |bad=>rw[show(T.cq a k).dat=.cq k from rfl,q2];rw[q2]at hq;exact hq
  |exc _ _=>rw[show(T.cq a k).dat=.cq k from rfl,q2];rw[q2]at hq;exact nE hq
  |ret d=>
   rw[show(T.cq a k).dat=.cq k from rfl,q2]
   rw[q2]at hq
   exact cx.to (show cx Z _ d Y D from hq) (fun j hj=>du _ (aL _ (aL _ (eO _ hj)))) fun j hj=>(P1.trans P2).ad j fun z=>hj (by
    rcases bw.mp z with z|z
    ·exact eO _ z
    exact du _ (M1 z))
  |bb sA=>
  rw[show(T.cq a k).dat=.cq k from rfl,q2]
  rw[q2]at hq
  intro m2 fk H2 em e3 S3 P3
  subst em e3
  have hw:=(show bE Z m _ _ (.bb ((aR fk).set i none)) Y H D from hq).weak (w1:=uI (.fx b n i h e)) c4 (fun _ z=>z)
  have:=hw (m2.set i .dead) (fk.set i none) H2 rfl (Ua fk i) (WA S3) ((((P1.trans P2).trans P3).trans Ub).mono fun j hj=>?_)
  ·rw[T9]at this
   exact this
  rcases bw.mp hj with hj|hj
  ·rcases bw.mp hj with hj|hj
   ·rcases bw.mp hj with hj|hj
    ·exact eO _ hj
    exact du _ (M1 hj)
   exact du _ (aL _ (aL _ (eO _ hj)))
  exact du _ (M1 hj)
 rw[if_neg cc]at hq;exact nE hq
end
abbrev j8(m:Ms)(Y:Ft)(I:List Nat)(a:Addr):Prop:=∃(i:Nat)(t:T)(k:Nat),i∉I/\Y[i]?=some (some t)/\m[i]?=some (.ow k)/\a∈t.adr k
structure RO(p:Px)(m:Ms)(Y:Ft)(I:List Nat)(k:Nat)(H H':Hp)(ts:List T):Prop where
 same:ag H H'
 ok:T.cV p H' ts
 src:∀a∈T.rests ts 0,H a=none\/Sh (a7 m) Y a\/j8 m Y I a
 new:∀a∈T.aj ts k,(H a=none/\Mu H' a)\/j8 m Y I a
 nd:T.cg ts k
section
variable{p:Px}{H0:Hp}{A0:Addr->Prop}{m:Ms}{Y:Ft}{H H1 H2:Hp}
theorem j8.own{I:List Nat}(h:j8 m Y I a):Own m Y a:=let ⟨i,t,k,_,e,q,z⟩:=h;⟨i,t,k,e,q,z⟩
theorem YV{I:List Nat}{k:Nat}:RO p m Y I k H H []:=⟨ag.refl _,trivial,by simp[T.rests],by simp[T.aj],by simp[T.cg,T.aj]⟩
theorem YW{I:List Nat}{i k k2:Nat}(S:Sf p H0 A0 m Y H)(ht:Y[i]?=some (some t))(hm:m[i]?=some (.ow k))(hi:i∉I)(r:RO p m Y (i::I) k2 H H2 ts):RO p m Y I (min k k2) H H2 (t::ts):=by
 have no:∀{k:Nat},Md.ow k≠.dead:=by intro k c;cases c
 have jP:=S.at ht hm no
 have mono:∀{a:Addr},j8 m Y (i::I) a->j8 m Y I a:=fun⟨j,u,kj,n,e,q,z⟩=>⟨j,u,kj,fun w=>n (aL _ w),e,q,z⟩
 have sm:0<k/\k<90:=of_decide_eq_true (S.small _ (cJ hm))
 refine⟨r.same,⟨jP.same r.same,r.ok⟩,fun a q=>?_,fun a q=>?_,T.aY.mpr ⟨T.c8 t (iE ..) (S.nd i t k ht hm),T.eZ (kJ ..) r.nd,fun a q q'=>?_,fun a q q'=>?_⟩⟩
 ·simp only[T.rests,bw]at q
  rcases q with q|q
  ·rcases (T.aB t k).mp q with z|z
   ·exact .inr (.inr ⟨i,t,k,hi,ht,hm,z⟩)
   exact .inr (.inl ⟨i,t,k,ht,AV hm,sm.2,z⟩)
  rcases r.src a q with z|z|z
  ·exact .inl z
  ·exact .inr (.inl z)
  exact .inr (.inr (mono z))
 ·simp only[T.aj,bw]at q
  rcases q with q|q
  ·exact .inr ⟨i,t,k,hi,ht,hm,T.ax t (iE ..) q⟩
  obtain⟨u,hu,q⟩:=T.af.mp q
  exact(r.new a (T.af.mpr ⟨u,hu,T.ax u (kJ ..) q⟩)).imp id mono
 ·have q1:=T.ax t (iE k k2) q
  have o:Own m Y a:=⟨i,t,k,ht,hm,q1⟩
  rcases r.src a q' with z|z|⟨j,u,kj,n,e,w,z⟩
  ·obtain⟨_,vs,e,mu⟩:=S.dG o
   rw[e]at z;cases z
  ·exact S.l7 o z
  have ne:i≠j:=fun y=>n (by rw[y];exact aP ..)
  exact S.sep i j t u k _ ne ht hm e w no a q1 ((T.aB u kj).mpr (.inl z))
 obtain⟨u,hu,q⟩:=T.af.mp q
 rcases r.new a (T.af.mpr ⟨u,hu,T.ax u (kJ ..) q⟩) with z|⟨j,u,kj,n,e,w,z⟩
 ·exact jP.fV q' z.1
 have ne:j≠i:=fun y=>n (by rw[y];exact aP ..)
 exact S.sep j i u t kj _ ne e w ht hm no a z q'
theorem YX{I:List Nat}{k k2:Nat}(S:Sf p H0 A0 m Y H)(R:Rs p (Sh (a7 m) Y) H H1 0 k t)(r:RO p m Y I k2 H1 H2 ts):RO p m Y I (min k k2) H H2 (t::ts):=by
 have R2:=R.fwd r.same
 refine⟨R2.same,⟨R2.ok,r.ok⟩,fun a q=>?_,fun a q=>?_,T.aY.mpr ⟨T.c8 t (iE ..) R.nd,T.eZ (kJ ..) r.nd,fun a q q'=>?_,fun a q q'=>?_⟩⟩
 ·simp only[T.rests,bw]at q
  rcases q with q|q
  ·exact(R.src a q).imp id .inl
  exact(r.src a q).imp R.same.free id
 ·simp only[T.aj,bw]at q
  rcases q with q|q
  ·exact .inl (R2.new a (T.ax t (iE ..) q))
  obtain⟨u,hu,q⟩:=T.af.mp q
  exact(r.new a (T.af.mpr ⟨u,hu,T.ax u (kJ ..) q⟩)).imp (fun z=>⟨R.same.free z.1,z.2⟩) id
 ·have n1:=R.new a (T.ax t (iE ..) q)
  rcases r.src a q' with z|z|z
  ·obtain⟨vs,e,mu⟩:=n1.2
   rw[e]at z;cases z
  ·exact S.ok.fV z n1.1
  obtain⟨_,vs,e,mu⟩:=S.dG z.own
  rw[n1.1]at e;cases e
 obtain⟨u,hu,q⟩:=T.af.mp q
 rcases r.new a (T.af.mpr ⟨u,hu,T.ax u (kJ ..) q⟩) with z|z
 ·exact R.ok.fV q' z.1
 rcases R.src a q' with y|y
 ·obtain⟨_,vs,e,mu⟩:=S.dG z.own
  rw[e]at y;cases y
 exact S.l7 z.own y
end
abbrev lRO(Z:Zx)(m:Ms)(Y:Ft)(I:List Nat)(es:Es):TA:=fun U H Q=>U=aM Y/\Sf Z.p Z.H0 Z.A0 m Y H/\∃k,qM m I es=some k/\Lg Z.p Z.EX U (evs es (aR Y)) H (fun ds=>∀ts H',T.ai ts=ds->RO Z.p m Y I k H H' ts->Q (ts.map T.val) H')
section
variable{Z:Zx}{m:Ms}{Y:Ft}{H:Hp}{D:Ends}{U:L2.St}
theorem WB(hl:es.len<=1000)(h:lS Z (.gD es) D U H):∃m Y,XH (lRO Z m Y [] es) U H D.rt:=by
 obtain⟨Y,m,r,rfl,S,hr,h⟩:=h
 obtain⟨k,hk,hr⟩:=bS hr
 obtain⟨⟨⟨c1,c0⟩,c2⟩,rfl⟩:=AI hr
 simp only[ex]at h
 refine⟨m,Y,rfl,S,k,hk,(h.lg S c2).mono (ag.refl _) fun ds e h ts H1 dF R=>⟨?_,fun a ha=>?_⟩⟩
 ·have:=Ca _ _ _ e
  rw[aF,<- Ao,dF,this]
  exact aS hl (by decide)
 have sm:ag H1 (L2.upd H1 a (.tup (ts.map T.val))):=fun a' u e=>by
  rw[L2.Av (fun z=>by subst z;rw[ha]at e;cases e)];exact e
 refine cx.lo (t:=.tup a ts) h c0 (by simp[T.dat,dF]) ⟨S.same.trans (R.same.trans sm),⟨L2.AX ..,R.ok.same sm⟩,fun b q=>?_,fun b q=>?_,T.eZ c1 R.nd⟩
 ·rcases R.src b q with z|z|z
  ·exact .inl (S.same.free z)
  ·exact S.src b z
  exact .inl (S.dG z.own).1
 obtain⟨u,hu,q⟩:=T.af.mp q
 rcases R.new b (T.af.mpr ⟨u,hu,T.ax u c1 q⟩) with⟨z,vs,e,mu⟩|z
 ·exact⟨S.same.free z,vs,sm _ _ e,mu⟩
 obtain⟨z1,vs,e,mu⟩:=S.dG z.own
 exact⟨z1,vs,sm _ _ (R.same _ _ e),mu⟩
end
abbrev Ez:List (Bool×E)->List j6
 |[]=>[]
 | (_,e)::r=>e.need++Ez r
mutual
noncomputable def S.need:S->List j6
 |.asg _ _ e=>e.need
 |.gv _ _=>[]
 |.dead _=>[]
 |.eE _ e=>e.need
 |.set _ q i e=>Ez q++(i.need++e.need)
 |.mut _ q _ es=>Ez q++es.need
 |.expr e=>e.need
 |.iff c a b=>c.need++(a.need++b.need)
 |.wh c b=>c.need++b.need
 |.cY _ it b=>it.need++b.need
 |.ret e=>e.need
 |.gD es=>es.need
 |.raise c es=>.rs c::es.need
 |.fx b c _ h e=>.cl c::(b.need++(h.need++e.need))
noncomputable def Ss.need:Ss->List j6
 |.nil=>[]
 |.cons s r=>s.need++r.need
end
abbrev Nb:Um->Str
 |.append => "append"
 |.extend => "extend"
 |.clear => "clear"
abbrev Uc:Um->Nat->Bool
 |.append,n=>decide (n=1)
 |.extend,n=>decide (n=1)
 |_,n=>decide (n=0)
abbrev C8:Expr->Bool
 |.ListComp _ _ _ _=>false
 |.SetComp _ _ _ _=>false
 |.DictComp _ _ _ _ _=>false
 |_=>true
abbrev HV:Expr->Bool
 |.Tuple _ _ _=>false
 |_=>true
abbrev Qe(c:dz):List Expr->Bool
 |[.Name x _,.Name y _]=>(c.sc.names.lookup x==some .cell)||(c.sc.names.lookup y==some .cell)
 |_=>false
abbrev Nc:Expr->Bool
 |.Call _ _ _ _=>false
 |_=>true
abbrev sP:Expr->Option (Str×Pos)
 |.Name x p=>some (x,p)
 |_=>none
abbrev Qf:List ExceptHandler->List Stmt->Option (Str×Option Str×List Stmt)
 |[.ExceptHandler (some (.Name x _)) y h _],[]=>some (x,y,h)
 |_,_=>none
theorem WC(e:Qf hs fin=some (x,y,h)):∃p1 p2,hs=[.ExceptHandler (some (.Name x p1)) y h p2]/\fin=[]:=by
 cases hs with
 |nil=>exact aJ e
 |cons h0 r=>
  cases r with
  |cons _ _=>cases h0 with|ExceptHandler ty nm bd ps=>cases ty with
   |none=>exact aJ e
   |some t=>cases t<;>exact aJ e
  |nil=>cases h0 with|ExceptHandler ty nm bd ps=>cases ty with
   |none=>exact aJ e
   |some t=>
    cases t with
    |Name z pz=>
     cases fin with
     |nil=>cases e;exact⟨_,_,rfl,rfl⟩
     |cons _ _=>exact aJ e
    |_=>exact aJ e
abbrev Ud(c:dz)(i:Nat):Option Str->Bool
 |some y=>false
 |none=>decide (c.N.length<=i)
abbrev kT:Stmt->Nat
 |.Assign _ _ _=>1
 |.Expr _ _=>2
 |.If _ _ _ _=>3
 |.While _ _ _ _=>4
 |.For _ _ _ _ _=>5
 |.Return _ _=>6
 |.Raise _ _ _=>7
 |.Try _ _ _ _ _=>8
 |.Pass _=>9
 |_=>30
abbrev kS:S->Nat
 |.asg _ _ _=>1
 |.eE _ _=>1
 |.set _ _ _ _=>1
 |.mut _ _ _ _=>2
 |.expr _=>2
 |.iff _ _ _=>3
 |.wh _ _=>4
 |.cY _ _ _=>5
 |.ret _=>6
 |.gD _=>6
 |.raise _ _=>7
 |.fx _ _ _ _ _=>8
 |.gv _ _=>99
 |.dead _=>99
abbrev g3(s:S)(st:Stmt)(r:Bool):Bool:=(cU (kS s) 99||cU (kT st) (kS s))&&r
mutual
noncomputable def ckT(c:dz):S->Stmt->Bool
 |.asg x _ e,.Assign [.Name y _] e' _=>(c.N[x]?==some y)&&He c y&&bc c e e'
 |.eE xs e,.Assign [.Tuple ts k q] e' _=>kC c (.tp xs) (.Tuple ts k q)&&bc c e e'&&(HV e'||Qe c ts)
 |.set x q i e,.Assign [.Subscript o i' _] e' _=>GH c x q.reverse o&&bc c i i'&&Bd i'&&bc c e e'&&C8 e'
 |.mut x q u es,.Expr (.Call (.Attribute o name ap) xs [] cp) _=>GH c x q.reverse o&&(name==Nb u)&&ba c es xs&&(ap.endLine==cp.line)&&Nc o&&decide (es.len<20)&&Uc u es.len
 |.expr e,.Expr e' _=>bc c e e'&&C8 e'
 |.iff t a b,.If t' a' b' _=>bc c t t'&&t.bq&&b6 c a a'&&b6 c b b'
 |.wh t b,.While t' b' [] _=>bc c t t'&&t.bq&&b6 c b b'&&c.rz
 |.cY g it b,.For tg pV b' [] _=>kC c g tg&&sO c tg it pV&&Dq pV&&b6 c b b'&&c.rz&&c.cm
 |.ret e,.Return (some e') _=>bc c e e'
 |.gD es,.Return (some (.Tuple xs _ _)) _=>ba c es xs&&decide (es.len<=1000)
 |.raise n es,.Raise (some (.Call (.Name x _) xs [] _)) none _=>(x==AE n)&&fy c.sc x&&BM x&&ba c es xs&&decide (0<es.len)&&decide (es.len<=1000)&&c.rz&&c.cm
 |.fx b n i h e,.Try b' hs e' fin _=>match Qf hs fin with
  |some (x,y,h')=>(x==AE n)&&fy c.sc x&&BM x&&Ud c i y&&c.rz&&c.cm&&!h'.isEmpty&&b6 {c with rz:=false} b b'&&b6 {c with rz:=false,cm:=false} h h'&&b6 c e e'
  |none=>false
 |_,_=>false
noncomputable def b6(c:dz):Ss->List Stmt->Bool
 |.nil,[]=>true
 |.cons (.gv _ _) r,st=>b6 c r st
 |.cons (.dead _) r,st=>b6 c r st
 |.cons s r,x::xs=>g3 s x (ckT c s x)&&b6 c r xs
 |_,_=>false
end
abbrev uM(c:dz)(s:S)(st:Stmt):Bool:=g3 s st (ckT c s st)
theorem Dr{c:dz}{s:S}{st:Stmt}(h:uM c s st=true)(hn:cU (kS s) 99=false:=by rfl):cU (kT st) (kS s)=true:=by
 unfold uM g3 at h
 rw[hn,qt,bg]at h
 exact h.1
abbrev RW(s:Stmt):Prop:=∃a b c,s=.Assign a b c
theorem HW(h:cU (kT s) 1=true):RW s:=by
 cases s<;>first|exact⟨_,_,_,rfl⟩|exact au h
abbrev WD(s:Stmt):Prop:=∃a b,s=.Expr a b
theorem OM(h:cU (kT s) 2=true):WD s:=by
 cases s<;>first|exact⟨_,_,rfl⟩|exact au h
abbrev Aal(s:Stmt):Prop:=∃a b c d,s=.If a b c d
theorem Aam(h:cU (kT s) 3=true):Aal s:=by
 cases s<;>first|exact⟨_,_,_,_,rfl⟩|exact au h
abbrev Ue(s:Stmt):Prop:=∃a b c d,s=.While a b c d
theorem Uf(h:cU (kT s) 4=true):Ue s:=by
 cases s<;>first|exact⟨_,_,_,_,rfl⟩|exact au h
abbrev YY(s:Stmt):Prop:=∃a b c d e,s=.For a b c d e
theorem YZ(h:cU (kT s) 5=true):YY s:=by
 cases s<;>first|exact⟨_,_,_,_,_,rfl⟩|exact au h
abbrev RX(s:Stmt):Prop:=∃a b,s=.Return a b
theorem Lu(h:cU (kT s) 6=true):RX s:=by
 cases s<;>first|exact⟨_,_,rfl⟩|exact au h
abbrev Ug(s:Stmt):Prop:=∃a b c,s=.Raise a b c
theorem Uh(h:cU (kT s) 7=true):Ug s:=by
 cases s<;>first|exact⟨_,_,_,rfl⟩|exact au h
abbrev Y0(s:Stmt):Prop:=∃a b c d e,s=.Try a b c d e
theorem Y1(h:cU (kT s) 8=true):Y0 s:=by
 cases s<;>first|exact⟨_,_,_,_,_,rfl⟩|exact au h
structure Cs(Z:Zx)(c:dz)(lv:Nat)(X:Cx)(E:XK):Prop where
 ct:Ct Z.p c lv X Z.EX
 ex:c.rz=true->Z.EX=fun _=>E
 xw:c.rz=true->PD X E
 po:c.rz=true->PassesOwn (model X.prog X.w) X.A X.env X.xe
 kind:c.sc.kind=.function
 n5:X.stack=X.env::X.outer
 xp:X.env.frame=some X.env.locals
section
variable{Z:Zx}{c:dz}{lv:Nat}{X:Cx}{E:XK}{pos:Pos}
theorem JV{n:Nat}(h:C8 e=true):swapsWith e t n env=pure false:=by
 cases e<;>first|rfl|cases h
theorem IZ{q:List (Bool×Pu.E)}:∀e∈q,∀n∈e.2.need,n∈Ez q:=by
 induction q with
 |nil=>intro e he;cases he
 |cons a q ih=>
 intro e he n hn
 obtain⟨b,e0⟩:=a
 rcases bB.mp he with rfl|he
 ·exact eO _ hn
 exact du _ (ih e he n hn)
theorem Ui(C:Cs Z c lv X E){x k:Nat}(hn:∀n∈e.need,aE Z.p lv X n)(h1:(c.N[x]?==some y)=true)(h2:He c y=true)(h3:bc c e e'=true):PS X (.Assign [.Name y py] e' pos) (lS Z (.asg x k e)):=by
 have hN:X.N[x]?=some y:=by rw[C.ct.N];exact beq_iff_eq.mp h1
 obtain⟨l1,l2⟩:=C.ct.loc h2
 intro pins s U H D I h
 obtain⟨Y,m,rfl,S,h⟩:=YJ h
 by_cases hc:C8 e'=true
 ·exact QL C.ct.nd hN l1 (snd e C.ct (tn:=a7 m) e' hn h3).1 (JV hc) l2 pins s _ H D I h
 cases e' with
 |ListComp e8 gens scope q=>
  have lH:∃b:Bool,swapsWith (.ListComp e8 gens scope q) (some (.Name y py)) pos.line X.env=pure b:=⟨_,rfl⟩
  obtain⟨b,lH⟩:=lH
  cases b with
  |false=>exact QL C.ct.nd hN l1 (snd e C.ct (tn:=a7 m) _ hn h3).1 lH l2 pins s _ H D I h
  |true=>
   cases e with
   |ao nl fr g it elt=>
    obtain⟨tg,iter,ifs,rfl,h3⟩:=Fs h3
    obtain⟨h3,g7⟩:=Ab h3
    obtain⟨h3,g6⟩:=Ab h3
    obtain⟨h3,g5⟩:=Ab h3
    obtain⟨h3,g4⟩:=Ab h3
    obtain⟨h3,g3⟩:=Ab h3
    obtain⟨h3,g2⟩:=Ab h3
    obtain⟨h3,g1⟩:=Ab h3
    obtain⟨h3,g0⟩:=Ab h3
    obtain⟨gr,gc⟩:=Ab h3
    cases ifs with
    |cons _ _=>cases g0
    |nil=>
    have g2:=of_decide_eq_true g2
    subst g2
    obtain⟨Sc,nd⟩:=Me C.ct g1
    obtain⟨n1,n2⟩:=As hn
    refine PZ (C.ct.calm gc) (C.ct.ph gr) Sc (l0 it C.ct (tn:=a7 m) iter n1 g4) (fun i hi=>of_decide_eq_true (cz.mp g3 i hi)) (fun z=>⟨?_,?_⟩) (Ew g5) C.ct.nd hN l1 l2 lH pins s _ H D I h
    ·exact Ji (C.ct.aH nd z) g6
    exact(snd elt (C.ct.aH nd z) e8 (fun n m=>(n2 n m).aH) g7).1
   |a9 nl fr g it cond elt=>
    obtain⟨tg,iter,ifs,rfl,h3⟩:=Fs h3
    obtain⟨lW,rfl,h3⟩:=MW h3
    obtain⟨h3,g9⟩:=Ab h3
    obtain⟨h3,g8⟩:=Ab h3
    obtain⟨h3,g7⟩:=Ab h3
    obtain⟨h3,g6⟩:=Ab h3
    obtain⟨h3,g5⟩:=Ab h3
    obtain⟨h3,g4⟩:=Ab h3
    obtain⟨h3,g3⟩:=Ab h3
    obtain⟨h3,g2⟩:=Ab h3
    obtain⟨h3,g1⟩:=Ab h3
    obtain⟨gr,gc⟩:=Ab h3
    have g2:=of_decide_eq_true g2
    subst g2
    obtain⟨Sc,nd⟩:=Me C.ct g1
    obtain⟨n1,n2⟩:=As hn
    obtain⟨n2,n3⟩:=As n2
    refine P0 (C.ct.calm gc) (C.ct.ph gr) Sc (l0 it C.ct (tn:=a7 m) iter n1 g4) (fun i hi=>of_decide_eq_true (cz.mp g3 i hi)) (fun z=>⟨?_,?_,?_⟩) (Ew g5) C.ct.nd hN l1 l2 lH pins s _ H D I h
    ·exact Ji (C.ct.aH nd z) g6
    ·exact(snd cond (C.ct.aH nd z) lW (fun n m=>(n2 n m).aH) g7).2 g8
    exact(snd elt (C.ct.aH nd z) e8 (fun n m=>(n3 n m).aH) g9).1
   |mt m _ _=>cases m<;>exact au h3
   |_=>exact au h3
 |SetComp _ _ _ _=>
  cases e with
  |mt m _ _=>cases m<;>exact au h3
  |_=>exact au h3
 |DictComp _ _ _ _ _=>
  cases e with
  |mt m _ _=>cases m<;>exact au h3
  |_=>exact au h3
 |_=>exact absurd rfl hc
theorem RY{k:Nat}(h:HV e'=true):swappedStores [.Tuple ts k q] e' env=pure none:=by
 cases e'<;>first|rfl|cases h
theorem Nf{α:Type}{c:Prop}[Decidable c]{x e:α}(h:e=x):(if c then x else e)=x:=by
 by_cases k:c
 ·exact if_pos k
 exact(if_neg k).trans h
theorem Aan{α β:Type}{f:α->Option β}{a b:α}(h:f a=none\/f b=none):(List.filterMap f [a,b]).length≠2:=by
 rcases h with h|h
 ·rw[zz h];exact fun z=>absurd (List.length_filterMap_le f [b]) (by rw[z];exact(by decide:¬2<=1))
 rw[oG,zz h,List.filterMap_nil]
 cases f a<;>exact fun z=>nomatch z
theorem RZ{k:Nat}(h:env.kindOf x=some .cell\/env.kindOf y=some .cell):swappedStores [.Tuple [.Name x px,.Name y py] k q] e' env=pure none:=by
 cases e' with
 |Tuple vs k2 q2=>
  refine Nf (Nf (if_pos (oP.mpr (.inl (bne_iff_ne.mpr (Aan (h.imp (fun h=>?_) fun h=>?_)))))))
  ·exact if_neg (by rw[h];exact fun z=>au z)
  exact if_neg (by rw[h];exact fun z=>au z)
 |_=>rfl
theorem Uj{k:Nat}(hs:env.scope=c.sc)(h:(HV e'||Qe c ts)=true):swappedStores [.Tuple ts k q] e' env=pure none:=by
 rcases oP.mp h with h|h
 ·exact RY h
 match ts,h with
 |[a,b],h=>
  cases a with
  |Name x px=>
   cases b with
   |Name y py=>
    refine RZ ?_
    have h:((c.sc.names.lookup x==some .cell)||(c.sc.names.lookup y==some .cell))=true:=h
    rw[oP,beq_iff_eq,beq_iff_eq,<- hs]at h
    exact h
   |_=>exact au h
  |_=>exact au h
 |[],h=>exact au h
 |[a],h=>cases a<;>exact au h
 |a::b::d::r,h=>cases a<;>first|exact au h|(cases b<;>exact au h)
theorem Uk{k:Nat}{n:Nat}:swapsWithSole [.Tuple ts k q] e' n env=pure false:=by
 cases e'<;>rfl
theorem Ul{n:Nat}(h:C8 e'=true):swapsWithSole [.Subscript o i q] e' n env=pure false:=by
 cases e'<;>first|rfl|cases h
theorem R0(C:Cs Z c lv X E){xs:List Nat}{k:Nat}(hn:∀n∈e.need,aE Z.p lv X n)(h1:kC c (.tp xs) (.Tuple ts k q)=true)(h2:bc c e e'=true)(h3:(HV e'||Qe c ts)=true):PS X (.Assign [.Tuple ts k q] e' pos) (lS Z (.eE xs e)):=by
 intro pins s U H D I h
 obtain⟨m,h⟩:=Wx (K:=X.K) h
 exact QK (snd e C.ct (tn:=a7 m) e' hn h2).1 (Ji C.ct h1) Uk (Uj C.ct.sc h3) rfl pins s U H D I h
theorem R1(C:Cs Z c lv X E)(hn:∀n∈e.need,aE Z.p lv X n)(h1:bc c e e'=true)(h2:C8 e'=true):PS X (.Expr e' pos) (lS Z (.expr e)):=by
 intro pins s U H D I h
 obtain⟨m,h⟩:=Wy h
 exact GM (snd e C.ct (tn:=a7 m) e' hn h1).1 (JV h2) pins s U H D I h
theorem Uo(C:Cs Z c lv X E){x:Nat}{q:List (Bool×Pu.E)}(n1:∀n∈Ez q,aE Z.p lv X n)(n2:∀n∈i.need,aE Z.p lv X n)(n3:∀n∈e.need,aE Z.p lv X n)
  (h1:GH c x q.reverse o=true) (h2:bc c i i'=true) (h3:Bd i'=true) (h4:bc c e e'=true) (h5:C8 e'=true):PS X (.Assign [.Subscript o i' p2] e' pos) (lS Z (.set x q i e)):=by
 intro pins s U H D I h
 obtain⟨m,h⟩:=YK h
 have A:=Qc C.ct (tn:=a7 m) (x:=x) (rp:=q.reverse) (o:=o) (fun e he n hn=>n1 n (IZ e (vd.mp he) n hn)) h1
 rw[zI]at A
 have hw:swappedStores [.Subscript o i' p2] e' X.env=pure none:=by cases e'<;>rfl
 refine QK (snd e C.ct (tn:=a7 m) e' n3 h4).1 (Xv A (snd i C.ct (tn:=a7 m) i' n2 h2).1 Th (fun v=>?_)) (Ul h5) hw rfl pins s U H D I h
 cases i'<;>first|rfl|cases h3
theorem Up{p:Px}{EX:cG}{tn:List Nat}{K:Frag}{u:V->List V->Hp->VK->Prop}{x:Nat}{q:List (Bool×Pu.E)}{U:L2.St}{H:Hp}{Q:Hp->Prop}(h:pP p EX tn x q U H fun v H1=>n8 K "list" v H1/\jM p EX tn .nil U H1 fun vs H2=>u v vs H2 fun _ H3=>Q H3) :
  pP p EX tn x q U H fun v H1=>n8 K "list" v H1/\u v [] H1 fun _ H3=>Q H3:=by
 obtain⟨Y,t,is,s,e1,e2,e3,e4,e5,e6,e7,h⟩:=h
 refine⟨Y,t,is,s,e1,e2,e3,e4,e5,e6,e7,fun H' s'=>?_⟩
 obtain⟨h1,fk,rfl,hF,j,k,hj,h2⟩:=h H' s'
 exact⟨h1,h2 [] H' rfl ⟨ag.refl _,trivial,by simp[T.rests],by simp[T.aj],by simp[T.cg,T.aj]⟩⟩
theorem R4{x:Nat}{rp:List (Bool×Pu.E)}(h:GH c x rp o=true):attributeBase o name env (eval o env)=eval o env:=by
 cases rp with
 |nil=>cases o<;>first|rfl|exact au h
 |cons a r=>obtain⟨b,e⟩:=a;cases o<;>first|rfl|exact au h
theorem Uq(C:Cs Z c lv X E){x:Nat}{q:List (Bool×Pu.E)}(n1:∀n∈Ez q,aE Z.p lv X n)(n2:∀n∈es.need,aE Z.p lv X n)
  (h1:GH c x q.reverse o=true) (h2:ba c es xs=true) (h3:(ap.endLine==cp.line)=true) (h5:Uc u es.len=true):PS X (.Expr (.Call (.Attribute o (Nb u) ap) xs [] cp) pos) (lS Z (.mut x q u es)):=by
 intro pins s U H D I h
 obtain⟨Y,m,r,rfl,S,hr,h⟩:=h
 have A:PE X o (pP Z.p Z.EX (a7 m) x q):=by
  have A:=Qc C.ct (tn:=a7 m) (x:=x) (rp:=q.reverse) (o:=o) (fun e he n hn=>n1 n (IZ e (vd.mp he) n hn)) h1
  rwa [zI]at A
 have hb:∀name:Str,attributeBase o name X.env (eval o X.env)=eval o X.env:=fun name=>R4 h1
 obtain⟨st,sl⟩:=C7 h2
 obtain⟨k,dq,hr⟩:=Ws hr
 obtain⟨hc,hr⟩:=M3 hr
 obtain⟨c1,c2,c3⟩:=hc
 cases nH:es.sQ m with
 |some yk=>
  obtain⟨y,ky⟩:=yk
  rw[nH]at hr
  obtain⟨⟨d1,d2,d3,d4⟩,rfl⟩:=AI hr
  subst d1
  have hq:q=[]:=by cases q with|nil=>rfl|cons _ _=>cases d4
  subst hq
  have wK:es=.cons (.nm y) .nil/\m[y]?=some (.ow ky):=by
   match es,nH with
   |.cons e .nil,nH=>
    obtain⟨z,hz,hq⟩:=bS nH
    cases RS hz
    split at hq
    ·cases hq;exact⟨rfl,‹_›⟩
    cases hq
   |.nil,nH=>exact aJ nH
   |.cons _ (.cons _ _),nH=>exact aJ nH
  obtain⟨rfl,gV⟩:=wK
  cases xs with
  |nil=>cases sl
  |cons a xr=>
   cases xr with
   |cons _ _=>cases sl
   |nil=>
    obtain⟨g,_⟩:=Ab (show(bc c (.nm y) a&&An a&&ba c .nil [])=true from h2)
    obtain⟨g1,g2⟩:=Ab g
    cases a with
    |Name z pz=>
     obtain⟨g,g5⟩:=Ab (show((c.N[y]?==some z)&&GG c.sc z&&BM z)=true from g1)
     obtain⟨g3,g4⟩:=Ab g
     obtain⟨e1,e2⟩:=BU g5
     have hv:PE X (.Name z pz) (S5 y):=GK (by rw[C.ct.N];exact beq_iff_eq.mp g3) (C.ct.qK g4) e1 e2
     refine GM (G9 PySem.F.plainAttrs_list PySem.F.slot_list_append PySem.F.type_list_append HG A (A4 hv CK rfl) (hb _) rfl h3 rfl rfl) rfl pins s _ H D I ?_
     exact YL (X:=X) S dq gV d2 (by simpa[ib] using d3) rfl h
    |_=>exact au (HP g1)
 |none=>
  rw[nH]at hr
  obtain⟨⟨j1,k1⟩,g1,hr⟩:=bS hr
  obtain⟨ug,rfl⟩:=AI hr
  have B:=(ia es C.ct (tn:=a7 m) xs n2 h2).1
  have M:=Wv (X:=X) C.ct.K S dq c1 c2 g1 ug rfl h
  have one:∀{y:Expr},An y=true->((backTo cp (starEach [y] X.env)).all (fun x=>!x.1)&&(backToKw cp (keywordEach [] X.env)).all (fun x=>x.1.isSome)&&decide ([y].length+([]:List Keyword).length+(if([]:List Keyword).isEmpty then 0 else 1)<30))=true:=by
   intro y hy
   rw[Ah hy];rfl
  cases u with
  |append=>
   have h5:es.len=1:=of_decide_eq_true h5
   match xs,sl,st with
   |[y],_,st=>
    have hy:An y=true:=by simpa using st
    exact GM (G9 PySem.F.plainAttrs_list PySem.F.slot_list_append PySem.F.type_list_append HG A B (hb _) (one hy) h3 (Ah hy) rfl) rfl pins s _ H D I M
   |[],sl,_=>rw[h5]at sl;cases sl
   |_::_::_,sl,_=>rw[h5]at sl;cases sl
  |extend=>
   have h5:es.len=1:=of_decide_eq_true h5
   match xs,sl,st with
   |[y],_,st=>
    have hy:An y=true:=by simpa using st
    exact GM (G9 PySem.F.plainAttrs_list PySem.F.slot_list_extend PySem.F.type_list_extend Qd A B (hb _) (one hy) h3 (Ah hy) rfl) rfl pins s _ H D I M
   |[],sl,_=>rw[h5]at sl;cases sl
   |_::_::_,sl,_=>rw[h5]at sl;cases sl
  |clear=>
   have h5:es.len=0:=of_decide_eq_true h5
   rw[h5]at sl
   cases xs with
   |cons _ _=>cases sl
   |nil=>
    cases es with
    |cons _ _=>cases h5
    |nil=>
    refine GM (XR PySem.F.plainAttrs_list PySem.F.slot_list_clear PySem.F.type_list_clear Ti A (hb _) h3) rfl pins s _ H D I ?_
    exact Up M
end
section
variable{Z:Zx}{c:dz}{lv:Nat}{X:Cx}{E:XK}{pos:Pos}
theorem Ur(C:Cs Z c lv X E)(hn:∀n∈e.need,aE Z.p lv X n)(h1:bc c e e'=true):PS X (.Return (some e') pos) (lS Z (.ret e)):=by
 intro pins s U H D I h
 rcases YM h with⟨i,t,rfl,hs,hq⟩|⟨m,h⟩
 ·cases e' with
  |Name y q=>
   obtain⟨g,h3⟩:=Ab (show((c.N[i]?==some y)&&GG c.sc y&&BM y)=true from h1)
   obtain⟨h1,h2⟩:=Ab g
   obtain⟨d1,d2⟩:=BU h3
   exact Mp (GK (by rw[C.ct.N];exact beq_iff_eq.mp h1) (C.ct.qK h2) d1 d2) pins s U H D I ⟨_,hs,hq⟩
  |_=>exact au (HP h1)
 exact Mp (snd e C.ct (tn:=a7 m) e' hn h1).1 pins s U H D I h
theorem Qg(C:Cs Z c lv X E){n:Nat}(hn:∀n∈es.need,aE Z.p lv X n)(hr:aE Z.p lv X (.rs n))(h1:fy c.sc (AE n)=true)(h2:BM (AE n)=true)(h3:ba c es xs=true)(h4:0<es.len)(h5:es.len<=1000)(j7:c.rz=true)(dR:c.cm=true) :
  PS X (.Raise (some (.Call (.Name (AE n) np) xs [] cp)) none pos) (lS Z (.raise n es)):=by
 intro pins s U H D I h
 obtain⟨r1,r2,r3⟩:=hr
 obtain⟨m,h⟩:=T8 (C.ct.kx.lt n r1) h
 obtain⟨s1,s2⟩:=C7 h3
 have A:=(ia es C.ct (tn:=a7 m) xs hn h3).1
 cases xs with
 |nil=>rw[<- s2]at h4;cases h4
 |cons x xr=>
 rw[eR,bg]at s1
 refine To (C.xw j7) (C.ct.calm dR) (C.ct.gl h1) r2 r3 A (BU h2).1 (Ah s1.1) (AF s1.2) pins s U H D I ?_
 obtain⟨Y,e,hF,j,k,hj,h⟩:=h
 refine⟨Y,e,hF,j,k,hj,h.mono (ag.refl _) fun ds _ hd ts H1 ht R=>?_⟩
 obtain⟨q1,q2⟩:=hd ts H1 ht R
 refine⟨by rw[q1];exact aS h5 (by decide),?_⟩
 have:=q2 r1
 rw[C.ex j7]at this
 exact this
end
section
variable{Z:Zx}{c:dz}{lv:Nat}{X:Cx}{E:XK}{pos:Pos}
theorem Qh(C:Cs Z c lv X E):∀(es:Es){I:List Nat}(xs:List Expr),(∀n∈es.need,aE Z.p lv X n)->ba c es xs=true->PA X xs (lRO Z m Y I es)
 |.nil,I,xs,hn,h=>by
  cases xs with
  |nil=>
   refine PA.mono CK fun U H Q h=>?_
   obtain⟨rfl,S,k,hk,h⟩:=h
   exact h [] H rfl YV
  |cons _ _=>exact au h
 |.cons e r,I,xs,hn,h=>by
  cases xs with
  |nil=>exact au h
  |cons x xs=>
   obtain⟨h,h3⟩:=Ab (show(bc c e x&&An x&&ba c r xs)=true from h)
   obtain⟨h1,h2⟩:=Ab h
   obtain⟨n1,n2⟩:=As hn
   cases q:Mh m e with
   |some ik=>
    obtain⟨i,k⟩:=ik
    obtain⟨rfl,hm⟩:=T6 q
    cases x with
    |Name y py=>
     obtain⟨g,g3⟩:=Ab (show((c.N[i]?==some y)&&GG c.sc y&&BM y)=true from h1)
     obtain⟨g1,g2⟩:=Ab g
     obtain⟨d1,d2⟩:=BU g3
     refine PA.mono (A4 (GK (by rw[C.ct.N];exact beq_iff_eq.mp g1) (C.ct.qK g2) d1 d2) (Qh C (m:=m) (Y:=Y) r (I:=i::I) xs n2 h3) (Ah h2)) fun U H Q h=>?_
     obtain⟨rfl,S,k0,hk,h⟩:=h
     rw[qM,q]at hk
     simp only at hk
     split at hk
     ·cases hk
     rename_i hi
     obtain⟨k2,fL,hk⟩:=bS hk
     cases hk
     simp only[evs,ev]at h
     cases q2:get (aR Y) i with
     |exc c=>unfold get at q2;split at q2<;>cases q2
     |bad=>rw[q2]at h;exact nE h
     |ok d=>
     obtain⟨t,ht,rfl⟩:=FL q2
     rw[q2,Res.bind_ok]at h
     refine⟨_,DL ht,rfl,S,k2,fL,h.bind.mono (ag.refl _) fun ds _ h ts H1 dF R=>?_⟩
     exact h (t::ts) H1 (by simp[T.ai,dF]) (YW S ht hm hi R)
    |_=>exact au (HP h1)
   |none=>
   refine PA.mono (A4 (snd e C.ct (tn:=a7 m) x n1 h1).1 (Qh C (m:=m) (Y:=Y) r (I:=I) xs n2 h3) (Ah h2)) fun U H Q h=>?_
   obtain⟨rfl,S,k0,hk,h⟩:=h
   rw[qM,q]at hk
   simp only at hk
   obtain⟨⟨j1,k1⟩,hj,hk⟩:=bS hk
   split at hk
   ·rename_i hz
    have hz:j1=0:=hz
    subst hz
    obtain⟨k2,fL,hk⟩:=bS hk
    cases hk
    simp only[evs]at h
    refine l1 S.ok hj h fun d t H1 ht R h=>?_
    subst ht
    refine⟨rfl,S.grow R.same,k2,fL,h.bind.mono R.same fun ds _ h ts H2 dF R2=>?_⟩
    exact h (t::ts) H2 (by simp[T.ai,dF]) (YX S R R2)
   cases hk
end
section
variable{Z:Zx}{c:dz}{lv:Nat}{X:Cx}{E:XK}{pos:Pos}
theorem Us(C:Cs Z c lv X E)(dR:X.calm=true){b h e:Ss}{n i:Nat}{y:Option Str}{b' e' hr:List Stmt}{b0:Stmt}{p1 p2:Pos}(nC:aE Z.p lv X (.cl n))(hy:Ud c i y=true)(hg:Gl X (AE n))(hd:(AE n==("__debug__" : Str))=false)
  (B:∀(EX:cG)(W:WT)(pn:ur),E5 (cX X.prog X.w) (X.eY W pn) EX->∀mx,gu (X.eY W pn) b' (fX {Z with EX:=EX,mx:=mx} b)) (S:∀a mx,gu (X.kz a) (b0::hr) (fX {Z with EX:=wR,mx:=mx} h)) (O:gu X e' (fX Z e)) :
  PS X (.Try b' [.ExceptHandler (some (.Name (AE n) p1)) y (b0::hr) p2] e' [] pos) (lS Z (.fx b n i h e)):=by
 intro pins s U H D I hq
 obtain⟨mb,mh,q⟩:=YU (K:=X.K) C.ct.K C.ct.kx nC.1 hq
 cases y with
 |some y=>cases hy
 |none=>exact VH dR C.n5 C.xp (by rw[C.ct.N];exact of_decide_eq_true hy) hg nC.2 (fun E W pn hp=>B E W pn hp mb) (fun a=>S a mh) O hd pins s U H D I q
end
mutual
theorem Abj{Z:Zx}{c:dz}{lv:Nat}{X:Cx}{E:XK}(C:Cs Z c lv X E):∀(s:S)(st:Stmt),(∀n∈s.need,aE Z.p lv X n)->uM c s st=true->PS X st (lS Z s)
 |.asg x k e,st,hn,h=>by
  obtain⟨ts,e',q,rfl⟩:=HW (Dr h)
  match ts,h with
  |[t],h=>
   cases t with
   |Name y py=>
    obtain⟨h,h3⟩:=Ab (show((c.N[x]?==some y)&&He c y&&bc c e e')=true from h)
    obtain⟨h1,h2⟩:=Ab h
    exact Ui C hn h1 h2 h3
   |_=>exact au h
  |[],h=>exact au h
  |t::_::_,h=>cases t<;>exact au h
 |.gv _ _,st,hn,h=>by cases st<;>exact au h
 |.dead _,st,hn,h=>by cases st<;>exact au h
 |.eE xs e,st,hn,h=>by
  obtain⟨ts,e',q,rfl⟩:=HW (Dr h)
  match ts,h with
  |[t],h=>
   cases t with
   |Tuple es k py=>
    obtain⟨h,h3⟩:=Ab (show(kC c (.tp xs) (.Tuple es k py)&&bc c e e'&&(HV e'||Qe c es))=true from h)
    obtain⟨h1,h2⟩:=Ab h
    exact R0 C hn h1 h2 h3
   |_=>exact au h
  |[],h=>exact au h
  |t::_::_,h=>cases t<;>exact au h
 |.set x q i e,st,hn,h=>by
  obtain⟨ts,e',q2,rfl⟩:=HW (Dr h)
  match ts,h with
  |[t],h=>
   cases t with
   |Subscript o i' py=>
    obtain⟨h,h5⟩:=Ab (show(GH c x q.reverse o&&bc c i i'&&Bd i'&&bc c e e'&&C8 e')=true from h)
    obtain⟨h,h4⟩:=Ab h
    obtain⟨h,h3⟩:=Ab h
    obtain⟨h1,h2⟩:=Ab h
    obtain⟨n1,n2⟩:=As hn
    obtain⟨n2,n3⟩:=As n2
    exact Uo C n1 n2 n3 h1 h2 h3 h4 h5
   |_=>exact au h
  |[],h=>exact au h
  |t::_::_,h=>cases t<;>exact au h
 |.mut x q u es,st,hn,h=>by
  obtain⟨v,q2,rfl⟩:=OM (Dr h)
  cases v with
  |Call f xs ks cp=>
   cases f with
   |Attribute o name ap=>
    cases ks with
    |nil=>
     obtain⟨h,h8⟩:=Ab (show(GH c x q.reverse o&&(name==Nb u)&&ba c es xs&&(ap.endLine==cp.line)&&Nc o&&decide (es.len<20)&&Uc u es.len)=true from h)
     obtain⟨h,h7⟩:=Ab h
     obtain⟨h,h5⟩:=Ab h
     obtain⟨h,h4⟩:=Ab h
     obtain⟨h,h3⟩:=Ab h
     obtain⟨h1,h2⟩:=Ab h
     cases beq_iff_eq.mp h2
     obtain⟨n1,n2⟩:=As hn
     exact Uq C n1 n2 h1 h3 h4 h8
    |cons _ _=>exact au h
   |_=>exact au h
  |_=>exact au h
 |.expr e,st,hn,h=>by
  obtain⟨v,q2,rfl⟩:=OM (Dr h)
  obtain⟨h1,h2⟩:=Ab (show(bc c e v&&C8 v)=true from h)
  exact R1 C hn h1 h2
 |.iff t a b,st,hn,h=>by
  obtain⟨t',a',b',q,rfl⟩:=Aam (Dr h)
  obtain⟨h,h4⟩:=Ab (show(bc c t t'&&t.bq&&b6 c a a'&&b6 c b b')=true from h)
  obtain⟨h,h3⟩:=Ab h
  obtain⟨h1,h2⟩:=Ab h
  obtain⟨n1,n2⟩:=As hn
  obtain⟨n2,n3⟩:=As n2
  intro pins s U H D I h
  obtain⟨m,h⟩:=YN h
  exact ZR ((snd t C.ct (tn:=a7 m) t' n1 h1).2 h2) (dH C a a' n2 h3) (dH C b b' n3 h4) pins s U H D I h
 |.wh t b,st,hn,h=>by
  obtain⟨t',b',el,q,rfl⟩:=Uf (Dr h)
  cases el with
  |nil=>
   obtain⟨h,j7⟩:=Ab (show(bc c t t'&&t.bq&&b6 c b b'&&c.rz)=true from h)
   obtain⟨h,h3⟩:=Ab h
   obtain⟨h1,h2⟩:=Ab h
   obtain⟨n1,n2⟩:=As hn
   intro pins s U H D I h
   obtain⟨m,h⟩:=Aak h
   exact S8 (C.po j7) ((snd t C.ct (tn:=a7 m) t' n1 h1).2 h2) (dH C b b' n2 h3) pins s U H D I h
  |cons _ _=>exact au h
 |.cY g it b,st,hn,h=>by
  obtain⟨tg,pV,b',el,q,rfl⟩:=YZ (Dr h)
  cases el with
  |nil=>
   obtain⟨h,dR⟩:=Ab (show(kC c g tg&&sO c tg it pV&&Dq pV&&b6 c b b'&&c.rz&&c.cm)=true from h)
   obtain⟨h,j7⟩:=Ab h
   obtain⟨h,h4⟩:=Ab h
   obtain⟨h,h3⟩:=Ab h
   obtain⟨h1,h2⟩:=Ab h
   obtain⟨n1,n2⟩:=As hn
   have B:=dH C b b' n2 h4
   intro pins s U H D I h
   rcases YR (K:=X.K) (X:=X) h with⟨m,h⟩|⟨x,rfl,v,a,xs,e1,rfl,sq,hW⟩
   ·exact QR (C.po j7) (C.ct.calm dR) (l0 it C.ct (tn:=a7 m) pV n1 h2) (Ji C.ct h1) B (Ew h3) pins s U H D I h
   cases pV with
   |Name y q'=>
    obtain⟨g,g3⟩:=Ab (show((c.N[x]?==some y)&&GG c.sc y&&BM y)=true from h2)
    obtain⟨g1,g2⟩:=Ab g
    obtain⟨d1,d2⟩:=BU g3
    refine QR (C.po j7) (C.ct.calm dR) (MR (GK (by rw[C.ct.N];exact beq_iff_eq.mp g1) (C.ct.qK g2) d1 d2)) (Ji C.ct h1) B (Ew h3) pins s U H D I ?_
    exact⟨_,e1,a,rfl,.inl ⟨xs,sq,hW C.ct.K⟩⟩
   |_=>exact au (HP h2)
  |cons _ _=>exact au h
 |.ret e,st,hn,h=>by
  obtain⟨v,q,rfl⟩:=Lu (Dr h)
  cases v with
  |some e'=>exact Ur C hn h
  |none=>exact au h
 |.gD es,st,hn,h=>by
  obtain⟨v,q,rfl⟩:=Lu (Dr h)
  cases v with
  |none=>exact au h
  |some e'=>
   cases e' with
   |Tuple xs k2 p2=>
    obtain⟨h1,h2⟩:=Ab (show(ba c es xs&&decide (es.len<=1000))=true from h)
    intro pins s U H D I hq
    obtain⟨m,Y,hq⟩:=WB (of_decide_eq_true h2) hq
    exact Mp (QZ (Qh C es xs hn h1)) pins s U H D I hq
   |_=>exact au h
 |.raise n es,st,hn,h=>by
  obtain⟨v,w,q,rfl⟩:=Uh (Dr h)
  cases v with
  |none=>exact au h
  |some v=>
   cases v with
   |Call f xs ks cp=>
    cases f with
    |Name x np=>
     cases ks with
     |nil=>
      cases w with
      |none=>
       obtain⟨h,dR⟩:=Ab (show((x==AE n)&&fy c.sc x&&BM x&&ba c es xs&&decide (0<es.len)&&decide (es.len<=1000)&&c.rz&&c.cm)=true from h)
       obtain⟨h,j7⟩:=Ab h
       obtain⟨h,h6⟩:=Ab h
       obtain⟨h,h5⟩:=Ab h
       obtain⟨h,h4⟩:=Ab h
       obtain⟨h,h3⟩:=Ab h
       obtain⟨h1,h2⟩:=Ab h
       cases beq_iff_eq.mp h1
       exact Qg C (fun n m=>hn n (aL _ m)) (hn _ (aP ..)) h2 h3 h4 (of_decide_eq_true h5) (of_decide_eq_true h6) j7 dR
      |some _=>exact au h
     |cons _ _=>exact au h
    |_=>exact au h
   |_=>exact au h
 |.fx b n i h e,st,hn,dJ=>by
  obtain⟨b',hs,e',fin,q,rfl⟩:=Y1 (Dr dJ)
  have dJ:(match Qf hs fin with
   |some (x,y,h')=>(x==AE n)&&fy c.sc x&&BM x&&Ud c i y&&c.rz&&c.cm&&!h'.isEmpty&&b6 {c with rz:=false} b b'&&b6 {c with rz:=false,cm:=false} h h'&&b6 c e e'
   |none=>false)=true:=dJ
  cases hh:Qf hs fin with
  |none=>rw[hh]at dJ;cases dJ
  |some w=>
   obtain⟨x,y,h'⟩:=w
   rw[hh]at dJ
   obtain⟨p1,p2,rfl,rfl⟩:=WC hh
   obtain⟨dJ,g10⟩:=Ab dJ
   obtain⟨dJ,g9⟩:=Ab dJ
   obtain⟨dJ,g8⟩:=Ab dJ
   obtain⟨dJ,g7⟩:=Ab dJ
   obtain⟨dJ,gcm⟩:=Ab dJ
   obtain⟨dJ,g6⟩:=Ab dJ
   obtain⟨dJ,g4⟩:=Ab dJ
   obtain⟨dJ,g3⟩:=Ab dJ
   obtain⟨g1,g2⟩:=Ab dJ
   cases beq_iff_eq.mp g1
   have nC:aE Z.p lv X (.cl n):=hn _ (aP ..)
   have nj:∀k∈b.need++(h.need++e.need),aE Z.p lv X k:=fun k m=>hn k (aL _ m)
   obtain⟨n1,n2⟩:=As nj
   obtain⟨n2,n3⟩:=As n2
   cases h' with
   |nil=>cases g7
   |cons b0 hr=>
   refine Us C (C.ct.calm gcm) nC g4 (C.ct.gl g2) (BU g3).1 (fun EX W pn hp mx=>?_) (fun a mx=>?_) (dH C e e' n3 g10)
   ·exact dH (Z:={Z with EX:=EX,mx:=_}) (c:={c with rz:=false}) (X:=X.eY W pn) (E:=E) ⟨⟨C.ct.K,C.ct.N,C.ct.sc,C.ct.nd,C.ct.calm,C.ct.room,C.ct.un,⟨C.ct.r0.dp,C.ct.r0.un⟩,C.ct.blt,C.ct.bt,hp,C.ct.fn,C.ct.kx,(fun z=>nomatch z)⟩,(fun z=>nomatch z),(fun z=>nomatch z),(fun z=>nomatch z),C.kind,C.n5,C.xp⟩ b b' n1 g8
   refine dH (Z:={Z with EX:=wR,mx:=_}) (c:={c with rz:=false,cm:=false}) (X:=X.kz a) (E:=E) ⟨⟨C.ct.K,C.ct.N,C.ct.sc,C.ct.nd,(fun z=>nomatch z),(fun z=>nomatch z),C.ct.un,⟨C.ct.r0.dp,C.ct.r0.un⟩,C.ct.blt,C.ct.bt,?_,C.ct.fn,C.ct.kx,(fun z=>nomatch z)⟩,(fun z=>nomatch z),(fun z=>nomatch z),(fun z=>nomatch z),C.kind,C.n5,C.xp⟩ h (b0::hr) n2 g9
   intro _ _ _ _ _ _ _ hx
   obtain⟨_,_,_,_,_,_,_,_,_,_,_,_,_,_,_,_,_,_,_,_,z⟩:=hx
   exact z.elim
theorem dH{Z:Zx}{c:dz}{lv:Nat}{X:Cx}{E:XK}(C:Cs Z c lv X E):∀(s:Ss)(st:List Stmt),(∀n∈s.need,aE Z.p lv X n)->b6 c s st=true->gu X st (fX Z s)
 |.nil,st,hn,h=>by
  cases st with
  |nil=>exact fun pins s U H D I h=>Vs pins s U H D I (YQ h)
  |cons _ _=>exact au h
 |.cons s r,st,hn,h=>by
  obtain⟨n1,n2⟩:=As hn
  have skip:(∃x k,s=.gv x k)\/(∃x,s=.dead x)->b6 c r st=true->gu X st (fX Z (.cons s r)):=fun hs h=>gu.mono (dH C r st n2 h) fun D U H q=>Wz hs q
  by_cases hd:(∃x k,s=.gv x k)\/(∃x,s=.dead x)
  ·refine skip hd ?_
   rcases hd with⟨x,k,rfl⟩|⟨x,rfl⟩
   ·exact h
   exact h
  cases st with
  |nil=>cases s<;>first|exact au h|exact absurd (.inl ⟨_,_,rfl⟩) hd|exact absurd (.inr ⟨_,rfl⟩) hd
  |cons x xs=>
  have h:(uM c s x&&b6 c r xs)=true:=by
   cases s<;>first|exact h|exact absurd (.inl ⟨_,_,rfl⟩) hd|exact absurd (.inr ⟨_,rfl⟩) hd
  obtain⟨h1,h2⟩:=Ab h
  exact gu.mono (S6 (Abj C s x n1 h1) (dH C r xs n2 h2)) fun D U H q=>YO q
end
structure Lw where
 p:Px
 P:Program
 w:World
 mg:Str->Option Value
 base:Heap
structure Lw.Ok(L:Lw):Prop where
 blt:∀y∈FY,L.mg y=none
 bt:∀y∈(["bool", "dict", "ValueError", "set"]:List Str),L.mg y=none
 kx:Kx L.p
abbrev Ut(L:Lw)(F:Fn):Prop:=∃ps:List Str,ps.length=F.ar/\pD L.P L.w L.p.K L.mg L.base F.name F.lv ps (qI L.p F)
abbrev Aao(L:Lw)(F:Fn):Prop:=∃ps:List Str,ps.length=F.ar/\Yf L.P L.w L.p.K L.mg L.base F.name F.lv ps (Yt L.p F)
abbrev Aap(L:Lw)(F:Fn):Prop:=∃ps:List Str,ps.length=F.ar/\pD L.P L.w L.p.K L.mg L.base F.name F.lv ps (U_ L.p F)
abbrev Aaq(L:Lw)(F:Fn):Prop:=∃ps:List Str,ps.length=F.ar/\pD L.P L.w L.p.K L.mg L.base F.name F.lv ps (V_ L.p F)
abbrev bX(L:Lw)(lv:Nat):j6->Prop
 |.fn F=>F.lv<=lv/\Ut L F
 |.fm F=>F.lv<=lv/\Aap L F
 |.fc F=>F.lv<=lv/\Aaq L F
 |.cl n=>L.p.has n=true/\L.mg (AE n)=some (.ref (L.p.cl n))
 |.rs n=>L.p.has n=true/\nsIn L.p.K mainGlobals (AE n)=some (some (.ref (L.p.cl n)))/\excIn L.p.K (L.p.cl n) Gz "ValueError.__new__" = true
 |.f0 F=>F.lv<=lv/\Aao L F
 |.mk n=>L.p.has n=true/\nsIn L.p.K mainGlobals (AE n)=some (some (.ref (L.p.cl n)))/\excIn L.p.K (L.p.cl n) Gz "ValueError.__new__" = true/\keepIn L.p.K (.ref (L.p.cl n))=true
 |.gl x d=>∃u,L.mg x=some u/\RelV (dT d).val u
abbrev iL(f:j6->Prop):List j6->Prop
 |[]=>True
 |n::r=>f n/\iL f r
theorem iL.mem{f:j6->Prop}:∀{l:List j6},iL f l->∀n∈l,f n
 |[],_,n,h=>by cases h
 |m::r,h,n,hn=>by
  rcases bB.mp hn with rfl|hn
  ·exact h.1
  exact iL.mem h.2 n hn
abbrev Aj(name:Str)(ar lv dep n:Nat)(body:Ss):Fn:=⟨name,ar,lv,dep,fun ds=>if ds.length=ar then run n body ds else .bad⟩
theorem Ci{ar lv dep n:Nat}(h:ds.length=ar):(Aj x ar lv dep n b).den ds=run n b ds:=if_pos h
abbrev m0(ar n:Nat):Ms:=aaq ar .sh++aaq (n-ar) .dead
abbrev nI(n:Nat)(ts:List T):Ft:=ts.map some++aaq (n-ts.length) none
theorem xq(N:List Str)(ts:List T):aM (nI N.length ts)=L2.AL N (ts.map T.val):=by
 unfold aM nI L2.AL
 rw[aax,bH,bH,oH,aF]
 rfl
theorem xt(n:Nat)(ts:List T):aR (nI n ts)=Pu.AL n (T.ai ts):=by
 unfold aR nI Pu.AL
 rw[aax,bH,T.aw,bH,oH,aF]
 rfl
theorem Ng{ar n i:Nat}(h:(m0 ar n)[i]?=some d):(i<ar/\d=.sh)\/(ar<=i/\d=.dead):=by
 unfold m0 at h
 by_cases hi:i<ar
 ·rw[oF (by simpa using hi),qi,if_pos hi]at h
  exact .inl ⟨hi,(Option.some.inj h).symm⟩
 rw[kH (by simpa using hi),qi]at h
 split at h
 ·exact .inr ⟨nc hi,(Option.some.inj h).symm⟩
 cases h
theorem ON{n i:Nat}(h:(nI n ts)[i]?=some (some t)):t∈ts:=by
 unfold nI at h
 have:=cJ h
 rw[bw]at this
 rcases this with z|z
 ·obtain⟨u,hu,e⟩:=a8.mp z
  cases e;exact hu
 have:=(tM.mp z).2;cases this
theorem OO:∀{ts:List T},T.cV p H ts->∀t∈ts,t.Ok p H
 |[],_,t,h=>by cases h
 |u::r,h,t,ht=>by
  rcases bB.mp ht with rfl|ht
  ·exact h.1
  exact OO h.2 t ht
theorem sf0{n ar:Nat}(ok:T.cV p H ts)(hl:ts.length=ar)(hn:ar<=n):Sf p H (fun a=>a∈T.rests ts 0) (m0 ar n) (nI n ts) H:=by
 have nJ:∀{i k:Nat},(m0 ar n)[i]?≠some (.ow k):=fun {i k} h=>by
  rcases Ng h with⟨_,z⟩|⟨_,z⟩<;>cases z
 refine⟨?_,fun d hd=>?_,ag.refl _,fun i t j h1 h2 h3=>OO ok t (ON h1),fun i t k a h1 h2=>absurd h2 nJ,?_,fun i t k h1 h2=>absurd h2 nJ,fun i j t u k d h0 h1 h2=>absurd h2 nJ,fun i j t u k k2 h1 h2=>absurd h2 nJ⟩
 ·unfold nI m0
  simp[hl]
 ·obtain⟨i,hi⟩:=zH hd
  rcases Ng hi with⟨_,rfl⟩|⟨_,rfl⟩<;>rfl
 rintro a ⟨i,t,j,h1,h2,h3,h4⟩
 obtain⟨d,h5,rfl⟩:=A8 h2
 right
 refine T.aa.mpr ⟨t,ON h1,?_⟩
 rcases Ng h5 with⟨_,rfl⟩|⟨_,rfl⟩
 ·exact h4
 exact absurd h3 (by decide)
theorem bX.to{lv:Nat}(h:bX L lv n)(e1:X.prog=L.P)(e2:X.w=L.w)(e3:X.K=L.p.K)(e4:X.mg=L.mg)(e5:X.base=L.base):aE L.p lv X n:=by
 cases n with
 |fn F=>
  refine⟨h.1,?_⟩
  unfold PX
  rw[e1,e2,e3,e4,e5]
  exact h.2
 |fm F=>
  refine⟨h.1,?_⟩
  unfold Yu
  rw[e1,e2,e3,e4,e5]
  exact h.2
 |fc F=>
  refine⟨h.1,?_⟩
  unfold Yv
  rw[e1,e2,e3,e4,e5]
  exact h.2
 |cl n=>show _/\_;rw[e4];exact h
 |rs n=>show _/\_/\_;rw[e3];exact h
 |f0 F=>
  refine⟨h.1,?_⟩
  unfold U0
  rw[e1,e2,e3,e4,e5]
  exact h.2
 |mk n=>show _/\_/\_/\_;rw[e3];exact h
 |gl x d=>show ∃u,_;rw[e4];exact h
theorem R5{L:Lw}(O:L.Ok){x:Str}{st:Stmt}{N ps:List Str}{ar lv dep:Nat}{body:Ss}{f:Addr}{fd:FuncData}(D:n9 L.p.K x x st f fd)(S:dm N ps (Ar st))(uN:ps.length=ar)
  (dJ:b6 ⟨N,Ar st,true,true,true⟩ body (A5 st)=true) (xu:(eF (aaq N.length .dead) dep body (m0 ar N.length)).isSome=true) (hn:iL (bX L lv) body.need) (qP:dep<1000):dQ L.P L.w L.p.K L.mg L.base (cX L.P L.w) (lv+1) f fd ps (qI L.p (Aj x ar (lv+1) dep N.length body)):=by
 have dw:ps.length<=N.length:=by have:=congrArg aaI S.pre;rw[oI]at this;omega
 refine n9.okX D S (fun vs H Q E h=>?_) fun f dy A outer s H vs Q E hr dC=>?_
 ·obtain⟨ts,rfl,_,h,_⟩:=h
  rw[aF,h];exact uN.symm
 obtain⟨ts,rfl,ok,hl,h⟩:=dC
 have hl:ts.length=ar:=hl
 obtain⟨r,hr'⟩:=jD.mp xu
 let Z:Zx:=⟨L.p,H,fun a=>a∈T.rests ts 0,fun _=>E,aaq N.length .dead,dep⟩
 have C:Cs Z ⟨N,Ar st,true,true,true⟩ lv (Bo (cX L.P L.w) L.P L.w L.p.K L.mg L.base N x (Ar st) f dy A outer s H E) E:=by
  refine⟨⟨rfl,rfl,rfl,S.nd,fun _=>rfl,fun _=>hr,hr.units,hr.r0,O.blt,O.bt,?_,fun _ _=>rfl,O.kx,fun _=>⟨Ye fun _ _ _ h=>h,rfl,rfl⟩⟩,fun _=>rfl,fun _=>Tn fun _ _ _ h=>h,fun _=>PassesOwn.leaving,S.kind,rfl,rfl⟩
  intro pins U H' s' e kZ I h
  exact Z3 (fun _ _ _ h=>h) pins U H' s' e kZ I h
 refine⟨_,dH C body (A5 st) (fun n uL=>(hn.mem n uL).to rfl rfl rfl rfl rfl) dJ,nI N.length ts,m0 ar N.length,r,(xq N ts).symm,sf0 ok hl (by omega),hr',?_⟩
 have h:match (if(T.ai ts).length=ar then run N.length body (T.ai ts) else .bad) with
  |.ok d=>∀t H',t.dat=d->Rs L.p (fun a=>a∈T.rests ts 0) H H' 0 dep t->Q t.val H'
  |.exc c=>L.p.has (jL c)=true->∀H',ag H H'->XW L.p E c H'
  |.bad=>False:=h
 rw[if_pos (by rw[T.aw,aF];exact hl)]at h
 unfold run at h
 rw[xt]
 cases q:exs body (Pu.AL N.length (T.ai ts)) with
 |bb δ=>
  rw[q]at h
  intro m' Y' H' e1 e2 S' P'
  exact h .aJ H' rfl (Rs.a_ S'.same rfl)
 |ret d=>
  rw[q]at h
  show cx Z _ d _ _
  unfold cx
  rw[if_pos (show Z.dep<1000 from qP)]
  exact h
 |exc c δ=>
  rw[q]at h
  intro hc Y' H' e S' P'
  exact h hc H' S'.same
 |bad=>rw[q]at h;exact h.elim
theorem WE{L:Lw}(O:L.Ok){x:Str}{st:Stmt}{N ps:List Str}{ar lv dep:Nat}{body:Ss}(D:Df L.p.K L.mg x st ps)(S:dm N ps (Ar st))(uN:ps.length=ar)
  (dJ:b6 ⟨N,Ar st,true,true,true⟩ body (A5 st)=true) (xu:(eF (aaq N.length .dead) dep body (m0 ar N.length)).isSome=true) (hn:iL (bX L lv) body.need) (qP:dep<1000):Ut L (Aj x ar (lv+1) dep N.length body):=by
 obtain⟨f,fd,F,m,b⟩:=D
 exact⟨ps,uN,f,fd,R5 O F S uN dJ xu hn qP,m,F.kp,b⟩
abbrev Abk:Value->Bool
 |.type x=>x == "list"
 |_=>false
abbrev uO(K:Frag):Bool:=K.all fun e=>!Abk e.2.cls
theorem R6:∀{K:Frag},K.lookup a=some o->(a,o)∈K
 |[],h=>by cases h
 | (b,u)::r,h=>by
  by_cases e:a=b
  ·subst e
   rw[List.lookup_cons_self]at h
   cases h
   exact aP
  have:(a==b)=false:=by simpa using e
  rw[List.lookup_cons,this]at h
  exact aL _ (R6 h)
theorem Y2{K:Frag}(h:uO K=true){a:Addr}{o:Obj}(e:K.lookup a=some o):o.cls≠.type "list":=fun z=>by
 have:=cz.mp h (a,o) (R6 e)
 rw[z]at this
 cases this
abbrev sV(K:Frag):Sp:=fun vs H Q E=>∃(a:Addr)(ns:List Int),vs=[.ref a]/\ns.length<=63/\fi K H a (ns.map V.int)/\∀H',Q (.bl true) H'
theorem Nh:∀ns:List Int,(ns.map T.int).map T.val=ns.map V.int
 |[]=>rfl
 |n::r=>by rw[cT,cT,cT,Nh r];rfl
theorem Ni:∀ns:List Int,T.ai (ns.map T.int)=ns.map D.int
 |[]=>rfl
 |n::r=>by rw[cT,cT,T.ai,Ni r];rfl
theorem OP:∀ns:List Int,T.cV p H (ns.map T.int)
 |[]=>trivial
 |n::r=>⟨trivial,OP r⟩
theorem Y3{P:Program}{w:World}{K:Frag}{mg:Str->Option Value}{base:Heap}{p:Px}{F:Fn}{f:Addr}{fd:FuncData}{ps:List Str}(hF:dQ P w K mg base (cX P w) F.lv f fd ps (qI p F))(hp:p.K=K)(ha:F.ar=1)(hK:uO K=true)
  (hd:∀ns:List Int,ns.length<=63->F.den [.lst (ns.map .int)]=.ok (.bl true)):dQ P w K mg base (cX P w) F.lv f fd ps (sV K):=by
 refine hF.imp fun vs H Q E h=>?_
 obtain⟨a,ns,rfl,hl,hS,q⟩:=h
 have hR:Rd H a (.lst (ns.map V.int)):=by
  rcases hS with h|⟨o,ah,n,e,c,_⟩
  ·exact h
  exact absurd c (Y2 hK e)
 refine⟨[.lst a (ns.map T.int)],rfl,⟨⟨by rw[Nh];exact hR,OP ns⟩,trivial⟩,ha.symm,?_⟩
 have e:T.ai [T.lst a (ns.map T.int)]=[.lst (ns.map .int)]:=by
  show [D.lst (T.ai (ns.map T.int))]=_
  rw[Ni]
 rw[e,hd ns hl]
 intro t H' ht R
 cases t<;>first|cases ht|skip
 exact q H'
theorem Aar{l:PySem.W.OpenLaw}{k:Nat}{q:Program}{loose:List Str}{XP:(Str->Option Value)->Heap->Prop}{YP:World->Heap->Prop}{d:DefRec}{K:Params->PySem.W.Frag}{x:Str}(hn:l.most=some 63)(rT:d.params.defaults=[])(hr:b_ k callerA)
  (hY:∀(w:World)(h:Heap),YP w h->(K w.params).In h)
  (F:∀(w:World)(mg:Str->Option Value)(fa:Addr)(h:Heap),(K w.params).In h->h.Ns mainGlobals mg->mg d.name=some (.ref fa)->
   ∃fd:FuncData,(∀(s:Shared)(u:Value),BindsTo s fd ⟨[u],[]⟩ [(x,u)])/\∀base:Heap,(K w.params).In base->base.Ns mainGlobals mg->dQ l.prog w (K w.params) mg base (cX l.prog w) k fa fd [x] (sV (K w.params))) :
  PySem.W.WalkO q loose XP YP l.row.toRowW d [] (fun f vs=>PySem.call f vs) :=
 L2.VA (n:=63) (k:=k) (x:=x) (CX:=fun w=>cX l.prog w) (sp:=fun w=>sV (K w.params)) hn (by decide) rT hr hY F (fun _ _ a ns hl _ hS=>⟨a,ns,rfl,hl,hS,fun _=>rfl⟩) fun w H s e s' h=>by
  obtain⟨_,_,_,_,_,_,_,_,_,_,_,_,_,_,_,_,_,_,_,_,z⟩:=h
  exact z
abbrev Ak(K:Frag)(x:Str)(st:Stmt):Prop:=∃(f:Addr)(oc:Value)(od an:Option Addr)(sl:Array (Option Value))(kV dc pm cd ct:Value),nsIn K mainGlobals x=some (some (.ref f))/\K.lookup f=some ⟨oc,od,.func (fnOf x x (Cr st) (A5 st) (Ar st) .none kV dc pm an cd ct),sl⟩/\codeIn K cd x=true/\keepIn K (.ref f)=true
theorem Am{K:Frag}{x:Str}{st:Stmt}{f:Addr}{oc:Value}{od an:Option Addr}{sl:Array (Option Value)}{kV dc pm cd ct:Value}(a:nsIn K mainGlobals x=some (some (.ref f)))(l:K.lookup f=some ⟨oc,od,.func (fnOf x x (Cr st) (A5 st) (Ar st) .none kV dc pm an cd ct),sl⟩)(c:codeIn K cd x=true)(k:keepIn K (.ref f)=true):Ak K x st:=⟨f,oc,od,an,sl,kV,dc,pm,cd,ct,a,l,c,k⟩
theorem Af{K:Frag}{h:Heap}{mg:Str->Option Value}{x:Str}{st:Stmt}{ps:List Str}(X:K.In h)(G:h.Ns mainGlobals mg)(t:Ak K x st)(hb:∀(kV doc pm:Value)(an:Option Addr)(dy ct:Value)(us:List Value),us.length=ps.length->bindArgs (fnOf x x (Cr st) (A5 st) (Ar st) .none kV doc pm an dy ct) ⟨us,[]⟩=pure (ps.zip us)):Df K mg x st ps:=by
 obtain⟨f,oc,od,an,sl,kV,dc,pm,cd,ct,a,l,c,k⟩:=t
 exact Z5 X G a l c k hb
theorem gw(h:∀u0:Value,bindArgs fd ⟨[u0],[]⟩=pure [(a0,u0)]):∀us:List Value,us.length=([a0]:List Str).length->bindArgs fd ⟨us,[]⟩=pure (([a0]:List Str).zip us)
 |[u0],_=>h u0
theorem fz(h:∀u0 u1:Value,bindArgs fd ⟨[u0,u1],[]⟩=pure [(a0,u0),(a1,u1)]):∀us:List Value,us.length=([a0,a1]:List Str).length->bindArgs fd ⟨us,[]⟩=pure (([a0,a1]:List Str).zip us)
 |[u0,u1],_=>h u0 u1
theorem iM(h:∀u0 u1 u2:Value,bindArgs fd ⟨[u0,u1,u2],[]⟩=pure [(a0,u0),(a1,u1),(a2,u2)]):∀us:List Value,us.length=([a0,a1,a2]:List Str).length->bindArgs fd ⟨us,[]⟩=pure (([a0,a1,a2]:List Str).zip us)
 |[u0,u1,u2],_=>h u0 u1 u2
theorem oC(h:∀u0 u1 u2 u3:Value,bindArgs fd ⟨[u0,u1,u2,u3],[]⟩=pure [(a0,u0),(a1,u1),(a2,u2),(a3,u3)]):∀us:List Value,us.length=([a0,a1,a2,a3]:List Str).length->bindArgs fd ⟨us,[]⟩=pure (([a0,a1,a2,a3]:List Str).zip us)
 |[u0,u1,u2,u3],_=>h u0 u1 u2 u3
theorem ba5(h:∀u0 u1 u2 u3 u4:Value,bindArgs fd ⟨[u0,u1,u2,u3,u4],[]⟩=pure [(a0,u0),(a1,u1),(a2,u2),(a3,u3),(a4,u4)]):∀us:List Value,us.length=([a0,a1,a2,a3,a4]:List Str).length->bindArgs fd ⟨us,[]⟩=pure (([a0,a1,a2,a3,a4]:List Str).zip us)
 |[u0,u1,u2,u3,u4],_=>h u0 u1 u2 u3 u4
theorem ba6(h:∀u0 u1 u2 u3 u4 u5:Value,bindArgs fd ⟨[u0,u1,u2,u3,u4,u5],[]⟩=pure [(a0,u0),(a1,u1),(a2,u2),(a3,u3),(a4,u4),(a5,u5)]):∀us:List Value,us.length=([a0,a1,a2,a3,a4,a5]:List Str).length->bindArgs fd ⟨us,[]⟩=pure (([a0,a1,a2,a3,a4,a5]:List Str).zip us)
 |[u0,u1,u2,u3,u4,u5],_=>h u0 u1 u2 u3 u4 u5
structure j9(K:Frag)(x:Str)(C:Addr):Prop where
 q:nsIn K mainGlobals x=some (some (.ref C))
 x:iI K C
 t:∀T∈(["int", "bool", "str", "list", "tuple", "dict"]:List String),kitOne K (.ref C) (.type T)=some false
 v:kitOne K (.ref C) (.type "ValueError")=some true
 s:subIn K (.ref C) (.ref C)=some true
theorem Uu{K:Frag}{x:Str}{C:Addr}{cd:ClassData}(q:nsIn K mainGlobals x=some (some (.ref C)))
  (ga:findIn K (.ref C) "__getattribute__" = some (some (.builtin "BaseException.__getattribute__"))) (gn:findIn K (.ref C) "__getattr__" = some none) (sb:subIn K (.ref C) (.type "BaseException")=some true)
  (cl:findIn K (.ref C) "__class__" = some (some (.builtin "object.__class__"))) (mo:mroIn K C (.type "object")=some true) (ty:typeIn K (.ref C)=some (.type "type")) (cc:clsIn K C=some cd)
  (t1:kitOne K (.ref C) (.type "int")=some false) (t2:kitOne K (.ref C) (.type "bool")=some false) (t3:kitOne K (.ref C) (.type "str")=some false) (t4:kitOne K (.ref C) (.type "list")=some false) (t5:kitOne K (.ref C) (.type "tuple")=some false) (t6:kitOne K (.ref C) (.type "dict")=some false)
  (v:kitOne K (.ref C) (.type "ValueError")=some true) (s:subIn K (.ref C) (.ref C)=some true):j9 K x C:=by
 refine⟨q,⟨ga,gn,sb,cl,mo,ty,by rw[cc];rfl⟩,fun T hT=>?_,v,s⟩
 simp only[bB,oJ,or_false]at hT
 rcases hT with rfl|rfl|rfl|rfl|rfl|rfl<;>assumption
@[reducible]noncomputable def pW:=List (Nat×Addr)
abbrev ie:pW->Nat->Addr
 |[],_=>0
 | (c,a)::r,n=>if n=c then a else ie r n
abbrev BD:pW->Nat->Bool
 |[],_=>false
 | (c,_)::r,n=>(n==c&&decide (c<1000))||BD r n
abbrev fY{α:Type}(f:α->Prop):List α->Prop
 |[]=>True
 |q::r=>f q/\fY f r
theorem fY.mem{α:Type}{f:α->Prop}:∀{l:List α},fY f l->∀n∈l,f n
 |[],_,n,h=>by cases h
 |m::r,h,n,hn=>by
  rcases bB.mp hn with rfl|hn
  ·exact h.1
  exact fY.mem h.2 n hn
theorem DB:∀{cs:pW}{n:Nat},BD cs n=true->(n,ie cs n)∈cs
 |[],n,h=>by cases h
 | (c,a)::r,n,h=>by
  unfold BD at h
  unfold ie
  by_cases e:n=c
  ·subst e;rw[if_pos rfl];exact aP
  rw[if_neg e]
  have:(n==c)=false:=by simpa using e
  rw[this,aa0,qt]at h
  exact aL _ (DB h)
theorem OQ:∀{cs:pW}{n:Nat},BD cs n=true->n<1000
 |[],n,h=>by cases h
 | (c,a)::r,n,h=>by
  unfold BD at h
  rcases tZ _ _▸h with h|h
  ·rw[bg,beq_iff_eq,decide_eq_true_eq]at h
   rw[h.1];exact h.2
  exact OQ h
theorem Aas{K:Frag}{cs:pW}(h9:BD cs 999=false)(h:fY (fun q=>j9 K (AE q.1) q.2) cs)(y:fY (fun q=>fY (fun r=>kitOne K (.ref q.2) (.ref r.2)=some (oj q.1 r.1)) cs) cs):Kx ⟨K,ie cs,BD cs⟩ :=
 ⟨h9,fun c hc=>OQ hc,fun c hc=>(h.mem _ (DB hc)).s,fun c hc=>(h.mem _ (DB hc)).x,fun c hc=>(h.mem _ (DB hc)).t,fun c hc=>(h.mem _ (DB hc)).v,fun c d hc hd=>(y.mem _ (DB hc)).mem _ (DB hd)⟩
theorem Aat{K:Frag}{P:Program}{w:World}{mg:Str->Option Value}{base h:Heap}{cs:pW}(h9:BD cs 999=false)(X:K.In h)(G:h.Ns mainGlobals mg)(nb:fY (fun y=>nsIn K mainGlobals y=some none) (FY++(["bool", "dict", "ValueError", "set"]:List Str)))(hc:fY (fun q=>j9 K (AE q.1) q.2) cs)(y:fY (fun q=>fY (fun r=>kitOne K (.ref q.2) (.ref r.2)=some (oj q.1 r.1)) cs) cs):Lw.Ok ⟨⟨K,ie cs,BD cs⟩,P,w,mg,base⟩ :=
 ⟨fun z hz=>mg_none_of X G (nb.mem z (eO _ hz)),fun z hz=>mg_none_of X G (nb.mem z (du _ hz)),Aas h9 hc y⟩
abbrev aU(N:List Str)(ps:List Str)(st:Stmt)(b:Ss)(dep:Nat):Bool :=
 decide ((Ar st).kind=.function)&&!(Ar st).isCoroutine&&!(Ar st).isGenerator&&decide N.Nodup&&decide (N.take ps.length=ps)&&ps.all (fun x=>decide ((Ar st).names.lookup x=some .local\/(Ar st).names.lookup x=some .cell))&&(Ar st).names.all (fun y=>decide (y.2≠.free))&&b6 ⟨N,Ar st,true,true,true⟩ b (A5 st)&&(eF (aaq N.length .dead) dep b (m0 ps.length N.length)).isSome&&decide (dep<1000)
theorem E9{N ps:List Str}{st:Stmt}{b:Ss}{dep:Nat}(h:aU N ps st b dep=true):dm N ps (Ar st)/\b6 ⟨N,Ar st,true,true,true⟩ b (A5 st)=true/\(eF (aaq N.length .dead) dep b (m0 ps.length N.length)).isSome=true/\dep<1000:=by
 unfold aU at h
 simp only[bg,decide_eq_true_eq,cz,rq]at h
 obtain⟨⟨⟨⟨⟨⟨⟨⟨⟨h1,h2⟩,h3⟩,h4⟩,h5⟩,h6⟩,h7⟩,h8⟩,h9⟩,h10⟩:=h
 exact⟨⟨h1,h2,h3,h4,h5,h6,h7⟩,h8,h9,h10⟩
theorem Ag{L:Lw}(O:L.Ok){x:Str}{st:Stmt}{N ps:List Str}{lv dep:Nat}{b:Ss}(D:Df L.p.K L.mg x st ps)(h:aU N ps st b dep=true)(hn:iL (bX L lv) b.need):Ut L (Aj x ps.length (lv+1) dep N.length b) :=
 WE O D (E9 h).1 rfl (E9 h).2.1 (E9 h).2.2.1 hn (E9 h).2.2.2
theorem WF{l:PySem.W.OpenLaw}{w:World}{K:Frag}{h:Heap}{mg:Str->Option Value}{fa:Addr}{cs:pW}{x:Str}{st:Stmt}{N:List Str}{lv dep:Nat}{b:Ss}(X:K.In h)(G:h.Ns mainGlobals mg)(xv:mg "law" = some (.ref fa))(t:Ak K "law" st)(dJ:aU N [x] st b dep=true)
  (hb:∀(kV dc pm:Value)(an:Option Addr)(cd ct:Value)(s:Shared)(v:Value),BindsTo s (fnOf "law" "law" (Cr st) (A5 st) (Ar st) .none kV dc pm an cd ct) ⟨[v],[]⟩ [(x,v)])
  (O:∀base:Heap,Lw.Ok ⟨⟨K,ie cs,BD cs⟩,l.prog,w,mg,base⟩) (hn:∀base:Heap,iL (bX ⟨⟨K,ie cs,BD cs⟩,l.prog,w,mg,base⟩ lv) b.need) (nl:uO K=true)
  (pX:∀ns:List Int,ns.length<=63->(Aj "law" 1 (lv+1) dep N.length b).den [.lst (ns.map .int)]=.ok (.bl true)) :
  ∃fd:FuncData,(∀(s:Shared)(v:Value),BindsTo s fd ⟨[v],[]⟩ [(x,v)])/\∀base:Heap,K.In base->base.Ns mainGlobals mg->dQ l.prog w K mg base (cX l.prog w) (lv+1) fa fd [x] (sV K):=by
 obtain⟨f,oc,od,an,sl,kV,dc,pm,cd,ct,a,l',c,k⟩:=t
 have e:=xv.symm.trans (mg_of X G a)
 cases e
 refine⟨_,hb kV dc pm an cd ct,fun base _ _=>?_⟩
 exact Y3 (F:=Aj "law" 1 (lv+1) dep N.length b) (R5 (L:=⟨⟨K,ie cs,BD cs⟩,l.prog,w,mg,base⟩) (O base) (Q9 (st:=st) l' c k) (E9 dJ).1 rfl (E9 dJ).2.1 (E9 dJ).2.2.1 (hn base) (E9 dJ).2.2.2) rfl rfl nl pX
end Pu
end
namespace Pu
open PySem PySem.Spec PyProof.Rows PySem.W L2
abbrev JW:Ss :=
 (.cons (.ret (.bo true (.cons (.jY (.nm 0) .int) (.cons (.not (.jY (.nm 0) .bool)) .nil))))
 .nil)
abbrev I0:Fn:=Aj "is_whole" 1 1 9 1 JW
abbrev F5:Ss :=
 (.cons (.ret (.bo true (.cons (.call I0 (.cons (.nm 0) .nil)) (.cons (.chain .le .le (.nm 1) (.nm 0) (.nm 2)) .nil))))
 .nil)
abbrev Cj:Fn:=Aj "is_between" 3 2 9 3 F5
abbrev Cy:Ss :=
 (.cons (.mut 2 [] .append (.cons (.nm 3) .nil))
 (.cons (.asg 3 0 (.bin .fdiv (.bin .sub (.bin .add (.nm 3) (.nm 1)) (.cI 1)) (.nm 1)))
 .nil))
abbrev Hh:Ss :=
 (.cons (.asg 1 0 (.ix (.nm 0) (.cI 1)))
 (.cons (.asg 2 2 (.lst .nil))
 (.cons (.asg 3 0 (.ix (.nm 0) (.cI 0)))
 (.cons (.gv 2 1)
 (.cons (.wh (.cmp .gt (.nm 3) (.cI 1))
 Cy)
 (.cons (.iff (.cmp .eq (.nm 3) (.cI 1))
 (.cons (.mut 2 [] .append (.cons (.nm 3) .nil))
 .nil)
 .nil)
 (.cons (.ret (.nm 2))
 .nil)))))))
abbrev B7:Fn:=Aj "levels" 1 1 1 4 Hh
abbrev Bk:Ss :=
 (.cons (.iff (.bo false (.cons (.not (.jY (.nm 1) .tuple)) (.cons (.cmp .ne (.bi .len (.cons (.nm 1) .nil)) (.cI 2)) .nil)))
 (.cons (.ret (.cB false))
 .nil)
 .nil)
 (.cons (.iff (.not (.call Cj (.cons (.ix (.nm 1) (.cI 0)) (.cons (.cI 0) (.cons (.bin .sub (.bi .len (.cons (.nm 0) .nil)) (.cI 1)) .nil)))))
 (.cons (.ret (.cB false))
 .nil)
 .nil)
 (.cons (.ret (.call Cj (.cons (.ix (.nm 1) (.cI 1)) (.cons (.cI 0) (.cons (.bin .sub (.ix (.nm 0) (.ix (.nm 1) (.cI 0))) (.cI 1)) .nil)))))
 .nil)))
abbrev Be:Fn:=Aj "is_counted_node" 2 3 9 2 Bk
abbrev Gw:Ss :=
 (.cons (.ret (.call Be (.cons (.call B7 (.cons (.nm 0) .nil)) (.cons (.nm 1) .nil))))
 .nil)
abbrev Fw:Fn:=Aj "is_node" 2 4 9 2 Gw
abbrev F6:Ss :=
 (.cons (.iff (.not (.call Fw (.cons (.nm 0) (.cons (.nm 1) .nil))))
 (.cons (.raise 2 (.cons (.cS "this is no node of the shape") .nil))
 .nil)
 .nil)
 .nil)
abbrev Ds:Fn:=Aj "check_node" 2 5 9 2 F6
abbrev Gx:Ss :=
 (.cons (.asg 2 0 (.bin .mul (.nm 2) (.ix (.nm 0) (.cI 1))))
 .nil)
abbrev Nj:Ss :=
 (.cons (.expr (.call Ds (.cons (.nm 0) (.cons (.nm 1) .nil))))
 (.cons (.asg 2 0 (.cI 1))
 (.cons (.cY (.nm 3) (.r1 (.ix (.nm 1) (.cI 0)))
 Gx)
 (.cons (.asg 4 0 (.bin .mul (.ix (.nm 1) (.cI 1)) (.nm 2)))
 (.cons (.ret (.tup (.cons (.nm 4) (.cons (.bi .min (.cons (.bin .add (.nm 4) (.nm 2)) (.cons (.ix (.nm 0) (.cI 0)) .nil))) .nil))))
 .nil)))))
abbrev BV:Fn:=Aj "span" 2 6 0 5 Nj
abbrev Qi:Ss :=
 (.cons (.asg 1 1 (.call B7 (.cons (.nm 0) .nil)))
 (.cons (.iff (.cmp .eq (.nm 1) (.lst .nil))
 (.cons (.ret .cN)
 .nil)
 .nil)
 (.cons (.ret (.tup (.cons (.bin .sub (.bi .len (.cons (.nm 1) .nil)) (.cI 1)) (.cons (.cI 0) .nil))))
 .nil)))
abbrev Nk:Fn:=Aj "top" 1 2 1 2 Qi
abbrev Hi:Ss :=
 (.cons (.expr (.call Ds (.cons (.nm 0) (.cons (.nm 1) .nil))))
 (.cons (.iff (.cmp .eq (.nm 1) (.call Nk (.cons (.nm 0) .nil)))
 (.cons (.ret .cN)
 .nil)
 .nil)
 (.cons (.ret (.tup (.cons (.bin .add (.ix (.nm 1) (.cI 0)) (.cI 1)) (.cons (.bin .fdiv (.ix (.nm 1) (.cI 1)) (.ix (.nm 0) (.cI 1))) .nil))))
 .nil)))
abbrev DN:Fn:=Aj "parent" 2 6 1 2 Hi
abbrev Fx:Ss :=
 (.cons (.expr (.call Ds (.cons (.nm 0) (.cons (.nm 1) .nil))))
 (.cons (.iff (.cmp .eq (.ix (.nm 1) (.cI 0)) (.cI 0))
 (.cons (.ret (.lst .nil))
 .nil)
 .nil)
 (.cons (.asg 2 0 (.bin .sub (.ix (.nm 1) (.cI 0)) (.cI 1)))
 (.cons (.asg 3 0 (.bin .mul (.ix (.nm 1) (.cI 1)) (.ix (.nm 0) (.cI 1))))
 (.cons (.asg 4 0 (.bi .min (.cons (.bin .add (.nm 3) (.ix (.nm 0) (.cI 1))) (.cons (.ix (.call B7 (.cons (.nm 0) .nil)) (.nm 2)) .nil))))
 (.cons (.ret (.ao 1 [2] (.nm 0) (.r2 (.nm 3) (.nm 4)) (.tup (.cons (.nm 1) (.cons (.nm 0) .nil)))))
 .nil))))))
abbrev Dl:Fn:=Aj "children" 2 6 1 5 Fx
abbrev HX:Ss :=
 (.cons (.ret (.call Cj (.cons (.nm 0) (.cons (.cI 0) (.cons (.bin .pow (.cI 10) (.cI 18)) .nil)))))
 .nil)
abbrev Fy:Fn:=Aj "is_room" 1 3 9 1 HX
abbrev Fg:Ss :=
 (.cons (.ret (.ao 1 [0,1] (.nm 0) (.r3 (.cI 0) (.bi .len (.cons (.nm 0) .nil)) (.nm 1)) (.bi .iJ (.cons (.lN (.nm 1) (.nm 0) (.bin .add (.nm 0) (.nm 2))) .nil))))
 .nil)
abbrev EA:Fn:=Aj "level_above" 2 1 9 2 Fg
abbrev Fz:Ss :=
 (.cons (.mut 2 [] .append (.cons (.nm 3) .nil))
 (.cons (.asg 3 2 (.aK EA (.cons (.nm 3) (.cons (.nm 1) .nil))))
 .nil))
abbrev IB:Ss :=
 (.cons (.asg 2 2 (.lst .nil))
 (.cons (.asg 3 1 (.bi .list (.cons (.nm 0) .nil)))
 (.cons (.wh (.cmp .gt (.bi .len (.cons (.nm 3) .nil)) (.cI 1))
 Fz)
 (.cons (.iff (.cmp .ne (.nm 3) (.lst .nil))
 (.cons (.mut 2 [] .append (.cons (.nm 3) .nil))
 .nil)
 .nil)
 (.cons (.ret (.nm 2))
 .nil)))))
abbrev F7:Fn:=Aj "built" 2 2 2 4 IB
abbrev EU:Ss :=
 (.cons (.ret (.ao 1 [] (.nm 0) (.seq (.nm 0)) (.bi .len (.cons (.nm 0) .nil))))
 .nil)
abbrev DY:Fn:=Aj "counts_of" 1 1 9 1 EU
abbrev Hj:Ss :=
 (.cons (.ret (.bo true (.cons (.jY (.nm 0) .list) (.cons (.bi .all (.cons (.ao 1 [] (.nm 0) (.seq (.nm 0)) (.call Fy (.cons (.nm 0) .nil))) .nil)) .nil))))
 .nil)
abbrev Cz:Fn:=Aj "is_level" 1 4 9 1 Hj
abbrev Cb:Ss :=
 (.cons (.iff (.cmp .eq (.nm 0) (.lst .nil))
 (.cons (.ret (.lst .nil))
 .nil)
 .nil)
 (.cons (.ret (.bi .list (.cons (.ix (.nm 0) (.cI 0)) .nil)))
 .nil))
abbrev Br:Fn:=Aj "rooms_of" 1 1 1 1 Cb
abbrev DZ:Ss :=
 (.cons (.ret (.tup (.cons (.bi .len (.cons (.call Br (.cons (.nm 0) .nil)) .nil)) (.cons (.nm 1) .nil))))
 .nil)
abbrev AT:Fn:=Aj "shape_of" 2 2 0 2 DZ
abbrev HY:Ss :=
 (.cons (.iff (.bo false (.cons (.not (.jY (.nm 0) .list)) (.cons (.not (.bi .all (.cons (.ao 1 [] (.nm 0) (.seq (.nm 0)) (.call Cz (.cons (.nm 0) .nil))) .nil))) .nil)))
 (.cons (.ret (.cB false))
 .nil)
 .nil)
 (.cons (.asg 2 0 (.call AT (.cons (.nm 0) (.cons (.nm 1) .nil))))
 (.cons (.ret (.bo true (.cons (.cmp .le (.ix (.nm 2) (.cI 0)) (.gl "MOST_PAGES" (.int 200))) (.cons (.cmp .eq (.call DY (.cons (.nm 0) .nil)) (.call B7 (.cons (.nm 2) .nil))) .nil))))
 .nil)))
abbrev Hk:Fn:=Aj "is_tree" 2 5 9 3 HY
abbrev FA:Ss :=
 (.cons (.ret (.call Be (.cons (.call DY (.cons (.nm 0) .nil)) (.cons (.nm 1) .nil))))
 .nil)
abbrev EV:Fn:=Aj "has_node" 2 4 9 2 FA
abbrev DC:Ss :=
 (.cons (.iff (.not (.call EV (.cons (.nm 0) (.cons (.nm 1) .nil))))
 (.cons (.raise 2 (.cons (.cS "this is no node of the tree") .nil))
 .nil)
 .nil)
 .nil)
abbrev Fm:Fn:=Aj "check_has_node" 2 5 9 2 DC
abbrev Kz:Ss :=
 (.cons (.expr (.call Fm (.cons (.nm 0) (.cons (.nm 1) .nil))))
 (.cons (.ret (.ix (.ix (.nm 0) (.ix (.nm 1) (.cI 0))) (.ix (.nm 1) (.cI 1))))
 .nil))
abbrev AU:Fn:=Aj "tells" 2 6 0 2 Kz
abbrev EW:Ss :=
 (.cons (.ret (.ao 1 [0] (.nm 0) (.seq (.nm 1)) (.tup (.cons (.ix (.nm 0) (.cI 0)) (.cons (.ix (.nm 0) (.cI 1)) (.cons (.call AU (.cons (.nm 1) (.cons (.nm 0) .nil))) .nil))))))
 .nil)
abbrev BW:Fn:=Aj "with_told" 2 7 1 2 EW
abbrev EB:Ss :=
 (.cons (.ret (.i7 (.cS " ") (.ao 1 [] (.nm 0) (.seq (.nm 0)) (.bi .str (.cons (.nm 0) .nil)))))
 .nil)
abbrev AZ:Fn:=Aj "numbers_line" 1 1 9 1 EB
abbrev GI:Ss :=
 (.cons (.iff (.cmp .eq (.nm 0) (.lst .nil))
 (.cons (.ret (.gl "NOTHING" (.str "-")))
 .nil)
 .nil)
 (.cons (.ret (.i7 (.cS " / ") (.ao 1 [] (.nm 0) (.seq (.nm 0)) (.call AZ (.cons (.nm 0) .nil)))))
 .nil))
abbrev D0:Fn:=Aj "tree_line" 1 2 9 1 GI
abbrev F8:Ss :=
 (.cons (.ret (.i7 (.cS ":") (.ao 1 [] (.nm 0) (.seq (.nm 0)) (.bi .str (.cons (.nm 0) .nil)))))
 .nil)
abbrev Bj:Fn:=Aj "entry_word" 1 1 9 1 F8
abbrev F9:Ss :=
 (.cons (.iff (.cmp .eq (.nm 0) (.lst .nil))
 (.cons (.ret (.gl "NOTHING" (.str "-")))
 .nil)
 .nil)
 (.cons (.ret (.i7 (.cS " ") (.ao 1 [] (.nm 0) (.seq (.nm 0)) (.call Bj (.cons (.nm 0) .nil)))))
 .nil))
abbrev Ck:Fn:=Aj "paper_line" 1 2 9 1 F9
abbrev GJ:Ss :=
 (.cons (.iff (.not (.chain .le .le (.cI 1) (.bi .fw (.cons (.nm 0) .nil)) (.gl "MOST_FIGURES" (.int 20))))
 (.cons (.ret (.cB false))
 .nil)
 .nil)
 (.cons (.iff (.not (.bi .all (.cons (.ao 1 [] (.nm 0) (.kA (.nm 0)) (.eY false (.nm 0) (.gl "FIGURES" (.str "0123456789")))) .nil)))
 (.cons (.ret (.cB false))
 .nil)
 .nil)
 (.cons (.ret (.bo false (.cons (.cmp .eq (.nm 0) (.cS "0")) (.cons (.cmp .ne (.nv (.nm 0) (.cI 0)) (.cS "0")) .nil))))
 .nil)))
abbrev HZ:Fn:=Aj "is_number" 1 1 9 1 GJ
abbrev Dt:Ss :=
 (.cons (.iff (.not (.call HZ (.cons (.nm 0) .nil)))
 (.cons (.raise 16 (.cons (.cS "this is no number") .nil))
 .nil)
 .nil)
 (.cons (.ret (.bi .cw (.cons (.nm 0) .nil)))
 .nil))
abbrev A9:Fn:=Aj "read_number" 1 2 9 1 Dt
abbrev Bv:Ss :=
 (.cons (.ret (.ao 1 [] (.nm 0) (.seq (.fJ (.nm 0) (.cS " "))) (.call A9 (.cons (.nm 0) .nil))))
 .nil)
abbrev Bf:Fn:=Aj "read_numbers" 1 3 9 1 Bv
abbrev Ga:Ss :=
 (.cons (.iff (.not (.jY (.nm 0) .str))
 (.cons (.raise 16 (.cons (.cS "this is no text") .nil))
 .nil)
 .nil)
 .nil)
abbrev Du:Fn:=Aj "check_text" 1 1 9 1 Ga
abbrev D1:Ss :=
 (.cons (.expr (.call Du (.cons (.nm 0) .nil)))
 (.cons (.iff (.cmp .eq (.nm 0) (.gl "NOTHING" (.str "-")))
 (.cons (.ret (.lst .nil))
 .nil)
 .nil)
 (.cons (.asg 1 2 (.call Bf (.cons (.nm 0) .nil)))
 (.cons (.iff (.bo false (.cons (.cmp .gt (.bi .len (.cons (.nm 1) .nil)) (.gl "MOST_PAGES" (.int 200))) (.cons (.not (.aK Cz (.cons (.nm 1) .nil))) .nil)))
 (.cons (.raise 16 (.cons (.cS "this line writes no rooms") .nil))
 .nil)
 .nil)
 (.cons (.ret (.nm 1))
 .nil)))))
abbrev Hu:Fn:=Aj "read_rooms" 1 5 2 2 D1
abbrev EY:Ss :=
 (.cons (.expr (.call Du (.cons (.nm 0) .nil)))
 (.cons (.iff (.cmp .eq (.nm 0) (.gl "NOTHING" (.str "-")))
 (.cons (.ret (.lst .nil))
 .nil)
 .nil)
 (.cons (.asg 2 2 (.ao 1 [] (.nm 0) (.seq (.fJ (.nm 0) (.cS " / "))) (.call Bf (.cons (.nm 0) .nil))))
 (.cons (.iff (.not (.aK Hk (.cons (.nm 2) (.cons (.nm 1) .nil))))
 (.cons (.raise 16 (.cons (.cS "this line writes no tree by the fan") .nil))
 .nil)
 .nil)
 (.cons (.ret (.nm 2))
 .nil)))))
abbrev CS:Fn:=Aj "read_tree" 2 6 2 3 EY
abbrev D2:Ss :=
 (.cons (.asg 1 1 (.fJ (.nm 0) (.cS ":")))
 (.cons (.iff (.cmp .ne (.bi .len (.cons (.nm 1) .nil)) (.cI 3))
 (.cons (.raise 16 (.cons (.cS "this writes no tuple of three numbers") .nil))
 .nil)
 .nil)
 (.cons (.ret (.tup (.cons (.call A9 (.cons (.cC (.nm 1) (.cI 0)) .nil)) (.cons (.call A9 (.cons (.cC (.nm 1) (.cI 1)) .nil)) (.cons (.call A9 (.cons (.cC (.nm 1) (.cI 2)) .nil)) .nil)))))
 .nil)))
abbrev Cl:Fn:=Aj "read_entry" 1 3 9 2 D2
abbrev Gb:Ss :=
 (.cons (.expr (.call Du (.cons (.nm 0) .nil)))
 (.cons (.iff (.cmp .eq (.nm 0) (.gl "NOTHING" (.str "-")))
 (.cons (.ret (.lst .nil))
 .nil)
 .nil)
 (.cons (.ret (.ao 1 [] (.nm 0) (.seq (.fJ (.nm 0) (.cS " "))) (.call Cl (.cons (.nm 0) .nil))))
 .nil)))
abbrev Cm:Fn:=Aj "read_paper" 1 4 9 1 Gb
abbrev Dv:Ss :=
 (.cons (.iff (.bA false (.nm 2))
 (.cons (.ret (.tup (.cons (.nm 1) (.cons (.ix (.nm 0) (.cI 0)) .nil))))
 .nil)
 .nil)
 (.cons (.ret (.tup (.cons (.nm 1) (.cons (.nm 2) .nil))))
 .nil))
abbrev AN:Fn:=Aj "pages_up_to" 3 1 0 3 Dv
abbrev Ba:Ss :=
 (.cons (.asg 5 0 (.tup (.cons (.ix (.nm 4) (.cI 0)) (.cons (.ix (.nm 4) (.cI 1)) .nil))))
 (.cons (.iff (.bo false (.cons (.not (.call Fw (.cons (.nm 0) (.cons (.nm 5) .nil)))) (.cons (.cmp .ne (.ix (.call BV (.cons (.nm 0) (.cons (.nm 5) .nil))) (.cI 0)) (.nm 3)) .nil)))
 (.cons (.ret (.cB false))
 .nil)
 .nil)
 (.cons (.asg 3 0 (.ix (.call BV (.cons (.nm 0) (.cons (.nm 5) .nil))) (.cI 1)))
 .nil)))
abbrev EZ:Ss :=
 (.cons (.asg 3 0 (.ix (.nm 1) (.cI 0)))
 (.cons (.cY (.nm 4) (.seq (.nm 2))
 Ba)
 (.cons (.ret (.cmp .eq (.nm 3) (.ix (.nm 1) (.cI 1))))
 .nil)))
abbrev CT:Fn:=Aj "lies_over" 3 7 9 6 EZ
abbrev E0:Ss :=
 (.cons (.ret (.bo true (.cons (.call CT (.cons (.nm 0) (.cons (.nm 2) (.cons (.nm 3) .nil)))) (.cons (.bi .all (.cons (.ao 1 [1] (.nm 0) (.seq (.nm 3)) (.cmp .lt (.ix (.nm 0) (.cI 2)) (.nm 1))) .nil)) .nil))))
 .nil)
abbrev BX:Fn:=Aj "rules_out" 4 8 9 4 E0
abbrev Dw:Ss :=
 (.cons (.ret (.call BX (.cons (.nm 0) (.cons (.nm 1) (.cons (.call AN (.cons (.nm 0) (.cons (.cI 0) (.cons (.nm 2) .nil)))) (.cons (.nm 3) .nil))))))
 .nil)
abbrev Bw:Fn:=Aj "shows_first" 4 9 9 4 Dw
abbrev D3:Ss :=
 (.cons (.ret (.call BX (.cons (.nm 0) (.cons (.nm 1) (.cons (.call AN (.cons (.nm 0) (.cons (.nm 2) (.cons (.nm 3) .nil)))) (.cons (.nm 4) .nil))))))
 .nil)
abbrev Cc:Fn:=Aj "shows_further" 5 9 9 5 D3
abbrev E3:Ss :=
 (.cons (.asg 2 1 (.a9 1 [0] (.nm 0) (.seq (.nm 1)) (.bo true (.cons (.cmp .eq (.ix (.nm 0) (.cI 0)) (.cI 0)) (.cons (.cmp .ge (.ix (.nm 0) (.cI 2)) (.nm 1)) .nil))) (.nm 0)))
 (.cons (.iff (.cmp .eq (.nm 2) (.lst .nil))
 (.cons (.ret .cN)
 .nil)
 .nil)
 (.cons (.asg 3 0 (.bi .je (.cons (.ao 1 [] (.nm 0) (.bQ (.nm 2)) (.ix (.nm 0) (.cI 2))) .nil)))
 (.cons (.ret (.ix (.a9 1 [3] (.nm 0) (.bQ (.nm 2)) (.cmp .eq (.ix (.nm 0) (.cI 2)) (.nm 1)) (.ix (.nm 0) (.cI 1))) (.cI 0)))
 .nil))))
abbrev Ia:Fn:=Aj "best_told" 2 1 0 4 E3
abbrev D4:Ss :=
 (.cons (.iff (.not (.call CT (.cons (.nm 0) (.cons (.tup (.cons (.cI 0) (.cons (.ix (.nm 0) (.cI 0)) .nil))) (.cons (.nm 3) .nil)))))
 (.cons (.ret (.cB false))
 .nil)
 .nil)
 (.cons (.iff (.not (.bi .all (.cons (.a9 1 [1] (.nm 0) (.seq (.nm 3)) (.cmp .gt (.ix (.nm 0) (.cI 0)) (.cI 0)) (.cmp .lt (.ix (.nm 0) (.cI 2)) (.nm 1))) .nil)))
 (.cons (.ret (.cB false))
 .nil)
 .nil)
 (.cons (.ret (.cmp .eq (.nm 2) (.call Ia (.cons (.nm 1) (.cons (.nm 3) .nil)))))
 .nil)))
abbrev Dx:Fn:=Aj "shows_best" 4 8 9 4 D4
abbrev Ib:Ss :=
 (.cons (.asg 2 0 (.tup (.cons (.ix (.nm 1) (.cI 0)) (.cons (.ix (.nm 1) (.cI 1)) .nil))))
 (.cons (.ret (.bo true (.cons (.call EV (.cons (.nm 0) (.cons (.nm 2) .nil))) (.cons (.cmp .eq (.call AU (.cons (.nm 0) (.cons (.nm 2) .nil))) (.ix (.nm 1) (.cI 2))) .nil))))
 .nil))
abbrev Cd:Fn:=Aj "is_true" 2 7 9 3 Ib
abbrev Hl:Ss :=
 (.cons (.ret (.bi .all (.cons (.ao 1 [0] (.nm 0) (.seq (.nm 1)) (.call Cd (.cons (.nm 1) (.cons (.nm 0) .nil)))) .nil)))
 .nil)
abbrev CU:Fn:=Aj "honest" 2 8 9 2 Hl
abbrev Fh:Ss :=
 (.cons (.ret (.bo true (.cons (.cmp .le (.nm 1) (.ix (.nm 0) (.cI 0))) (.cons (.cmp .le (.ix (.nm 0) (.cI 1)) (.nm 2)) .nil))))
 .nil)
abbrev BY:Fn:=Aj "lies_within" 3 1 9 3 Fh
abbrev BI:Ss :=
 (.cons (.gv 4 0)
 (.cons (.asg 3 0 (.nm 4))
 (.cons (.asg 4 1 (.call DN (.cons (.nm 0) (.cons (.nm 3) .nil))))
 .nil)))
abbrev DD:Ss :=
 (.cons (.asg 3 0 (.tup (.cons (.cI 0) (.cons (.nm 1) .nil))))
 (.cons (.asg 4 1 (.call DN (.cons (.nm 0) (.cons (.nm 3) .nil))))
 (.cons (.wh (.bo true (.cons (.bA true (.nm 4)) (.cons (.call BY (.cons (.aK BV (.cons (.nm 0) (.cons (.nm 4) .nil))) (.cons (.nm 1) (.cons (.nm 2) .nil)))) .nil)))
 BI)
 (.cons (.ret (.nm 3))
 .nil))))
abbrev Fo:Fn:=Aj "highest_within" 3 7 0 5 DD
abbrev D5:Ss :=
 (.cons (.asg 5 0 (.call Fo (.cons (.nm 0) (.cons (.nm 4) (.cons (.nm 2) .nil)))))
 (.cons (.mut 3 [] .append (.cons (.nm 5) .nil))
 (.cons (.asg 4 0 (.ix (.call BV (.cons (.nm 0) (.cons (.nm 5) .nil))) (.cI 1)))
 .nil)))
abbrev IC:Ss :=
 (.cons (.iff (.bo false (.cons (.cmp .lt (.nm 1) (.cI 0)) (.cons (.cmp .gt (.nm 2) (.ix (.nm 0) (.cI 0))) (.cons (.cmp .gt (.nm 1) (.nm 2)) .nil))))
 (.cons (.raise 3 (.cons (.cS "these are no pages of the shape") .nil))
 .nil)
 .nil)
 (.cons (.asg 3 2 (.lst .nil))
 (.cons (.asg 4 0 (.nm 1))
 (.cons (.gv 3 1)
 (.cons (.wh (.cmp .lt (.nm 4) (.nm 2))
 D5)
 (.cons (.ret (.nm 3))
 .nil))))))
abbrev EC:Fn:=Aj "cover" 3 8 1 6 IC
abbrev Gc:Ss :=
 (.cons (.iff (.not (.call Cj (.cons (.nm 1) (.cons (.cI 0) (.cons (.bin .sub (.ix (.nm 0) (.cI 0)) (.cI 1)) .nil)))))
 (.cons (.raise 3 (.cons (.cS "this is no page of the shape") .nil))
 .nil)
 .nil)
 .nil)
abbrev Hv:Fn:=Aj "check_page" 2 3 9 2 Gc
abbrev AQ:Ss :=
 (.cons (.mut 3 [] .append (.cons (.nm 4) .nil))
 (.cons (.iff (.cmp .ge (.call AU (.cons (.nm 0) (.cons (.nm 4) .nil))) (.nm 1))
 (.cons (.ret (.nm 3))
 .nil)
 .nil)
 .nil))
abbrev C9:Ss :=
 (.cons (.asg 3 2 (.lst .nil))
 (.cons (.gv 3 1)
 (.cons (.cY (.nm 4) (.seq (.nm 2))
 AQ)
 (.cons (.ret (.nm 3))
 .nil))))
abbrev D6:Fn:=Aj "up_to_enough" 3 7 1 5 C9
abbrev BN:Ss :=
 (.cons (.asg 7 1 (.aK D6 (.cons (.nm 0) (.cons (.nm 2) (.cons (.nm 6) .nil)))))
 (.cons (.gv 7 0)
 (.cons (.gv 5 1)
 (.cons (.mut 5 [] .extend (.cons (.nm 7) .nil))
 (.cons (.iff (.cmp .lt (.call AU (.cons (.nm 0) (.cons (.ix (.nm 7) (.neg (.cI 1))) .nil))) (.nm 2))
 (.cons (.ret (.nm 5))
 .nil)
 .nil)
 (.cons (.asg 6 1 (.call Dl (.cons (.nm 4) (.cons (.ix (.nm 7) (.neg (.cI 1))) .nil))))
 .nil))))))
abbrev Ge:Ss :=
 (.cons (.asg 4 0 (.call AT (.cons (.nm 0) (.cons (.nm 1) .nil))))
 (.cons (.asg 5 2 (.lst .nil))
 (.cons (.asg 6 1 (.call EC (.cons (.nm 4) (.cons (.nm 3) (.cons (.ix (.nm 4) (.cI 0)) .nil)))))
 (.cons (.gv 5 1)
 (.cons (.wh (.cmp .ne (.nm 6) (.lst .nil))
 BN)
 (.cons (.ret (.nm 5))
 .nil))))))
abbrev Fa:Fn:=Aj "walked" 4 9 1 8 Ge
abbrev CW:Ss :=
 (.cons (.asg 4 1 (.call Fa (.cons (.nm 0) (.cons (.nm 1) (.cons (.nm 2) (.cons (.nm 3) .nil))))))
 (.cons (.iff (.bo false (.cons (.cmp .eq (.nm 4) (.lst .nil)) (.cons (.cmp .lt (.call AU (.cons (.nm 0) (.cons (.cC (.nm 4) (.neg (.cI 1))) .nil))) (.nm 2)) .nil)))
 (.cons (.ret .cN)
 .nil)
 .nil)
 (.cons (.ret (.ix (.cC (.nm 4) (.neg (.cI 1))) (.cI 1)))
 .nil)))
abbrev Cn:Fn:=Aj "first_from" 4 10 0 5 CW
abbrev ID:Ss :=
 (.cons (.ret (.call Cn (.cons (.nm 0) (.cons (.nm 1) (.cons (.nm 2) (.cons (.cI 0) .nil))))))
 .nil)
abbrev ED:Fn:=Aj "first" 3 11 0 3 ID
abbrev Ic:Ss :=
 (.cons (.expr (.call Hv (.cons (.call AT (.cons (.nm 0) (.cons (.nm 1) .nil))) (.cons (.nm 3) .nil))))
 (.cons (.ret (.call Cn (.cons (.nm 0) (.cons (.nm 1) (.cons (.nm 2) (.cons (.nm 3) .nil))))))
 .nil))
abbrev FB:Fn:=Aj "further" 4 11 0 4 Ic
abbrev JX:Ss :=
 (.cons (.asg 3 1 (.call Br (.cons (.nm 0) .nil)))
 (.cons (.asg 4 1 (.a9 1 [2] (.nm 0) (.bQ (.nm 3)) (.cmp .ge (.nm 0) (.nm 1)) (.nm 0)))
 (.cons (.iff (.cmp .eq (.nm 4) (.lst .nil))
 (.cons (.ret .cN)
 .nil)
 .nil)
 (.cons (.ret (.mt .index (.nm 3) (.cons (.bi .je (.cons (.nm 4) .nil)) .nil)))
 .nil))))
abbrev KA:Fn:=Aj "best" 3 2 9 5 JX
abbrev D7:Ss :=
 (.cons (.ret (.call BW (.cons (.nm 0) (.cons (.call EC (.cons (.call AT (.cons (.nm 0) (.cons (.nm 1) .nil))) (.cons (.ix (.nm 2) (.cI 0)) (.cons (.ix (.nm 2) (.cI 1)) .nil)))) .nil))))
 .nil)
abbrev Co:Fn:=Aj "paper_over" 3 9 1 3 D7
abbrev Dy:Ss :=
 (.cons (.asg 3 2 (.aK ED (.cons (.nm 0) (.cons (.nm 1) (.cons (.nm 2) .nil)))))
 (.cons (.gD (.cons (.nm 3) (.cons (.call Co (.cons (.nm 0) (.cons (.nm 1) (.cons (.aK AN (.cons (.call AT (.cons (.nm 0) (.cons (.nm 1) .nil))) (.cons (.cI 0) (.cons (.nm 3) .nil)))) .nil)))) .nil)))
 .nil))
abbrev BZ:Fn:=Aj "first_paper" 3 12 1 4 Dy
abbrev D8:Ss :=
 (.cons (.asg 4 2 (.aK FB (.cons (.nm 0) (.cons (.nm 1) (.cons (.nm 2) (.cons (.nm 3) .nil))))))
 (.cons (.gD (.cons (.nm 4) (.cons (.call Co (.cons (.nm 0) (.cons (.nm 1) (.cons (.aK AN (.cons (.call AT (.cons (.nm 0) (.cons (.nm 1) .nil))) (.cons (.nm 3) (.cons (.nm 4) .nil)))) .nil)))) .nil)))
 .nil))
abbrev BE:Fn:=Aj "further_paper" 4 12 1 5 D8
abbrev Aq:Ss :=
 (.cons (.asg 5 0 (.ix (.nm 4) (.cI 0)))
 (.cons (.asg 4 1 (.lN (.nm 4) (.cI 1) .cN))
 (.cons (.iff (.bo false (.cons (.cmp .eq (.ix (.nm 5) (.cI 0)) (.cI 0)) (.cons (.cmp .lt (.call AU (.cons (.nm 0) (.cons (.nm 5) .nil))) (.nm 2)) .nil)))
 (.cons (.mut 3 [] .append (.cons (.nm 5) .nil))
 .nil)
 (.cons (.asg 4 0 (.bin .add (.call Dl (.cons (.nm 1) (.cons (.nm 5) .nil))) (.nm 4)))
 .nil))
 .nil)))
abbrev A3:Ss :=
 (.cons (.iff (.cmp .eq (.ix (.nm 1) (.cI 0)) (.cI 0))
 (.cons (.ret (.lst .nil))
 .nil)
 .nil)
 (.cons (.asg 3 2 (.lst .nil))
 (.cons (.asg 4 2 (.lst (.cons (.call Nk (.cons (.nm 1) .nil)) .nil)))
 (.cons (.gv 3 1)
 (.cons (.gv 4 0)
 (.cons (.wh (.cmp .ne (.nm 4) (.lst .nil))
 Aq)
 (.cons (.ret (.nm 3))
 .nil)))))))
abbrev Bq:Fn:=Aj "nodes_with_each_enough" 3 7 1 6 A3
abbrev D9:Ss :=
 (.cons (.asg 3 1 (.call Bq (.cons (.nm 0) (.cons (.call AT (.cons (.nm 0) (.cons (.nm 1) .nil))) (.cons (.nm 2) .nil)))))
 (.cons (.ret (.tup (.cons (.call KA (.cons (.nm 0) (.cons (.nm 1) (.cons (.nm 2) .nil)))) (.cons (.aK BW (.cons (.nm 0) (.cons (.nm 3) .nil))) .nil))))
 .nil))
abbrev Cp:Fn:=Aj "best_paper" 3 8 1 4 D9
abbrev Fi:Ss :=
 (.cons (.asg 2 0 (.bin .mod (.bin .add (.bin .add (.bin .mul (.nm 2) (.cI 48271)) (.bin .mod (.nm 3) (.cI 1000003))) (.cI 1)) (.cI 2147483647)))
 .nil)
abbrev Ea:Ss :=
 (.cons (.iff (.cmp .lt (.nm 1) (.bi .len (.cons (.nm 0) .nil)))
 (.cons (.ret (.ix (.nm 0) (.nm 1)))
 .nil)
 .nil)
 (.cons (.asg 2 0 (.cI 5))
 (.cons (.cY (.nm 3) (.seq (.lN (.nm 0) .cN (.cI 63)))
 Fi)
 (.cons (.ret (.bin .mod (.bin .add (.nm 2) (.bin .mul (.cI 7919) (.nm 1))) (.cI 1000003)))
 .nil))))
abbrev Dm:Fn:=Aj "_law_cell" 2 1 0 4 Ea
theorem N5(ds:List D)(h:ds.length=2):Dm.den ds=run 4 Ea ds:=Ci h
abbrev Dz:Ss :=
 (.cons (.asg 2 0 (.bin .mod (.bin .pow (.bin .add (.bin .add (.bin .mod (.nm 0) (.cI 2147483629)) (.bin .mul (.cI 1013) (.nm 1))) (.cI 7919)) (.cI 3)) (.cI 2147483647)))
 (.cons (.asg 3 0 (.bin .mod (.bin .add (.bin .add (.bin .mul (.nm 2) (.cI 40699)) (.bin .mul (.bin .mul (.cI 3793) (.nm 1)) (.nm 1))) (.cI 11)) (.cI 2147483399)))
 (.cons (.ret (.bin .fdiv (.nm 3) (.cI 101)))
 .nil)))
abbrev Da:Fn:=Aj "_law_mix" 2 1 1 4 Dz
theorem KB(ds:List D)(h:ds.length=2):Da.den ds=run 4 Dz ds:=Ci h
abbrev AK:Ss :=
 (.cons (.iff (.cmp .lt (.nm 3) (.bin .pow (.cI 10) (.cI 18)))
 (.cons (.mut 5 [] .append (.cons (.bin .mod (.call Da (.cons (.nm 3) (.cons (.nm 6) .nil))) (.ix (.nm 2) (.nm 6))) .nil))
 .nil)
 (.cons (.iff (.cmp .gt (.nm 4) (.cI 0))
 (.cons (.mut 5 [] .append (.cons (.bin .mod (.nm 4) (.ix (.nm 2) (.nm 6))) .nil))
 (.cons (.asg 4 0 (.bin .fdiv (.nm 4) (.ix (.nm 2) (.nm 6))))
 .nil))
 (.cons (.asg 7 0 (.call Dm (.cons (.nm 0) (.cons (.bin .mod (.bin .add (.bin .add (.nm 1) (.cI 1)) (.nm 6)) (.cI 63)) .nil))))
 (.cons (.mut 5 [] .append (.cons (.bin .mod (.call Da (.cons (.nm 7) (.cons (.nm 6) .nil))) (.ix (.nm 2) (.nm 6))) .nil))
 .nil)))
 .nil))
 .nil)
abbrev Fj:Ss :=
 (.cons (.asg 3 0 (.call Dm (.cons (.nm 0) (.cons (.nm 1) .nil))))
 (.cons (.asg 4 0 (.nm 3))
 (.cons (.asg 5 2 (.lst .nil))
 (.cons (.cY (.nm 6) (.r1 (.bi .len (.cons (.nm 2) .nil)))
 AK)
 (.cons (.ret (.nm 5))
 .nil)))))
abbrev B0:Fn:=Aj "_law_row" 3 2 2 8 Fj
abbrev AC:Ss :=
 (.cons (.asg 7 0 (.cC (.nm 3) (.bin .add (.cI 4) (.nm 6))))
 (.cons (.iff (.cmp .eq (.cC (.nm 3) (.cI 2)) (.cI 1))
 (.cons (.asg 7 0 (.bin .mod (.nm 7) (.cI 3)))
 .nil)
 .nil)
 (.cons (.iff (.cmp .eq (.cC (.nm 3) (.cI 2)) (.cI 2))
 (.cons (.asg 7 0 (.bin .mul (.ix (.lst (.cons (.cI 0) (.cons (.cI 0) (.cons (.cI 0) (.cons (.cI 1) .nil))))) (.bin .mod (.nm 7) (.cI 4))) (.bin .add (.cI 1) (.bin .fdiv (.nm 7) (.cI 4)))))
 .nil)
 .nil)
 (.cons (.iff (.cmp .eq (.cC (.nm 3) (.cI 2)) (.cI 3))
 (.cons (.asg 7 0 (.bin .mod (.bin .add (.cC (.nm 3) (.cI 3)) (.nm 6)) (.cI 13)))
 .nil)
 .nil)
 (.cons (.iff (.cmp .eq (.cC (.nm 3) (.cI 2)) (.cI 4))
 (.cons (.asg 7 0 (.cC (.nm 3) (.cI 3)))
 .nil)
 .nil)
 (.cons (.mut 5 [] .append (.cons (.bi .min (.cons (.bin .pow (.cI 10) (.cI 18)) (.cons (.bin .add (.bin .mul (.nm 7) (.nm 4)) (.bin .mul (.bi .int (.cons (.cmp .eq (.nm 7) (.cI 12)) .nil)) (.cI 4))) .nil))) .nil))
 .nil))))))
abbrev Ec:Ss :=
 (.cons (.asg 3 2 (.call B0 (.cons (.nm 0) (.cons (.nm 1) (.cons (.bin .add (.lst (.cons (.bin .add (.nm 2) (.cI 1)) (.cons (.cI 5) (.cons (.cI 6) (.cons (.cI 13) .nil))))) (.bin .mul (.lst (.cons (.cI 13) .nil)) (.nm 2))) .nil)))))
 (.cons (.asg 4 0 (.ix (.lst (.cons (.cI 1) (.cons (.cI 1) (.cons (.cI 7) (.cons (.bin .pow (.cI 10) (.cI 6)) (.cons (.cI 83333333333333333) .nil)))))) (.cC (.nm 3) (.cI 1))))
 (.cons (.asg 5 2 (.lst .nil))
 (.cons (.gv 3 1)
 (.cons (.cY (.nm 6) (.r1 (.cC (.nm 3) (.cI 0)))
 AC)
 (.cons (.ret (.nm 5))
 .nil))))))
abbrev DE:Fn:=Aj "_law_rooms" 3 3 2 8 Ec
abbrev Fk:Ss :=
 (.cons (.ret (.bin .add (.cI 2) (.ix (.call B0 (.cons (.nm 0) (.cons (.nm 1) (.cons (.lst (.cons (.cI 7) .nil)) .nil)))) (.cI 0))))
 .nil)
abbrev GW:Fn:=Aj "_law_fan" 2 3 1 2 Fk
abbrev By:Ss :=
 (.cons (.asg 3 2 (.call B0 (.cons (.nm 0) (.cons (.nm 1) (.cons (.lst (.cons (.cI 7) (.cons (.cI 200) (.cons (.cI 40) .nil)))) .nil)))))
 (.cons (.iff (.bo false (.cons (.cmp .eq (.cC (.nm 3) (.cI 0)) (.cI 0)) (.cons (.cmp .eq (.bi .len (.cons (.nm 2) .nil)) (.cI 0)) .nil)))
 (.cons (.ret (.ix (.lst (.cons (.cI 0) (.cons (.cI 1) (.cons (.cI 2) (.cons (.bin .pow (.cI 10) (.cI 59)) .nil))))) (.bin .mod (.cC (.nm 3) (.cI 1)) (.cI 4))))
 .nil)
 .nil)
 (.cons (.asg 4 0 (.ix (.nm 2) (.bin .mod (.cC (.nm 3) (.cI 1)) (.bi .len (.cons (.nm 2) .nil)))))
 (.cons (.iff (.cmp .eq (.cC (.nm 3) (.cI 0)) (.cI 1))
 (.cons (.ret (.bin .add (.bi .iJ (.cons (.nm 2) .nil)) (.bin .mod (.cC (.nm 3) (.cI 2)) (.cI 2))))
 .nil)
 .nil)
 (.cons (.ret (.bi .max (.cons (.cI 0) (.cons (.bin .add (.nm 4) (.cC (.lst (.cons (.cI 0) (.cons (.cI 0) (.cons (.cI 1) (.cons (.neg (.cI 1)) (.cons (.cC (.nm 3) (.cI 2)) .nil)))))) (.bin .sub (.cC (.nm 3) (.cI 0)) (.cI 2)))) .nil))))
 .nil)))))
abbrev Ed:Fn:=Aj "_law_need" 3 3 0 5 By
abbrev A7:Ss :=
 (.cons (.mut 2 [] .append (.cons (.bin .fdiv (.bin .sub (.bin .add (.cC (.nm 2) (.neg (.cI 1))) (.nm 1)) (.cI 1)) (.nm 1)) .nil))
 .nil)
abbrev Ce:Ss :=
 (.cons (.iff (.cmp .eq (.nm 0) (.cI 0))
 (.cons (.ret (.lst .nil))
 .nil)
 .nil)
 (.cons (.asg 2 1 (.lst (.cons (.nm 0) .nil)))
 (.cons (.wh (.cmp .gt (.cC (.nm 2) (.neg (.cI 1))) (.cI 1))
 A7)
 (.cons (.ret (.nm 2))
 .nil))))
abbrev BQ:Fn:=Aj "_law_counts" 2 1 1 3 Ce
abbrev BJ:Ss :=
 (.cons (.asg 4 0 (.bin .mul (.nm 4) (.nm 1)))
 .nil)
abbrev Ee:Ss :=
 (.cons (.asg 4 0 (.cI 1))
 (.cons (.cY (.nm 5) (.r1 (.nm 2))
 BJ)
 (.cons (.ret (.tup (.cons (.bin .mul (.nm 3) (.nm 4)) (.cons (.bi .min (.cons (.nm 0) (.cons (.bin .add (.bin .mul (.nm 3) (.nm 4)) (.nm 4)) .nil))) .nil))))
 .nil)))
abbrev DF:Fn:=Aj "_law_reach" 4 1 1 6 Ee
abbrev Aw:Ss :=
 (.cons (.iff (.bo false (.cons (.not (.chain .le .lt (.cI 0) (.nm 8) (.bi .len (.cons (.nm 6) .nil)))) (.cons (.not (.chain .le .lt (.cI 0) (.nm 9) (.cC (.nm 6) (.nm 8)))) (.cons (.cmp .ge (.nm 10) (.nm 2)) .nil))))
 (.cons (.ret (.cB false))
 .nil)
 .nil)
 (.cons (.eE [11,12] (.call DF (.cons (.nm 0) (.cons (.nm 1) (.cons (.nm 8) (.cons (.nm 9) .nil))))))
 (.cons (.iff (.cmp .ne (.nm 11) (.nm 7))
 (.cons (.ret (.cB false))
 .nil)
 .nil)
 (.cons (.asg 7 0 (.nm 12))
 .nil))))
abbrev DA:Ss :=
 (.cons (.asg 6 1 (.call BQ (.cons (.nm 0) (.cons (.nm 1) .nil))))
 (.cons (.asg 7 0 (.nm 4))
 (.cons (.cY (.tp [8,9,10]) (.seq (.nm 3))
 Aw)
 (.cons (.ret (.cmp .eq (.nm 7) (.nm 5)))
 .nil))))
abbrev EF:Fn:=Aj "_law_out" 6 2 9 13 DA
abbrev A6:Ss :=
 (.cons (.iff (.cmp .ge (.ix (.nm 0) (.nm 3)) (.nm 1))
 (.cons (.ret (.nm 3))
 .nil)
 .nil)
 .nil)
abbrev Db:Ss :=
 (.cons (.cY (.nm 3) (.r2 (.nm 2) (.bi .len (.cons (.nm 0) .nil)))
 A6)
 (.cons (.ret .cN)
 .nil))
abbrev AS:Fn:=Aj "_law_from" 3 1 0 4 Db
abbrev Gy:Ss :=
 (.cons (.iff (.bA false (.nm 0))
 (.cons (.ret (.nm 1))
 .nil)
 .nil)
 (.cons (.ret (.nm 0))
 .nil))
abbrev JY:Fn:=Aj "_law_end" 2 1 0 2 Gy
abbrev De:Ss :=
 (.cons (.iff (.cmp .eq (.nm 0) (.lst .nil))
 (.cons (.ret (.cS "-"))
 .nil)
 .nil)
 (.cons (.ret (.i7 (.cS " ") (.ao 1 [] (.nm 0) (.seq (.nm 0)) (.bi .str (.cons (.nm 0) .nil)))))
 .nil))
abbrev CY:Fn:=Aj "_law_line_of" 1 1 9 1 De
abbrev Ef:Ss :=
 (.cons (.ret (.call Cm (.cons (.call Ck (.cons (.nm 0) .nil)) .nil)))
 .nil)
abbrev Az:Fn:=Aj "_law_again" 1 5 9 1 Ef
abbrev CZ:Ss :=
 (.cons (.asg 2 1 (.fJ (.nm 0) (.cS " ")))
 (.cons (.asg 3 0 (.bin .mod (.ix (.nm 1) (.cI 0)) (.bi .len (.cons (.nm 2) .nil))))
 (.cons (.asg 4 1 (.fJ (.cC (.nm 2) (.nm 3)) (.cS ":")))
 (.cons (.asg 5 0 (.bin .mod (.ix (.nm 1) (.cI 1)) (.bi .len (.cons (.nm 4) .nil))))
 (.cons (.set 4 [] (.nm 5) (.ix (.lst (.cons (.bin .add (.cC (.nm 4) (.nm 5)) (.cS "0")) (.cons (.bin .add (.cS "0") (.cC (.nm 4) (.nm 5))) (.cons (.cS "") (.cons (.bi .str (.cons (.ix (.nm 1) (.cI 3)) .nil)) (.cons (.cS "-1") (.cons (.cC (.nm 4) (.nm 5)) .nil))))))) (.ix (.nm 1) (.cI 2))))
 (.cons (.set 2 [] (.nm 3) (.i7 (.cS ":") (.nm 4)))
 (.cons (.ret (.i7 (.cS " ") (.nm 2)))
 .nil)))))))
abbrev CF:Fn:=Aj "_law_changed_line" 2 1 9 6 CZ
abbrev Eg:Ss :=
 (.cons (.iff (.bo false (.cons (.cmp .lt (.bi .fw (.cons (.nm 0) .nil)) (.cI 1)) (.cons (.cmp .gt (.bi .fw (.cons (.nm 0) .nil)) (.cI 20)) (.cons (.bo true (.cons (.cmp .eq (.nv (.nm 0) (.cI 0)) (.cS "0")) (.cons (.cmp .ne (.nm 0) (.cS "0")) .nil))) .nil))))
 (.cons (.ret (.cB false))
 .nil)
 .nil)
 (.cons (.ret (.cmp .oi (.cB false) (.ao 1 [] (.nm 0) (.kA (.nm 0)) (.eY false (.nm 0) (.cS "0123456789")))))
 .nil))
abbrev BF:Fn:=Aj "_law_is_number" 1 1 9 1 Eg
abbrev Bl:Ss :=
 (.cons (.iff (.bo false (.cons (.cmp .ne (.bi .len (.cons (.nm 2) .nil)) (.cI 3)) (.cons (.cmp .pJ (.cB false) (.ao 1 [] (.nm 0) (.seq (.nm 2)) (.call BF (.cons (.nm 0) .nil)))) .nil)))
 (.cons (.ret .cN)
 .nil)
 .nil)
 .nil)
abbrev EG:Ss :=
 (.cons (.iff (.cmp .eq (.nm 0) (.cS "-"))
 (.cons (.ret (.lst .nil))
 .nil)
 .nil)
 (.cons (.asg 1 2 (.ao 1 [] (.nm 0) (.seq (.fJ (.nm 0) (.cS " "))) (.fJ (.nm 0) (.cS ":"))))
 (.cons (.gv 1 1)
 (.cons (.cY (.nm 2) (.bQ (.nm 1))
 Bl)
 (.cons (.ret (.ao 1 [] (.nm 0) (.bQ (.nm 1)) (.tup (.cons (.bi .cw (.cons (.gU (.nm 0) (.cI 0)) .nil)) (.cons (.bi .cw (.cons (.gU (.nm 0) (.cI 1)) .nil)) (.cons (.bi .cw (.cons (.gU (.nm 0) (.cI 2)) .nil)) .nil))))))
 .nil)))))
abbrev Eh:Fn:=Aj "_law_read" 1 2 9 3 EG
abbrev C0:Ss :=
 (.cons (.asg 5 0 (.call Eh (.cons (.nm 0) .nil)))
 (.cons (.fx (.cons (.asg 6 0 (.call Cm (.cons (.nm 0) .nil)))
 .nil)
 16 999
 (.cons (.ret (.bA false (.nm 5)))
 .nil)
 .nil)
 (.cons (.iff (.bo false (.cons (.bA false (.nm 5)) (.cons (.cmp .ne (.nm 6) (.nm 5)) .nil)))
 (.cons (.ret (.cB false))
 .nil)
 .nil)
 (.cons (.ret (.cmp .eq (.call Bw (.cons (.tup (.cons (.nm 1) (.cons (.nm 2) .nil))) (.cons (.nm 3) (.cons (.nm 4) (.cons (.nm 6) .nil))))) (.call EF (.cons (.nm 1) (.cons (.nm 2) (.cons (.nm 3) (.cons (.nm 5) (.cons (.cI 0) (.cons (.call JY (.cons (.nm 4) (.cons (.nm 1) .nil))) .nil)))))))))
 .nil))))
abbrev Hw:Fn:=Aj "_law_judged" 5 10 9 7 C0
abbrev Id:Ss :=
 (.cons (.asg 1 2 (.call DE (.cons (.nm 0) (.cons (.cI 0) (.cons (.cI 60) .nil)))))
 (.cons (.asg 2 1 (.call GW (.cons (.nm 0) (.cons (.cI 1) .nil))))
 (.cons (.asg 3 0 (.aK Ed (.cons (.nm 0) (.cons (.cI 2) (.cons (.nm 1) .nil)))))
 (.cons (.asg 4 2 (.call Hu (.cons (.aK CY (.cons (.nm 1) .nil)) .nil)))
 (.cons (.asg 5 2 (.aK CS (.cons (.call D0 (.cons (.aK F7 (.cons (.nm 4) (.cons (.nm 2) .nil))) .nil)) (.cons (.nm 2) .nil))))
 (.cons (.gv 2 0)
 (.cons (.asg 6 0 (.tup (.cons (.bi .len (.cons (.nm 1) .nil)) (.cons (.nm 2) .nil))))
 (.cons (.eE [7,8] (.aK BZ (.cons (.nm 5) (.cons (.nm 2) (.cons (.nm 3) .nil)))))
 (.cons (.iff (.bo false (.cons (.cmp .ne (.nm 7) (.aK AS (.cons (.nm 1) (.cons (.nm 3) (.cons (.cI 0) .nil))))) (.cons (.not (.call Bw (.cons (.nm 6) (.cons (.nm 3) (.cons (.nm 7) (.cons (.call Az (.cons (.nm 8) .nil)) .nil)))))) .nil)))
 (.cons (.ret (.cB false))
 .nil)
 .nil)
 (.cons (.iff (.not (.aK CU (.cons (.nm 5) (.cons (.call Az (.cons (.nm 8) .nil)) .nil))))
 (.cons (.ret (.cB false))
 .nil)
 .nil)
 (.cons (.eE [9,10] (.aK Cp (.cons (.nm 5) (.cons (.nm 2) (.cons (.nm 3) .nil)))))
 (.cons (.iff (.bo false (.cons (.not (.call Dx (.cons (.nm 6) (.cons (.nm 3) (.cons (.nm 9) (.cons (.call Az (.cons (.nm 10) .nil)) .nil)))))) (.cons (.not (.aK CU (.cons (.nm 5) (.cons (.call Az (.cons (.nm 10) .nil)) .nil)))) .nil)))
 (.cons (.ret (.cB false))
 .nil)
 .nil)
 (.cons (.asg 11 2 (.call B0 (.cons (.nm 0) (.cons (.cI 3) (.cons (.lst (.cons (.cI 60) (.cons (.cI 3) (.cons (.cI 6) (.cons (.cI 40) (.cons (.cI 60) .nil)))))) .nil)))))
 (.cons (.iff (.cmp .ne (.nm 1) (.lst .nil))
 (.cons (.asg 12 0 (.bin .mod (.cC (.nm 11) (.cI 4)) (.bi .len (.cons (.nm 1) .nil))))
 (.cons (.eE [13,14] (.aK BE (.cons (.nm 5) (.cons (.nm 2) (.cons (.nm 3) (.cons (.nm 12) .nil))))))
 (.cons (.iff (.cmp .ne (.nm 13) (.aK AS (.cons (.nm 1) (.cons (.nm 3) (.cons (.nm 12) .nil)))))
 (.cons (.ret (.cB false))
 .nil)
 .nil)
 (.cons (.iff (.not (.call Cc (.cons (.nm 6) (.cons (.nm 3) (.cons (.nm 12) (.cons (.nm 13) (.cons (.call Az (.cons (.nm 14) .nil)) .nil)))))))
 (.cons (.ret (.cB false))
 .nil)
 .nil)
 .nil))))
 .nil)
 (.cons (.ret (.call Hw (.cons (.aK CF (.cons (.call Ck (.cons (.nm 8) .nil)) (.cons (.nm 11) .nil))) (.cons (.bi .len (.cons (.nm 1) .nil)) (.cons (.nm 2) (.cons (.nm 3) (.cons (.nm 7) .nil)))))))
 .nil)))))))))))))))
abbrev JZ:Fn:=Aj "law" 1 13 9 15 Id
end Pu
section
namespace Pu
open PySem
theorem oD{f n:Nat}{k:Int}(h:f<=n)(e:(n:Int)<k):(f:Int)<k:=nY (gS.mpr h) e
theorem pY{f n:Nat}{k:Int}(h:f<=n)(e:(n:Int)<=k):(f:Int)<=k:=rD (gS.mpr h) e
theorem sW{a:Nat}:¬(a:Int)<0:=qu.mpr (gq a)
theorem sX{a p:Nat}(h:a<=p):¬(p:Int)<a:=qu.mpr (gS.mpr h)
theorem q9J{a b c d:Nat}(h:a<=b)(k:b<=c)(e:c<=d):a<=d:=aS h (aS k e)
theorem q9K{a b c d:Nat}(h:a<=b)(k:b<=c)(e:c<d):a<d:=fO h (fO k e)
theorem q9L{a b c:Nat}{d:Int}(h:a<=b)(k:b<=c)(e:(c:Int)<=d):(a:Int)<=d:=pY (aS h k) e
theorem DO{b:Fr->Out}(P:Nat->Fr->Prop):∀{ds:List D}{δ:Fr}(n:Nat),P n δ->(∀i d δ,ds[i]?=some d->P (n+i) δ->∃aQ nK,CI tg d δ=some aQ/\b aQ=.bb nK/\P (n+i+1) nK)->∃aQ,Bc tg b ds δ=.bb aQ/\P (n+ds.length) aQ
 |[],δ,n,h0,_=>⟨δ,rfl,h0⟩
 |d::ds,δ,n,h0,hs=>by
  obtain⟨aQ,nK,e1,e2,h1⟩:=hs 0 d δ rfl h0
  obtain⟨δ3,e3,h3⟩:=DO P (ds:=ds) (δ:=nK) (n+1) h1 fun i d δ hd hP=>by
   have:=hs (i+1) d δ (by simpa using hd) (by rw[show n+(i+1)=n+1+i by omega];exact hP)
   rw[show n+(i+1)+1=n+1+i+1 by exact Nat.add_right_comm ..]at this
   exact this
  refine⟨δ3,?_,by rw[jS,show n+(ds.length+1)=n+1+ds.length by omega];exact h3⟩
  unfold Bc
  rw[e1]
  show(b aQ).then _=_
  rw[e2]
  exact e3
theorem Dn(i j:Int):b2 .add (.int i) (.int j)=.ok (.int (i+j)):=rfl
theorem Ei(i j:Int):b2 .sub (.int i) (.int j)=.ok (.int (i-j)):=rfl
theorem CA(i j:Int)(h1:-(18446744073709551616)<i)(h2:i<18446744073709551616):b2 .mul (.int i) (.int j)=.ok (.int (i*j)):=by
 show(if _ then _ else _)=_;rw[if_pos (.inl ⟨h1,h2⟩)]
theorem CB(i j:Int)(h1:-(18446744073709551616)<j)(h2:j<18446744073709551616):b2 .mul (.int i) (.int j)=.ok (.int (i*j)):=by
 show(if _ then _ else _)=_;rw[if_pos (.inr ⟨h1,h2⟩)]
theorem Do(i j:Int)(h1:0<j):b2 .mod (.int i) (.int j)=.ok (.int (i%j)):=by
 show(if _ then _ else _)=_;rw[if_pos h1]
theorem CC(i j:Int)(h1:0<j)(h2:j<1606938044258990275541962092341162602522202993782792835301376):b2 .fdiv (.int i) (.int j)=.ok (.int (i/j)):=by
 show(if _ then _ else _)=_;rw[if_pos ⟨h1,h2⟩]
theorem Gf(i j:Int)(h1:0<=j)(h2:j<=1000000)(h3:i.natAbs<18446744073709551616):b2 .pow (.int i) (.int j)=.ok (.int (i^j.toNat)):=by
 show(if _ then _ else _)=_;rw[if_pos ⟨h1,h2,h3⟩]
theorem FC(i j:Int):c2 .lt (.int i) (.int j)=.ok (.bl (decide (i<j))):=rfl
theorem FD(i j:Int):c2 .le (.int i) (.int j)=.ok (.bl (decide (i<=j))):=rfl
theorem FG(i j:Int):c2 .gt (.int i) (.int j)=.ok (.bl (decide (j<i))):=rfl
theorem FH(i j:Int):c2 .ge (.int i) (.int j)=.ok (.bl (decide (j<=i))):=rfl
theorem Dp(i j:Int):c2 .eq (.int i) (.int j)=.ok (.bl (i==j)):=rfl
theorem Ej(i j:Int):c2 .ne (.int i) (.int j)=.ok (.bl (!(i==j))):=rfl
theorem DG(d:D)(r:Fr):get (some d::r) 0=.ok d:=rfl
theorem EH(o:Option D)(r:Fr)(i:Nat):get (o::r) (i+1)=get r i:=by
 unfold get;rw[abh]
theorem GX{n:Nat}(h:exs b (Pu.AL n ds)=.ret d):run n b ds=.ok d:=by
 unfold run;rw[h]
theorem gO{ar lv dep n:Nat}(h:exs b (Pu.AL n ds)=.ret d)(l:ds.length=ar:=by rfl):(Aj x ar lv dep n b).den ds=.ok d:=(Ci l).trans (GX h)
theorem GY{n:Nat}{c:Nat}(h:exs b (Pu.AL n ds)=.exc c δ):run n b ds=.exc c:=by
 unfold run;rw[h]
abbrev Ie(c k:Int):Int:=((((c%2147483629+1013*k+7919)^3%2147483647)*40699+3793*k*k+11)%2147483399)/101
theorem OR(c k:Int)(Z_:0<=k)(hk:k<=100000):Da.den [.int c,.int k]=.ok (.int (Ie c k)):=by
 have h1:0<=c%2147483629:=ni _ (by decide)
 have h2:c%2147483629<2147483629:=rB _ (by decide)
 have h3:(c%2147483629+1013*k+7919).natAbs<18446744073709551616:=by omega
 have h4:-(18446744073709551616)<k:=by omega
 have h5:k<18446744073709551616:=by omega
 rw[KB _ rfl]
 simp[run,Dz,exs,ex,ev,evs,get,Dn,CA,CB,Do,CC,Gf,Pu.AL,h3,h4,h5,Ie]
theorem Ek{ns:List Int}(h:d∈ns.map D.int):∃x,d=.int x:=by
 obtain⟨x,_,e⟩:=a8.mp h
 exact⟨x,e.symm⟩
theorem Qj{ns:List Int}{lo hi:Option Int}{i:Nat}(h:(cut (ns.map D.int) lo hi)[i]?=some d):∃x,d=.int x:=by
 have:=cJ h
 unfold cut at this
 exact Ek (qX (tJ this))
theorem Jk{ns:List Int}{i:Int}(h0:0<=i)(h1:i<ns.length):∃x,ns[i.toNat]?=some x/\bz (ns.map D.int) i=.ok (.int x):=by
 have hl:i.toNat<ns.length:=by omega
 refine⟨ns[i.toNat],d_ hl,?_⟩
 unfold bz dE
 rw[aF,if_pos h0,if_pos h1]
 simp[hl]
theorem Nl(ns:List Int)(p:Int)(hp:0<=p):∃i,Dm.den [.lst (ns.map .int),.int p]=.ok (.int i):=by
 rw[N5 _ rfl]
 by_cases h:p<ns.length
 ·obtain⟨x,_,e⟩:=Jk hp h
  refine⟨x,?_⟩
  simp -implicitDefEqProofs [run,exs,ex,ev,evs,evI,evBo,tv,get,BP,Dn,Ei,CA,CB,Do,CC,Gf,FC,FD,FG,FH,Dp,Ej,Pu.AL,biD,ixD,FT,Hc,evP,upd,CP,jZ,ER,Di,Dd,C5,DV,E.isCN,Fe,on1,on2,on3,Er,BR,DW,Dh,GA,DU,FV,dI,dB,dS,dL,dT',un1,un0,Ea,h,e]
 obtain⟨aQ,e,s,o,rfl⟩:=DO (tg:=.nm 3) (b:=exs Fi) (fun _ δ=>∃(s:Int)(o:Option D),δ=[some (.lst (ns.map .int)),some (.int p),some (.int s),o]) (ds:=cut (ns.map D.int) none (some 63)) (δ:=[some (.lst (ns.map .int)),some (.int p),some (.int 5),none]) 0 ⟨5,none,rfl⟩ (by
  rintro i d δ hd ⟨s,o,rfl⟩
  obtain⟨x,rfl⟩:=Qj hd
  refine⟨_,_,rfl,?_,(s*48271+x%1000003+1)%2147483647,some (.int x),rfl⟩
  simp -implicitDefEqProofs [run,exs,ex,ev,evs,evI,evBo,tv,get,BP,Dn,Ei,CA,CB,Do,CC,Gf,FC,FD,FG,FH,Dp,Ej,Pu.AL,biD,ixD,FT,Hc,evP,upd,CP,jZ,ER,Di,Dd,C5,DV,E.isCN,Fe,on1,on2,on3,Er,BR,DW,Dh,GA,DU,FV,dI,dB,dS,dL,dT',un1,un0,Fi])
 refine⟨(s+7919*p)%1000003,?_⟩
 simp -implicitDefEqProofs [run,exs,ex,ev,evs,evI,evBo,tv,get,BP,Dn,Ei,CA,CB,Do,CC,Gf,FC,FD,FG,FH,Dp,Ej,Pu.AL,biD,ixD,FT,Hc,evP,upd,CP,jZ,ER,Di,Dd,C5,DV,E.isCN,Fe,on1,on2,on3,Er,BR,DW,Dh,GA,DU,FV,dI,dB,dS,dL,dT',un1,un0,Ea,h,e]
theorem J0{a b:Int}{i:Nat}(h:(Ay a b)[i]?=some d):d=.int (a+i)/\(i:Int)<b-a:=by
 unfold Ay at h
 rw[dg]at h
 obtain⟨j,hj,e⟩:=fP.mp h
 obtain⟨h1,h2⟩:=gP.mp hj
 rw[zJ]at h2
 subst h2
 rw[kI]at h1
 exact⟨e.symm,by omega⟩
theorem FI(a b:Int):(Ay a b).length=(b-a).toNat:=by unfold Ay;simp
theorem FQ{a b:Int}(h1:-1000000<=a)(h2:a<=1000000)(h3:-1000000<=b)(h4:b<=1000000):Ty (.int a) (.int b)=.ok (Ay a b):=by
 show(if _ then _ else _)=_
 rw[if_pos]
 unfold BS dn
 simp -implicitDefEqProofs only[bg,decide_eq_true_eq]
 omega
theorem DP{ns:List Int}{i:Nat}{x:Int}(h:ns[i]?=some x):bz (ns.map D.int) (i:Int)=.ok (.int x):=by
 have hl:=(gP.mp h).1
 obtain⟨y,e1,e2⟩:=Jk (ns:=ns) (i:=(i:Int)) (by exact gq _) (by exact gS.mpr hl)
 rw[gR,h]at e1
 cases e1
 exact e2
theorem KC:b2 .pow (.int 10) (.int 18)=.ok (.int 1000000000000000000):=by
 rw[Gf _ _ (by decide) (by decide) (by decide)];rfl
theorem KD:b2 .pow (.int 10) (.int 59)=.ok (.int 100000000000000000000000000000000000000000000000000000000000):=by
 rw[Gf _ _ (by decide) (by decide) (by decide)];rfl
theorem Cq(ds:List D)(d:D)(h:ds.length<16777216):jZ .append [d] ds=some (ds++[d]):=by
 show(if _ then _ else _)=_
 exact if_pos h
section
variable{ns S xs:List Int}{p c left:Int}{i:Nat}{s:Int}{o2:Option D}(hs:0<s)(iO:bz (S.map D.int) (i:Int)=.ok (.int s))(hi:i<=1000)(hx:xs.length<=1000)
include hs iO hi hx
theorem Aau(h1:c<1000000000000000000) :
  exs AK [some (.lst (ns.map .int)),some (.int p),some (.lst (S.map .int)),some (.int c),some (.int left),some (.lst (xs.map .int)),some (.int i),o2]=.bb [some (.lst (ns.map .int)),some (.int p),some (.lst (S.map .int)),some (.int c),some (.int left),some (.lst ((xs++[Ie c i%s]).map .int)),some (.int i),o2]:=by
 have dq:=OR c i (by exact gq _) (by exact pY hi (by decide))
 have eG:=Cq (xs.map D.int) (.int (Ie c i%s)) (by rw[aF];exact fO hx (by decide))
 simp -implicitDefEqProofs only[AK,exs,ex,tv,ev,evs,evI,evBo,DG,EH,Res.bind_ok,Res.out_ok,Out.then_nxt,Out.then_ret,abt,abh,KC,KD,Dn,Ei,CA,CB,Do,CC,FC,FD,FG,FH,Dp,Ej,BP,decide_true,decide_false,if_true,if_false,aba,abN,abQ,abK,evP,ixD,FT,Hc,upd,CP,abl,acT,aax,acb,biD,ER,Di,Dd,on1,on2,on3,Er,BR,DW,Dh,GA,DU,FV,dI,dB,dS,dL,dT',un1,un0,C5,DV,E.isCN,Fe,reduceCtorEq,Int.reduceLT,Int.reduceLE,Int.reduceNeg,Int.reduceBEq,h1,dq,iO,hs,eG]
theorem Aav(h1:¬c<1000000000000000000)(h2:0<left)(h3:s<1606938044258990275541962092341162602522202993782792835301376) :
  exs AK [some (.lst (ns.map .int)),some (.int p),some (.lst (S.map .int)),some (.int c),some (.int left),some (.lst (xs.map .int)),some (.int i),o2]=.bb [some (.lst (ns.map .int)),some (.int p),some (.lst (S.map .int)),some (.int c),some (.int (left/s)),some (.lst ((xs++[left%s]).map .int)),some (.int i),o2]:=by
 have eG:=Cq (xs.map D.int) (.int (left%s)) (by rw[aF];exact fO hx (by decide))
 simp -implicitDefEqProofs only[AK,exs,ex,tv,ev,evs,evI,evBo,DG,EH,Res.bind_ok,Res.out_ok,Out.then_nxt,Out.then_ret,abt,abh,KC,KD,Dn,Ei,CA,CB,Do,CC,FC,FD,FG,FH,Dp,Ej,BP,decide_true,decide_false,if_true,if_false,aba,abN,abQ,abK,evP,ixD,FT,Hc,upd,CP,abl,acT,aax,acb,biD,ER,Di,Dd,on1,on2,on3,Er,BR,DW,Dh,GA,DU,FV,dI,dB,dS,dL,dT',un1,un0,C5,DV,E.isCN,Fe,reduceCtorEq,Int.reduceLT,Int.reduceLE,Int.reduceNeg,Int.reduceBEq,h1,h2,h3,iO,hs,eG]
theorem Aaw(h1:¬c<1000000000000000000)(h2:¬0<left){q:Int}(hq:Dm.den [.lst (ns.map .int),.int ((p+1+i)%63)]=.ok (.int q)) :
  exs AK [some (.lst (ns.map .int)),some (.int p),some (.lst (S.map .int)),some (.int c),some (.int left),some (.lst (xs.map .int)),some (.int i),o2]=.bb [some (.lst (ns.map .int)),some (.int p),some (.lst (S.map .int)),some (.int c),some (.int left),some (.lst ((xs++[Ie q i%s]).map .int)),some (.int i),some (.int q)]:=by
 have dq:=OR q i (by exact gq _) (by exact pY hi (by decide))
 have eG:=Cq (xs.map D.int) (.int (Ie q i%s)) (by rw[aF];exact fO hx (by decide))
 simp -implicitDefEqProofs only[AK,exs,ex,tv,ev,evs,evI,evBo,DG,EH,Res.bind_ok,Res.out_ok,Out.then_nxt,Out.then_ret,abt,abh,KC,KD,Dn,Ei,CA,CB,Do,CC,FC,FD,FG,FH,Dp,Ej,BP,decide_true,decide_false,if_true,if_false,aba,abN,abQ,abK,evP,ixD,FT,Hc,upd,CP,abl,acT,aax,acb,biD,ER,Di,Dd,on1,on2,on3,Er,BR,DW,Dh,GA,DU,FV,dI,dB,dS,dL,dT',un1,un0,C5,DV,E.isCN,Fe,reduceCtorEq,Int.reduceLT,Int.reduceLE,Int.reduceNeg,Int.reduceBEq,h1,h2,hq,dq,iO,hs,eG,Int.reduceLT]
end
theorem IF(ns:List Int)(p:Int)(hp:0<=p)(S:List Int)(hl:S.length<=1000)(hS:∀s∈S,0<s/\s<1606938044258990275541962092341162602522202993782792835301376) :
  ∃xs:List Int,B0.den [.lst (ns.map .int),.int p,.lst (S.map .int)]=.ok (.lst (xs.map .int))/\xs.length=S.length/\∀(j:Nat)(x s:Int),xs[j]?=some x->S[j]?=some s->0<=x/\x<s:=by
 obtain⟨c,hc⟩:=Nl ns p hp
 obtain⟨aQ,e,left,xs,o1,o2,rfl,hx,hb⟩:=DO (tg:=.nm 6) (b:=exs AK) (fun i δ=>∃(left:Int)(xs:List Int)(o1 o2:Option D),δ=[some (.lst (ns.map .int)),some (.int p),some (.lst (S.map .int)),some (.int c),some (.int left),some (.lst (xs.map .int)),o1,o2]/\xs.length=i/\∀(j:Nat)(x s:Int),xs[j]?=some x->S[j]?=some s->0<=x/\x<s)
  (ds:=Ay 0 (S.length:Int)) (δ:=[some (.lst (ns.map .int)),some (.int p),some (.lst (S.map .int)),some (.int c),some (.int c),some (.lst []),none,none]) 0 ⟨c,[],none,none,rfl,rfl,by simp⟩ (by
   rintro i d δ hd ⟨left,xs,o1,o2,rfl,hx,hb⟩
   obtain⟨rfl,hi⟩:=J0 hd
   have hx:xs.length=i:=by omega
   have kD:i<S.length:=by exact gS.mp hi
   have hs:S[i]?=some S[i]:=d_ kD
   have dC:=hS S[i] (vf kD)
   have iO:=DP hs
   generalize S[i]=s at hs dC iO
   have fin:∀z:Int,0<=z->z<s->∀(j:Nat)(x s:Int),(xs++[z])[j]?=some x->S[j]?=some s->0<=x/\x<s:=by
    intro z h0 h1 j x s e1 e2
    by_cases hj:j<xs.length
    ·rw[oF hj]at e1
     exact hb j x s e1 e2
    rw[kH (by exact iZ.mp hj)]at e1
    have:j=i:=by
     have:=(gP.mp e1).1
     simp at this;omega
    subst this
    rw[hx,vz]at e1
    rw[hs]at e2
    cases e2;cases e1
    exact⟨h0,h1⟩
   have md:∀y:Int,0<=y%s/\y%s<s:=fun y=>⟨ni _ (by omega),rB _ dC.1⟩
   have hz:(0:Int)+(i:Int)=(i:Int):=by omega
   rw[hz]
   have len:∀z:Int,(xs++[z]).length=0+i+1:=fun z=>by rw[eP,hx];simp
   by_cases h1:c<1000000000000000000
   ·exact⟨_,_,rfl,Aau dC.1 iO (by omega) (by omega) h1,left,xs++[Ie c i%s],some (.int i),o2,rfl,len _,fin _ (md _).1 (md _).2⟩
   by_cases h2:0<left
   ·exact⟨_,_,rfl,Aav dC.1 iO (by omega) (by omega) h1 h2 dC.2,left/s,xs++[left%s],some (.int i),o2,rfl,len _,fin _ (md _).1 (md _).2⟩
   obtain⟨q,hq⟩:=Nl ns ((p+1+i)%63) (ni _ (by decide))
   exact⟨_,_,rfl,Aaw dC.1 iO (by omega) (by omega) h1 h2 hq,left,xs++[Ie q i%s],some (.int i),some (.int q),rfl,len _,fin _ (md _).1 (md _).2⟩)
 refine⟨xs,?_,by rw[hx,FI];exact tR ..,hb⟩
 have hr:=FQ (a:=0) (b:=(S.length:Int)) (by exact by decide) (by exact by decide) (by exact gq _) (by exact pY hl (by decide))
 refine gO ?_
 simp -implicitDefEqProofs only[Pu.AL,aaI,aaq,aaY,aaX,Fj,exs,ex,tv,ev,evs,evI,evBo,DG,EH,Res.bind_ok,Res.out_ok,Out.then_nxt,Out.then_ret,abt,abh,KC,KD,Dn,Ei,CA,CB,Do,CC,FC,FD,FG,FH,Dp,Ej,BP,decide_true,decide_false,if_true,if_false,aba,abN,abQ,abK,evP,ixD,FT,Hc,upd,CP,abl,acT,aax,acb,biD,ER,Di,Dd,on1,on2,on3,Er,BR,DW,Dh,GA,DU,FV,dI,dB,dS,dL,dT',un1,un0,C5,DV,E.isCN,Fe,reduceCtorEq,Int.reduceLT,Int.reduceLE,Int.reduceNeg,Int.reduceBEq,hc,aF,hr,e]
theorem Nm(i:Int):I0.den [.int i]=.ok (.bl true):=rfl
theorem Bz(i a b:Int):Cj.den [.int i,.int a,.int b]=.ok (.bl (decide (a<=i/\i<=b))):=by
 refine gO ?_
 by_cases h1:a<=i<;>by_cases h2:i<=b<;>simp -implicitDefEqProofs only[Pu.AL,aaI,aaq,aaY,aaX,F5,exs,ex,tv,ev,evs,evI,evBo,DG,EH,Res.bind_ok,Res.out_ok,Out.then_nxt,Out.then_ret,abt,abh,KC,KD,Dn,Ei,CA,CB,Do,CC,FC,FD,FG,FH,Dp,Ej,BP,decide_true,decide_false,if_true,if_false,aba,abN,abQ,abK,evP,ixD,FT,Hc,upd,CP,abl,acT,aax,acb,biD,ER,Di,Dd,on1,on2,on3,Er,BR,DW,Dh,GA,DU,FV,dI,dB,dS,dL,dT',un1,un0,C5,DV,E.isCN,Fe,reduceCtorEq,Int.reduceLT,Int.reduceLE,Int.reduceNeg,Int.reduceBEq,Nm,h1,h2,and_self,and_true,and_false]
theorem at0(a b:D):bz [a,b] 0=.ok a:=rfl
theorem at1(a b:D):bz [a,b] 1=.ok b:=rfl
theorem Abl{xs:List Int}(h:xs.length=1):∃a,xs=[a]:=by
 match xs,h with
 |[a],_=>exact⟨a,rfl⟩
section
variable(a b c d e f:D)
theorem Abm:bz [a] 0=.ok a:=rfl
end
theorem Lv{f:D->Res (Option D)}{g:D->Option D}:∀{ds:List D},(∀d∈ds,f d=.ok (g d))->GP f ds=.ok (ds.filterMap g)
 |[],_=>rfl
 |d::ds,h=>by
  unfold GP
  rw[h d aP,Lv (ds:=ds) fun x hx=>h x (aL _ hx)]
  show Res.ok _=_
  rw[oG]
  cases g d<;>rfl
theorem R7{f:D->Res D}{g:D->D}:∀{ds:List D},(∀d∈ds,f d=.ok (g d))->DJ f ds=.ok (ds.map g)
 |[],_=>rfl
 |d::ds,h=>by
  unfold DJ
  rw[h d aP,Res.bind_ok,R7 (ds:=ds) fun x hx=>h x (aL _ hx)];rfl
theorem Ax{nl:Nat}{fr:List Nat}{g:D->D}(hi:evI it δ=.ok ds)(h:∀d∈ds,∃aQ,CI tg d (lA nl fr δ)=some aQ/\ev elt aQ=.ok (g d)):ev (.ao nl fr tg it elt) δ=.ok (.lst (ds.map g)):=by
 rw[ev,hi,Res.bind_ok,R7 (g:=g) (fun d hd=>by
  obtain⟨aQ,e1,e2⟩:=h d hd
  rw[e1]
  show kr (ev elt aQ)=_
  rw[e2];rfl),Res.bind_ok]
theorem EJ{nl:Nat}{fr:List Nat}{tg:Tg}{it:It}{cond elt:E}{δ:Fr}{ds:List D}{b:D->Bool}{g:D->D}(hi:evI it δ=.ok ds)(h:∀d∈ds,∃aQ,CI tg d (lA nl fr δ)=some aQ/\(ev cond aQ).bind BP=.ok (b d)/\(b d=true->ev elt aQ=.ok (g d))):ev (.a9 nl fr tg it cond elt) δ=.ok (.lst ((ds.filter b).map g)):=by
 rw[ev,hi,Res.bind_ok,Lv (g:=fun d=>if b d then some (g d) else none) (fun d hd=>by
  obtain⟨aQ,e1,e2,e3⟩:=h d hd
  rw[e1]
  show((ev cond aQ).bind BP).bind _=_
  rw[e2,Res.bind_ok]
  cases q:b d with
  |true=>rw[if_pos rfl,e3 q];rfl
  |false=>rfl),Res.bind_ok]
 congr 2
 clear h hi
 induction ds with
 |nil=>rfl
 |cons d ds ih=>
  rw[oG,rd]
  cases q:b d with
  |true=>simp[ih]
  |false=>simp[ih]
theorem Fb{c:Fr->Res Bool}{b:Fr->Out}(P:Nat->Fr->Prop):∀(k n m:Nat){δ:Fr},P m δ->(∀i δ,m<=i->i<m+k->P i δ->c δ=.ok true/\∃aQ,b δ=.bb aQ/\P (i+1) aQ)->(∀δ,P (m+k) δ->c δ=.ok false)->k<n->∃aQ,AR c b n δ=.bb aQ/\P (m+k) aQ
 |0,n+1,m,δ,h0,_,h2,_=>by
  refine⟨δ,?_,h0⟩
  unfold AR
  rw[h2 δ h0];rfl
 |k+1,n+1,m,δ,h0,h1,h2,hn=>by
  obtain⟨e1,aQ,e2,h3⟩:=h1 m δ (bx _) (by omega) h0
  obtain⟨sA,e4,h4⟩:=Fb P k n (m+1) h3 (fun i δ hi hl=>h1 i δ (by exact a6 hi) (by omega)) (fun δ hd=>h2 δ (by rw[show m+(k+1)=m+1+k by omega];exact hd)) (by exact m_ hn)
  refine⟨sA,?_,by rw[show m+(k+1)=m+1+k by omega];exact h4⟩
  unfold AR
  rw[e1,Res.out_ok,if_pos rfl,e2]
  exact e4
theorem DQ(xs:List D)(h:xs.all (D.aX 7)=true):c2 .ne (.lst xs) (.lst [])=.ok (.bl (!xs.isEmpty)):=by
 show(if(D.aX 8 (.lst xs)&&D.aX 8 (.lst [])) then _ else _)=_
 rw[show D.aX 8 (.lst xs)=true from h,show D.aX 8 (.lst [])=true from rfl]
 cases xs<;>rfl
theorem OS(a b:List D)(h:a.length+b.length<=16777216):b2 .add (.lst a) (.lst b)=.ok (.lst (a++b)):=by
 show(if _ then _ else _)=_
 exact if_pos h
abbrev cnt(p f i:Nat):Nat:=(p+f^i-1)/f^i
theorem Hm(p f:Nat):cnt p f 0=p:=by unfold cnt;simp
theorem Jl{p f:Nat}(hf:1<=f)(i:Nat):cnt p f (i+1)=(cnt p f i+f-1)/f:=by
 unfold cnt
 have hw:0<f^i:=i_ (by exact hf)
 have h1:(p+f^i-1)/f^i+f-1=(p+f^(i+1)-1)/f^i:=by
  have e:p+f^(i+1)-1=(p+f^i-1)+f^i*(f-1):=by
   have:f^(i+1)=f^i*(f-1)+f^i:=by
    rw[mO,<- Nat.mul_succ];congr 1;omega
   omega
  rw[e,Nat.add_mul_div_left _ _ hw]
  generalize (p+f^i-1)/f^i=q
  omega
 rw[h1,zO,mO]
structure Hs(p f h:Nat):Prop where
 one:cnt p f h=1
 more:∀i,i<h->1<cnt p f i
theorem WG{p f:Nat}(hf:1<=f)(hp:1<=p)(i:Nat):1<=cnt p f i:=by
 unfold cnt
 have hw:0<f^i:=i_ (by exact hf)
 rw[qk hw];omega
theorem OT{p f h:Nat}(hf:1<=f)(hh:p<=f^h)(hp:1<=p):cnt p f h=1:=by
 unfold cnt
 have hw:0<f^h:=i_ (by exact hf)
 apply zR<;>omega
theorem U5{p f:Nat}(hf:2<=f)(hp:1<=p):∀n:Nat,p<=f^n->∃h,h<=n/\Hs p f h
 |0,h=>⟨0,bx _,OT (by exact a6 hf) h hp,fun i hi=>absurd hi (by exact absurd hi (vy _))⟩
 |n+1,h=>by
  by_cases hn:p<=f^n
  ·obtain⟨k,h1,h2⟩:=U5 hf hp n hn
   exact⟨k,by exact rj h1,h2⟩
  refine⟨n+1,bx _,OT (by exact a6 hf) h hp,fun i hi=>?_⟩
  unfold cnt
  have hw:0<f^i:=i_ (by exact a6 hf)
  have hm:f^i<=f^n:=vq (by exact a6 hf) (by exact m_ hi)
  have:2<=(p+f^i-1)/f^i:=by
   rw[qk hw];omega
  exact this
theorem hs8{p f:Nat}(hf:2<=f)(hp:1<=p)(sY:p<=200):∃h,h<=8/\Hs p f h:=by
 refine U5 hf hp 8 (aS (show p<=2^8 by exact aS sY (by decide)) (zS hf 8))
theorem Y4{f l:Nat}(hf:f<=8)(hl:l<=9):f^l<=134217728 :=
 aS (zS hf l) (aS (vq (by decide) hl) (by decide))
theorem AO{p f l j:Nat}(hf:1<=f):j<cnt p f l ↔ j*f^l<p:=by
 unfold cnt
 have hw:0<f^l:=i_ (by exact hf)
 rw[<- Nat.succ_le_iff,qk hw,mL]
 omega
theorem Fc{p f l:Nat}(hf:1<=f):cnt p f l<=p:=by
 apply nc
 intro h
 have:=(AO hf).mp h
 have hw:0<f^l:=i_ (by exact hf)
 have:=zN p hw
 omega
abbrev mx(b:Nat->Bool):Nat->Nat
 |0=>0
 |l+1=>if b (l+1) then l+1 else mx b l
theorem Mi(b:Nat->Bool):∀n,mx b n<=n
 |0=>bx _
 |l+1=>by unfold mx;split;exact bx _;exact rj (Mi b l)
theorem Qk{b:Nat->Bool}(h0:b 0=true):∀n,b (mx b n)=true
 |0=>h0
 |l+1=>by unfold mx;split;assumption;exact Qk h0 l
theorem U6{b:Nat->Bool}:∀n l,mx b n<l->l<=n->b l=false
 |0,l,h,h2=>by unfold mx at h;exact absurd h2 (Nat.not_le.mpr h)
 |n+1,l,h,h2=>by
  unfold mx at h
  split at h
  ·exact absurd h2 (Nat.not_le.mpr h)
  rename_i hb
  by_cases e:l=n+1
  ·subst e;simpa using hb
  exact U6 n l h (by omega)
abbrev mX(p f a e l:Nat):Bool:=a%f^l==0&&decide (min p (a+f^l)<=e)
theorem IG{p f a e l:Nat}:mX p f a e l=true ↔ a%f^l=0/\min p (a+f^l)<=e:=by unfold mX;simp
theorem Uv{p f a e l k:Nat}(hf:1<=f)(h:mX p f a e l=true)(hk:k<=l):mX p f a e k=true:=by
 rw[IG]at h ⊢
 refine⟨Nat.mod_eq_zero_of_dvd (Nat.dvd_trans (Nat.pow_dvd_pow f hk) (Nat.dvd_of_mod_eq_zero h.1)),?_⟩
 have:f^k<=f^l:=vq hf hk
 omega
abbrev cW(p f h e a:Nat):Nat:=mx (mX p f a e) h
abbrev mY(p f h e a:Nat):Nat:=min p (a+f^cW p f h e a)
abbrev c6(p f h e:Nat):Nat->Nat->List (Nat×Nat)
 |0,_=>[]
 |n+1,a=>if a<e then(cW p f h e a,a/f^cW p f h e a)::c6 p f h e n (mY p f h e a) else []
theorem Y5{p f a e:Nat}(h:a<e):mX p f a e 0=true:=by
 rw[IG,tU,Nat.mod_one];omega
theorem J1{p f h a e:Nat}(cH:a<e):a%f^cW p f h e a=0/\mY p f h e a<=e:=IG.mp (Qk (Y5 cH) h)
theorem R8{p f h a e:Nat}(hf:1<=f)(cH:a<e)(e_:e<=p):a<mY p f h e a:=by
 unfold mY
 have:0<f^cW p f h e a:=i_ (by exact hf)
 omega
end Pu
end
section
open Pu
set_option hygiene false in
local macro_rules | `(tactic| simp_arith [$xs,*] $[at $h:ident]?)=>`(tactic| simp -implicitDefEqProofs only [Pu.AL,aaI,aaq,aaY,aaX,↓reduceIte,aa5,Nat.reduceAdd,Nat.reduceSub,adt,Int.reduceAdd,Int.reduceSub,Int.reduceMul,at0,at1,beq_self_eq_true,acG,abF,aa4,aa0,ab7,exs,ex,tv,ev,evs,evI,evBo,DG,EH,Res.bind_ok,Res.out_ok,Out.then_nxt,Out.then_ret,abt,abh,KC,KD,Dn,Ei,CA,CB,Do,CC,FC,FD,FG,FH,Dp,Ej,BP,decide_true,decide_false,if_true,if_false,aba,abN,abQ,abK,evP,ixD,FT,Hc,upd,CP,abl,acT,aax,acb,biD,ER,Di,Dd,on1,on2,on3,Er,BR,DW,Dh,GA,DU,FV,dI,dB,dS,dL,dT',un1,un0,C5,DV,E.isCN,Fe,reduceCtorEq,Int.reduceLT,Int.reduceLE,Int.reduceNeg,Int.reduceBEq,$xs,*] $[at $h:ident]?)
namespace Pu
open PySem
theorem FJ{c:Fr->Res Bool}{b:Fr->Out}{n:Nat}(h1:c δ=.ok true)(h2:b δ=.bb aQ):AR c b (n+1) δ=AR c b n aQ:=by
 rw[AR,h1,Res.out_ok,if_pos rfl,h2,Out.then_nxt]
theorem Cf{c:Fr->Res Bool}{b:Fr->Out}{n:Nat}(h1:c δ=.ok false):AR c b (n+1) δ=.bb δ:=by
 rw[AR,h1,Res.out_ok];rfl
abbrev iN(n:Nat):D:=.int n
abbrev AA(xs:List Nat):D:=.lst (xs.map iN)
abbrev fo(p f h:Nat):List Nat:=(dh (h+1)).map (cnt p f)
abbrev aA(p f:Nat):D:=.tup [.int p,.int f]
abbrev Al(l j:Nat):D:=.tup [.int l,.int j]
theorem R9{m f:Nat}(hf:1<=f):((m:Int)+(f:Int)-1)/(f:Int)=(((m+f-1)/f:Nat):Int):=by
 rw[vC];congr 1;omega
theorem Nn{xs:List Nat}{i:Nat}(h:i<xs.length):bz (xs.map iN) (i:Int)=.ok (.int (xs[i]:Nat)):=by
 unfold bz dE
 rw[aF,if_pos (by exact gq _),if_pos (by exact gS.mpr h)]
 simp[h,iN]
theorem IH(p f i:Nat):((dh (i+1)).map (cnt p f)).map iN=((dh i).map (cnt p f)).map iN++[.int (cnt p f i)]:=by
 rw[tO,aax,aax];rfl
section
variable{p f h:Nat}(hf:2<=f)(av:f<=8)(H:Hs p f h)(hh:h<=8)
include hf av H hh
theorem WH(xs:List D)(hl:xs.length<=1000)(i:Nat):exs Cy [some (aA p f),some (.int f),some (.lst xs),some (.int (cnt p f i))]=.bb [some (aA p f),some (.int f),some (.lst (xs++[.int (cnt p f i)])),some (.int (cnt p f (i+1)))]:=by
 have eG:=Cq xs (.int (cnt p f i)) (by exact fO hl (by decide))
 have h1:0<(f:Int):=by exact gS.mpr (a6 hf)
 have h2:(f:Int)<1606938044258990275541962092341162602522202993782792835301376:=by exact oD av (by decide)
 rw[Jl (by exact a6 hf),<- R9 (by exact a6 hf)]
 simp_arith[Cy,eG,h1,h2]
theorem WI:AR (tv (.cmp .gt (.nm 3) (.cI 1))) (exs Cy) FU [some (aA p f),some (.int f),some (.lst []),some (.int p)]=.bb [some (aA p f),some (.int f),some (.lst (((dh h).map (cnt p f)).map iN)),some (.int (1:Nat))]:=by
 obtain⟨aQ,e,rfl⟩:=Fb (c:=tv (.cmp .gt (.nm 3) (.cI 1))) (b:=exs Cy) (fun i δ=>δ=[some (aA p f),some (.int f),some (.lst (((dh i).map (cnt p f)).map iN)),some (.int (cnt p f i))]) h FU 0 (δ:=[some (aA p f),some (.int f),some (.lst []),some (.int p)]) (by rw[Hm];rfl) (by
   rintro i δ _ hi rfl
   have:=H.more i (by omega)
   have h1:(1:Int)<(cnt p f i:Int):=by exact gS.mpr this
   refine⟨?_,_,WH hf av H hh _ (by simp;omega) i,by rw[IH]⟩
   simp_arith[h1]) (by
   rintro δ rfl
   rw[aa5,H.one]
   rfl) (by unfold FU;exact fO hh (by decide))
 rw[e,aa5,H.one]
theorem El:B7.den [aA p f]=.ok (AA (fo p f h)):=by
 have hl:=WI hf av H hh
 have eG:=Cq (((dh h).map (cnt p f)).map iN) (.int (1:Nat)) (by simp;exact fO hh (by decide))
 have e:=IH p f h
 rw[H.one]at e
 refine gO ?_
 unfold AA fo
 rw[e]
 unfold aA at hl ⊢
 have h1:((1:Nat):Int)=1:=rfl
 rw[h1]at eG hl ⊢
 simp_arith[Hh,hl,eG]
end
theorem N6(f:Nat):B7.den [aA 0 f]=.ok (AA []):=by
 refine gO ?_
 unfold aA AA
 have h1:((0:Nat):Int)=0:=rfl
 have hl:AR (tv (.cmp .gt (.nm 3) (.cI 1))) (exs Cy) FU [some (.tup [.int 0,.int f]),some (.int f),some (.lst []),some (.int 0)]=.bb [some (.tup [.int 0,.int f]),some (.int f),some (.lst []),some (.int 0)]:=by
  unfold FU
  exact Cf rfl
 rw[h1]
 simp_arith[Hh,hl]
theorem CD(p f h:Nat):(fo p f h).length=h+1:=by unfold fo;simp
theorem II{p f h i:Nat}(hi:i<=h):(fo p f h)[i]'(by rw[CD];exact kn hi)=cnt p f i:=by unfold fo;simp
section
variable{p f h:Nat}(hf:2<=f)(av:f<=8)(H:Hs p f h)(hh:h<=8){l j:Nat}(hl:l<=h)(hj:j<cnt p f l)
include hl hj
theorem KG:Be.den [AA (fo p f h),Al l j]=.ok (.bl true):=by
 have h1:=Bz (l:Int) 0 (((fo p f h).length:Int)-1)
 rw[CD,decide_eq_true (by omega)]at h1
 have h2:=Bz (j:Int) 0 ((cnt p f l:Int)-1)
 rw[decide_eq_true (by omega)]at h2
 have h3:=Nn (xs:=fo p f h) (i:=l) (by rw[CD];exact kn hl)
 rw[II hl]at h3
 have h4:(h:Int)+1-1=h:=by omega
 refine gO ?_
 unfold AA Al
 have h5:=CD p f h
 simp_arith[Bk,h1,h2,h3,h5,aF,aa5,Nat.reduceAdd,adt]
end
theorem OU{n:Nat}(h:exs b (Pu.AL n ds)=.bb δ):run n b ds=.ok .aJ:=by
 unfold run;rw[h]
theorem Sa(a b c d:Int):c2 .eq (.tup [.int a,.int b]) (.tup [.int c,.int d])=.ok (.bl (a==c&&(b==d&&true))):=rfl
theorem Uw(xs:List Nat)(k:Nat):(xs.map iN).all (D.aX k)=true:=by
 rw[cz]
 intro d hd
 obtain⟨n,_,rfl⟩:=a8.mp hd
 cases k<;>rfl
theorem BK(xs:List D)(h:xs.all (D.aX 7)=true):c2 .eq (.lst xs) (.lst [])=.ok (.bl xs.isEmpty):=by
 show(if(D.aX 8 (.lst xs)&&D.aX 8 (.lst [])) then _ else _)=_
 rw[show D.aX 8 (.lst xs)=true from h,show D.aX 8 (.lst [])=true from rfl]
 cases xs<;>rfl
section
variable{p f h:Nat}(hf:2<=f)(av:f<=8)(H:Hs p f h)(hh:h<=8)
include hf av H hh
section
variable{l j:Nat}(hl:l<=h)(hj:j<cnt p f l)
include hl hj
theorem N7:Fw.den [aA p f,Al l j]=.ok (.bl true):=by
 have h1:=El hf av H hh
 have h2:=KG hl hj
 refine gO ?_
 simp_arith[Gw,h1,h2]
theorem Dc:Ds.den [aA p f,Al l j]=.ok .aJ:=by
 have h1:=N7 hf av H hh hl hj
 refine(Ci rfl).trans (OU (δ:=[some (aA p f),some (Al l j)]) ?_)
 simp_arith[F6,h1]
end
theorem Sb(l j:Nat):∃o,Bc (.nm 3) (exs Gx) (Ay 0 (l:Int)) [some (aA p f),some (Al l j),some (.int 1),none,none]=.bb [some (aA p f),some (Al l j),some (.int ((f^l:Nat):Int)),o,none]:=by
 obtain⟨aQ,e,o,rfl⟩:=DO (tg:=.nm 3) (b:=exs Gx) (fun i δ=>∃o,δ=[some (aA p f),some (Al l j),some (.int ((f^i:Nat):Int)),o,none]) (ds:=Ay 0 (l:Int)) (δ:=[some (aA p f),some (Al l j),some (.int 1),none,none]) 0 ⟨none,rfl⟩ (by
  rintro i d δ hd ⟨o,rfl⟩
  refine⟨_,_,rfl,?_,some d,rfl⟩
  have h1:-(18446744073709551616)<(f:Int):=by exact gq _
  have h2:(f:Int)<18446744073709551616:=by exact oD av (by decide)
  rw[mO,aa5,kK]
  unfold aA
  simp_arith[Gx,h1,h2])
 rw[FI,vF,gR,aa5]at e
 exact⟨o,e⟩
theorem Jm{l j:Nat}(hl:l<=h)(hj:j<cnt p f l):BV.den [aA p f,Al l j]=.ok (Al (j*f^l) (min p (j*f^l+f^l))):=by
 have hc:=Dc hf av H hh hl hj
 obtain⟨o,e⟩:=Sb hf av H hh l j
 have hr:=FQ (a:=0) (b:=(l:Int)) (by exact by decide) (by exact by decide) (by exact gq _) (by exact q9L hl hh (by decide))
 have hw:=Y4 (f:=f) (l:=l) av (by exact q9J hl hh (by decide))
 have h1:-(18446744073709551616)<((f^l:Nat):Int):=by exact gq _
 have h2:((f^l:Nat):Int)<18446744073709551616:=by exact oD hw (by decide)
 refine gO ?_
 generalize f^l=w at *
 have h3:(((min p (j*w+w):Nat)):Int)=min ((j:Int)*w+w) p:=by rw[<- kK];omega
 unfold Al at e hc ⊢
 unfold aA at e hc ⊢
 rw[h3,kK]
 simp_arith[Nj,hc,hr,e,h1,h2]
theorem Jn:Nk.den [aA p f]=.ok (Al h 0):=by
 have h1:=El hf av H hh
 have h2:=BK ((fo p f h).map iN) (Uw _ _)
 have h3:((fo p f h).map iN).isEmpty=false:=by
  rw[List.isEmpty_eq_false_iff_exists_mem]
  refine⟨iN (cnt p f 0),a8.mpr ⟨cnt p f 0,?_,rfl⟩⟩
  exact a8.mpr ⟨0,by simp,rfl⟩
 rw[h3]at h2
 have h5:=CD p f h
 refine gO ?_
 unfold AA at h1
 unfold Al
 have h6:(((h+1:Nat):Int)-1)=h:=by omega
 simp_arith[Qi,h1,h2,h5,h6,aF]
theorem KH:DN.den [aA p f,Al h 0]=.ok .aJ:=by
 have hc:=Dc hf av H hh (l:=h) (j:=0) (bx _) (by rw[H.one];decide)
 have ht:=Jn hf av H hh
 have h1:(((h:Int)==(h:Int))&&(((0:Int)==(0:Int))&&true))=true:=by simp
 refine gO ?_
 unfold Al at hc ht ⊢
 rw[show((0:Nat):Int)=0 from rfl]at *
 simp_arith[Hi,hc,ht,Sa,h1]
theorem Ql{l j:Nat}(hl:l<h)(hj:j<cnt p f l):DN.den [aA p f,Al l j]=.ok (Al (l+1) (j/f)):=by
 have hc:=Dc hf av H hh (l:=l) (j:=j) (by exact a6 hl) hj
 have ht:=Jn hf av H hh
 have h1:(((l:Int)==(h:Int))&&((j:Int)==(0:Int)))=false:=by
  have:((l:Int)==(h:Int))=false:=by simp;omega
  rw[this];rfl
 have h2:0<(f:Int):=by exact gS.mpr (a6 hf)
 have h3:(f:Int)<1606938044258990275541962092341162602522202993782792835301376:=by exact oD av (by decide)
 refine gO ?_
 unfold Al aA at *
 rw[vC,Int.natCast_add]
 rw[show((0:Nat):Int)=0 from rfl]at ht
 simp_arith[Hi,hc,ht,Sa,h1,h2,h3,Int.natCast_one]
end
theorem Ux(a b c d:Int):BY.den [.tup [.int a,.int b],.int c,.int d]=.ok (.bl (decide (c<=a/\b<=d))):=by
 refine gO ?_
 by_cases h1:c<=a<;>by_cases h2:b<=d<;>simp_arith[Fh,h1,h2,and_self,and_true,and_false]
theorem WJ(a b k:Nat):D.flat 9 k (Al a b)=true:=rfl
abbrev Ad(q:Nat×Nat):D:=Al q.1 q.2
abbrev No(p f h e n a:Nat):List D:=(c6 p f h e n a).map Ad
section
variable{p f h:Nat}(hf:2<=f)(av:f<=8)(H:Hs p f h)(hh:h<=8)
include hf av H hh
section
variable{a e:Nat}(cH:a<e)(e_:e<=p)
include cH e_
theorem J2(l:Nat):a/f^l<cnt p f l:=by
 rw[AO (by exact a6 hf)]
 have:=vt a (f^l)
 omega
theorem Y6(l:Nat)(hl:l<h):DN.den [aA p f,Al l (a/f^l)]=.ok (Al (l+1) (a/f^(l+1))):=by
 have:=Ql hf av H hh hl (J2 hf av H hh cH e_ l)
 rw[zO,<- mO]at this
 exact this
theorem Sd(l:Nat)(hl:l<=h)(h0:a%f^l=0\/True):∃b c:Nat,BV.den [aA p f,Al l (a/f^l)]=.ok (Al b c)/\BY.den [Al b c,.int a,.int e]=.ok (.bl (mX p f a e l)):=by
 refine⟨_,_,Jm hf av H hh hl (J2 hf av H hh cH e_ l),?_⟩
 unfold Al
 rw[Ux]
 congr 2
 have hw:0<f^l:=i_ (by exact a6 hf)
 have hm:=acl a (f^l)
 rw[mM]at hm
 rw[rA,decide_eq_true_eq,IG]
 generalize f^l=w at *
 generalize a/w=q at *
 generalize a%w=r at *
 generalize q*w=x at *
 constructor
 ·rintro⟨h1,h2⟩
  have:r=0:=by omega
  omega
 rintro⟨h1,h2⟩
 omega
abbrev mZ(p f h a l:Nat):D:=if l=h then .aJ else Al (l+1) (a/f^(l+1))
theorem U7(l:Nat)(hl:l<=h):DN.den [aA p f,Al l (a/f^l)]=.ok (mZ p f h a l):=by
 unfold mZ
 by_cases e':l=h
 ·rw[if_pos e']
  have h0:a/f^l=0:=by
   have:=J2 hf av H hh cH e_ l
   rw[e',H.one,<- e']at this
   exact Nat.lt_one_iff.mp this
  rw[h0,e']
  exact KH hf av H hh
 rw[if_neg e']
 exact Y6 hf av H hh cH e_ l (by exact rg hl e')
theorem OV(l:Nat)(hl:l<=h):tv (.bo true (.cons (.bA true (.nm 4)) (.cons (.call BY (.cons (.aK BV (.cons (.nm 0) (.cons (.nm 4) .nil))) (.cons (.nm 1) (.cons (.nm 2) .nil)))) .nil))) [some (aA p f),some (.int a),some (.int e),some (Al l (a/f^l)),some (mZ p f h a l)]=.ok (decide (l<h)&&mX p f a e (l+1)):=by
 unfold mZ
 by_cases e':l=h
 ·have h1:decide (l<h)=false:=by simp;exact i9 e'.symm
  rw[if_pos e',h1]
  simp_arith[]
 have h1:decide (l<h)=true:=by simp;exact rg hl e'
 rw[if_neg e',h1]
 obtain⟨b,c,h2,h3⟩:=Sd hf av H hh cH e_ (l+1) (by exact rg hl e') (.inr trivial)
 have h4:=WJ b c BV.dep
 simp_arith[show(Al (l+1) (a/f^(l+1)))=.tup [.int ((l+1:Nat):Int),.int ((a/f^(l+1):Nat):Int)] from rfl]
 rw[show D.tup [.int ((l+1:Nat):Int),.int ((a/f^(l+1):Nat):Int)]=(Al (l+1) (a/f^(l+1))) from rfl,h2]
 simp_arith[h4,h3]
theorem WK(l:Nat)(hl:l<h):exs BI [some (aA p f),some (.int a),some (.int e),some (Al l (a/f^l)),some (mZ p f h a l)]=.bb [some (aA p f),some (.int a),some (.int e),some (Al (l+1) (a/f^(l+1))),some (mZ p f h a (l+1))]:=by
 have h1:mZ p f h a l=Al (l+1) (a/f^(l+1)):=by unfold mZ;rw[if_neg (by exact g_ hl)]
 have h2:=U7 hf av H hh cH e_ (l+1) (by exact hl)
 rw[h1]
 simp_arith[BI,h2]
theorem Y7:Fo.den [aA p f,.int a,.int e]=.ok (Al (cW p f h e a) (a/f^cW p f h e a)):=by
 have hm:cW p f h e a<=h:=Mi _ _
 obtain⟨aQ,e',rfl⟩:=Fb (c:=tv (.bo true (.cons (.bA true (.nm 4)) (.cons (.call BY (.cons (.aK BV (.cons (.nm 0) (.cons (.nm 4) .nil))) (.cons (.nm 1) (.cons (.nm 2) .nil)))) .nil)))) (b:=exs BI) (fun l δ=>δ=[some (aA p f),some (.int a),some (.int e),some (Al l (a/f^l)),some (mZ p f h a l)]) (cW p f h e a) FU 0 (δ:=[some (aA p f),some (.int a),some (.int e),some (Al 0 (a/f^0)),some (mZ p f h a 0)]) rfl (by
   rintro l δ _ hl rfl
   refine⟨?_,_,WK hf av H hh cH e_ l (by omega),rfl⟩
   rw[OV hf av H hh cH e_ l (by omega),decide_eq_true (by omega),aa4]
   congr 1
   exact Uv (by exact a6 hf) (Qk (Y5 cH) h) (show l+1<=cW p f h e a by omega)) (by
   rintro δ rfl
   rw[aa5,OV hf av H hh cH e_ _ hm]
   by_cases h1:cW p f h e a<h
   ·rw[U6 (b:=mX p f a e) h (cW p f h e a+1) (vx _) h1,ab7]
   rw[decide_eq_false h1,aa0]) (by unfold FU;exact q9K hm hh (by decide))
 rw[aa5]at e'
 have h1:=U7 hf av H hh cH e_ 0 (by exact cK _)
 rw[tU,Nat.div_one]at h1 e'
 refine gO ?_
 unfold Al at h1 e' ⊢
 rw[show((0:Nat):Int)=0 from rfl]at h1 e'
 simp_arith[DD,h1,e']
theorem WL:BV.den [aA p f,Al (cW p f h e a) (a/f^cW p f h e a)]=.ok (Al a (mY p f h e a)):=by
 have h1:=Jm hf av H hh (show cW p f h e a<=h from Mi (mX p f a e) h) (J2 hf av H hh cH e_ (cW p f h e a))
 rw[show a/f^cW p f h e a*f^cW p f h e a=a by
  have:=acl a (f^cW p f h e a)
  rw[(J1 cH).1,mM]at this
  exact this]at h1
 exact h1
theorem WM(b:Nat)(xs:List D)(hx:xs.length<=1000)(o:Option D):exs D5 [some (aA p f),some (.int b),some (.int e),some (.lst xs),some (.int a),o]=.bb [some (aA p f),some (.int b),some (.int e),some (.lst (xs++[Al (cW p f h e a) (a/f^cW p f h e a)])),some (.int (mY p f h e a)),some (Al (cW p f h e a) (a/f^cW p f h e a))]:=by
 have h1:=Y7 hf av H hh cH e_
 have h2:=WL hf av H hh cH e_
 generalize Al (cW p f h e a) (a/f^cW p f h e a)=nd at *
 have h3:=Cq xs nd (by exact fO hx (by decide))
 unfold Al at h2
 simp_arith[D5,h1,h2,h3]
end
theorem OW{e:Nat}(e_:e<=p)(b:Nat):∀(n m a:Nat)(xs:List D)(o:Option D),e-a<=n->n<m->a<=e->xs.length+n<=1000->∃o',AR (tv (.cmp .lt (.nm 4) (.nm 2))) (exs D5) m [some (aA p f),some (.int b),some (.int e),some (.lst xs),some (.int a),o]=.bb [some (aA p f),some (.int b),some (.int e),some (.lst (xs++No p f h e n a)),some (.int e),o']
 |n,m+1,a,xs,o,h1,h2,h3,h4=>by
  by_cases cH:a<e
  ·obtain⟨n,rfl⟩:∃k,n=k+1:=⟨n-1,by omega⟩
   have c1:(a:Int)<e:=by exact gS.mpr cH
   have hn:=R8 (p:=p) (f:=f) (h:=h) (by exact a6 hf) cH e_
   have rY:=(J1 (p:=p) (f:=f) (h:=h) cH).2
   rw[FJ (by simp_arith[c1]) (WM hf av H hh cH e_ b xs (by exact aS (ng ..) h4) o)]
   obtain⟨o',e'⟩:=OW e_ b n m (mY p f h e a) (xs++[Al (cW p f h e a) (a/f^cW p f h e a)]) (some (Al (cW p f h e a) (a/f^cW p f h e a))) (by omega) (by exact m_ h2) rY (by simp;omega)
   refine⟨o',?_⟩
   rw[e',jz]
   unfold No
   rw[c6,if_pos cH]
   rfl
  have ha:a=e:=by exact rm h3 (iZ.mp cH)
  subst ha
  have c1:¬(a:Int)<a:=by exact Int.lt_irrefl _
  refine⟨o,?_⟩
  rw[Cf (by simp_arith[c1])]
  unfold No
  cases n with
  |zero=>simp[c6]
  |succ n=>rw[c6,if_neg cH];simp
theorem Lx{a e:Nat}(cH:a<=e)(e_:e<=p)(hp:p<=200):EC.den [aA p f,.int a,.int e]=.ok (.lst (No p f h e 200 a)):=by
 obtain⟨o,e'⟩:=OW hf av H hh e_ a 200 FU a [] none (by omega) (by unfold FU;exact ql ..) cH (by simp)
 have c1:¬(a:Int)<0:=by exact sW
 have c2:¬(p:Int)<e:=by exact sX e_
 have c3:¬(e:Int)<a:=by exact sX cH
 rw[aaX]at e'
 refine gO ?_
 unfold aA at e' ⊢
 simp_arith[IC,c1,c2,c3,e']
end
theorem KI(xs:List D)(d:D):bz (xs++[d]) (-1)=.ok d:=by
 unfold bz dE
 rw[if_neg (by decide),if_pos (by rw[eP,nU];omega),eP,nU]
 show(match (xs++[d])[((-1:Int)+((xs.length+1:Nat):Int)).toNat]? with|some d=>Res.ok d|none=>Res.bad)=_
 rw[show((-1:Int)+((xs.length+1:Nat):Int)).toNat=xs.length by omega,kH (bx _),vz]
 rfl
section
variable{p f h:Nat}(hf:2<=f)(av:f<=8)(H:Hs p f h)(hh:h<=8)
include hf av H hh
abbrev cL(p f i:Nat):D:=.lst (((dh i).map (cnt p f)).map iN++[.int (cnt p f i)])
theorem WN(i:Nat)(hi:i<=8):exs A7 [some (.int p),some (.int f),some (cL p f i)]=.bb [some (.int p),some (.int f),some (cL p f (i+1))]:=by
 have h0:=KI (((dh i).map (cnt p f)).map iN) (.int (cnt p f i))
 have eG:=Cq (((dh i).map (cnt p f)).map iN++[.int (cnt p f i)]) (.int (cnt p f (i+1))) (by simp;exact fO (zQ hi _) (by decide))
 have h1:0<(f:Int):=by exact gS.mpr (a6 hf)
 have h2:(f:Int)<1606938044258990275541962092341162602522202993782792835301376:=by exact oD av (by decide)
 have e1:cL p f (i+1)=.lst ((((dh i).map (cnt p f)).map iN++[.int (cnt p f i)])++[.int (cnt p f (i+1))]):=by
  unfold cL;rw[IH]
 rw[e1]
 rw[Jl (by omega),<- R9 (by omega)]at eG ⊢
 unfold cL
 generalize ((dh i).map (cnt p f)).map iN=xs at *
 simp_arith[A7,h0,h1,h2,eG]
theorem WO:AR (tv (.cmp .gt (.cC (.nm 2) (.neg (.cI 1))) (.cI 1))) (exs A7) FU [some (.int p),some (.int f),some (cL p f 0)]=.bb [some (.int p),some (.int f),some (cL p f h)]:=by
 have cd:∀i,tv (.cmp .gt (.cC (.nm 2) (.neg (.cI 1))) (.cI 1)) [some (.int p),some (.int f),some (cL p f i)]=.ok (decide (1<(cnt p f i:Int))):=fun i=>by
  have h0:=KI (((dh i).map (cnt p f)).map iN) (.int (cnt p f i))
  unfold cL
  simp_arith[h0]
 obtain⟨aQ,e,rfl⟩:=Fb (c:=tv (.cmp .gt (.cC (.nm 2) (.neg (.cI 1))) (.cI 1))) (b:=exs A7) (fun i δ=>δ=[some (.int p),some (.int f),some (cL p f i)]) h FU 0 (δ:=[some (.int p),some (.int f),some (cL p f 0)]) rfl (by
   rintro i δ _ hi rfl
   have:=H.more i (by omega)
   refine⟨?_,_,WN hf av H hh i (by omega),rfl⟩
   rw[cd,decide_eq_true (by exact gS.mpr this)]) (by
   rintro δ rfl
   rw[aa5,cd,H.one]
   rfl) (by unfold FU;exact fO hh (by decide))
 rw[e,aa5]
theorem Qm(hp:1<=p):BQ.den [.int p,.int f]=.ok (AA (fo p f h)):=by
 have hl:=WO hf av H hh
 have e:AA (fo p f h)=cL p f h:=by unfold AA fo cL;rw[IH]
 have c1:((p:Int)==0)=false:=by simp;exact rn hp
 have e0:cL p f 0=.lst [.int p]:=by unfold cL;rw[Hm];rfl
 rw[e0]at hl
 rw[e]
 refine gO ?_
 simp_arith[Ce,c1,hl]
end
theorem N8(f:Nat):BQ.den [.int 0,.int f]=.ok (AA []):=by
 refine gO ?_
 unfold AA
 simp_arith[Ce]
theorem Qn(p f l j:Nat)(av:f<=8):∃o,Bc (.nm 5) (exs BJ) (Ay 0 (l:Int)) [some (.int p),some (.int f),some (.int l),some (.int j),some (.int 1),none]=.bb [some (.int p),some (.int f),some (.int l),some (.int j),some (.int ((f^l:Nat):Int)),o]:=by
 obtain⟨aQ,e,o,rfl⟩:=DO (tg:=.nm 5) (b:=exs BJ) (fun i δ=>∃o,δ=[some (.int p),some (.int f),some (.int l),some (.int j),some (.int ((f^i:Nat):Int)),o]) (ds:=Ay 0 (l:Int)) (δ:=[some (.int p),some (.int f),some (.int l),some (.int j),some (.int 1),none]) 0 ⟨none,rfl⟩ (by
  rintro i d δ hd ⟨o,rfl⟩
  refine⟨_,_,rfl,?_,some d,rfl⟩
  have h1:-(18446744073709551616)<(f:Int):=by exact gq _
  have h2:(f:Int)<18446744073709551616:=by exact oD av (by decide)
  rw[mO,aa5,kK]
  simp_arith[BJ,h1,h2])
 rw[FI,vF,gR,aa5]at e
 exact⟨o,e⟩
theorem Se(p f l j:Nat)(av:f<=8)(hl:l<=8):DF.den [.int p,.int f,.int l,.int j]=.ok (Al (j*f^l) (min p (j*f^l+f^l))):=by
 obtain⟨o,e⟩:=Qn p f l j av
 have hr:=FQ (a:=0) (b:=(l:Int)) (by exact by decide) (by exact by decide) (by exact gq _) (by exact pY hl (by decide))
 have hw:=Y4 (f:=f) (l:=l) av (by exact aS hl (by decide))
 have h1:-(18446744073709551616)<((f^l:Nat):Int):=by exact gq _
 have h2:((f^l:Nat):Int)<18446744073709551616:=by exact oD hw (by decide)
 refine gO ?_
 generalize f^l=w at *
 have h3:(((min p (j*w+w):Nat)):Int)=min (p:Int) ((j:Int)*w+w):=by rw[<- kK];omega
 unfold Al
 rw[h3,kK]
 simp_arith[Ee,hr,e,h1,h2]
mutual
theorem Jo:∀{n:Nat}{d:D},D.aX n d=true->D.eqv d d=true
 |_,.aJ,_=>rfl
 |_,.bl b,_=>beq_self_eq_true b
 |_,.int i,_=>beq_self_eq_true i
 |_,.str x,_=>beq_self_eq_true x
 |n+1,.tup ds,h=>by exact fb (n:=n) h
 |n+1,.lst ds,h=>by exact fb (n:=n) h
 |0,.tup ds,h=>by cases h
 |0,.lst ds,h=>by cases h
 |_,.cq _,h=>by rw[Bs]at h;cases h
 |_,.eS _ _,h=>by rw[Bt]at h;cases h
 |_,.eU _ _,h=>by rw[Bu]at h;cases h
theorem fb:∀{n:Nat}{ds:List D},ds.all (D.aX n)=true->D.hV ds ds=true
 |_,[],_=>rfl
 |n,d::ds,h=>by
  rw[eR,bg]at h
  exact Bool.and_eq_true_iff.mpr ⟨Jo h.1,fb h.2⟩
end
theorem J3(d:D)(h:D.aX 8 d=true):c2 .eq d d=.ok (.bl true):=by
 show(if _ then _ else _)=_
 rw[h,Jo h];rfl
theorem Hn(d:D)(h:D.aX 8 d=true):c2 .ne d d=.ok (.bl false):=by
 show(if _ then _ else _)=_
 rw[h,Jo h];rfl
theorem Ly(qs:List (Nat×Nat))(k:Nat):(qs.map Ad).all (D.aX (k+1))=true:=by
 rw[cz]
 intro d hd
 obtain⟨n,_,rfl⟩:=a8.mp hd
 cases k<;>rfl
theorem IJ(i j:Nat)(a b:D)(δ:Fr):CI (.tp [i,j]) (.tup [a,b]) δ=some ((δ.set i (some a)).set j (some b)):=rfl
theorem Y8(ds es:List D)(h:ds.length+es.length<=16777216):jZ .extend [.lst es] ds=some (ds++es):=by
 show(if _ then _ else _)=_
 exact if_pos h
theorem Abn{xs:List Int}(h:xs.length=3):∃a b c,xs=[a,b,c]:=by
 match xs,h with
 |[a,b,c],_=>exact⟨a,b,c,rfl⟩
section
variable(a b c d e f g h:D)
theorem Jp:bz [a,b,c] 0=.ok a:=rfl
theorem Jq:bz [a,b,c] 1=.ok b:=rfl
theorem Np:bz [a,b,c] 2=.ok c:=rfl
end
structure Sp(p f h:Nat):Prop where
 hf:2<=f
 av:f<=8
 hp:p<=200
 hh:h<=8
 hs:p=0\/Hs p f h
theorem Aax{p f:Nat}(hp:p<=200)(hf:2<=f)(av:f<=8):∃h,Sp p f h:=by
 by_cases h:p=0
 ·exact⟨0,hf,av,hp,by decide,.inl h⟩
 obtain⟨k,h1,h2⟩:=hs8 hf (by exact zU h) hp
 exact⟨k,hf,av,hp,h1,.inr h2⟩
theorem pw6:b2 .pow (.int 10) (.int 6)=.ok (.int 1000000):=by
 rw[Gf _ _ (by decide) (by decide) (by decide)];rfl
theorem Nq(d:D):∀n,(aaq n [d]).flatten=aaq n d
 |0=>rfl
 |n+1=>by rw[qj,q_,Nq d n];rfl
theorem Y9(d:D)(n:Nat)(h:n<=1000):b2 .mul (.lst [d]) (.int n)=.ok (.lst (aaq n d)):=by
 rw[b2,MK,if_pos]
 ·rw[gR,Nq]
 rw[gR,nU]
 unfold dn
 omega
theorem m4c(x:Int):x%4=0\/x%4=1\/x%4=2\/x%4=3:=by omega
section
variable{xs rs:List Int}{k:Nat}{s p m:D}{sc x c e:Int}{o7:Option D}(h0:0<=sc)(h1:sc<=100000000000000000)(x0:0<=x)(x1:x<13)(e0:0<=e)(e1:e<13)(a2:bz (xs.map D.int) 2=.ok (.int c))(a3:bz (xs.map D.int) 3=.ok (.int e))(ak:bz (xs.map D.int) (4+(k:Int))=.ok (.int x))(hr:rs.length<=1000)
include h0 h1 x0 x1 e0 e1 a2 a3 ak hr
theorem WP:∃(r:Int)(pZ:Option D),0<=r/\r<=1000000000000000000/\exs AC [some s,some p,some m,some (.lst (xs.map .int)),some (.int sc),some (.lst (rs.map .int)),some (.int k),o7]=.bb [some s,some p,some m,some (.lst (xs.map .int)),some (.int sc),some (.lst ((rs++[r]).map .int)),some (.int k),pZ]:=by
 have eG:=fun r=>Cq (rs.map D.int) (.int r) (by rw[aF];exact fO hr (by decide))
 have fin:∀w:Int,0<=w->0<=min 1000000000000000000 (w*sc+(if(w==12)=true then 1 else 0)*4):=fun w hw=>Int.le_min.mpr ⟨by decide,rC (Int.mul_nonneg hw h0) (by split<;>decide)⟩
 have big:∀w:Int,min 1000000000000000000 (w*sc+(if(w==12)=true then 1 else 0)*4)<=1000000000000000000:=fun w=>Int.min_le_left ..
 have l3:(0:Int)<3:=by decide
 have l4:(0:Int)<4:=by decide
 have l5:(0:Int)<13:=by decide
 have l6:(4:Int)<1606938044258990275541962092341162602522202993782792835301376:=by decide
 have s1:-18446744073709551616<sc:=by exact rD (by decide) h0
 have s2:sc<18446744073709551616:=by exact nY h1 (by decide)
 have m3:=ni x (show(3:Int)≠0 by decide)
 have m4:=ni x (show(4:Int)≠0 by decide)
 have m4':=rB x l4
 have m13:=ni (e+(k:Int)) (show(13:Int)≠0 by decide)
 by_cases c1:c=1
 ·subst c1
  refine⟨_,some (.int (x%3)),fin (x%3) m3,big _,?_⟩
  simp_arith[AC,a2,ak,l3,eG,s1,s2]
 by_cases c2:c=2
 ·subst c2
  obtain⟨v,hv,v0,v1⟩:∃v:Int,bz [.int 0,.int 0,.int 0,.int 1] (x%4)=.ok (.int v)/\0<=v/\v<=1:=by
   rcases m4c x with h|h|h|h<;>rw[h]<;>refine⟨_,rfl,?_,?_⟩<;>decide
  have v2:-18446744073709551616<v:=by exact rD (by decide) v0
  have v3:v<18446744073709551616:=by exact nY v1 (by decide)
  refine⟨_,some (.int (v*(1+x/4))),fin (v*(1+x/4)) (Int.mul_nonneg v0 (rC (by decide) (vE x0 (by decide)))),big _,?_⟩
  simp_arith[AC,a2,ak,l4,l6,hv,v2,v3,eG,s1,s2]
 by_cases c3:c=3
 ·subst c3
  refine⟨_,some (.int ((e+(k:Int))%13)),fin ((e+(k:Int))%13) m13,big _,?_⟩
  simp_arith[AC,a2,a3,ak,l5,eG,s1,s2]
 by_cases c4:c=4
 ·subst c4
  refine⟨_,some (.int e),fin e e0,big _,?_⟩
  simp_arith[AC,a2,a3,ak,eG,s1,s2]
 have d1:(c==1)=false:=beq_eq_false_iff_ne.mpr c1
 have d2:(c==2)=false:=beq_eq_false_iff_ne.mpr c2
 have d3:(c==3)=false:=beq_eq_false_iff_ne.mpr c3
 have d4:(c==4)=false:=beq_eq_false_iff_ne.mpr c4
 refine⟨_,some (.int x),fin x x0,big _,?_⟩
 simp_arith[AC,a2,ak,d1,d2,d3,d4,eG,s1,s2]
end
theorem Sg(ns:List Int)(p:Int)(hp:0<=p)(m:Nat)(hm:m<=200):∃rs:List Int,rs.length<=m/\(∀r∈rs,0<=r/\r<=1000000000000000000)/\DE.den [.lst (ns.map .int),.int p,.int m]=.ok (.lst (rs.map .int)):=by
 obtain⟨xs,bR,hl,hb⟩:=IF ns p hp ([(m:Int)+1,5,6,13]++aaq m 13) (by simp;exact aS hm (by decide)) (by
  intro s hs
  rcases bw.mp hs with h|h
  ·simp only[bB,oJ,or_false]at h
   rcases h with rfl|rfl|rfl|rfl<;>omega
  rw[(tM.mp h).2];decide)
 have hl:xs.length=m+4:=by rw[hl,eP,qW];simp;exact tR ..
 have g:∀i,i<m+4->∃x,xs[i]?=some x:=fun i hi=>⟨_,d_ (by exact hl▸hi)⟩
 obtain⟨c0,g0⟩:=g 0 (by exact qo _)
 obtain⟨c1,g1⟩:=g 1 (by exact ql ..)
 obtain⟨c2,g2⟩:=g 2 (by exact ql ..)
 obtain⟨c3,g3⟩:=g 3 (by exact ql ..)
 have b0:=hb 0 c0 ((m:Int)+1) g0 (by simp)
 have b1:=hb 1 c1 5 g1 (by simp)
 have b3:=hb 3 c3 13 g3 (by simp)
 have bk:∀i:Nat,i<m->∃x,xs[4+i]?=some x/\0<=x/\x<13:=fun i hi=>by
  obtain⟨x,gx⟩:=g (4+i) (by omega)
  refine⟨x,gx,hb (4+i) x 13 gx ?_⟩
  rw[kH (by simp)]
  simp[hi]
 have a0:=DP g0
 have a1:=DP g1
 have a2:=DP g2
 have a3:=DP g3
 obtain⟨sc,lD,s0,s1⟩:∃v:Int,bz [.int 1,.int 1,.int 7,.int 1000000,.int 83333333333333333] c1=.ok (.int v)/\0<=v/\v<=100000000000000000:=by
  have:c1=0\/c1=1\/c1=2\/c1=3\/c1=4:=by omega
  rcases this with rfl|rfl|rfl|rfl|rfl<;>refine⟨_,rfl,?_,?_⟩<;>decide
 obtain⟨n,rfl⟩:∃n:Nat,c0=n:=⟨c0.toNat,by omega⟩
 obtain⟨aQ,e,rs,o6,o7,rfl,hrl,pR⟩:=DO (tg:=.nm 6) (b:=exs AC) (fun i δ=>∃(rs:List Int)(o6 o7:Option D),δ=[some (.lst (ns.map .int)),some (.int p),some (.int m),some (.lst (xs.map .int)),some (.int sc),some (.lst (rs.map .int)),o6,o7]/\rs.length=i/\∀r∈rs,0<=r/\r<=1000000000000000000) (ds:=Ay 0 (n:Int)) (δ:=[some (.lst (ns.map .int)),some (.int p),some (.int m),some (.lst (xs.map .int)),some (.int sc),some (.lst []),none,none]) 0 ⟨[],none,none,rfl,rfl,fun _ h=>nomatch h⟩ (by
  rintro i d δ hd ⟨rs,o6,o7,rfl,hrl,pR⟩
  obtain⟨rfl,hi⟩:=J0 hd
  rw[vG]
  obtain⟨x,gx,x0,x1⟩:=bk i (by omega)
  have ak:=DP gx
  rw[show((4+i:Nat):Int)=4+(i:Int) by exact rfl]at ak
  obtain⟨r,pZ,r0,r1,e⟩:=WP (s:=.lst (ns.map .int)) (p:=.int p) (m:=.int m) (o7:=o7) s0 s1 x0 x1 b3.1 b3.2 a2 a3 ak (rs:=rs) (by omega)
  refine⟨_,_,rfl,e,rs++[r],some (.int i),pZ,rfl,by simp;omega,fun y hy=>?_⟩
  rcases bw.mp hy with h|h
  ·exact pR y h
  rw[gp.mp h];exact⟨r0,r1⟩)
 rw[FI]at hrl
 refine⟨rs,by omega,pR,?_⟩
 have hr:=FQ (a:=0) (b:=(n:Int)) (by exact by decide) (by exact by decide) (by exact gq _) (by omega)
 have xx:=Y9 (.int 13) m (by exact aS hm (by decide))
 have me:=OS [.int ((m:Int)+1),.int 5,.int 6,.int 13] (aaq m (.int 13)) (by simp;exact aS (Nat.add_le_add_left hm _) (by decide))
 rw[aax,oH]at bR
 refine gO ?_
 have a0':bz (xs.map D.int) 0=.ok (.int n):=a0
 have a1':bz (xs.map D.int) 1=.ok (.int c1):=a1
 generalize aaq m (D.int 13)=zs at *
 simp only[acb,aaY,aaX]at bR me
 simp_arith[Ec,xx,me,bR,pw6,lD,a0',a1',hr,e]
theorem WQ(ns:List Int)(p:Int)(hp:0<=p):∃f:Nat,2<=f/\f<=8/\GW.den [.lst (ns.map .int),.int p]=.ok (.int f):=by
 obtain⟨xs,bR,hl,hb⟩:=IF ns p hp [7] (by decide) (by decide)
 obtain⟨a,rfl⟩:=Abl hl
 have ha:=hb 0 a 7 rfl rfl
 simp only[acb]at bR
 refine⟨(2+a).toNat,by omega,by omega,?_⟩
 rw[mP (by omega)]
 refine gO ?_
 simp_arith[Fk,bR,Abm]
theorem Em:∀ys:List Int,AJ (ys.map .int)=some ys
 |[]=>rfl
 |y::r=>by rw[cT,AJ,Em r];rfl
abbrev gW(rs:List Int)(a b:Nat):Int:=((rs.drop a).take (b-a)).max?.getD 0
theorem Nr{ys:List Int}(h:ys≠[]):ys.max?=some (ys.max?.getD 0):=by
 cases q:ys.max? with
 |none=>exact absurd (List.max?_eq_none_iff.mp q) h
 |some m=>rfl
theorem Si{rs:List Int}{a b:Nat}(p7:a<b)(hb:b<=rs.length):((rs.drop a).take (b-a)).max?=some (gW rs a b):=by
 apply Nr
 intro h
 have:=congrArg aaI h
 rw[oI,nV]at this
 simp at this
 omega
abbrev AB(rs:List Int)(f l n:Nat):List Int:=(dh n).map fun j=>gW rs (j*f^l) (min rs.length (j*f^l+f^l))
abbrev Aa(rs:List Int)(f n:Nat):List (List Int):=(dh n).map fun l=>AB rs f l (cnt rs.length f l)
abbrev Ae(xs:List Int):D:=.lst (xs.map .int)
abbrev Ac(tr:List (List Int)):D:=.lst (tr.map Ae)
theorem Lz(rs:List Int)(f n:Nat):Aa rs f (n+1)=Aa rs f n++[AB rs f n (cnt rs.length f n)]:=by
 unfold Aa;rw[tO,aax];rfl
theorem LA(xs:List Int)(m k:Nat):D.flat (m+2) (k+1) (Ae xs)=true:=by
 unfold Ae
 show(xs.map D.int).all (D.flat (m+1) k)=true
 rw[cz]
 intro d hd
 obtain⟨x,rfl⟩:=Ek hd
 rfl
theorem Sj(tr:List (List Int)):D.flat 9 2 (Ac tr)=true:=by
 show(tr.map Ae).all (D.flat 8 1)=true
 rw[cz]
 intro d hd
 obtain⟨x,_,rfl⟩:=a8.mp hd
 exact LA x 6 0
theorem Uy(xs:List Int)(k:Nat):D.aX (k+1) (Ae xs)=true:=by
 show(xs.map D.int).all (D.aX k)=true
 rw[cz]
 intro d hd
 obtain⟨x,rfl⟩:=Ek hd
 cases k<;>rfl
theorem Jr(tr:List (List Int)):D.aX 8 (Ac tr)=true:=by
 show(tr.map Ae).all (D.aX 7)=true
 rw[cz]
 intro d hd
 obtain⟨x,_,rfl⟩:=a8.mp hd
 exact Uy x 6
theorem WR{rs:List Int}{i:Int}(h0:0<=i)(h1:i<rs.length):∃x,x∈rs/\bz (rs.map D.int) i=.ok (.int x):=by
 obtain⟨x,e1,e2⟩:=Jk h0 h1
 exact⟨x,cJ e1,e2⟩
theorem Uz(ns:List Int)(p:Int)(hp:0<=p)(rs:List Int)(hr:∀r∈rs,0<=r)(hl:rs.length<=200):∃q:Int,0<=q/\Ed.den [.lst (ns.map .int),.int p,Ae rs]=.ok (.int q):=by
 obtain⟨xs,bR,hl,hb⟩:=IF ns p hp [7,200,40] (by decide) (by decide)
 obtain⟨a,b,c,rfl⟩:=Abn hl
 have ha:=hb 0 a 7 rfl rfl
 have hb':=hb 1 b 200 rfl rfl
 have hc:=hb 2 c 40 rfl rfl
 clear hb hl
 simp only[acb]at bR
 have l4:(0:Int)<4:=by decide
 obtain⟨v,hv,sZ⟩:∃v:Int,bz [.int 0,.int 1,.int 2,.int 100000000000000000000000000000000000000000000000000000000000] (b%4)=.ok (.int v)/\0<=v:=by
  rcases m4c b with h|h|h|h<;>rw[h]<;>refine⟨_,rfl,?_⟩<;>decide
 by_cases a0:a=0
 ·subst a0
  refine⟨v,sZ,gO ?_⟩
  unfold Ae
  simp_arith[By,bR,Jp,Jq,Np,hv,l4]
 have d0:(a==0)=false:=beq_eq_false_iff_ne.mpr a0
 by_cases n0:rs.length=0
 ·have z:rs=[]:=uZ n0
  subst z
  refine⟨v,sZ,gO ?_⟩
  unfold Ae
  simp_arith[By,bR,Jp,Jq,Np,d0,hv,l4,vD]
 have n1:((rs.length:Int)==0)=false:=by rw[beq_eq_false_iff_ne];omega
 have n2:0<(rs.length:Int):=by omega
 obtain⟨x,hx,iO⟩:=WR (rs:=rs) (i:=b%(rs.length:Int)) (ni _ (by exact Int.ne_of_gt n2)) (rB _ n2)
 have hx0:=hr x hx
 by_cases a1:a=1
 ·subst a1
  have b8:rs≠[]:=fun z=>n0 (by rw[z];rfl)
  have hm:=Nr b8
  have hm0:0<=rs.max?.getD 0:=by
   have:=List.max?_mem (xs:=rs) hm
   exact hr _ this
  have hi:=Em rs
  have l2:(0:Int)<2:=by decide
  have m0:=ni c (show(2:Int)≠0 by decide)
  refine⟨rs.max?.getD 0+c%2,rC hm0 m0,gO ?_⟩
  generalize rs.max?.getD 0=M at *
  unfold Ae
  simp_arith[By,bR,Jp,Jq,Np,n1,n2,aF,iO,hi,AG,hm,l2]
 have d1:(a==1)=false:=beq_eq_false_iff_ne.mpr a1
 obtain⟨w,hw⟩:∃w:Int,bz [.int 0,.int 0,.int 1,.int (-1),.int c] (a-2)=.ok (.int w):=by
  have:a-2=0\/a-2=1\/a-2=2\/a-2=3\/a-2=4:=by omega
  rcases this with h|h|h|h|h<;>rw[h]<;>exact⟨_,rfl⟩
 refine⟨max 0 (x+w),Int.le_max_left ..,gO ?_⟩
 unfold Ae
 simp_arith[By,bR,Jp,Jq,Np,d0,d1,n1,n2,aF,iO,hw]
abbrev tl(tr:List (List Int))(l j:Nat):Int:=(tr.getD l []).getD j 0
abbrev s_(tr:List (List Int))(p f h:Nat):Prop:=tr.map aaI=fo p f h
theorem BG(rs:List Int)(f h:Nat):s_ (Aa rs f (h+1)) rs.length f h:=by
 unfold s_ Aa fo
 rw[bH]
 apply fN
 intro l _
 show(AB rs f l (cnt rs.length f l)).length=_
 unfold AB;simp
section
variable{tr:List (List Int)}{p f h:Nat}(hd:s_ tr p f h)
include hd
theorem KJ:tr.length=h+1:=by
 have:=congrArg aaI hd
 rwa [aF,CD]at this
theorem KM{l:Nat}(hl:l<=h):(tr.getD l []).length=cnt p f l/\tr[l]?=some (tr.getD l []):=by
 have h1:=KJ hd
 have h2:tr[l]?=some tr[l]:=d_ (by exact fO hl (i9 h1.symm))
 have h3:tr.getD l []=tr[l]:=by rw[iX,h2];rfl
 rw[h3]
 refine⟨?_,h2⟩
 have h4:(tr.map aaI)[l]?=some tr[l].length:=by rw[dg,h2];rfl
 rw[hd]at h4
 have h5:(fo p f h)[l]?=some (cnt p f l):=by rw[d_ (by rw[CD];exact kn hl),II hl]
 rw[h5]at h4
 exact(Option.some.inj h4).symm
theorem OX{l:Nat}(hl:l<=h):bz (tr.map Ae) (l:Int)=.ok (Ae (tr.getD l [])):=by
 have h1:=KJ hd
 unfold bz dE
 rw[aF,if_pos (by exact gq _),if_pos (by omega)]
 show(match (tr.map Ae)[(l:Int).toNat]? with|some d=>Res.ok d|none=>Res.bad)=_
 rw[gR,dg,(KM hd hl).2]
 rfl
theorem Za{l j:Nat}(hl:l<=h)(hj:j<cnt p f l):bz ((tr.getD l []).map D.int) (j:Int)=.ok (.int (tl tr l j)):=by
 apply DP
 unfold tl
 rw[iX (l:=tr.getD l []),d_ (by rw[(KM hd hl).1];exact hj)]
 rfl
theorem Hx:DY.den [Ac tr]=.ok (AA (fo p f h)):=by
 have h2:=Ax (nl:=1) (fr:=[]) (tg:=.nm 0) (it:=.seq (.nm 0)) (elt:=.bi .len (.cons (.nm 0) .nil)) (δ:=[some (Ac tr)]) (ds:=tr.map Ae) (g:=fun d=>match d with|.lst ds=>.int ds.length|d=>d) (by unfold Ac;simp_arith[]) (fun d hd=>by
  obtain⟨x,_,rfl⟩:=a8.mp hd
  refine⟨[some (Ae x)],rfl,?_⟩
  unfold Ae
  simp_arith[])
 have e:(tr.map Ae).map (fun d=>match d with|.lst ds=>D.int ds.length|d=>d)=(fo p f h).map iN:=by
  rw[<- hd,bH,bH]
  apply fN
  intro x _
  show D.int ((x.map D.int).length:Int)=iN x.length
  rw[aF];rfl
 rw[e]at h2
 refine gO ?_
 unfold Ac AA at *
 simp_arith[]at h2
 simp_arith[EU,h2]
theorem DR{l j:Nat}(hl:l<=h)(hj:j<cnt p f l):AU.den [Ac tr,Al l j]=.ok (.int (tl tr l j)):=by
 have h1:=Hx hd
 have h2:=KG hl hj
 have h3:EV.den [Ac tr,Al l j]=.ok (.bl true):=by
  refine gO ?_
  simp_arith[FA,h1,h2]
 have h4:Fm.den [Ac tr,Al l j]=.ok .aJ:=by
  refine(Ci rfl).trans (OU (δ:=[some (Ac tr),some (Al l j)]) ?_)
  simp_arith[DC,h3]
 have h5:=OX hd hl
 have h6:=Za hd hl hj
 refine gO ?_
 unfold Ac Ae Al at *
 simp_arith[Kz,h4,h5,h6]
theorem WU:(tr.map Ae).isEmpty=false:=by
 have h1:=KJ hd
 cases tr with
 |nil=>cases h1
 |cons a r=>rfl
theorem Ig:Br.den [Ac tr]=.ok (Ae (tr.getD 0 [])):=by
 have h1:=BK (tr.map Ae) (Jr tr)
 rw[WU hd]at h1
 have h2:=OX hd (cK h)
 rw[show((0:Nat):Int)=0 from rfl]at h2
 refine gO ?_
 unfold Ac Ae at *
 simp_arith[Cb,h1,h2]
theorem B3:AT.den [Ac tr,.int f]=.ok (aA p f):=by
 have h1:=Ig hd
 have h2:=(KM hd (cK h)).1
 rw[Hm]at h2
 refine gO ?_
 unfold Ae at h1
 unfold aA
 simp_arith[DZ,h1,aF,h2]
end
theorem OY(a b:Nat):∀c,(dh c).filter (fun k=>decide (a<=k)&&decide (k<b))=(dh (min b c-a)).map (a + ·)
 |0=>by simp
 |c+1=>by
  rw[tO,zK,OY a b c]
  by_cases h:a<=c/\c<b
  ·rw[oN h.2,oN (a6 h.2),Nat.succ_sub h.1,tO,aax]
   congr 1
   simp only[rd,List.filter_nil,decide_eq_true h.1,decide_eq_true h.2,acG,if_true,cT,iC]
   congr 1;exact(zT h.1).symm
  have h':(decide (a<=c)&&decide (c<b))=false:=by
   rw[<- Bool.not_eq_true,bg,decide_eq_true_eq,decide_eq_true_eq];exact h
  simp only[rd,List.filter_nil,h']
  have e:min b (c+1)-a=min b c-a:=by
   rcases tS c b with z|z
   ·have z2:c<a:=Nat.lt_of_not_le fun y=>h ⟨y,z⟩
    rw[oN z,oN (a6 z),adc z2,adc (a6 z2)]
   rw[qm z,qm (rj z)]
  rw[e]
  simp
abbrev fA(p f l j:Nat):List (Nat×Nat):=match l with
 |0=>[]
 |l+1=>((dh (cnt p f l)).filter fun k=>k/f==j).map fun k=>(l,k)
theorem LB{f:Nat}(hf:1<=f)(c j:Nat):(dh c).filter (fun k=>k/f==j)=(dh (min (j*f+f) c-j*f)).map (j*f + ·):=by
 rw[<- OY]
 apply vc
 intro k _
 rw[rA,beq_iff_eq,bg,decide_eq_true_eq,decide_eq_true_eq]
 constructor
 ·rintro rfl
  have:=acl k f
  have h2:=Nat.mod_lt k (show 0<f by exact hf)
  rw[mM]at this
  generalize k%f=r at *
  omega
 rintro⟨h1,h2⟩
 exact zR h1 (by rw[mL];omega)
theorem Ih{p f h:Nat}(hf:2<=f)(av:f<=8)(H:Hs p f h)(hh:h<=8)(hp:p<=200){l j:Nat}(hl:l<=h)(hj:j<cnt p f l):Dl.den [aA p f,Al l j]=.ok (.lst ((fA p f l j).map Ad)):=by
 have hc:=Dc hf av H hh hl hj
 cases l with
 |zero=>
  refine gO ?_
  show _=Out.ret (.lst [])
  unfold Al aA at *
  rw[show((0:Nat):Int)=0 from rfl]at *
  simp_arith[Fx,hc]
 |succ l=>
 have jQ:=El hf av H hh
 have h5:=Nn (xs:=fo p f h) (i:=l) (by rw[CD];exact Nat.lt_succ_of_lt hl)
 rw[II (by exact a6 hl)]at h5
 have pG:=Fc (p:=p) (f:=f) (l:=l) (by exact a6 hf)
 have n_:=Fc (p:=p) (f:=f) (l:=l+1) (by exact a6 hf)
 have hjf:j*f<=200*8:=Nat.mul_le_mul (by omega) av
 have f1:-(18446744073709551616)<(f:Int):=by exact gq _
 have f2:(f:Int)<18446744073709551616:=by exact oD av (by decide)
 have e1:((l+1:Nat):Int)-1=(l:Int):=by omega
 have c1:(((l+1:Nat):Int)==0)=false:=by rw[beq_eq_false_iff_ne];omega
 have e2:min ((j:Int)*f+f) (cnt p f l:Int)=((min (j*f+f) (cnt p f l):Nat):Int):=by rw[<- kK];omega
 have hr:=FQ (a:=((j*f:Nat):Int)) (b:=((min (j*f+f) (cnt p f l):Nat):Int)) (by exact gq _) (by exact pY hjf (by decide)) (by exact gq _) (by omega)
 rw[kK]at hr
 have h2:=Ax (nl:=1) (fr:=[2]) (tg:=.nm 0) (it:=.r2 (.nm 3) (.nm 4)) (elt:=.tup (.cons (.nm 1) (.cons (.nm 0) .nil))) (δ:=[some (aA p f),some (Al (l+1) j),some (.int l),some (.int ((j:Int)*f)),some (.int ((min (j*f+f) (cnt p f l):Nat):Int))]) (ds:=Ay ((j:Int)*f) ((min (j*f+f) (cnt p f l):Nat):Int)) (g:=fun d=>.tup [.int l,d]) (by simp_arith[hr]) (fun d hd=>by
  refine⟨[some d,some (.int l)],rfl,?_⟩
  simp_arith[])
 have e3:(Ay ((j:Int)*f) ((min (j*f+f) (cnt p f l):Nat):Int)).map (fun d=>D.tup [.int l,d])=(fA p f (l+1) j).map Ad:=by
  show _=(((dh (cnt p f l)).filter fun k=>k/f==j).map fun k=>(l,k)).map Ad
  rw[LB (by exact a6 hf)]
  unfold Ay
  rw[bH,bH,bH,<- kK,show(((min (j*f+f) (cnt p f l):Nat):Int)-((j*f:Nat):Int)).toNat=min (j*f+f) (cnt p f l)-j*f by omega]
  apply fN
  intro i _
  show D.tup [.int l,.int (((j*f:Nat):Int)+(i:Int))]=Al l (j*f+i)
  rw[<- Int.natCast_add];rfl
 rw[e3]at h2
 refine gO ?_
 unfold Al aA AA at *
 simp_arith[hr]at h2
 simp_arith[Fx,hc,c1,e1,f1,f2,jQ,h5,e2,hr,h2]
theorem Aay{rs:List Int}{i:Nat}(h:i<rs.length):bz (rs.map D.int) (i:Int)=.ok (.int (rs.getD i 0)):=by
 apply DP
 rw[iX,d_ h];rfl
theorem UA(xs:List D)(a:Nat):cut xs (some (a:Int)) none=xs.drop a:=by
 have e2:bp xs.length 0 (some (a:Int))=min a xs.length:=by
  show(if(a:Int)<0 then _ else _:Int).toNat=_
  rw[if_neg (by exact sW)];omega
 unfold cut
 rw[e2]
 show(xs.drop (min a xs.length)).take (xs.length-min a xs.length)=_
 rw[zE (by rw[nV];exact bx _)]
 by_cases h:a<=xs.length
 ·rw[qm h]
 rw[oN (by omega),ve,List.drop_eq_nil_of_le (by omega)]
theorem KN{y:Int}{n:Nat}(hn:0<n):∃k:Nat,k<n/\y%(n:Int)=k:=by
 have h1:=ni y (show(n:Int)≠0 by omega)
 have h2:=rB y (show 0<(n:Int) by exact gS.mpr hn)
 exact⟨(y%(n:Int)).toNat,by omega,by exact(mP h1).symm⟩
theorem GZ(p f a:Nat)(ha:a<=p):EC.den [aA p f,.int a,.int a]=.ok (.lst []):=by
 have c1:¬(a:Int)<0:=by exact sW
 have c2:¬(p:Int)<a:=by exact sX ha
 have c3:¬(a:Int)<a:=by exact Int.lt_irrefl _
 have hl:AR (tv (.cmp .lt (.nm 4) (.nm 2))) (exs D5) FU [some (.tup [.int p,.int f]),some (.int a),some (.int a),some (.lst []),some (.int a),none]=.bb [some (.tup [.int p,.int f]),some (.int a),some (.int a),some (.lst []),some (.int a),none]:=by
  unfold FU
  exact Cf (by simp_arith[c3])
 refine gO ?_
 unfold aA
 simp_arith[IC,c1,c2,c3,hl]
theorem IK{rs:List Int}{a b:Nat}{x:Int}:x∈(rs.drop a).take (b-a) ↔ ∃k,a<=k/\k<b/\rs[k]?=some x:=by
 rw[List.mem_iff_getElem?]
 constructor
 ·rintro⟨n,h⟩
  rw[zL]at h
  split at h
  ·rw[va]at h
   exact⟨a+n,by exact ng ..,by omega,h⟩
  cases h
 rintro⟨k,h1,h2,h3⟩
 refine⟨k-a,?_⟩
 rw[zL,if_pos (by exact Nat.sub_lt_sub_right h1 h2),va,show a+(k-a)=k by exact zT h1,h3]
theorem Qo{rs:List Int}{a b:Nat}{M:Int}(h1:∃k,a<=k/\k<b/\rs[k]?=some M)(h2:∀k x,a<=k->k<b->rs[k]?=some x->x<=M):gW rs a b=M:=by
 have:((rs.drop a).take (b-a)).max?=some M:=u_.mpr ⟨IK.mpr h1,fun x hx=>by
  obtain⟨k,q1,q2,q3⟩:=IK.mp hx
  exact h2 k x q1 q2 q3⟩
 unfold gW
 rw[this];rfl
theorem IL{rs:List Int}{a b:Nat}(p7:a<b)(hb:b<=rs.length):(∃k,a<=k/\k<b/\rs[k]?=some (gW rs a b))/\∀k x,a<=k->k<b->rs[k]?=some x->x<=gW rs a b:=by
 obtain⟨h1,h2⟩:=u_.mp (Si p7 hb)
 exact⟨IK.mp h1,fun k x q1 q2 q3=>h2 x (IK.mpr ⟨k,q1,q2,q3⟩)⟩
theorem WV{rs:List Int}{f l c j:Nat}{x:Int}(h:(AB rs f l c)[j]?=some x):j<c/\x=gW rs (j*f^l) (min rs.length (j*f^l+f^l)):=by
 unfold AB at h
 rw[dg]at h
 obtain⟨i,h1,h2⟩:=fP.mp h
 obtain⟨h3,h4⟩:=gP.mp h1
 rw[zJ]at h4
 rw[kI]at h3
 subst h4
 exact⟨h3,h2.symm⟩
theorem Nt(rs:List Int)(f l:Nat){c j:Nat}(h:j<c):(AB rs f l c)[j]?=some (gW rs (j*f^l) (min rs.length (j*f^l+f^l))):=by
 unfold AB
 rw[dg,tK h];rfl
theorem Aaz{rs:List Int}{f l A:Nat}(hf:1<=f)(hA:A<cnt rs.length f l):gW (AB rs f l (cnt rs.length f l)) A (min (cnt rs.length f l) (A+f))=gW rs (A*f^l) (min rs.length (A*f^l+f*f^l)):=by
 have hw:0<f^l:=i_ (by exact hf)
 have bU:=(AO hf).mp hA
 have hfw:0<f*f^l:=Nat.mul_pos (by exact hf) hw
 have lc:∀j,j*f^l<rs.length->j<cnt rs.length f l:=fun j h=>(AO hf).mpr h
 obtain⟨⟨k,k1,k2,k3⟩,jV⟩:=IL (rs:=rs) (a:=A*f^l) (b:=min rs.length (A*f^l+f*f^l)) (by omega) (by exact iE ..)
 have e1:(A+f)*f^l=A*f^l+f*f^l:=tX _ _ _
 generalize gW rs (A*f^l) (min rs.length (A*f^l+f*f^l))=M at *
 have row:∀j,j<cnt rs.length f l->A<=j->j<A+f->(∃q,A*f^l<=q/\q<min rs.length (A*f^l+f*f^l)/\rs[q]?=some (gW rs (j*f^l) (min rs.length (j*f^l+f^l)))):=fun j hj h1 h2=>by
  have n_:=(AO hf).mp hj
  obtain⟨⟨q,q1,q2,q3⟩,_⟩:=IL (rs:=rs) (a:=j*f^l) (b:=min rs.length (j*f^l+f^l)) (by omega) (by exact iE ..)
  have m1:A*f^l<=j*f^l:=m9 _ h1
  have m2:(j+1)*f^l<=(A+f)*f^l:=m9 _ h2
  rw[mL]at m2
  exact⟨q,by exact aS m1 q1,by omega,q3⟩
 refine Qo ?_ fun j x h1 h2 h3=>?_
 ·have j1:k/f^l*f^l<=k:=vt _ _
  have j2:k<k/f^l*f^l+f^l:=Nat.lt_div_mul_add hw
  have jA:A<=k/f^l:=(qk hw).mpr k1
  have jB:k/f^l<A+f:=(Nat.div_lt_iff_lt_mul hw).mpr (by omega)
  have jC:=lc (k/f^l) (by omega)
  refine⟨k/f^l,jA,by omega,?_⟩
  rw[Nt rs f l jC]
  congr 1
  refine Qo ⟨k,j1,by omega,k3⟩ fun q x q1 q2 q3=>?_
  have m1:A*f^l<=k/f^l*f^l:=m9 _ jA
  have m2:(k/f^l+1)*f^l<=(A+f)*f^l:=m9 _ jB
  rw[mL]at m2
  exact jV q x (by exact aS m1 q1) (by omega) q3
 obtain⟨hj,rfl⟩:=WV h3
 obtain⟨q,q1,q2,q3⟩:=row j hj h1 (by omega)
 exact jV q _ q1 q2 q3
theorem Js(rs:List Int)(f:Nat):AB rs f 0 (cnt rs.length f 0)=rs:=by
 rw[Hm]
 apply vb
 intro j
 by_cases h:j<rs.length
 ·rw[Nt rs f 0 h,d_ h]
  congr 1
  rw[tU,oO]
  refine Qo ⟨j,bx _,by omega,d_ h⟩ fun k x h1 h2 h3=>?_
  have:k=j:=by omega
  subst this
  rw[d_ h]at h3
  cases h3
  exact Int.le_refl _
 rw[zF (show(AB rs f 0 rs.length).length<=j by unfold AB;simp;exact iZ.mp h),zF (by exact iZ.mp h)]
abbrev qQ(ys:List Int)(f:Nat):List Int:=(dh ((ys.length+f-1)/f)).map fun i=>gW ys (i*f) (min ys.length (i*f+f))
theorem OZ(rs:List Int)(f l c:Nat):(AB rs f l c).length=c:=by unfold AB;simp
theorem WW{rs:List Int}{f l:Nat}(hf:1<=f):qQ (AB rs f l (cnt rs.length f l)) f=AB rs f (l+1) (cnt rs.length f (l+1)):=by
 unfold qQ
 rw[OZ,Jl hf]
 generalize hN:(cnt rs.length f l+f-1)/f=N
 conv=>rhs;unfold AB
 apply fN
 intro i hi
 have hi:i<(cnt rs.length f l+f-1)/f:=by rw[hN];exact oM.mp hi
 have:(i+1)*f<=cnt rs.length f l+f-1:=(qk (by exact hf)).mp hi
 rw[mL]at this
 have e1:i*f^(l+1)=i*f*f^l:=by rw[mO,mM (f^l) f,Nat.mul_assoc]
 have e2:f^(l+1)=f*f^l:=by rw[mO,mM]
 rw[Aaz hf (by omega),e1,e2]
theorem WX{rs:List Int}{a b:Nat}(ha:a<=rs.length):cut (rs.map D.int) (some (a:Int)) (some (b:Int))=((rs.drop a).take (min rs.length b-a)).map D.int:=by
 have e1:bp rs.length 0 (some (a:Int))=a:=by
  show(if(a:Int)<0 then _ else _:Int).toNat=a
  rw[if_neg (by exact sW)];omega
 have e2:bp rs.length rs.length (some (b:Int))=min rs.length b:=by
  show(if(b:Int)<0 then _ else _:Int).toNat=_
  rw[if_neg (by exact sW)];omega
 unfold cut
 rw[aF,e1,e2,<- vj,<- vi]
theorem Sk(ys:List Int)(f:Nat)(hf:2<=f)(av:f<=8)(hl:ys.length<=200):EA.den [Ae ys,.int f]=.ok (Ae (qQ ys f)):=by
 have hN:om 0 (ys.length:Int) (f:Int)=(ys.length+f-1)/f:=by
  unfold om
  rw[if_pos (by exact gS.mpr (a6 hf)),show(ys.length:Int)-0+(f:Int)-1=((ys.length+f-1:Nat):Int) by omega,<- vC,gR]
 have hNl:(ys.length+f-1)/f<=1000:=aS (Nat.div_le_self _ _) (by omega)
 have hr:Tz (.int 0) (.int (ys.length:Int)) (.int (f:Int))=.ok (FW 0 (f:Int) ((ys.length+f-1)/f)):=by
  have l1:BS 0=true:=by decide
  have l2:BS (ys.length:Int)=true:=by unfold BS;rw[bg,decide_eq_true_eq,decide_eq_true_eq];omega
  have l3:BS (f:Int)=true:=by unfold BS;rw[bg,decide_eq_true_eq,decide_eq_true_eq];omega
  have l4:decide ((f:Int)≠0)=true:=decide_eq_true (by omega)
  have l5:decide (om 0 (ys.length:Int) (f:Int)<=dn)=true:=decide_eq_true (by rw[hN];show _<=16777216;exact aS hNl (by decide))
  rw[Tz,l1,l2,l3,l4,l5,hN]
  rfl
 have hc:=Ax (nl:=1) (fr:=[0,1]) (tg:=.nm 0) (it:=.r3 (.cI 0) (.bi .len (.cons (.nm 0) .nil)) (.nm 1)) (elt:=.bi .iJ (.cons (.lN (.nm 1) (.nm 0) (.bin .add (.nm 0) (.nm 2))) .nil)) (δ:=[some (Ae ys),some (.int (f:Int))]) (ds:=FW 0 (f:Int) ((ys.length+f-1)/f)) (g:=fun d=>match d with|.int b=>.int (gW ys b.toNat (min ys.length (b.toNat+f)))|_=>.aJ) (by
   unfold Ae
   simp_arith[aF,hr]) (fun d hd=>by
  obtain⟨i,hi,rfl⟩:=a8.mp hd
  have hi:=oM.mp hi
  have h1:(i+1)*f<=ys.length+f-1:=(qk (by exact a6 hf)).mp hi
  rw[mL]at h1
  have e0:(0:Int)+(i:Int)*(f:Int)=((i*f:Nat):Int):=by rw[vG,kK]
  have e1:((i*f:Nat):Int)+(f:Int)=((i*f+f:Nat):Int):=by exact rfl
  rw[e0]
  refine⟨[some (.int ((i*f:Nat):Int)),some (Ae ys),some (.int (f:Int))],rfl,?_⟩
  show _=Res.ok (D.int (gW ys (((i*f:Nat):Int).toNat) (min ys.length ((((i*f:Nat):Int).toNat)+f))))
  rw[gR]
  have mT:=WX (rs:=ys) (a:=i*f) (b:=i*f+f) (by omega)
  have hm:=Si (rs:=ys) (a:=i*f) (b:=min ys.length (i*f+f)) (by omega) (by exact iE ..)
  have uP:=Em ((ys.drop (i*f)).take (min ys.length (i*f+f)-i*f))
  unfold Ae
  generalize gW ys (i*f) (min ys.length (i*f+f))=M at *
  generalize (ys.drop (i*f)).take (min ys.length (i*f+f)-i*f)=zs at *
  generalize i*f=q at *
  simp_arith[e1,mT,uP,AG,hm])
 have hg:(FW 0 (f:Int) ((ys.length+f-1)/f)).map (fun d=>match d with|.int b=>D.int (gW ys b.toNat (min ys.length (b.toNat+f)))|_=>.aJ)=(qQ ys f).map .int:=by
  unfold FW qQ
  rw[bH,bH]
  apply fN
  intro i _
  show D.int (gW ys (((0:Int)+(i:Int)*(f:Int)).toNat) _)=D.int (gW ys (i*f) (min ys.length (i*f+f)))
  rw[show(0:Int)+(i:Int)*(f:Int)=((i*f:Nat):Int) by rw[vG,kK],gR]
 rw[hg]at hc
 refine gO ?_
 unfold Ae at *
 generalize (qQ ys f).map D.int=zs at *
 simp_arith[aF,hr]at hc
 simp_arith[Fg,aF,hr,hc]
theorem IM{rs:List Int}{f l:Nat}:(AB rs f l (cnt rs.length f l)).length=cnt rs.length f l:=OZ ..
abbrev p8:E:=.cmp .gt (.bi .len (.cons (.nm 3) .nil)) (.cI 1)
theorem Sl{rs:List Int}{f h:Nat}(hf:2<=f)(av:f<=8)(H:Hs rs.length f h)(hh:h<=8)(hn:rs.length<=200)(bD:1<=rs.length):F7.den [Ae rs,.int f]=.ok (Ac (Aa rs f (h+1))):=by
 obtain⟨aQ,e,rfl⟩:=Fb (c:=tv p8) (b:=exs Fz) (fun l δ=>δ=[some (Ae rs),some (.int (f:Int)),some (Ac (Aa rs f l)),some (Ae (AB rs f l (cnt rs.length f l)))]) h FU 0 (δ:=[some (Ae rs),some (.int (f:Int)),some (Ac []),some (Ae rs)]) (by rw[Js];rfl) (by
   rintro l δ _ hl rfl
   have hm:=H.more l (by omega)
   have pG:=Fc (p:=rs.length) (f:=f) (l:=l) (by exact a6 hf)
   have p7:=Sk (AB rs f l (cnt rs.length f l)) f hf av (by rw[IM];exact aS pG hn)
   rw[WW (by exact a6 hf)]at p7
   have eG:=Cq ((Aa rs f l).map Ae) (Ae (AB rs f l (cnt rs.length f l))) (by unfold Aa;simp;omega)
   have hd:EA.dep=9:=rfl
   have uQ:=LA (AB rs f (l+1) (cnt rs.length f (l+1))) 7 8
   have jK:((AB rs f l (cnt rs.length f l)).map D.int).length=cnt rs.length f l:=by rw[aF,IM]
   have hgt:(1:Int)<(cnt rs.length f l:Int):=by exact gS.mpr hm
   refine⟨?_,_,?_,rfl⟩
   ·unfold p8 Ae
    simp_arith[jK,hgt]
   ·rw[Lz]
    unfold Ac
    rw[aax]
    show _=Out.bb [some (Ae rs),some (.int (f:Int)),some (.lst ((Aa rs f l).map Ae++[Ae (AB rs f l (cnt rs.length f l))])),some (Ae (AB rs f (l+1) (cnt rs.length f (l+1))))]
    generalize AB rs f (l+1) (cnt rs.length f (l+1))=z1 at *
    generalize AB rs f l (cnt rs.length f l)=z0 at *
    generalize (Aa rs f l).map Ae=zt at *
    generalize Ae z1=y1 at *
    generalize Ae z0=y0 at *
    simp_arith[Fz,eG,p7,hd,uQ]) (by
   rintro δ rfl
   rw[aa5]
   have jK:((AB rs f h (cnt rs.length f h)).map D.int).length=1:=by rw[aF,IM,H.one]
   unfold p8 Ae
   simp_arith[jK]) (by unfold FU;exact fO hh (by decide))
 rw[aa5]at e
 have eG:=Cq ((Aa rs f h).map Ae) (Ae (AB rs f h (cnt rs.length f h))) (by unfold Aa;simp;exact fO hh (by decide))
 have b8:=DQ ((AB rs f h (cnt rs.length f h)).map D.int) (by
  rw[cz]
  intro d hd
  obtain⟨b,_,rfl⟩:=a8.mp hd
  rfl)
 have hie:((AB rs f h (cnt rs.length f h)).map D.int).isEmpty=false:=by
  cases q:(AB rs f h (cnt rs.length f h)).map D.int with
  |nil=>have:=congrArg aaI q;rw[aF,IM,H.one]at this;cases this
  |cons a r=>rfl
 rw[hie]at b8
 refine gO ?_
 rw[Lz]
 unfold Ac at *
 rw[aax]
 show _=Out.ret (.lst ((Aa rs f h).map Ae++[Ae (AB rs f h (cnt rs.length f h))]))
 rw[iC]at e
 generalize AB rs f h (cnt rs.length f h)=z0 at *
 generalize (Aa rs f h).map Ae=zt at *
 unfold p8 at e
 unfold Ae at *
 simp_arith[IB,e,b8,eG]
theorem Qp(f:Nat):F7.den [Ae [],.int f]=.ok (Ac []):=by
 have hw:AR (tv p8) (exs Fz) FU [some (.lst []),some (.int (f:Int)),some (.lst []),some (.lst [])]=.bb [some (.lst []),some (.int (f:Int)),some (.lst []),some (.lst [])]:=by
  rw[show FU=(FU-1)+1 from rfl,Cf (by unfold p8;simp_arith[vD])]
 have b8:=DQ [] rfl
 refine gO ?_
 unfold p8 at hw
 unfold Ae Ac at *
 simp_arith[IB,hw,b8,vk]
theorem Sm{c:Fr->Res Bool}{b:Fr->Out}{n:Nat}(h1:c δ=.ok true)(h2:b δ=.ret d):AR c b (n+1) δ=.ret d:=by
 rw[AR,h1,Res.out_ok,if_pos rfl,h2,Out.then_ret]
@[reducible]noncomputable def Nd:=Nat×Nat
abbrev BO(t:Nd->Bool):List Nd->List Nd
 |[]=>[]
 |q::r=>q::if t q then [] else BO t r
theorem Jt(t:Nd->Bool):∀qs,(BO t qs).length<=qs.length
 |[]=>bx _
 |q::r=>by
  unfold BO
  split
  ·simp
  have:=Jt t r;simp only[jS];exact kn this
theorem Ii(t:Nd->Bool):∀{qs},qs≠[]->∃pre q,BO t qs=pre++[q]/\q∈qs/\((qs.find? t=some q/\t q=true)\/(qs.find? t=none/\t q=false))
 |[],h=>absurd rfl h
 |q::r,_=>by
  unfold BO
  by_cases hq:t q=true
  ·exact⟨[],q,by rw[if_pos hq];rfl,aP,.inl ⟨act hq,hq⟩⟩
  rw[if_neg hq,u9 hq]
  by_cases hr:r=[]
  ·subst hr
   exact⟨[],q,rfl,aP,.inr ⟨rfl,by simpa using hq⟩⟩
  obtain⟨pre,q',h1,h2,h3⟩:=Ii t hr
  exact⟨q::pre,q',by rw[h1];rfl,aL _ h2,h3⟩
abbrev wk(t:Nd->Bool)(p f:Nat):Nat->List Nd->List Nd
 |0,_=>[]
 |n+1,qs=>BO t qs++match qs.find? t with
  |none=>[]
  |some q=>wk t p f n (fA p f q.1 q.2)
abbrev bq(tr:List (List Int))(need:Int)(q:Nd):Bool:=decide (need<=tl tr q.1 q.2)
abbrev Val(p f h:Nat)(qs:List Nd):Prop:=∀q∈qs,q.1<=h/\q.2<cnt p f q.1
theorem Qq(qs:List Nd):D.flat 9 1 (.lst (qs.map Ad))=true:=by
 show(qs.map Ad).all (D.flat 8 0)=true
 rw[cz]
 intro d hd
 obtain⟨q,_,rfl⟩:=a8.mp hd
 rfl
theorem Nv{p f h l j:Nat}(hl:l<=h):Val p f h (fA p f l j):=by
 intro q hq
 cases l with
 |zero=>cases hq
 |succ l=>
 obtain⟨k,hk,rfl⟩:=a8.mp hq
 exact⟨by show l<=h;exact a6 hl,oM.mp (oK.mp hk).1⟩
theorem Qr{p f l j:Nat}:∀q∈fA p f l j,q.1<l:=by
 intro q hq
 cases l with
 |zero=>cases hq
 |succ l=>
 obtain⟨k,hk,rfl⟩:=a8.mp hq
 exact vx l
theorem Sn{p f l j:Nat}(hf:1<=f)(hp:p<=200):(fA p f l j).length<=200:=by
 cases l with
 |zero=>simp[fA]
 |succ l=>
 show(((dh (cnt p f l)).filter fun k=>k/f==j).map fun k=>(l,k)).length<=200
 rw[aF]
 have:=List.length_filter_le (fun k=>k/f==j) (dh (cnt p f l))
 rw[kI]at this
 have:=Fc (p:=p) (f:=f) (l:=l) hf
 omega
section
variable{tr:List (List Int)}{p f h:Nat}(hd:s_ tr p f h)(need:Int)
include hd
theorem O0(nodes:D):∀(qs:List Nd)(xs:List D)(o4:Option D),Val p f h qs->xs.length+qs.length<=100000->∃p9,Bc (.nm 4) (exs AQ) (qs.map Ad) [some (Ac tr),some (.int need),some nodes,some (.lst xs),o4]=if(qs.find? (bq tr need)).isSome then .ret (.lst (xs++(BO (bq tr need) qs).map Ad)) else .bb [some (Ac tr),some (.int need),some nodes,some (.lst (xs++(BO (bq tr need) qs).map Ad)),p9]
 |[],xs,o4,_,_=>⟨o4,by simp[Bc,BO]⟩
 |q::r,xs,o4,hv,hl=>by
  rw[jS]at hl
  have sZ:=hv q aP
  have ht:=DR hd sZ.1 sZ.2
  have eG:=Cq xs (Ad q) (by omega)
  rw[cT,Bc]
  show ∃p9,(exs AQ [some (Ac tr),some (.int need),some nodes,some (.lst xs),some (Ad q)]).then _=_
  unfold BO
  by_cases hq:bq tr need q=true
  ·have mf:need<=tl tr q.1 q.2:=of_decide_eq_true hq
   have e:exs AQ [some (Ac tr),some (.int need),some nodes,some (.lst xs),some (Ad q)]=.ret (.lst (xs++[Ad q])):=by
    unfold Ad at *
    simp_arith[AQ,eG,ht,mf]
   rw[e,act hq,if_pos hq]
   exact⟨none,rfl⟩
  have mf:¬need<=tl tr q.1 q.2:=fun z=>hq (decide_eq_true z)
  have e:exs AQ [some (Ac tr),some (.int need),some nodes,some (.lst xs),some (Ad q)]=.bb [some (Ac tr),some (.int need),some nodes,some (.lst (xs++[Ad q])),some (Ad q)]:=by
   unfold Ad at *
   simp_arith[AQ,eG,ht,mf]
  rw[e,u9 hq,if_neg hq,Out.then_nxt]
  obtain⟨p9,e'⟩:=O0 nodes r (xs++[Ad q]) (some (Ad q)) (fun x hx=>hv x (aL _ hx)) (by simp;omega)
  refine⟨p9,?_⟩
  rw[e',jz]
  rfl
theorem Zb(hv:Val p f h qs)(hl:qs.length<=200):D6.den [Ac tr,.int need,.lst (qs.map Ad)]=.ok (.lst ((BO (bq tr need) qs).map Ad)):=by
 obtain⟨o4,e⟩:=O0 hd need (.lst (qs.map Ad)) qs [] none hv (by simp;exact aS hl (by decide))
 rw[aaX]at e
 refine gO ?_
 cases q:(qs.find? (bq tr need)).isSome with
 |true=>
  rw[q,if_pos rfl]at e
  simp_arith[C9,e]
 |false=>
 rw[q,if_neg qq]at e
 simp_arith[C9,e]
variable(hf:2<=f)(av:f<=8)(H:Hs p f h)(hh:h<=8)(hp:p<=200)
include hf av H hh hp
theorem WY(b:D)(hq:qs≠[])(hv:Val p f h qs)(hl:qs.length<=200)(xs:List D)(hx:xs.length<=100000)(o7:Option D):exs BN [some (Ac tr),some (.int f),some (.int need),some b,some (aA p f),some (.lst xs),some (.lst (qs.map Ad)),o7]=match qs.find? (bq tr need) with
  |none=>.ret (.lst (xs++(BO (bq tr need) qs).map Ad))
  |some q=>.bb [some (Ac tr),some (.int f),some (.int need),some b,some (aA p f),some (.lst (xs++(BO (bq tr need) qs).map Ad)),some (.lst ((fA p f q.1 q.2).map Ad)),some (.lst ((BO (bq tr need) qs).map Ad))]:=by
 have hu:=Zb hd need hv hl
 have uQ:=Qq (BO (bq tr need) qs)
 have qP:D6.dep=1:=rfl
 have hul:=Jt (bq tr need) qs
 have hex:=Y8 xs ((BO (bq tr need) qs).map Ad) (by rw[aF];omega)
 obtain⟨pre,q,e1,e2,e3⟩:=Ii (bq tr need) hq
 have td:=hv q e2
 have ht:=DR hd td.1 td.2
 have hc:=Ih hf av H hh hp td.1 td.2
 have xy:=KI (pre.map Ad) (Ad q)
 have e4:(BO (bq tr need) qs).map Ad=pre.map Ad++[Ad q]:=by rw[e1,aax];rfl
 rw[<- e4]at xy
 generalize (BO (bq tr need) qs).map Ad=us at *
 have ht:AU.den [Ac tr,Ad q]=.ok (.int (tl tr q.1 q.2)):=ht
 have hc:Dl.den [aA p f,Ad q]=.ok (.lst ((fA p f q.1 q.2).map Ad)):=hc
 rcases e3 with⟨h1,h2⟩|⟨h1,h2⟩
 ·have bU:¬tl tr q.1 q.2<need:=by have:need<=tl tr q.1 q.2:=of_decide_eq_true h2;exact qu.mpr this
  rw[h1]
  simp_arith[BN,hu,qP,uQ,hex,xy,ht,bU,hc]
 have bU:tl tr q.1 q.2<need:=by have:¬need<=tl tr q.1 q.2:=of_decide_eq_false h2;exact i5.mp this
 rw[h1]
 simp_arith[BN,hu,qP,uQ,hex,xy,ht,bU]
theorem O1(b:D):∀(n m:Nat)(qs:List Nd)(xs:List D)(o7:Option D),Val p f h qs->qs.length<=200->(∀q∈qs,q.1<n)->n<m->xs.length+200*n<=10000->∃o6 pZ,(AR (tv (.cmp .ne (.nm 6) (.lst .nil))) (exs BN) m [some (Ac tr),some (.int f),some (.int need),some b,some (aA p f),some (.lst xs),some (.lst (qs.map Ad)),o7]=.ret (.lst (xs++(wk (bq tr need) p f n qs).map Ad)))\/(AR (tv (.cmp .ne (.nm 6) (.lst .nil))) (exs BN) m [some (Ac tr),some (.int f),some (.int need),some b,some (aA p f),some (.lst xs),some (.lst (qs.map Ad)),o7]=.bb [some (Ac tr),some (.int f),some (.int need),some b,some (aA p f),some (.lst (xs++(wk (bq tr need) p f n qs).map Ad)),o6,pZ])
 |n,m+1,qs,xs,o7,hv,hl,jQ,hm,hx=>by
  have fS:=DQ (qs.map Ad) (Ly qs 6)
  by_cases hq:qs=[]
  ·subst hq
   refine⟨some (.lst []),o7,.inr ?_⟩
   rw[iC]at fS
   rw[iC,Cf (by simp_arith[fS,vk])]
   cases n<;>simp[wk,BO]
  cases n with
  |zero=>
   obtain⟨q,r,rfl⟩:=List.exists_cons_of_ne_nil hq
   exact absurd (jQ q aP) (by omega)
  |succ n=>
   have pI:tv (.cmp .ne (.nm 6) (.lst .nil)) [some (Ac tr),some (.int f),some (.int need),some b,some (aA p f),some (.lst xs),some (.lst (qs.map Ad)),o7]=.ok true:=by
    have:(qs.map Ad).isEmpty=false:=by
     cases qs with
     |nil=>exact absurd rfl hq
     |cons a r=>rfl
    rw[this]at fS
    simp_arith[fS]
   have ht:=WY hd need hf av H hh hp b hq hv hl xs (by omega) o7
   have hul:=Jt (bq tr need) qs
   rw[wk]
   cases q:qs.find? (bq tr need) with
   |none=>
    rw[q]at ht
    refine⟨none,none,.inl ?_⟩
    rw[Sm pI ht,iB]
   |some w=>
   rw[q]at ht
   have hw:=hv w (zx q)
   have rS:=jQ w (zx q)
   rw[FJ pI ht]
   obtain⟨o6,pZ,e⟩:=O1 b n m (fA p f w.1 w.2) (xs++(BO (bq tr need) qs).map Ad) (some (.lst ((BO (bq tr need) qs).map Ad))) (Nv hw.1) (Sn (by exact a6 hf) hp) (fun x hx=>by have:=Qr x hx;exact aS this (m_ rS)) (by exact m_ hm) (by rw[eP,aF];omega)
   rw[jz,<- aax]at e
   exact⟨o6,pZ,e⟩
end
theorem EK{p f h e:Nat}(hf:1<=f)(e_:e<=p):∀n a,Val p f h (c6 p f h e n a)
 |0,a=>fun q hq=>nomatch hq
 |n+1,a=>by
  intro q hq
  rw[c6]at hq
  by_cases cH:a<e
  ·rw[if_pos cH]at hq
   rcases bB.mp hq with rfl|hq
   ·refine⟨Mi _ _,?_⟩
    show a/f^cW p f h e a<cnt p f (cW p f h e a)
    rw[AO hf]
    have:=vt a (f^cW p f h e a)
    omega
   exact EK hf e_ n _ q hq
  rw[if_neg cH]at hq;cases hq
theorem O2{p f h e:Nat}:∀n a,(c6 p f h e n a).length<=n
 |0,a=>bx _
 |n+1,a=>by
  rw[c6]
  split
  ·have:=O2 (p:=p) (f:=f) (h:=h) (e:=e) n (mY p f h e a)
   simp only[jS];exact kn this
  simp
section
variable{tr:List (List Int)}{p f h:Nat}(hd:s_ tr p f h)(need:Int)(hf:2<=f)(av:f<=8)(H:Hs p f h)(hh:h<=8)(hp:p<=200)
include hd hf av H hh hp
abbrev xB(tr:List (List Int))(p f h:Nat)(need:Int)(a:Nat):List Nd:=wk (bq tr need) p f (h+1) (c6 p f h p 200 a)
theorem Qs{a:Nat}(ha:a<=p):Fa.den [Ac tr,.int f,.int need,.int a]=.ok (.lst ((xB tr p f h need a).map Ad)):=by
 have hs:=B3 hd
 have hc:=Lx hf av H hh ha (bx p) hp
 have hv:=EK (p:=p) (f:=f) (h:=h) (show 1<=f by exact a6 hf) (bx p) 200 a
 obtain⟨o6,o7,e⟩:=O1 hd need hf av H hh hp (.int a) (h+1) FU (c6 p f h p 200 a) [] none hv (O2 200 a) (fun q hq=>by have:=(hv q hq).1;exact kn this) (by unfold FU;exact fO (zQ hh _) (by decide)) (by simp;omega)
 rw[aaX]at e
 unfold No at hc
 refine gO ?_
 unfold xB
 generalize (wk (bq tr need) p f (h+1) (c6 p f h p 200 a)).map Ad=ws at *
 generalize (c6 p f h p 200 a).map Ad=qs at *
 unfold aA at *
 rcases e with e|e
 ·simp_arith[Ge,hs,hc,e]
 simp_arith[Ge,hs,hc,e]
end
theorem KO{ms:List Int}{f h l j:Nat}(hl:l<=h)(hj:j<cnt ms.length f l):tl (Aa ms f (h+1)) l j=gW ms (j*f^l) (min ms.length (j*f^l+f^l)):=by
 unfold tl
 have e1:(Aa ms f (h+1)).getD l []=AB ms f l (cnt ms.length f l):=by
  unfold Aa
  rw[iX,dg,tK (by exact kn hl)];rfl
 rw[e1,iX,Nt ms f l hj];rfl
abbrev fB(p f:Nat):List Nd->Nat->Nat->Prop
 |[],a,e=>a=e
 |q::r,a,e=>q.2*f^q.1=a/\fB p f r (min p (q.2*f^q.1+f^q.1)) e
theorem KP{p f h e:Nat}(hf:1<=f)(e_:e<=p):∀n a,e-a<=n->a<=e->fB p f (c6 p f h e n a) a e
 |0,a,h1,h2=>by show a=e;omega
 |n+1,a,h1,h2=>by
  rw[c6]
  by_cases cH:a<e
  ·rw[if_pos cH]
   have hs:a/f^cW p f h e a*f^cW p f h e a=a:=by
    have:=acl a (f^cW p f h e a)
    rw[(J1 cH).1,mM]at this
    exact this
   have hn:=R8 (p:=p) (f:=f) (h:=h) hf cH e_
   have rY:=(J1 (p:=p) (f:=f) (h:=h) cH).2
   refine⟨hs,?_⟩
   show fB p f _ (min p (a/f^cW p f h e a*f^cW p f h e a+f^cW p f h e a)) e
   rw[hs]
   exact KP hf e_ n (mY p f h e a) (by omega) rY
  rw[if_neg cH];show a=e;exact rm h2 (iZ.mp cH)
theorem O3{p f l:Nat}(hf:1<=f):∀m s,0<m->s+m<=cnt p f l->fB p f ((nX s m).map fun k=>(l,k)) (s*f^l) (min p ((s+m)*f^l))
 |0,s,h,_=>absurd h (by exact absurd h (by decide))
 |1,s,_,_=>⟨rfl,by show min p (s*f^l+f^l)=_;rw[mL]⟩
 |m+2,s,_,h2=>by
  have ih:=O3 (p:=p) (f:=f) (l:=l) hf (m+1) (s+1) (by exact qo _) (by omega)
  refine⟨rfl,?_⟩
  show fB p f ((nX (s+1) (m+1)).map fun k=>(l,k)) (min p (s*f^l+f^l)) _
  have h3:=(AO (p:=p) (f:=f) (l:=l) (j:=s+1) hf).mp (by omega)
  rw[mL]at h3 ih
  rw[show min p (s*f^l+f^l)=s*f^l+f^l by omega,show s+(m+2)=s+1+(m+1) by omega]
  exact ih
theorem So{p f l j:Nat}(hf:1<=f):fA p f (l+1) j=(nX (j*f) (min (j*f+f) (cnt p f l)-j*f)).map fun k=>(l,k):=by
 show((dh (cnt p f l)).filter fun k=>k/f==j).map (fun k=>(l,k))=_
 rw[LB hf,List.range'_eq_map_range]
theorem Sq{p f l j:Nat}(hf:1<=f)(hj:j<cnt p f (l+1)):fA p f (l+1) j≠[]/\fB p f (fA p f (l+1) j) (j*f^(l+1)) (min p (j*f^(l+1)+f^(l+1))):=by
 have h1:=(AO hf).mp hj
 have e1:j*f^(l+1)=j*f*f^l:=by rw[mO,mM (f^l) f,Nat.mul_assoc]
 have e2:j*f^(l+1)+f^(l+1)=(j*f+f)*f^l:=by rw[e1,tX,mO,mM f]
 have h2:j*f<cnt p f l:=(AO hf).mpr (by exact e1▸h1)
 have r:=O3 (p:=p) (f:=f) (l:=l) hf (min (j*f+f) (cnt p f l)-j*f) (j*f) (by omega) (by omega)
 rw[<- So hf,<- e1,show j*f+(min (j*f+f) (cnt p f l)-j*f)=min (j*f+f) (cnt p f l) by omega]at r
 have e3:min p (min (j*f+f) (cnt p f l)*f^l)=min p (j*f^(l+1)+f^(l+1)):=by
  rw[e2]
  by_cases c:j*f+f<=cnt p f l
  ·rw[qm c]
  have h3:¬cnt p f l*f^l<p:=fun z=>absurd ((AO hf).mpr z) (iY _)
  have h4:cnt p f l*f^l<=(j*f+f)*f^l:=m9 _ (by omega)
  rw[oN (by omega:cnt p f l<=j*f+f)]
  omega
 rw[e3]at r
 refine⟨fun z=>?_,r⟩
 have:=congrArg aaI z
 rw[So hf,aF,List.length_range']at this
 simp at this
 omega
section
variable{ms:List Int}{f h:Nat}(hf:2<=f)(μ:Int)
include hf
theorem IN(hl:q.1<=h)(hj:q.2<cnt ms.length f q.1):(bq (Aa ms f (h+1)) μ q=true->∃k x,q.2*f^q.1<=k/\k<min ms.length (q.2*f^q.1+f^q.1)/\ms[k]?=some x/\μ<=x)/\(bq (Aa ms f (h+1)) μ q=false->∀k x,q.2*f^q.1<=k->k<min ms.length (q.2*f^q.1+f^q.1)->ms[k]?=some x->x < μ):=by
 unfold bq
 rw[KO hl hj]
 have hw:0<f^q.1:=i_ (by exact a6 hf)
 have bU:=(AO (show 1<=f by exact a6 hf)).mp hj
 obtain⟨⟨k,a1,a2,a3⟩,b1⟩:=IL (rs:=ms) (a:=q.2*f^q.1) (b:=min ms.length (q.2*f^q.1+f^q.1)) (by omega) (by exact iE ..)
 refine⟨fun z=>⟨k,_,a1,a2,a3,of_decide_eq_true z⟩,fun z k x c1 c2 c3=>?_⟩
 have:=of_decide_eq_false z
 have:=b1 k x c1 c2 c3
 omega
theorem Ju:∀(qs:List Nd)(a e:Nat),Val ms.length f h qs->fB ms.length f qs a e->(∀q∈qs,bq (Aa ms f (h+1)) μ q=false)->∀k x,a<=k->k<e->ms[k]?=some x->x < μ
 |[],a,e,_,ht,_,k,x,h1,h2,_=>absurd (show a=e from ht) (by omega)
 |q::r,a,e,hv,ht,hq,k,x,h1,h2,h3=>by
  obtain⟨t1,t2⟩:=ht
  obtain⟨v1,v2⟩:=hv q aP
  by_cases c:k<min ms.length (q.2*f^q.1+f^q.1)
  ·exact(IN hf μ v1 v2).2 (hq q aP) k x (by exact t1▸h1) c h3
  exact Ju r _ e (fun q' h=>hv q' (aL _ h)) t2 (fun q' h=>hq q' (aL _ h)) k x (by exact iZ.mp c) h2 h3
theorem Ij:∀(qs:List Nd)(a e:Nat),Val ms.length f h qs->fB ms.length f qs a e->a<=e
 |[],a,e,_,ht=>i9 ht
 |q::r,a,e,hv,ht=>by
  obtain⟨t1,t2⟩:=ht
  obtain⟨v1,v2⟩:=hv q aP
  have bU:=(AO (show 1<=f by exact a6 hf)).mp v2
  have:=Ij r _ e (fun q' h=>hv q' (aL _ h)) t2
  omega
theorem Nw:∀(qs:List Nd)(a e:Nat)(q:Nd),Val ms.length f h qs->fB ms.length f qs a e->qs.find? (bq (Aa ms f (h+1)) μ)=some q->a<=q.2*f^q.1/\min ms.length (q.2*f^q.1+f^q.1)<=e/\∀k x,a<=k->k<q.2*f^q.1->ms[k]?=some x->x < μ
 |[],a,e,q,_,_,h=>nomatch h
 |q0::r,a,e,q,hv,ht,hq=>by
  obtain⟨t1,t2⟩:=ht
  obtain⟨v1,v2⟩:=hv q0 aP
  have bU:=(AO (show 1<=f by exact a6 hf)).mp v2
  have j_:Val ms.length f h r:=fun q' h=>hv q' (aL _ h)
  have hle:=Ij hf r _ e j_ t2
  by_cases c:bq (Aa ms f (h+1)) μ q0=true
  ·rw[act c]at hq
   cases hq
   exact⟨by exact i9 t1.symm,hle,fun k x z1 z2=>absurd z2 (by omega)⟩
  rw[u9 c]at hq
  obtain⟨z1,z2,z3⟩:=Nw r _ e q j_ t2 hq
  refine⟨by omega,z2,fun k x k1 k2 k3=>?_⟩
  by_cases c2:k<min ms.length (q0.2*f^q0.1+f^q0.1)
  ·exact(IN hf μ v1 v2).2 (by simpa using c) k x (by exact t1▸k1) c2 k3
  exact z3 k x (by exact iZ.mp c2) k2 k3
theorem Nx:∀(n:Nat)(qs:List Nd)(a e:Nat),Val ms.length f h qs->(∀q∈qs,q.1<n)->fB ms.length f qs a e->qs≠[]->∃pre q,wk (bq (Aa ms f (h+1)) μ) ms.length f n qs=pre++[q]/\q.1<=h/\q.2<cnt ms.length f q.1/\((bq (Aa ms f (h+1)) μ q=false/\∀k x,a<=k->k<e->ms[k]?=some x->x < μ)\/(q.1=0/\bq (Aa ms f (h+1)) μ q=true/\a<=q.2/\q.2<e/\(∃x,ms[q.2]?=some x/\μ<=x)/\∀k x,a<=k->k<q.2->ms[k]?=some x->x < μ))
 |0,qs,a,e,hv,hn,ht,b8=>by
  cases qs with
  |nil=>exact absurd rfl b8
  |cons q r=>exact absurd (hn q aP) (by omega)
 |n+1,qs,a,e,hv,hn,ht,b8=>by
  obtain⟨pre,q,h1,h2,h3⟩:=Ii (bq (Aa ms f (h+1)) μ) b8
  obtain⟨v1,v2⟩:=hv q h2
  rw[wk,h1]
  rcases h3 with⟨g1,g2⟩|⟨g1,g2⟩
  ·rw[g1]
   obtain⟨z1,z2,z3⟩:=Nw hf μ qs a e q hv ht g1
   obtain⟨l,j⟩:=q
   cases l with
   |zero=>
    refine⟨pre,(0,j),?_,v1,v2,.inr ⟨rfl,g2,?_⟩⟩
    ·have:wk (bq (Aa ms f (h+1)) μ) ms.length f n (fA ms.length f 0 j)=[]:=by
      cases n with
      |zero=>rfl
      |succ m=>rfl
     show pre++[(0,j)]++wk (bq (Aa ms f (h+1)) μ) ms.length f n (fA ms.length f 0 j)=_
     rw[this,iB]
    obtain⟨k,x,k1,k2,k3,k4⟩:=(IN hf μ v1 v2).1 g2
    simp only[tU,oO]at k1 k2 z1 z2 z3
    have:k=j:=by omega
    subst this
    exact⟨z1,by exact aS k2 z2,⟨x,k3,k4⟩,z3⟩
   |succ l=>
   obtain⟨c1,c2⟩:=Sq (p:=ms.length) (f:=f) (l:=l) (j:=j) (by exact a6 hf) v2
   have nj:=hn _ h2
   obtain⟨xC,q',w1,w2,w3,w4⟩:=Nx n (fA ms.length f (l+1) j) _ _ (Nv v1) (fun q hq=>by
    have:=Qr q hq
    have:l+1<n+1:=nj
    omega) c2 c1
   refine⟨pre++[(l+1,j)]++xC,q',?_,w2,w3,?_⟩
   ·show pre++[(l+1,j)]++wk (bq (Aa ms f (h+1)) μ) ms.length f n (fA ms.length f (l+1) j)=_
    rw[w1,jz,jz,jz]
   rcases w4 with⟨u1,u2⟩|⟨u1,u2,u3,u4,u5,u6⟩
   ·obtain⟨k,x,k1,k2,k3,k4⟩:=(IN hf μ v1 v2).1 g2
    have:=u2 k x k1 k2 k3
    exact absurd k4 (i5.mpr this)
   refine .inr ⟨u1,u2,?_,?_,u5,fun k x k1 k2 k3=>?_⟩
   ·exact aS z1 u3
   ·exact gQ u4 z2
   by_cases c:k<j*f^(l+1)
   ·exact z3 k x k1 c k3
   exact u6 k x (by exact iZ.mp c) k2 k3
  rw[g1]
  refine⟨pre,q,by rw[iB],v1,v2,.inl ⟨g2,?_⟩⟩
  exact Ju hf μ qs a e hv ht (fun q' mf=>by
   have:=List.find?_eq_none.mp g1 q' mf
   simpa using this)
end
theorem Hy(f:Nat):AT.den [Ac [],.int f]=.ok (aA 0 f):=by
 have h0:Br.den [.lst []]=.ok (.lst []):=by
  have h1:=J3 (.lst []) rfl
  refine gO ?_
  simp_arith[Cb,h1]
 refine gO ?_
 unfold aA
 show _=Out.ret (.tup [.int 0,.int f])
 rw[show Ac []=.lst [] from rfl]
 simp_arith[DZ,h0,vD]
theorem N9(f:Nat)(q:Int):Fa.den [Ac [],.int f,.int q,.int 0]=.ok (.lst []):=by
 have hs:=Hy f
 have hc:=GZ 0 f 0 (bx _)
 have h1:=Hn (.lst []) rfl
 have hl:AR (tv (.cmp .ne (.nm 6) (.lst .nil))) (exs BN) FU [some (Ac []),some (.int f),some (.int q),some (.int 0),some (aA 0 f),some (.lst []),some (.lst []),none]=.bb [some (Ac []),some (.int f),some (.int q),some (.int 0),some (aA 0 f),some (.lst []),some (.lst []),none]:=by
  unfold FU
  exact Cf (by simp_arith[h1])
 refine gO ?_
 unfold aA at *
 rw[show((0:Nat):Int)=0 from rfl]at *
 simp_arith[Ge,hs,hc,hl]
theorem AaA:bz (xs++[d]) (-1)=.ok d:=by
 unfold bz dE
 rw[if_neg (by decide),eP,if_pos (by simp;omega)]
 show(match (xs++[d])[((-1:Int)+((xs.length + [d].length:Nat):Int)).toNat]? with|some d=>Res.ok d|none=>Res.bad)=_
 rw[show((-1:Int)+((xs.length + [d].length:Nat):Int)).toNat=xs.length by simp;omega]
 simp
abbrev aV:Option Nat->D
 |none=>.aJ
 |some k=>.int k
abbrev mi(ms:List Int)(μ:Int)(a:Nat):Option Nat->Prop
 |none=>∀(k:Nat)(x:Int),a<=k->ms[k]?=some x->x < μ
 |some j=>a<=j/\(∃x:Int,ms[j]?=some x/\μ<=x)/\∀(k:Nat)(x:Int),a<=k->k<j->ms[k]?=some x->x < μ
theorem O4{ms:List Int}{μ:Int}{a:Nat}:∀{o o':Option Nat},mi ms μ a o->mi ms μ a o'->o=o'
 |none,none,_,_=>rfl
 |none,some j,h,⟨h1,⟨x,h2,h3⟩,_⟩=>by have:=h j x h1 h2;exact absurd h3 (i5.mpr this)
 |some j,none,⟨h1,⟨x,h2,h3⟩,_⟩,h=>by have:=h j x h1 h2;exact absurd h3 (i5.mpr this)
 |some i,some j,⟨h1,⟨x,h2,h3⟩,h4⟩,⟨g1,⟨y,g2,g3⟩,g4⟩=>by
  rcases Nat.lt_trichotomy i j with c|c|c
  ·have:=g4 i x h1 c h2;exact absurd h3 (i5.mpr this)
  ·rw[c]
  have:=h4 j y g1 c g2;exact absurd g3 (i5.mpr this)
theorem Oa{a b:Int}(h:a<b):Ay a b=.int a::Ay (a+1) b:=by
 unfold Ay
 rw[show(b-a).toNat=(b-(a+1)).toNat+1 by omega,zD,cT,bH]
 congr 1
 ·show D.int (a+0)=_;rw[Int.add_zero]
 apply fN
 intro k _
 show D.int (a+((k+1:Nat):Int))=D.int (a+1+(k:Int))
 congr 1
 omega
theorem Ob{a b:Int}(h:b<=a):Ay a b=[]:=by
 unfold Ay
 rw[show(b-a).toNat=0 by omega];rfl
section
variable{ms:List Int}{f h:Nat}(hf:2<=f)(av:f<=8)(H:Hs ms.length f h)(hh:h<=8)(hn:ms.length<=200)(μ:Int)
include hf av H hh hn
theorem Sr{a:Nat}(ha:a<ms.length):∃o,Cn.den [Ac (Aa ms f (h+1)),.int f,.int μ,.int a]=.ok (aV o)/\mi ms μ a o:=by
 have hd:=BG ms f h
 have hw:=Qs hd μ hf av H hh hn (a:=a) (by exact a6 ha)
 have ht:=KP (p:=ms.length) (f:=f) (h:=h) (e:=ms.length) (by exact a6 hf) (bx _) 200 a (by exact aS (Nat.sub_le ..) hn) (by exact a6 ha)
 have hv:=EK (p:=ms.length) (f:=f) (h:=h) (e:=ms.length) (by exact a6 hf) (bx _) 200 a
 have b8:c6 ms.length f h ms.length 200 a≠[]:=by
  rw[c6,if_pos ha]
  exact List.cons_ne_nil _ _
 obtain⟨pre,⟨l,j⟩,w1,w2,w3,w4⟩:=Nx (ms:=ms) (h:=h) hf μ (h+1) _ a ms.length hv (fun q hq=>by
  have:=(hv q hq).1
  exact kn this) ht b8
 have w1:xB (Aa ms f (h+1)) ms.length f h μ a=pre++[(l,j)]:=w1
 rw[w1,aax]at hw
 have hw:Fa.den [Ac (Aa ms f (h+1)),.int f,.int μ,.int a]=.ok (.lst (pre.map Ad++[.tup [.int l,.int j]])):=hw
 have qR:=DR hd w2 w3
 unfold Al at qR
 have hm:=AaA (xs:=pre.map Ad) (d:=.tup [.int l,.int j])
 have ig:=BK (pre.map Ad++[.tup [.int l,.int j]]) (by
  rw[cz]
  intro d hd
  rcases bw.mp hd with hd|hd
  ·obtain⟨q,_,rfl⟩:=a8.mp hd
   rfl
  rw[gp.mp hd];rfl)
 rw[show(pre.map Ad++[D.tup [.int l,.int j]]).isEmpty=false by cases pre<;>rfl]at ig
 refine⟨if bq (Aa ms f (h+1)) μ (l,j)=true then some j else none,gO ?_,?_⟩
 ·have dF:bq (Aa ms f (h+1)) μ (l,j)=decide (μ<=tl (Aa ms f (h+1)) l j):=rfl
  rw[dF]
  clear w4 dF w1 hd
  generalize tl (Aa ms f (h+1)) l j=x at *
  generalize Ac (Aa ms f (h+1))=T at *
  generalize pre.map Ad++[D.tup [.int l,.int j]]=W at *
  by_cases c:μ<=x
  ·rw[if_pos (decide_eq_true c)]
   have c':¬x < μ:=by exact qu.mpr c
   unfold aV
   simp_arith[CW,hw,ig,hm,qR,c']
  rw[if_neg (by rw[decide_eq_true_eq];exact c)]
  have c':x < μ:=by exact i5.mp c
  unfold aV
  simp_arith[CW,hw,ig,hm,qR,c']
 rcases w4 with⟨u1,u2⟩|⟨u1,u2,u3,u4,u5,u6⟩
 ·rw[u1,if_neg (by decide)]
  intro k x ha hk
  exact u2 k x ha ((gP.mp hk).1) hk
 rw[u2,if_pos rfl]
 exact⟨u3,u5,u6⟩
theorem Oc{a:Nat}(ha:a<ms.length):∃o,FB.den [Ac (Aa ms f (h+1)),.int f,.int μ,.int a]=.ok (aV o)/\mi ms μ a o:=by
 obtain⟨o,h1,h2⟩:=Sr hf av H hh hn μ ha
 refine⟨o,gO ?_,h2⟩
 have hs:=B3 (BG ms f h)
 have hb:=Bz (a:Int) 0 ((ms.length:Int)-1)
 rw[decide_eq_true (by omega)]at hb
 have hc:Hv.den [aA ms.length f,.int a]=.ok .aJ:=by
  refine(Ci rfl).trans ?_
  unfold aA
  simp_arith[Gc,hb,run]
 clear h2
 generalize Ac (Aa ms f (h+1))=T at *
 generalize aA ms.length f=s at *
 generalize aV o=d at *
 simp_arith[Ic,hs,hc,h1]
end
theorem O5(o:Option Nat):D.flat 9 0 (aV o)=true:=by cases o<;>rfl
abbrev Eo(rs:List Int)(q:Int):List Int:=rs.filter fun x=>decide (q<=x)
theorem O6{v:Int}:∀{ns:List Int},v∈ns->∃j,Eu v ns=some j
 |[],h=>nomatch h
 |x::r,h=>by
  rw[Eu]
  by_cases c:x=v
  ·exact⟨0,by rw[if_pos c]⟩
  rw[if_neg c]
  rcases bB.mp h with rfl|h
  ·exact absurd rfl c
  obtain⟨j,e⟩:=O6 h
  exact⟨j+1,by rw[e];rfl⟩
theorem Su{v:Int}:∀{ns:List Int}{j:Nat},Eu v ns=some j->ns[j]?=some v/\∀m,m<j->ns[m]?≠some v
 |[],j,h=>nomatch h
 |x::r,j,h=>by
  rw[Eu]at h
  split at h
  ·rename_i c
   cases h
   exact⟨by rw[c];rfl,fun m hm=>absurd hm (by exact absurd hm (vy _))⟩
  rename_i c
  obtain⟨i,h1,rfl⟩:=fP.mp h
  obtain⟨h2,h3⟩:=Su h1
  refine⟨by simpa using h2,fun m hm=>?_⟩
  cases m with
  |zero=>intro z;cases z;exact c rfl
  |succ m=>
  have:=h3 m (by exact m_ hm)
  simpa using this
theorem Zc{rs:List Int}{v:Int}{j:Nat}(h:Eu v rs=some j):qF .index (.lst (rs.map .int)) [.int v]=.ok (.int j):=by
 show(AG (AJ (rs.map .int))).bind _=_
 rw[Em]
 show(AG (Eu v rs)).bind _=_
 rw[h];rfl
theorem UB(xs:List Int):(xs.map D.int).all (D.aX 7)=true:=by
 rw[cz]
 intro d hd
 obtain⟨x,rfl⟩:=Ek hd
 rfl
theorem Qt(rs:List Int)(q:Int):((rs.map D.int).filter fun d=>match d with|.int r=>decide (q<=r)|_=>false).map (fun d=>d)=(Eo rs q).map .int:=by
 unfold Eo
 rw[List.map_id',tP];rfl
structure iP where
 l:Int
 j:Int
 t:Int
abbrev AW(q:iP):D:=.tup [.int q.l,.int q.j,.int q.t]
abbrev m5(p h:Nat):Nat:=if p=0 then 0 else h+1
abbrev jq(p f h:Nat):List Nat:=if p=0 then [] else fo p f h
abbrev Cg(p f h:Nat)(l j:Int):Bool:=decide (0<=l/\l<m5 p h/\0<=j/\j<cnt p f l.toNat)
theorem O7(p f h:Nat):(jq p f h).length=m5 p h:=by
 unfold jq m5
 split
 ·rfl
 rw[CD]
theorem E4{α:Type}(g:α->Bool):∀xs:List α,AM (xs.map fun x=>.bl (g x))=some (xs.map g)
 |[]=>rfl
 |x::r=>by rw[cT,AM,E4 g r];rfl
section
variable{p f h:Nat}(S:Sp p f h)
include S
theorem Od:B7.den [aA p f]=.ok (AA (jq p f h)):=by
 unfold jq
 rcases S.hs with h0|H
 ·subst h0;rw[if_pos rfl];exact N6 f
 have:=H.one
 have h1:=Fc (p:=p) (f:=f) (l:=h) (by have:=S.hf;exact a6 this)
 rw[if_neg (by omega)]
 exact El S.hf S.av H S.hh
theorem Oe:BQ.den [.int p,.int f]=.ok (AA (jq p f h)):=by
 unfold jq
 rcases S.hs with h0|H
 ·subst h0;rw[if_pos rfl];exact N8 f
 have:=H.one
 have h1:=Fc (p:=p) (f:=f) (l:=h) (by have:=S.hf;exact a6 this)
 rw[if_neg (by omega)]
 exact Qm S.hf S.av H S.hh (by exact this▸h1)
theorem Ny{l:Nat}(hl:l<m5 p h):bz ((jq p f h).map iN) (l:Int)=.ok (.int (cnt p f l)):=by
 unfold m5 at hl
 unfold jq
 split at hl
 ·exact absurd hl (vy _)
 rename_i h0
 rw[if_neg h0]
 have h3:=Nn (xs:=fo p f h) (i:=l) (by rw[CD];omega)
 rw[II (by exact m_ hl)]at h3
 exact h3
theorem UC(l j:Int):Fw.den [aA p f,.tup [.int l,.int j]]=.ok (.bl (Cg p f h l j)):=by
 have h1:=Od S
 have hl:=O7 p f h
 have b1:=Bz l 0 (((jq p f h).length:Int)-1)
 rw[hl]at b1
 have h2:Be.den [AA (jq p f h),.tup [.int l,.int j]]=.ok (.bl (Cg p f h l j)):=by
  refine gO ?_
  by_cases c1:0<=l/\l<m5 p h
  ·rw[decide_eq_true (by omega)]at b1
   have h3:=Ny S (l:=l.toNat) (by omega)
   rw[mP c1.1]at h3
   have b2:=Bz j 0 ((cnt p f l.toNat:Int)-1)
   have e:Cg p f h l j=decide (0<=j/\j<=(cnt p f l.toNat:Int)-1):=by
    unfold Cg
    rw[decide_eq_decide];omega
   rw[e]
   unfold AA
   simp_arith[Bk,aF,hl,b1,h3,b2]
  rw[decide_eq_false (by omega)]at b1
  have e:Cg p f h l j=false:=by unfold Cg;rw[decide_eq_false_iff_not];omega
  rw[e]
  unfold AA
  simp_arith[Bk,aF,hl,b1]
 refine gO ?_
 simp_arith[Gw,h1,h2]
theorem Sv{l j:Int}(h1:Cg p f h l j=true):∃a b:Nat,l=a/\j=b/\a<=h/\b<cnt p f a/\p≠0:=by
 have h2:=of_decide_eq_true h1
 have:p≠0:=fun z=>by
  have:=h2.2.1
  unfold m5 at this
  rw[if_pos z]at this
  omega
 refine⟨l.toNat,j.toNat,by omega,by omega,?_,by omega,this⟩
 have:=h2.2.1
 unfold m5 at this
 rw[if_neg (by assumption)]at this
 omega
abbrev jr(f:Nat)(l j:Int):Int:=((j.toNat * f^l.toNat:Nat):Int)
abbrev m6(p f:Nat)(l j:Int):Int:=((min p (j.toNat * f^l.toNat+f^l.toNat):Nat):Int)
theorem Sw{l j:Int}(h1:Cg p f h l j=true):BV.den [aA p f,.tup [.int l,.int j]]=.ok (.tup [.int (jr f l j),.int (m6 p f l j)]):=by
 obtain⟨a,b,rfl,rfl,h2,h3,h4⟩:=Sv S h1
 rcases S.hs with h0|H
 ·exact absurd h0 h4
 exact Jm S.hf S.av H S.hh h2 h3
theorem Qu{l j:Int}(h1:Cg p f h l j=true):DF.den [.int p,.int f,.int l,.int j]=.ok (.tup [.int (jr f l j),.int (m6 p f l j)]):=by
 obtain⟨a,b,rfl,rfl,h2,h3,h4⟩:=Sv S h1
 have:=S.hh
 exact Se p f a b S.av (by exact aS h2 this)
abbrev lo(p f h:Nat):List iP->Int->Option Int
 |[],r=>some r
 |q::qs,r=>if Cg p f h q.l q.j=true/\jr f q.l q.j=r then lo p f h qs (m6 p f q.l q.j) else none
theorem O8(pg pa:D):∀(qs:List iP)(r:Int)(o4 o5:Option D),∃p9 uR,Bc (.nm 4) (exs Ba) (qs.map AW) [some (aA p f),some pg,some pa,some (.int r),o4,o5]=match lo p f h qs r with
  |none=>.ret (.bl false)
  |some r'=>.bb [some (aA p f),some pg,some pa,some (.int r'),p9,uR]
 |[],r,o4,o5=>⟨o4,o5,rfl⟩
 |q::qs,r,o4,o5=>by
  have hn:=UC S q.l q.j
  rw[cT,Bc,lo]
  show ∃p9 uR,(exs Ba [some (aA p f),some pg,some pa,some (.int r),some (AW q),o5]).then _=_
  by_cases c1:Cg p f h q.l q.j=true
  ·have hs:=Sw S c1
   rw[c1]at hn
   by_cases c2:jr f q.l q.j=r
   ·rw[if_pos ⟨c1,c2⟩]
    have d2:(jr f q.l q.j==r)=true:=beq_iff_eq.mpr c2
    have e:exs Ba [some (aA p f),some pg,some pa,some (.int r),some (AW q),o5]=.bb [some (aA p f),some pg,some pa,some (.int (m6 p f q.l q.j)),some (AW q),some (.tup [.int q.l,.int q.j])]:=by
     unfold AW
     simp_arith[Ba,Jp,Jq,hn,hs,d2]
    rw[e,Out.then_nxt]
    exact O8 pg pa qs _ _ _
   rw[if_neg (fun z=>c2 z.2)]
   have d2:(jr f q.l q.j==r)=false:=beq_eq_false_iff_ne.mpr c2
   refine⟨none,none,?_⟩
   unfold AW
   simp_arith[Ba,Jp,Jq,hn,hs,d2]
  rw[if_neg (fun z=>c1 z.1)]
  have c1':Cg p f h q.l q.j=false:=by simpa using c1
  rw[c1']at hn
  refine⟨none,none,?_⟩
  unfold AW
  simp_arith[Ba,Jp,Jq,hn]
theorem KQ(qs:List iP)(b e:Int):CT.den [aA p f,.tup [.int b,.int e],.lst (qs.map AW)]=.ok (.bl (lo p f h qs b==some e)):=by
 obtain⟨o4,o5,hl⟩:=O8 S (.tup [.int b,.int e]) (.lst (qs.map AW)) qs b none none
 refine gO ?_
 cases q:lo p f h qs b with
 |none=>
  rw[q]at hl
  show _=Out.ret (.bl false)
  simp_arith[EZ,hl]
 |some r=>
 rw[q]at hl
 have e1:((some r:Option Int)==some e)=(r==e):=rfl
 rw[e1]
 simp_arith[EZ,hl]
theorem Nz(need:Int)(qs:List iP)(b e:Int):BX.den [aA p f,.int need,.tup [.int b,.int e],.lst (qs.map AW)]=.ok (.bl (lo p f h qs b==some e&&qs.all fun q=>decide (q.t<need))):=by
 have h1:=KQ S qs b e
 refine gO ?_
 cases c:(lo p f h qs b==some e) with
 |false=>
  rw[c]at h1
  rw[aa0]
  simp_arith[E0,h1]
 |true=>
 rw[c]at h1
 rw[aa4]
 have h2:=Ax (nl:=1) (fr:=[1]) (tg:=.nm 0) (it:=.seq (.nm 3)) (elt:=.cmp .lt (.ix (.nm 0) (.cI 2)) (.nm 1)) (δ:=[some (aA p f),some (.int need),some (.tup [.int b,.int e]),some (.lst (qs.map AW))]) (ds:=qs.map AW) (g:=fun d=>match d with|.tup [_,_,.int t]=>.bl (decide (t<need))|d=>d) (by simp_arith[]) (fun d hd=>by
  obtain⟨q,_,rfl⟩:=a8.mp hd
  refine⟨[some (AW q),some (.int need)],rfl,?_⟩
  unfold AW
  simp_arith[Np])
 have e1:(qs.map AW).map (fun d=>match d with|.tup [_,_,.int t]=>D.bl (decide (t<need))|d=>d)=qs.map fun q=>.bl (decide (q.t<need)):=by
  rw[bH];rfl
 rw[e1]at h2
 have h3:=E4 (fun q:iP=>decide (q.t<need)) qs
 have h4:((qs.map fun q:iP=>decide (q.t<need)).all id)=qs.all fun q=>decide (q.t<need):=by
  rw[mK];rfl
 simp_arith[]at h2
 simp_arith[E0,h1,h2,h3,AG,h4]
end
section
variable{p f h:Nat}(S:Sp p f h)
include S
abbrev p_(p f h:Nat)(need:Int):List iP->Int->Option Int
 |[],r=>some r
 |q::qs,r=>if Cg p f h q.l q.j=true/\q.t<need/\jr f q.l q.j=r then p_ p f h need qs (m6 p f q.l q.j) else none
theorem Sx(need:Int)(e:Int):∀(qs:List iP)(r:Int),(p_ p f h need qs r==some e)=(lo p f h qs r==some e&&qs.all fun q=>decide (q.t<need))
 |[],r=>by simp[p_,lo]
 |q::qs,r=>by
  rw[p_,lo,eR]
  by_cases c:Cg p f h q.l q.j=true/\jr f q.l q.j=r
  ·rw[if_pos c]
   by_cases c2:q.t<need
   ·rw[if_pos ⟨c.1,c2,c.2⟩,Sx need e qs,decide_eq_true c2,aa4]
   rw[if_neg (fun z=>c2 z.2.1),decide_eq_false c2,aa0,ab7];rfl
  rw[if_neg c,if_neg (fun z=>c ⟨z.1,z.2.2⟩)];rfl
theorem NA(need:Int)(pa b e:D):∀(qs:List iP)(r:Int)(o8 o9 tf qa m7:Option D),∃o8' o9' tj tm tq,Bc (.tp [8,9,10]) (exs Aw) (qs.map AW) [some (.int p),some (.int f),some (.int need),some pa,some b,some e,some (AA (jq p f h)),some (.int r),o8,o9,tf,qa,m7]=match p_ p f h need qs r with
  |none=>.ret (.bl false)
  |some r'=>.bb [some (.int p),some (.int f),some (.int need),some pa,some b,some e,some (AA (jq p f h)),some (.int r'),o8',o9',tj,tm,tq]
 |[],r,o8,o9,tf,qa,m7=>⟨o8,o9,tf,qa,m7,rfl⟩
 |q::qs,r,o8,o9,tf,qa,m7=>by
  have hl:=O7 p f h
  rw[cT,Bc,p_]
  show ∃o8' o9' tj tm tq,(exs Aw [some (.int p),some (.int f),some (.int need),some pa,some b,some e,some (AA (jq p f h)),some (.int r),some (.int q.l),some (.int q.j),some (.int q.t),qa,m7]).then _=_
  by_cases c1:Cg p f h q.l q.j=true
  ·have h2:=of_decide_eq_true c1
   have hr:=Qu S c1
   have h3:=Ny S (l:=q.l.toNat) (by omega)
   rw[mP h2.1]at h3
   have d1:=h2.1
   have d2:=h2.2.1
   have d3:=h2.2.2.1
   have d4:=h2.2.2.2
   by_cases c2:q.t<need
   ·have kd:¬need<=q.t:=by exact i5.mpr c2
    by_cases c3:jr f q.l q.j=r
    ·rw[if_pos ⟨c1,c2,c3⟩]
     have d5:(jr f q.l q.j==r)=true:=beq_iff_eq.mpr c3
     have ee:exs Aw [some (.int p),some (.int f),some (.int need),some pa,some b,some e,some (AA (jq p f h)),some (.int r),some (.int q.l),some (.int q.j),some (.int q.t),qa,m7]=.bb [some (.int p),some (.int f),some (.int need),some pa,some b,some e,some (AA (jq p f h)),some (.int (m6 p f q.l q.j)),some (.int q.l),some (.int q.j),some (.int q.t),some (.int (jr f q.l q.j)),some (.int (m6 p f q.l q.j))]:=by
      unfold AA
      simp_arith[Aw,aF,hl,h3,d1,d2,d3,d4,kd,hr,IJ,d5]
     rw[ee,Out.then_nxt]
     exact NA need pa b e qs _ _ _ _ _ _
    rw[if_neg (fun z=>c3 z.2.2)]
    have d5:(jr f q.l q.j==r)=false:=beq_eq_false_iff_ne.mpr c3
    refine⟨none,none,none,none,none,?_⟩
    unfold AA
    simp_arith[Aw,aF,hl,h3,d1,d2,d3,d4,kd,hr,IJ,d5]
   rw[if_neg (fun z=>c2 z.2.1)]
   have kd:need<=q.t:=by exact qu.mp c2
   refine⟨none,none,none,none,none,?_⟩
   unfold AA
   simp_arith[Aw,aF,hl,h3,d1,d2,d3,d4,kd]
  rw[if_neg (fun z=>c1 z.1)]
  refine⟨none,none,none,none,none,?_⟩
  unfold Cg at c1
  rw[decide_eq_true_eq]at c1
  by_cases d1:0<=q.l
  ·by_cases d2:q.l<m5 p h
   ·have h3:=Ny S (l:=q.l.toNat) (by omega)
    rw[mP d1]at h3
    by_cases d3:0<=q.j
    ·have d4:¬q.j<cnt p f q.l.toNat:=fun z=>c1 ⟨d1,d2,d3,z⟩
     unfold AA
     simp_arith[Aw,aF,hl,h3,d1,d2,d3,d4]
    unfold AA
    simp_arith[Aw,aF,hl,h3,d1,d2,d3]
   unfold AA
   simp_arith[Aw,aF,hl,d1,d2]
  unfold AA
  simp_arith[Aw,aF,hl,d1]
theorem WZ(need:Int)(qs:List iP)(b e:Int):EF.den [.int p,.int f,.int need,.lst (qs.map AW),.int b,.int e]=.ok (.bl (lo p f h qs b==some e&&qs.all fun q=>decide (q.t<need))):=by
 rw[<- Sx S need e]
 have hc:=Oe S
 obtain⟨o8,o9,tf,qa,m7,hl⟩:=NA S need (.lst (qs.map AW)) (.int b) (.int e) qs b none none none none none
 refine gO ?_
 cases q:p_ p f h need qs b with
 |none=>
  rw[q]at hl
  show _=Out.ret (.bl false)
  simp_arith[DA,hc,hl]
 |some r=>
 rw[q]at hl
 have e1:((some r:Option Int)==some e)=(r==e):=rfl
 rw[e1]
 simp_arith[DA,hc,hl]
end
theorem AaB(p:Nat)(o:Option Nat):JY.den [aV o,.int p]=.ok (.int (o.getD p:Nat)):=by
 refine gO ?_
 cases o with
 |none=>
  unfold aV
  simp_arith[Gy,tY]
 |some k=>
 unfold aV
 simp_arith[Gy,tY]
theorem G0(p f:Nat)(b:Int)(o:Option Nat):AN.den [aA p f,.int b,aV o]=.ok (.tup [.int b,.int (o.getD p:Nat)]):=by
 refine gO ?_
 cases o with
 |none=>
  unfold aV aA
  simp_arith[Dv,tY]
 |some k=>
 unfold aV aA
 simp_arith[Dv,tY]
theorem LE{rs:List Int}{q:Int}(pg:D):∀(m a:Nat),rs.length-a=m->a<=rs.length->∀o3:Option D,∃o,mi rs q a o/\∃uS,Bc (.nm 3) (exs A6) (Ay a rs.length) [some (Ae rs),some (.int q),some pg,o3]=match o with
  |some k=>.ret (.int k)
  |none=>.bb [some (Ae rs),some (.int q),some pg,uS]
 |0,a,h1,h2,o3=>by
  refine⟨none,fun k x k1 k2=>?_,o3,?_⟩
  ·have:=(gP.mp k2).1
   omega
  rw[Ob (by omega)];rfl
 |m+1,a,h1,h2,o3=>by
  have ha:a<rs.length:=by omega
  have iO:=Aay ha
  have j5:rs[a]?=some (rs.getD a 0):=by rw[iX,d_ ha];rfl
  rw[Oa (by exact gS.mpr ha),Bc]
  show ∃o,mi rs q a o/\∃uS,(exs A6 [some (Ae rs),some (.int q),some pg,some (.int a)]).then _=_
  by_cases c:q<=rs.getD a 0
  ·refine⟨some a,⟨bx _,⟨_,j5,c⟩,fun k x k1 k2=>absurd k1 (by exact Nat.not_le.mpr k2)⟩,none,?_⟩
   unfold Ae
   clear j5
   generalize rs.map D.int=R at *
   generalize rs.getD a 0=r at *
   simp_arith[A6,iO,c]
  obtain⟨o,f1,uS,e⟩:=LE (rs:=rs) (q:=q) pg m (a+1) (by omega) (by exact ha) (some (.int a))
  have st:exs A6 [some (Ae rs),some (.int q),some pg,some (.int a)]=.bb [some (Ae rs),some (.int q),some pg,some (.int a)]:=by
   unfold Ae
   clear j5 e f1
   generalize rs.map D.int=R at *
   generalize rs.getD a 0=r at *
   simp_arith[A6,iO,c]
  refine⟨o,?_,uS,?_⟩
  ·cases o with
   |none=>
    intro k x k1 k2
    by_cases ck:k=a
    ·subst ck;rw[j5]at k2;cases k2;exact i5.mp c
    exact f1 k x (by exact rg k1 (Ne.symm ck)) k2
   |some j=>
   obtain⟨g1,g2,g3⟩:=f1
   refine⟨by exact a6 g1,g2,fun k x k1 k2 k3=>?_⟩
   by_cases ck:k=a
   ·subst ck;rw[j5]at k3;cases k3;exact i5.mp c
   exact g3 k x (by exact rg k1 (Ne.symm ck)) k2 k3
  rw[st,Out.then_nxt];exact e
theorem Jv(rs:List Int)(q:Int)(hn:rs.length<=200){a:Nat}(ha:a<=rs.length):∃o,mi rs q a o/\AS.den [Ae rs,.int q,.int a]=.ok (aV o):=by
 obtain⟨o,h1,o3,e⟩:=LE (rs:=rs) (q:=q) (.int a) _ a rfl ha none
 have r1:=FQ (a:=a) (b:=rs.length) (by exact gq _) (by exact q9L ha hn (by decide)) (by exact gq _) (by exact pY hn (by decide))
 have hlen:(((rs.map D.int).length:Nat):Int)=(rs.length:Int):=by rw[aF]
 refine⟨o,h1,gO ?_⟩
 unfold Ae at *
 generalize rs.map D.int=R at *
 generalize Ay a rs.length=G at *
 cases o with
 |none=>
  unfold aV
  simp_arith[Db,hlen,r1,e]
 |some k=>
 unfold aV
 simp_arith[Db,hlen,r1,e]
abbrev Au(tr:List (List Int))(q:Nat×Nat):D:=.tup [.int q.1,.int q.2,.int (tl tr q.1 q.2)]
section
variable{rs:List Int}{f h:Nat}(hf:2<=f)(av:f<=8)(H:Hs rs.length f h)(hh:h<=8)(hn:rs.length<=200)
include hf av H hh hn
theorem Zd{qs:List (Nat×Nat)}(hv:∀q∈qs,q.1<=h/\q.2<cnt rs.length f q.1):BW.den [Ac (Aa rs f (h+1)),.lst (qs.map Ad)]=.ok (.lst (qs.map (Au (Aa rs f (h+1))))):=by
 have hd:=BG rs f h
 have hc:=Ax (nl:=1) (fr:=[0]) (tg:=.nm 0) (it:=.seq (.nm 1)) (elt:=.tup (.cons (.ix (.nm 0) (.cI 0)) (.cons (.ix (.nm 0) (.cI 1)) (.cons (.call AU (.cons (.nm 1) (.cons (.nm 0) .nil))) .nil)))) (δ:=[some (Ac (Aa rs f (h+1))),some (.lst (qs.map Ad))]) (ds:=qs.map Ad) (g:=fun d=>match d with|.tup [.int a,.int c]=>Au (Aa rs f (h+1)) (a.toNat,c.toNat)|d=>d) (by
   generalize qs.map Ad=CV at *
   simp_arith[]) (fun d ey=>by
  obtain⟨⟨a,c⟩,hm,rfl⟩:=a8.mp ey
  obtain⟨v1,v2⟩:=hv _ hm
  have ht:=DR hd v1 v2
  have ht:AU.den [Ac (Aa rs f (h+1)),.tup [.int a,.int c]]=.ok (.int (tl (Aa rs f (h+1)) a c)):=ht
  refine⟨[some (.tup [.int a,.int c]),some (Ac (Aa rs f (h+1)))],rfl,?_⟩
  show _=Res.ok (D.tup [.int (((a:Int).toNat:Nat):Int),.int (((c:Int).toNat:Nat):Int),.int (tl (Aa rs f (h+1)) (a:Int).toNat (c:Int).toNat)])
  simp only[gR]
  generalize tl (Aa rs f (h+1)) a c=B at *
  generalize Ac (Aa rs f (h+1))=T at *
  simp_arith[ht])
 rw[bH]at hc
 refine gO ?_
 have ee:qs.map ((fun d=>match d with|D.tup [.int a,.int c]=>Au (Aa rs f (h+1)) (a.toNat,c.toNat)|d=>d) ∘ Ad)=qs.map (Au (Aa rs f (h+1))):=by
  apply fN
  intro q _
  show Au _ (((q.1:Int)).toNat,((q.2:Int)).toNat)=_
  rw[gR,gR]
 rw[ee]at hc
 generalize hC:E.ao 1 [0] (.nm 0) (.seq (.nm 1)) (.tup (.cons (.ix (.nm 0) (.cI 0)) (.cons (.ix (.nm 0) (.cI 1)) (.cons (.call AU (.cons (.nm 1) (.cons (.nm 0) .nil))) .nil))))=C at *
 rw[EW,hC]
 generalize qs.map (Au (Aa rs f (h+1)))=PP at *
 generalize qs.map Ad=CV at *
 generalize Ac (Aa rs f (h+1))=T at *
 simp_arith[hc]
theorem U8{b e:Nat}(hb:b<=e)(he:e<=rs.length):Co.den [Ac (Aa rs f (h+1)),.int f,.tup [.int b,.int e]]=.ok (.lst ((c6 rs.length f h e 200 b).map (Au (Aa rs f (h+1))))):=by
 have hs:=B3 (BG rs f h)
 have xD:EC.den [aA rs.length f,.int b,.int e]=.ok (.lst ((c6 rs.length f h e 200 b).map Ad)):=Lx hf av H hh hb he hn
 have hw:=Zd hf av H hh hn (EK (h:=h) (show 1<=f by exact a6 hf) he 200 b)
 refine gO ?_
 generalize (c6 rs.length f h e 200 b).map (Au (Aa rs f (h+1)))=PP at *
 generalize (c6 rs.length f h e 200 b).map Ad=CV at *
 generalize Ac (Aa rs f (h+1))=T at *
 generalize aA rs.length f=s at *
 simp_arith[D7,hs,xD,hw]
end
theorem uT(a b c:D):bz [a,b,c] 0=.ok a:=rfl
theorem b31(a b c:D):bz [a,b,c] 1=.ok b:=rfl
theorem qS(a b c:D):bz [a,b,c] 2=.ok c:=rfl
theorem qT(a b:D):bz [a,b] 0=.ok a:=rfl
theorem xE(a b:D):bz [a,b] 1=.ok b:=rfl
theorem UD{p f h e:Nat}:∀n a,(c6 p f h e n a).length<=n
 |0,a=>bx _
 |n+1,a=>by
  rw[c6]
  split
  ·have:=UD (p:=p) (f:=f) (h:=h) (e:=e) n (mY p f h e a)
   simp only[jS];exact kn this
  simp
abbrev Ik(tr:List (List Int))(o:Option Nat)(qs:List (Nat×Nat)):D:=.tup [aV o,.lst (qs.map (Au tr))]
section
variable{rs:List Int}{f h:Nat}(hf:2<=f)(av:f<=8)(H:Hs rs.length f h)(hh:h<=8)(hn:rs.length<=200)
include hf av H hh hn
theorem Mj{q:Int}{a:Nat}(ha:a<rs.length){o:Option Nat}(F:mi rs q a o):a<=o.getD rs.length/\o.getD rs.length<=rs.length:=by
 cases o with
 |none=>exact⟨by show a<=rs.length;exact a6 ha,bx _⟩
 |some j=>
 obtain⟨g1,⟨x,g2,_⟩,_⟩:=F
 have:=(gP.mp g2).1
 exact⟨g1,by show j<=rs.length;exact a6 this⟩
theorem Abo(q:Int){a:Nat}(ha:a<rs.length):∃o,mi rs q a o/\FB.den [Ac (Aa rs f (h+1)),.int f,.int q,.int a]=.ok (aV o)/\BE.den [Ac (Aa rs f (h+1)),.int f,.int q,.int a]=.ok (Ik (Aa rs f (h+1)) o (c6 rs.length f h (o.getD rs.length) 200 a)):=by
 have hs:=B3 (BG rs f h)
 obtain⟨o,hfu,F⟩:=Oc hf av H hh hn q ha
 have ho:=Mj hf av H hh hn ha F
 have nL:=G0 rs.length f a o
 have nM:=U8 hf av H hh hn ho.1 ho.2
 have d1:FB.dep=0:=rfl
 have d3:AN.dep=0:=rfl
 have g1:=O5 o
 have g3:∀x y:Int,D.flat 9 0 (.tup [.int x,.int y])=true:=fun x y=>rfl
 refine⟨o,F,hfu,gO ?_⟩
 unfold Ik
 generalize (c6 rs.length f h (o.getD rs.length) 200 a).map (Au (Aa rs f (h+1)))=P1 at *
 generalize Ac (Aa rs f (h+1))=T at *
 generalize ((o.getD rs.length:Nat):Int)=e at *
 generalize aA rs.length f=s at *
 generalize aV o=O at *
 simp_arith[D8,hfu,d1,g1,hs,nL,d3,g3,nM]
end
abbrev Jw(tr:List (List Int))(q:Nat×Nat):iP:=⟨q.1,q.2,tl tr q.1 q.2⟩
theorem O9(tr:List (List Int))(qs:List (Nat×Nat)):qs.map (Au tr)=(qs.map (Jw tr)).map AW:=by
 rw[bH];rfl
abbrev IO(ms:List Int)(μ:Int)(a e:Nat):Prop:=∀(k:Nat)(x:Int),a<=k->k<e->ms[k]?=some x->x < μ
section
variable{ms:List Int}{f h:Nat}(hf:2<=f)(av:f<=8)(H:Hs ms.length f h)(hh:h<=8)(hn:ms.length<=200)(bD:1<=ms.length)(μ:Int)
include hf av H hh hn bD
theorem UE:Sp ms.length f h:=⟨hf,av,hn,hh,.inr H⟩
theorem NB:∀(qs:List Nd)(a e:Nat),Val ms.length f h qs->fB ms.length f qs a e->lo ms.length f h (qs.map (Jw (Aa ms f (h+1)))) (a:Int)=some (e:Int)
 |[],a,e,_,ht=>by
  have ht:a=e:=ht
  rw[ht];rfl
 |q::r,a,e,hv,ht=>by
  obtain⟨t1,t2⟩:=ht
  obtain⟨v1,v2⟩:=hv q aP
  have ih:=NB r _ e (fun q' h=>hv q' (aL _ h)) t2
  have c1:Cg ms.length f h (q.1:Int) (q.2:Int)=true:=by
   unfold Cg m5
   rw[if_neg (by exact rn bD),gR]
   exact decide_eq_true (by omega)
  have c2:jr f (q.1:Int) (q.2:Int)=(a:Int):=by
   unfold jr
   rw[gR,gR,t1]
  have c3:m6 ms.length f (q.1:Int) (q.2:Int)=((min ms.length (q.2*f^q.1+f^q.1):Nat):Int):=by
   unfold m6
   rw[gR,gR]
  rw[cT,lo]
  show(if Cg ms.length f h (q.1:Int) (q.2:Int)=true/\jr f (q.1:Int) (q.2:Int)=(a:Int) then lo ms.length f h (r.map (Jw (Aa ms f (h+1)))) (m6 ms.length f (q.1:Int) (q.2:Int)) else none)=_
  rw[if_pos ⟨c1,c2⟩,c3]
  exact ih
theorem Sy:∀(qs:List Nd)(a e:Nat)(q:Nd),Val ms.length f h qs->fB ms.length f qs a e->q∈qs->a<=q.2*f^q.1/\min ms.length (q.2*f^q.1+f^q.1)<=e
 |[],a,e,q,_,_,hq=>nomatch hq
 |p::r,a,e,q,hv,ht,hq=>by
  obtain⟨t1,t2⟩:=ht
  obtain⟨v1,v2⟩:=hv p aP
  have j_:=fun q' h=>hv q' (aL _ h)
  have bU:=(AO (show 1<=f by exact a6 hf)).mp v2
  rcases bB.mp hq with rfl|hq
  ·have:=Ij hf r _ e j_ t2
   omega
  have:=Sy r _ e q j_ t2 hq
  omega
theorem Pa{a e:Nat}(hv:Val ms.length f h qs)(ht:fB ms.length f qs a e):((qs.map (Jw (Aa ms f (h+1)))).all fun q=>decide (q.t < μ))=true ↔ IO ms μ a e:=by
 rw[mK,cz]
 constructor
 ·intro z k x h1 h2 h3
  refine Ju hf μ qs a e hv ht (fun q hq=>?_) k x h1 h2 h3
  have:=z q hq
  have:tl (Aa ms f (h+1)) q.1 q.2 < μ:=of_decide_eq_true this
  unfold bq
  exact decide_eq_false (by exact i5.mpr this)
 intro z q hq
 obtain⟨v1,v2⟩:=hv q hq
 obtain⟨i1,i2⟩:=Sy hf av H hh hn bD qs a e q hv ht hq
 cases c:bq (Aa ms f (h+1)) μ q with
 |true=>
  obtain⟨k,x,k1,k2,k3,k4⟩:=(IN hf μ v1 v2).1 c
  have:=z k x (by exact aS i1 k1) (by exact aS k2 i2) k3
  exact absurd k4 (i5.mpr this)
 |false=>
 have:¬μ<=tl (Aa ms f (h+1)) q.1 q.2:=of_decide_eq_false c
 show decide (tl (Aa ms f (h+1)) q.1 q.2 < μ)=true
 exact decide_eq_true (by exact i5.mp this)
theorem Ze{b e:Nat}(hb:b<=e)(he:e<=ms.length):∃v:Bool,(v=true ↔ IO ms μ b e)/\BX.den [aA ms.length f,.int μ,.tup [.int b,.int e],.lst ((c6 ms.length f h e 200 b).map (Au (Aa ms f (h+1))))]=.ok (.bl v):=by
 have hv:=EK (h:=h) (show 1<=f by exact a6 hf) he 200 b
 have ht:=KP (h:=h) (show 1<=f by exact a6 hf) he 200 b (by omega) hb
 have h1:=Nz (UE hf av H hh hn bD) μ ((c6 ms.length f h e 200 b).map (Jw (Aa ms f (h+1)))) b e
 rw[NB hf av H hh hn bD _ _ _ hv ht,<- O9]at h1
 refine⟨_,?_,h1⟩
 rw[bg]
 constructor
 ·rintro⟨_,z⟩;exact(Pa hf av H hh hn bD μ hv ht).mp z
 intro z;exact⟨by simp,(Pa hf av H hh hn bD μ hv ht).mpr z⟩
theorem U9(hv:Val ms.length f h qs):CU.den [Ac (Aa ms f (h+1)),.lst (qs.map (Au (Aa ms f (h+1))))]=.ok (.bl true):=by
 have hd:=BG ms f h
 have h2:=Ax (nl:=1) (fr:=[0]) (tg:=.nm 0) (it:=.seq (.nm 1)) (elt:=.call Cd (.cons (.nm 1) (.cons (.nm 0) .nil))) (δ:=[some (Ac (Aa ms f (h+1))),some (.lst (qs.map (Au (Aa ms f (h+1)))))]) (ds:=qs.map (Au (Aa ms f (h+1)))) (g:=fun _=>.bl true) (by simp_arith[]) (fun d ey=>by
  obtain⟨q,hq,rfl⟩:=a8.mp ey
  obtain⟨v1,v2⟩:=hv q hq
  have ht:AU.den [Ac (Aa ms f (h+1)),.tup [.int q.1,.int q.2]]=.ok (.int (tl (Aa ms f (h+1)) q.1 q.2)):=DR hd v1 v2
  have hh:EV.den [Ac (Aa ms f (h+1)),.tup [.int q.1,.int q.2]]=.ok (.bl true):=by
   have h1:=Hx hd
   have h2:Be.den [AA (fo ms.length f h),.tup [.int q.1,.int q.2]]=.ok (.bl true):=KG v1 v2
   refine gO ?_
   simp_arith[FA,h1,h2]
  have hi:Cd.den [Ac (Aa ms f (h+1)),Au (Aa ms f (h+1)) q]=.ok (.bl true):=by
   refine gO ?_
   unfold Au
   generalize tl (Aa ms f (h+1)) q.1 q.2=t at *
   generalize Ac (Aa ms f (h+1))=T at *
   simp_arith[Ib,uT,b31,qS,hh,ht,beq_self_eq_true]
  refine⟨[some (Au (Aa ms f (h+1)) q),some (Ac (Aa ms f (h+1)))],rfl,?_⟩
  generalize Ac (Aa ms f (h+1))=T at *
  generalize Au (Aa ms f (h+1)) q=P at *
  simp_arith[hi])
 rw[bH]at h2
 have h3:=E4 (fun _:Nd=>true) qs
 have h4:((qs.map fun _:Nd=>true).all id)=true:=by simp
 have h2:ev (.ao 1 [0] (.nm 0) (.seq (.nm 1)) (.call Cd (.cons (.nm 1) (.cons (.nm 0) .nil)))) [some (Ac (Aa ms f (h+1))),some (.lst (qs.map (Au (Aa ms f (h+1)))))]=.ok (.lst (qs.map fun _=>.bl true)):=h2
 generalize hC:E.ao 1 [0] (.nm 0) (.seq (.nm 1)) (.call Cd (.cons (.nm 1) (.cons (.nm 0) .nil)))=C at *
 refine gO ?_
 rw[Hl,hC]
 generalize Ac (Aa ms f (h+1))=T at *
 generalize qs.map (Au (Aa ms f (h+1)))=P at *
 generalize hB:(qs.map fun _=>D.bl true)=B at *
 simp_arith[h2,h3,AG,h4]
end
theorem KR{p f:Nat}:∀(xs ys:List Nd)(a m e:Nat),fB p f xs a m->fB p f ys m e->fB p f (xs++ys) a e
 |[],ys,a,m,e,h1,h2=>by
  have h1:a=m:=h1
  subst h1;exact h2
 |q::r,ys,a,m,e,h1,h2=>⟨h1.1,KR r ys _ m e h1.2 h2⟩
abbrev nN(p f:Nat)(q:Nd):Nat:=min p (q.2*f^q.1+f^q.1)-q.2*f^q.1
abbrev wt(p f:Nat):List Nd->Nat
 |[]=>0
 |q::r=>nN p f q*(q.1+1)+wt p f r
theorem Sz{p f:Nat}:∀xs ys:List Nd,wt p f (xs++ys)=wt p f xs+wt p f ys
 |[],ys=>by simp[wt]
 |q::r,ys=>by rw[aaY,wt,wt,Sz r ys];omega
section
variable{ms:List Int}{f h:Nat}(hf:2<=f)(av:f<=8)(H:Hs ms.length f h)(hh:h<=8)(hn:ms.length<=200)(bD:1<=ms.length)(μ:Int)
include hf av H hh hn bD
theorem NC(l:Nat):∀(qs:List Nd)(a e:Nat),Val ms.length f h qs->fB ms.length f qs a e->(∀q∈qs,q.1<=l)->wt ms.length f qs<=(e-a)*(l+1)
 |[],a,e,_,_,_=>cK _
 |q::r,a,e,hv,ht,hl=>by
  obtain⟨t1,t2⟩:=ht
  obtain⟨v1,v2⟩:=hv q aP
  have j_:=fun q' h=>hv q' (aL _ h)
  have ih:=NC l r _ e j_ t2 (fun q' h=>hl q' (aL _ h))
  have bU:=(AO (show 1<=f by exact a6 hf)).mp v2
  have hle:=Ij hf r _ e j_ t2
  have hq:=hl q aP
  rw[wt]
  unfold nN
  obtain⟨b,hb⟩:∃b,b=min ms.length (q.2*f^q.1+f^q.1):=⟨_,rfl⟩
  rw[<- hb]at ih hle ⊢
  rw[t1]at hb ⊢
  have h1:(b-a)*(q.1+1)<=(b-a)*(l+1):=Nat.mul_le_mul_left _ (by exact kn hq)
  have h2:(b-a)*(l+1)+(e-b)*(l+1)=(e-a)*(l+1):=by
   rw[<- tX];congr 1;omega
  exact h2▸Nat.add_le_add h1 ih
theorem IP:∀(qs:List Nd)(a e:Nat),Val ms.length f h qs->fB ms.length f qs a e->qs.length+a<=e
 |[],a,e,_,ht=>by
  have ht:a=e:=ht
  simp[ht]
 |q::r,a,e,hv,ht=>by
  obtain⟨t1,t2⟩:=ht
  obtain⟨v1,v2⟩:=hv q aP
  have j_:=fun q' h=>hv q' (aL _ h)
  have ih:=IP r _ e j_ t2
  have bU:=(AO (show 1<=f by exact a6 hf)).mp v2
  have:0<f^q.1:=i_ (by exact a6 hf)
  simp only[jS]
  omega
theorem KS:∀(n m:Nat)(xs ws:List Nd)(a:Nat)(o5:Option D),Val ms.length f h xs->Val ms.length f h ws->fB ms.length f xs 0 a->fB ms.length f ws a ms.length->(∀q∈xs,q.1=0\/bq (Aa ms f (h+1)) μ q=false)->wt ms.length f ws<=n->n<m->∃(ys:List Nd)(uR:Option D),Val ms.length f h ys/\fB ms.length f ys 0 ms.length/\(∀q∈ys,q.1=0\/bq (Aa ms f (h+1)) μ q=false)/\AR (tv (.cmp .ne (.nm 4) (.lst .nil))) (exs Aq) m [some (Ac (Aa ms f (h+1))),some (aA ms.length f),some (.int μ),some (.lst (xs.map Ad)),some (.lst (ws.map Ad)),o5]=.bb [some (Ac (Aa ms f (h+1))),some (aA ms.length f),some (.int μ),some (.lst (ys.map Ad)),some (.lst []),uR]
 |n,m+1,xs,[],a,o5,hx,hw,tx,tw,hp,hwt,hm=>by
  have fS:=DQ (([]:List Nd).map Ad) rfl
  have tw:a=ms.length:=tw
  subst tw
  refine⟨xs,o5,hx,tx,hp,?_⟩
  rw[iC]at fS ⊢
  exact Cf (by simp_arith[fS,vk])
 |n,m+1,xs,q::r,a,o5,hx,hw,tx,tw,hp,hwt,hm=>by
  have fS:=DQ ((q::r).map Ad) (Ly _ 6)
  have fS:c2 .ne (.lst (Ad q::r.map Ad)) (.lst [])=.ok (.bl true):=fS
  have pI:tv (.cmp .ne (.nm 4) (.lst .nil)) [some (Ac (Aa ms f (h+1))),some (aA ms.length f),some (.int μ),some (.lst (xs.map Ad)),some (.lst (Ad q::r.map Ad)),o5]=.ok true:=by
   generalize Ad q::r.map Ad=W at *
   simp_arith[fS]
  obtain⟨t1,t2⟩:=tw
  obtain⟨v1,v2⟩:=hw q aP
  have c_:Val ms.length f h r:=fun q' h=>hw q' (aL _ h)
  have bU:=(AO (show 1<=f by exact a6 hf)).mp v2
  have hpw:0<f^q.1:=i_ (by exact a6 hf)
  have lx:=IP hf av H hh hn bD xs 0 a hx tx
  have lr:=IP hf av H hh hn bD r _ _ c_ t2
  have dC:0<nN ms.length f q:=by unfold nN;omega
  have ht:AU.den [Ac (Aa ms f (h+1)),.tup [.int q.1,.int q.2]]=.ok (.int (tl (Aa ms f (h+1)) q.1 q.2)):=DR (BG ms f h) v1 v2
  have mT:=UA (D.tup [.int q.1,.int q.2]::r.map Ad) 1
  have mT:cut (D.tup [.int q.1,.int q.2]::r.map Ad) (some 1) none=r.map Ad:=mT
  have h0:bz (D.tup [.int q.1,.int q.2]::r.map Ad) 0=.ok (.tup [.int q.1,.int q.2]):=by
   unfold bz dE
   rw[if_pos (by exact by decide),if_pos (by simp)];rfl
  have eG:=Cq (xs.map Ad) (.tup [.int q.1,.int q.2]) (by rw[aF];omega)
  rw[wt]at hwt
  have uJ:nN ms.length f q<=nN ms.length f q*(q.1+1):=zN _ (by exact qo _)
  rw[cT]
  by_cases c:q.1=0\/bq (Aa ms f (h+1)) μ q=false
  ·have st:exs Aq [some (Ac (Aa ms f (h+1))),some (aA ms.length f),some (.int μ),some (.lst (xs.map Ad)),some (.lst (Ad q::r.map Ad)),o5]=.bb [some (Ac (Aa ms f (h+1))),some (aA ms.length f),some (.int μ),some (.lst ((xs++[q]).map Ad)),some (.lst (r.map Ad)),some (Ad q)]:=by
    rw[aax,List.map_singleton]
    unfold Ad Al at *
    generalize hX:xs.map (fun q:Nd=>D.tup [.int q.1,.int q.2])=X at *
    by_cases c0:q.1=0
    ·have tE:((q.1:Int)==0)=true:=by rw[c0];rfl
     generalize D.tup [.int q.1,.int q.2]::r.map _=W at *
     generalize r.map _=R at *
     simp_arith[Aq,h0,mT,qT,xE,tE,eG]
    have tE:((q.1:Int)==0)=false:=by
     rw[beq_eq_false_iff_ne];omega
    have bU:tl (Aa ms f (h+1)) q.1 q.2 < μ:=by
     have c:=c.resolve_left c0
     have:¬μ<=tl (Aa ms f (h+1)) q.1 q.2:=of_decide_eq_false c
     exact i5.mp this
    generalize D.tup [.int q.1,.int q.2]::r.map _=W at *
    generalize r.map _=R at *
    simp_arith[Aq,h0,mT,qT,xE,tE,ht,bU,eG]
   rw[FJ pI st]
   refine KS (n-1) m (xs++[q]) r _ _ ?_ c_ (KR xs [q] 0 a _ tx ⟨t1,rfl⟩) t2 ?_ (by omega) (by omega)
   ·intro q' mf
    rcases bw.mp mf with z|z
    ·exact hx q' z
    rw[gp.mp z];exact⟨v1,v2⟩
   intro q' mf
   rcases bw.mp mf with z|z
   ·exact hp q' z
   rw[gp.mp z];exact c
  have c0:¬q.1=0:=fun z=>c (.inl z)
  have c1:¬bq (Aa ms f (h+1)) μ q=false:=fun z=>c (.inr z)
  obtain⟨l,hl⟩:∃l,q.1=l+1:=⟨q.1-1,by omega⟩
  have ko:Dl.den [aA ms.length f,.tup [.int q.1,.int q.2]]=.ok (.lst ((fA ms.length f q.1 q.2).map Ad)):=Ih hf av H hh hn v1 v2
  have chl:=Sn (p:=ms.length) (f:=f) (l:=q.1) (j:=q.2) (by exact a6 hf) hn
  have me:=OS ((fA ms.length f q.1 q.2).map Ad) (r.map Ad) (by rw[aF,aF];omega)
  rw[<- aax]at me
  have st:exs Aq [some (Ac (Aa ms f (h+1))),some (aA ms.length f),some (.int μ),some (.lst (xs.map Ad)),some (.lst (Ad q::r.map Ad)),o5]=.bb [some (Ac (Aa ms f (h+1))),some (aA ms.length f),some (.int μ),some (.lst (xs.map Ad)),some (.lst ((fA ms.length f q.1 q.2++r).map Ad)),some (Ad q)]:=by
   have tE:((q.1:Int)==0)=false:=by
    rw[beq_eq_false_iff_ne];omega
   have j5:¬tl (Aa ms f (h+1)) q.1 q.2 < μ:=by
    have c1:bq (Aa ms f (h+1)) μ q=true:=by simpa using c1
    have:μ<=tl (Aa ms f (h+1)) q.1 q.2:=of_decide_eq_true c1
    exact qu.mpr this
   have eq:Ad q=.tup [.int q.1,.int q.2]:=rfl
   rw[eq]
   generalize (fA ms.length f q.1 q.2++r).map Ad=CR at *
   generalize (fA ms.length f q.1 q.2).map Ad=CH at *
   generalize xs.map Ad=X at *
   generalize D.tup [.int q.1,.int q.2]::r.map Ad=W at *
   generalize r.map Ad=R at *
   simp_arith[Aq,h0,mT,qT,xE,tE,ht,j5,ko,me]
  rw[FJ pI st]
  have uA:fB ms.length f (fA ms.length f q.1 q.2) a (min ms.length (q.2*f^q.1+f^q.1)):=by
   have v2':=v2
   rw[hl]at v2' t1 ⊢
   rw[<- t1]
   exact(Sq (show 1<=f by exact a6 hf) v2').2
  have uF:Val ms.length f h (fA ms.length f q.1 q.2):=Nv v1
  have hwc:=NC hf av H hh hn bD l _ _ _ uF uA (fun x hx=>by have:=Qr x hx;omega)
  have e1:nN ms.length f q*(q.1+1)=(min ms.length (q.2*f^q.1+f^q.1)-a)*(l+1)+nN ms.length f q:=by
   unfold nN;rw[t1,Nat.mul_add,oO,hl]
  refine KS (n-1) m xs (fA ms.length f q.1 q.2++r) a _ hx ?_ tx (KR _ r a _ _ uA t2) hp (by rw[Sz];omega) (by omega)
  intro q' mf
  rcases bw.mp mf with z|z
  ·exact uF q' z
  exact c_ q' z
theorem Abp:∃ys:List Nd,Val ms.length f h ys/\fB ms.length f ys 0 ms.length/\(∀q∈ys,q.1=0\/bq (Aa ms f (h+1)) μ q=false)/\Bq.den [Ac (Aa ms f (h+1)),aA ms.length f,.int μ]=.ok (.lst (ys.map Ad)):=by
 have xF:=Jn hf av H hh
 have xG:=H.one
 have tv0:fB ms.length f [(h,0)] 0 ms.length:=by
  refine⟨by show 0*f^h=0;omega,?_⟩
  show min ms.length (0*f^h+f^h)=ms.length
  have:¬1<cnt ms.length f h:=by omega
  have:¬1*f^h<ms.length:=fun z=>this ((AO (show 1<=f by exact a6 hf)).mpr z)
  omega
 have vv:Val ms.length f h [(h,0)]:=fun q hq=>by
  rw[gp.mp hq]
  exact⟨bx _,by show 0<cnt ms.length f h;exact i9 xG.symm⟩
 have hw:=NC hf av H hh hn bD h _ _ _ vv tv0 (fun q hq=>by rw[gp.mp hq];exact bx _)
 have sT:(ms.length-0)*(h+1)<=200*9:=Nat.mul_le_mul (by omega) (by exact fO hh (by decide))
 obtain⟨ys,o5,g1,g2,g3,g4⟩:=KS hf av H hh hn bD μ 1800 FU [] [(h,0)] 0 none (fun q hq=>nomatch hq) vv rfl tv0 (fun q hq=>nomatch hq) (by exact aS hw sT) (by unfold FU;exact ql ..)
 refine⟨ys,g1,g2,g3,gO ?_⟩
 have g4:AR (Pu.tv (.cmp .ne (.nm 4) (.lst .nil))) (exs Aq) FU [some (Ac (Aa ms f (h+1))),some (aA ms.length f),some (.int μ),some (.lst []),some (.lst [Al h 0]),none]=.bb [some (Ac (Aa ms f (h+1))),some (aA ms.length f),some (.int μ),some (.lst (ys.map Ad)),some (.lst []),o5]:=g4
 have c0:((ms.length:Int)==0)=false:=by rw[beq_eq_false_iff_ne];omega
 generalize Ac (Aa ms f (h+1))=T at *
 generalize ys.map Ad=rV at *
 generalize Al h 0=Z at *
 unfold aA at *
 simp_arith[A3,qT,c0,xF,g4]
end
theorem Abq(h:xs.head?=some d):bz xs 0=.ok d:=by
 cases xs with
 |nil=>cases h
 |cons a r=>
 cases h
 unfold bz dE
 rw[if_pos (by exact by decide),if_pos (by simp)];rfl
abbrev B4(ms:List Int)(μ:Int):List Nat:=(dh ms.length).filter fun k=>decide (μ<=ms.getD k 0)
abbrev B5(ms:List Int)(k:Nat):D:=.tup [.int 0,.int k,.int (ms.getD k 0)]
theorem Qv(ms:List Int):(dh ms.length).map (fun k=>ms.getD k 0)=ms:=by
 apply List.ext_getElem
 ·simp
 intro i h1 h2
 simp[iX,d_ h2]
theorem Zf(ms:List Int)(μ:Int):Eo ms μ=(B4 ms μ).map fun k=>ms.getD k 0:=by
 have:=congrArg (List.filter fun x=>decide (μ<=x)) (Qv ms)
 rw[tP]at this
 exact this.symm
abbrev Qw:E:=.a9 1 [0] (.nm 0) (.seq (.nm 1)) (.bo true (.cons (.cmp .eq (.ix (.nm 0) (.cI 0)) (.cI 0)) (.cons (.cmp .ge (.ix (.nm 0) (.cI 2)) (.nm 1)) .nil))) (.nm 0)
theorem SA(ms:List Int)(μ:Int)(f:Nat)(T:D)(hT:Br.den [T]=.ok (Ae ms))(P:D)(hc:ev Qw [some (.int μ),some P,none,none]=.ok (.lst ((B4 ms μ).map (B5 ms)))):∃o:Option Nat,KA.den [T,.int f,.int μ]=.ok (aV o)/\Ia.den [.int μ,P]=.ok (aV o):=by
 have cB:=EJ (nl:=1) (fr:=[2]) (tg:=.nm 0) (it:=.bQ (.nm 3)) (cond:=.cmp .ge (.nm 0) (.nm 1)) (elt:=.nm 0) (δ:=[some T,some (.int f),some (.int μ),some (.lst (ms.map .int)),none]) (ds:=ms.map .int) (b:=fun d=>match d with|.int r=>decide (μ<=r)|_=>false) (g:=fun d=>d) (by simp_arith[]) (fun d hd=>by
  obtain⟨r,rfl⟩:=Ek hd
  refine⟨[some (.int r),some (.int μ)],rfl,?_,fun _=>?_⟩
  ·simp_arith[]
  simp_arith[])
 have cB:ev (.a9 1 [2] (.nm 0) (.bQ (.nm 3)) (.cmp .ge (.nm 0) (.nm 1)) (.nm 0)) [some T,some (.int f),some (.int μ),some (.lst (ms.map .int)),none]=.ok (.lst ((Eo ms μ).map .int)):=cB.trans (congrArg (fun l=>Res.ok (D.lst l)) (Qt ms μ))
 have ig:=BK ((Eo ms μ).map D.int) (UB _)
 have iQ:=BK ((B4 ms μ).map (B5 ms)) (by
  rw[cz]
  intro d hd
  obtain⟨k,_,rfl⟩:=a8.mp hd
  rfl)
 have qU:=Zf ms μ
 unfold Ae at hT
 generalize uU:E.a9 1 [2] (.nm 0) (.bQ (.nm 3)) (.cmp .ge (.nm 0) (.nm 1)) (.nm 0)=E1 at *
 by_cases hK:B4 ms μ=[]
 ·rw[qU,hK]at ig cB
  rw[hK]at iQ hc
  simp only[iC,List.isEmpty_nil]at ig cB iQ hc
  refine⟨none,gO ?_,gO ?_⟩
  ·rw[JX,uU]
   unfold aV
   generalize ms.map D.int=R at *
   simp_arith[hT,cB,ig]
  unfold Qw at hc
  generalize hF:E.a9 1 [0] (.nm 0) (.seq (.nm 1)) (.bo true (.cons (.cmp .eq (.ix (.nm 0) (.cI 0)) (.cI 0)) (.cons (.cmp .ge (.ix (.nm 0) (.cI 2)) (.nm 1)) .nil))) (.nm 0)=FE at *
  rw[E3,hF]
  unfold aV
  simp_arith[hc,iQ]
 have hem:((Eo ms μ).map D.int).isEmpty=false:=by
  rw[qU]
  cases h:B4 ms μ with
  |nil=>exact absurd h hK
  |cons a r=>rfl
 have xH:((B4 ms μ).map (B5 ms)).isEmpty=false:=by
  cases h:B4 ms μ with
  |nil=>exact absurd h hK
  |cons a r=>rfl
 rw[hem]at ig
 rw[xH]at iQ
 have xI:Eo ms μ≠[]:=by
  rw[qU]
  intro z
  exact hK (tL.mp z)
 obtain⟨mn,xJ⟩:∃m,(Eo ms μ).min?=some m:=by
  cases h:(Eo ms μ).min? with
  |none=>exact absurd (List.min?_eq_none_iff.mp h) xI
  |some m=>exact⟨m,rfl⟩
 have mn1:mn∈Eo ms μ:=List.min?_mem xJ
 have xK:μ<=mn:=of_decide_eq_true (oK.mp mn1).2
 obtain⟨i,hi⟩:=O6 (oK.mp mn1).1
 obtain⟨ii1,ii2⟩:=Su hi
 have uP:=Em (Eo ms μ)
 have kD:=Zc hi
 have c2:=Ax (nl:=1) (fr:=[]) (tg:=.nm 0) (it:=.bQ (.nm 2)) (elt:=.ix (.nm 0) (.cI 2)) (δ:=[some (.int μ),some P,some (.lst ((B4 ms μ).map (B5 ms))),none]) (ds:=(B4 ms μ).map (B5 ms)) (g:=fun d=>match d with|.tup [_,_,.int t]=>.int t|d=>d) (by simp_arith[]) (fun d hd=>by
  obtain⟨k,_,rfl⟩:=a8.mp hd
  refine⟨[some (B5 ms k)],rfl,?_⟩
  unfold B5
  simp_arith[qS])
 have e2:((B4 ms μ).map (B5 ms)).map (fun d=>match d with|.tup [_,_,.int t]=>D.int t|d=>d)=(Eo ms μ).map .int:=by
  rw[qU,bH,bH];rfl
 rw[e2]at c2
 have c3:=EJ (nl:=1) (fr:=[3]) (tg:=.nm 0) (it:=.bQ (.nm 2)) (cond:=.cmp .eq (.ix (.nm 0) (.cI 2)) (.nm 1)) (elt:=.ix (.nm 0) (.cI 1)) (δ:=[some (.int μ),some P,some (.lst ((B4 ms μ).map (B5 ms))),some (.int mn)]) (ds:=(B4 ms μ).map (B5 ms)) (b:=fun d=>match d with|.tup [_,_,.int t]=>t==mn|_=>false) (g:=fun d=>match d with|.tup [_,k,_]=>k|d=>d) (by simp_arith[]) (fun d hd=>by
  obtain⟨k,_,rfl⟩:=a8.mp hd
  refine⟨[some (B5 ms k),some (.int mn)],rfl,?_,fun _=>?_⟩
  ·unfold B5
   simp_arith[qS]
  unfold B5
  simp_arith[b31])
 rw[tP,bH]at c3
 have hhd:(((B4 ms μ).filter ((fun d=>match d with|.tup [_,_,.int t]=>t==mn|_=>false) ∘ B5 ms)).map ((fun d=>match d with|.tup [_,k,_]=>k|d=>d) ∘ B5 ms)).head?=some (.int i):=by
  rw[List.head?_map]
  have e3:(B4 ms μ).filter ((fun d=>match d with|.tup [_,_,.int t]=>t==mn|_=>false) ∘ B5 ms)=(dh ms.length).filter fun k=>ms.getD k 0==mn:=by
   unfold B4
   rw[List.filter_filter]
   apply vc
   intro k hk
   show((ms.getD k 0==mn)&&decide (μ<=ms.getD k 0))=(ms.getD k 0==mn)
   by_cases c:ms.getD k 0=mn
   ·rw[c,decide_eq_true xK,abF]
   rw[beq_eq_false_iff_ne.mpr c,aa0]
  rw[e3,List.head?_filter]
  have e4:(dh ms.length).find? (fun k=>ms.getD k 0==mn)=some i:=by
   have qJ:=(gP.mp ii1).1
   rw[List.find?_range_eq_some]
   refine⟨?_,oM.mpr qJ,fun j hj=>?_⟩
   ·rw[iX,ii1];simp
   have n_:j<ms.length:=by exact vA hj qJ
   have:=ii2 j hj
   rw[iX]
   rw[d_ n_]at this ⊢
   simpa using this
  rw[e4];rfl
 have iO:=Abq hhd
 refine⟨some i,gO ?_,gO ?_⟩
 ·rw[JX,uU]
  unfold aV
  clear qU xI hK hc c2 c3 e2
  generalize ms.map D.int=R at *
  generalize (Eo ms μ).map D.int=FF at *
  simp_arith[hT,cB,ig,uP,xJ,AG,kD]
 unfold Qw at hc
 clear qU xI hK e2 hhd cB hT
 generalize hF:E.a9 1 [0] (.nm 0) (.seq (.nm 1)) (.bo true (.cons (.cmp .eq (.ix (.nm 0) (.cI 0)) (.cI 0)) (.cons (.cmp .ge (.ix (.nm 0) (.cI 2)) (.nm 1)) .nil))) (.nm 0)=FE at *
 generalize hG:E.ao 1 [] (.nm 0) (.bQ (.nm 2)) (.ix (.nm 0) (.cI 2))=GE at *
 generalize hI:E.a9 1 [3] (.nm 0) (.bQ (.nm 2)) (.cmp .eq (.ix (.nm 0) (.cI 2)) (.nm 1)) (.ix (.nm 0) (.cI 1))=IE at *
 rw[E3,hF,hG,hI]
 unfold aV
 generalize ((B4 ms μ).filter ((fun d=>match d with|.tup [_,_,.int t]=>t==mn|_=>false) ∘ B5 ms)).map ((fun d=>match d with|.tup [_,k,_]=>k|d=>d) ∘ B5 ms)=L at *
 generalize (B4 ms μ).map (B5 ms)=KK at *
 generalize (Eo ms μ).map D.int=FF at *
 simp_arith[hc,iQ,c2,uP,xJ,AG,c3,iO]
section
variable{ms:List Int}{f h:Nat}(hf:2<=f)(av:f<=8)(H:Hs ms.length f h)(hh:h<=8)(hn:ms.length<=200)(bD:1<=ms.length)(μ:Int)
include hf av H hh hn bD
theorem tl0{k:Nat}(hk:k<ms.length):tl (Aa ms f (h+1)) 0 k=ms.getD k 0:=by
 have hj:k<cnt ms.length f 0:=by rw[AO (by exact a6 hf)];simpa using hk
 rw[KO (cK h) hj]
 obtain⟨⟨j,a1,a2,a3⟩,_⟩:=IL (rs:=ms) (a:=k*f^0) (b:=min ms.length (k*f^0+f^0)) (by simp;omega) (by exact iE ..)
 have e:j=k:=by simp at a1 a2;omega
 subst e
 rw[iX,a3];rfl
theorem Pb:∀(ys:List Nd)(a e:Nat),Val ms.length f h ys->fB ms.length f ys a e->e<=ms.length->(∀q∈ys,q.1=0\/bq (Aa ms f (h+1)) μ q=false)->ys.filter (fun q=>decide (q.1=0)&&bq (Aa ms f (h+1)) μ q)=((nX a (e-a)).filter fun k=>decide (μ<=ms.getD k 0)).map fun k=>(0,k)
 |[],a,e,_,ht,_,_=>by
  have ht:a=e:=ht
  subst ht
  simp
 |q::r,a,e,hv,ht,he,hp=>by
  obtain⟨t1,t2⟩:=ht
  obtain⟨v1,v2⟩:=hv q aP
  have j_:=fun q' h=>hv q' (aL _ h)
  have ih:=Pb r _ e j_ t2 he (fun q' h=>hp q' (aL _ h))
  have bU:=(AO (show 1<=f by exact a6 hf)).mp v2
  have hle:=Ij hf r _ e j_ t2
  have hpw:0<f^q.1:=i_ (by exact a6 hf)
  have tt:=IN (ms:=ms) hf μ v1 v2
  obtain⟨b,hb⟩:∃b,b=min ms.length (q.2*f^q.1+f^q.1):=⟨_,rfl⟩
  rw[<- hb]at ih hle tt
  have p7:a<b:=by omega
  have er:nX a (e-a)=nX a (b-a)++nX b (e-b):=by
   have:=List.range'_append_1 (s:=a) (m:=b-a) (n:=e-b)
   rw[show a+(b-a)=b by omega,show b-a+(e-b)=e-a by rw[tR];exact Nat.sub_add_sub_cancel hle (a6 p7)]at this
   exact this.symm
  rw[er,zK,aax,<- ih]
  by_cases c0:q.1=0
  ·have eq:q=(0,a):=by
    have:q.2=a:=by rw[c0]at t1;simpa using t1
    rw[<- this,<- c0]
   have eb:b-a=1:=by rw[hb,t1,c0];simp;omega
   have dF:bq (Aa ms f (h+1)) μ q=decide (μ<=ms.getD a 0):=by
    rw[eq]
    show decide (μ<=tl (Aa ms f (h+1)) 0 a)=_
    rw[tl0 hf av H hh hn bD (by exact t1▸bU)]
   by_cases c:μ<=ms.getD a 0
   ·have e2:[a].filter (fun k=>decide (μ<=ms.getD k 0))=[a]:=by
     rw[zA (by simpa using c)];rfl
    rw[eb,List.range'_one,e2,zA (by rw[dF,decide_eq_true c0,decide_eq_true c];rfl),eq];rfl
   have e2:[a].filter (fun k=>decide (μ<=ms.getD k 0))=[]:=by
    rw[zB (by simpa using c)];rfl
   rw[eb,List.range'_one,e2,zB (by rw[dF,decide_eq_false c];simp)];rfl
  have c1:=(hp q aP).resolve_left c0
  have e1:(nX a (b-a)).filter (fun k=>decide (μ<=ms.getD k 0))=[]:=by
   rw[List.filter_eq_nil_iff]
   intro k hk
   rw[List.mem_range'_1]at hk
   have hkl:k<ms.length:=by omega
   have:=tt.2 c1 k (ms.getD k 0) (by omega) (by omega) (by rw[iX,d_ hkl];rfl)
   simp only[decide_eq_true_eq]
   exact i5.mpr this
  rw[e1,rd,c1]
  simp
end
theorem Va(o u:Option Nat):c2 .eq (aV o) (aV u)=.ok (.bl (decide (o=u))):=by
 cases o with
 |none=>cases u<;>rfl
 |some i=>
  cases u with
  |none=>rfl
  |some j=>
  show c2 .eq (.int i) (.int j)=_
  rw[Dp]
  by_cases c:i=j
  ·subst c;simp
  have:((i:Int)==(j:Int))=false:=by rw[beq_eq_false_iff_ne];omega
  rw[this,decide_eq_false (by simpa using c)]
section
variable{ms:List Int}{f h:Nat}(hf:2<=f)(av:f<=8)(H:Hs ms.length f h)(hh:h<=8)(hn:ms.length<=200)(bD:1<=ms.length)(μ:Int)
include hf av H hh hn bD
theorem W0:∃o,mi ms μ 0 o/\ED.den [Ac (Aa ms f (h+1)),.int f,.int μ]=.ok (aV o)/\BZ.den [Ac (Aa ms f (h+1)),.int f,.int μ]=.ok (Ik (Aa ms f (h+1)) o (c6 ms.length f h (o.getD ms.length) 200 0)):=by
 have hs:=B3 (BG ms f h)
 obtain⟨o,rZ,F⟩:=Sr hf av H hh hn μ (a:=0) bD
 have ho:=Mj hf av H hh hn bD F
 have nL:=G0 ms.length f 0 o
 have nM:=U8 hf av H hh hn ho.1 ho.2
 have rZ:Cn.den [Ac (Aa ms f (h+1)),.int f,.int μ,.int 0]=.ok (aV o):=rZ
 have nM:Co.den [Ac (Aa ms f (h+1)),.int f,.tup [.int 0,.int ((o.getD ms.length:Nat):Int)]]=_:=nM
 have d1:ED.dep=0:=rfl
 have d3:AN.dep=0:=rfl
 have g1:=O5 o
 have g3:∀x y:Int,D.flat 9 0 (.tup [.int x,.int y])=true:=fun x y=>rfl
 have uV:ED.den [Ac (Aa ms f (h+1)),.int f,.int μ]=.ok (aV o):=by
  refine gO ?_
  generalize Ac (Aa ms f (h+1))=T at *
  generalize aV o=O at *
  simp_arith[ID,rZ]
 refine⟨o,F,uV,gO ?_⟩
 unfold Ik
 generalize (c6 ms.length f h (o.getD ms.length) 200 0).map (Au (Aa ms f (h+1)))=P1 at *
 generalize Ac (Aa ms f (h+1))=T at *
 generalize ((o.getD ms.length:Nat):Int)=e at *
 generalize aA ms.length f=s at *
 generalize aV o=O at *
 simp_arith[Dy,uV,d1,g1,hs,nL,d3,g3,nM]
theorem Abr(o:Option Nat)(ho:o.getD ms.length<=ms.length):∃v:Bool,(v=true ↔ IO ms μ 0 (o.getD ms.length))/\Bw.den [aA ms.length f,.int μ,aV o,.lst ((c6 ms.length f h (o.getD ms.length) 200 0).map (Au (Aa ms f (h+1))))]=.ok (.bl v):=by
 obtain⟨v,h1,h2⟩:=Ze hf av H hh hn bD μ (cK _) ho
 have nL:=G0 ms.length f 0 o
 have h2:BX.den [aA ms.length f,.int μ,.tup [.int 0,.int ((o.getD ms.length:Nat):Int)],_]=_:=h2
 refine⟨v,h1,gO ?_⟩
 generalize (c6 ms.length f h (o.getD ms.length) 200 0).map (Au (Aa ms f (h+1)))=P1 at *
 generalize ((o.getD ms.length:Nat):Int)=e at *
 generalize aA ms.length f=s at *
 generalize aV o=O at *
 simp_arith[Dw,nL,h2]
theorem AaC(o:Option Nat)(a:Nat)(ho:o.getD ms.length<=ms.length):∃v:Bool,(v=true ↔ a<=o.getD ms.length/\IO ms μ a (o.getD ms.length))/\Cc.den [aA ms.length f,.int μ,.int a,aV o,.lst ((c6 ms.length f h (o.getD ms.length) 200 (min a (o.getD ms.length))).map (Au (Aa ms f (h+1))))]=.ok (.bl v):=by
 obtain⟨v,h1,h2⟩:∃v:Bool,(v=true ↔ a<=o.getD ms.length/\IO ms μ a (o.getD ms.length))/\BX.den [aA ms.length f,.int μ,.tup [.int a,.int ((o.getD ms.length:Nat):Int)],.lst ((c6 ms.length f h (o.getD ms.length) 200 (min a (o.getD ms.length))).map (Au (Aa ms f (h+1))))]=.ok (.bl v):=by
  by_cases c:a<=o.getD ms.length
  ·rw[qm c]
   obtain⟨v,h1,h2⟩:=Ze hf av H hh hn bD μ c ho
   exact⟨v,⟨fun z=>⟨c,h1.mp z⟩,fun z=>h1.mpr z.2⟩,h2⟩
  rw[oN (by omega)]
  have e0:c6 ms.length f h (o.getD ms.length) 200 (o.getD ms.length)=[]:=by rw[c6,if_neg (by exact iY _)]
  rw[e0]
  have h1:=Nz (UE hf av H hh hn bD) μ [] a ((o.getD ms.length:Nat):Int)
  refine⟨false,⟨(fun z=>nomatch z),fun z=>absurd z.1 c⟩,?_⟩
  have e1:(lo ms.length f h [] (a:Int)==some ((o.getD ms.length:Nat):Int))=false:=by
   show((a:Int)==((o.getD ms.length:Nat):Int))=false
   rw[beq_eq_false_iff_ne];omega
  rw[e1,aa0]at h1
  exact h1
 have nL:=G0 ms.length f a o
 refine⟨v,h1,gO ?_⟩
 generalize (c6 ms.length f h (o.getD ms.length) 200 (min a (o.getD ms.length))).map (Au (Aa ms f (h+1)))=P1 at *
 generalize ((o.getD ms.length:Nat):Int)=e at *
 generalize aA ms.length f=s at *
 generalize aV o=O at *
 simp_arith[D3,nL,h2]
theorem Abs:∃(o:Option Nat)(ys:List Nd),(Val ms.length f h ys/\ys.length<=ms.length)/\KA.den [Ac (Aa ms f (h+1)),.int f,.int μ]=.ok (aV o)/\Cp.den [Ac (Aa ms f (h+1)),.int f,.int μ]=.ok (Ik (Aa ms f (h+1)) o ys)/\Dx.den [aA ms.length f,.int μ,aV o,.lst (ys.map (Au (Aa ms f (h+1))))]=.ok (.bl true):=by
 have hs:=B3 (BG ms f h)
 obtain⟨ys,v1,t1,p1,xM⟩:=Abp hf av H hh hn bD μ
 have hT:Br.den [Ac (Aa ms f (h+1))]=.ok (Ae ms):=by
  have:=Ig (BG ms f h)
  have e:(Aa ms f (h+1)).getD 0 []=ms:=by
   have e1:(Aa ms f (h+1)).getD 0 []=AB ms f 0 (cnt ms.length f 0):=by
    unfold Aa
    rw[iX,dg,tK (by exact qo _)];rfl
   rw[e1,Js]
  rw[e]at this
  exact this
 have xN:=Pb hf av H hh hn bD μ ys 0 ms.length v1 t1 (bx _) p1
 have hc:=EJ (nl:=1) (fr:=[0]) (tg:=.nm 0) (it:=.seq (.nm 1)) (cond:=.bo true (.cons (.cmp .eq (.ix (.nm 0) (.cI 0)) (.cI 0)) (.cons (.cmp .ge (.ix (.nm 0) (.cI 2)) (.nm 1)) .nil))) (elt:=.nm 0) (δ:=[some (.int μ),some (.lst (ys.map (Au (Aa ms f (h+1))))),none,none]) (ds:=ys.map (Au (Aa ms f (h+1)))) (b:=fun d=>match d with|.tup [.int l,_,.int t]=>decide (l.toNat=0)&&decide (μ<=t)|_=>false) (g:=fun d=>d) (by simp_arith[]) (fun d hd=>by
  obtain⟨q,_,rfl⟩:=a8.mp hd
  refine⟨[some (Au (Aa ms f (h+1)) q),some (.int μ)],rfl,?_,fun _=>?_⟩
  ·show _=Res.ok (decide ((q.1:Int).toNat=0)&&decide (μ<=tl (Aa ms f (h+1)) q.1 q.2))
   rw[gR]
   unfold Au
   generalize tl (Aa ms f (h+1)) q.1 q.2=t at *
   by_cases c:q.1=0
   ·have c1:((q.1:Int)==0)=true:=by rw[c];rfl
    rw[decide_eq_true c,aa4]
    simp_arith[uT,qS,c1]
   have c1:((q.1:Int)==0)=false:=by rw[beq_eq_false_iff_ne];omega
   rw[decide_eq_false c,aa0]
   simp_arith[uT,qS,c1]
  generalize Au (Aa ms f (h+1)) q=P at *
  simp_arith[])
 rw[List.map_id',tP]at hc
 have ef:ys.filter ((fun d=>match d with|.tup [.int l,_,.int t]=>decide (l.toNat=0)&&decide (μ<=t)|_=>false) ∘ Au (Aa ms f (h+1)))=(B4 ms μ).map fun k=>(0,k):=by
  have e:ys.filter ((fun d=>match d with|.tup [.int l,_,.int t]=>decide (l.toNat=0)&&decide (μ<=t)|_=>false) ∘ Au (Aa ms f (h+1)))=ys.filter (fun q=>decide (q.1=0)&&bq (Aa ms f (h+1)) μ q):=by
   apply vc
   intro q _
   show(decide ((q.1:Int).toNat=0)&&decide (μ<=tl (Aa ms f (h+1)) q.1 q.2))=_
   rw[gR];rfl
  rw[e,xN,Nat.sub_zero,<- List.range_eq_range'];rfl
 rw[ef,bH]at hc
 have eg:(B4 ms μ).map (Au (Aa ms f (h+1)) ∘ fun k=>(0,k))=(B4 ms μ).map (B5 ms):=by
  apply fN
  intro k hk
  have hk:k<ms.length:=oM.mp (oK.mp hk).1
  show D.tup [.int ((0:Nat):Int),.int k,.int (tl (Aa ms f (h+1)) 0 k)]=_
  rw[tl0 hf av H hh hn bD hk];rfl
 rw[eg]at hc
 obtain⟨o,uW,pS⟩:=SA ms μ f _ hT (.lst (ys.map (Au (Aa ms f (h+1))))) hc
 have hw:=Zd hf av H hh hn v1
 have d1:BW.dep=1:=rfl
 have g1:D.flat 9 1 (.lst (ys.map (Au (Aa ms f (h+1)))))=true:=by
  show(ys.map (Au (Aa ms f (h+1)))).all (D.flat 8 0)=true
  rw[cz]
  intro d hd
  obtain⟨q,_,rfl⟩:=a8.mp hd
  rfl
 have mS:=KQ (UE hf av H hh hn bD) (ys.map (Jw (Aa ms f (h+1)))) 0 ms.length
 have qE:lo ms.length f h (ys.map (Jw (Aa ms f (h+1)))) 0=some (ms.length:Int):=NB hf av H hh hn bD ys 0 ms.length v1 t1
 rw[qE,<- O9]at mS
 have mS:CT.den [aA ms.length f,.tup [.int 0,.int ms.length],.lst (ys.map (Au (Aa ms f (h+1))))]=.ok (.bl true):=by
  rw[mS];simp
 have qb:=EJ (nl:=1) (fr:=[1]) (tg:=.nm 0) (it:=.seq (.nm 3)) (cond:=.cmp .gt (.ix (.nm 0) (.cI 0)) (.cI 0)) (elt:=.cmp .lt (.ix (.nm 0) (.cI 2)) (.nm 1)) (δ:=[some (aA ms.length f),some (.int μ),some (aV o),some (.lst (ys.map (Au (Aa ms f (h+1)))))]) (ds:=ys.map (Au (Aa ms f (h+1)))) (b:=fun d=>match d with|.tup [.int l,_,_]=>decide (0<l)|_=>false) (g:=fun _=>.bl true) (by simp_arith[]) (fun d hd=>by
  obtain⟨q,hq,rfl⟩:=a8.mp hd
  refine⟨[some (Au (Aa ms f (h+1)) q),some (.int μ)],rfl,?_,fun hb=>?_⟩
  ·show _=Res.ok (decide (0<(q.1:Int)))
   unfold Au
   simp_arith[uT]
  have hb:0<(q.1:Int):=of_decide_eq_true hb
  have c:=(p1 q hq).resolve_left (by omega)
  have:¬μ<=tl (Aa ms f (h+1)) q.1 q.2:=of_decide_eq_false c
  have bU:tl (Aa ms f (h+1)) q.1 q.2 < μ:=by exact i5.mp this
  unfold Au
  generalize tl (Aa ms f (h+1)) q.1 q.2=t at *
  simp_arith[qS,bU])
 obtain⟨zs,xP⟩:∃zs:List D,zs=(ys.map (Au (Aa ms f (h+1)))).filter (fun d=>match d with|.tup [.int l,_,_]=>decide (0<l)|_=>false):=⟨_,rfl⟩
 rw[<- xP]at qb
 have h3:=E4 (fun _:D=>true) zs
 have h4:((zs.map fun _:D=>true).all id)=true:=by simp
 have tF:=Va o o
 rw[decide_eq_true rfl]at tF
 refine⟨o,ys,⟨v1,IP hf av H hh hn bD ys 0 _ v1 t1⟩,uW,gO ?_,gO ?_⟩
 ·unfold Ik
  clear hc qb mS pS ef eg xN xP h3 h4 qE
  generalize ys.map (Au (Aa ms f (h+1)))=P1 at *
  generalize ys.map Ad=rV at *
  generalize Ac (Aa ms f (h+1))=T at *
  generalize aA ms.length f=s at *
  generalize aV o=O at *
  simp_arith[D9,hs,xM,uW,hw,d1,g1]
 clear hc ef eg xN xP hw qE
 generalize hC:E.a9 1 [1] (.nm 0) (.seq (.nm 3)) (.cmp .gt (.ix (.nm 0) (.cI 0)) (.cI 0)) (.cmp .lt (.ix (.nm 0) (.cI 2)) (.nm 1))=C at *
 rw[D4,hC]
 generalize ys.map (Au (Aa ms f (h+1)))=P1 at *
 generalize hZ:(zs.map fun _=>D.bl true)=Z at *
 unfold aA at *
 generalize aV o=O at *
 simp_arith[qT,mS,qb,h3,AG,h4,pS,tF]
end
abbrev Abt(ms:List Int)(μ:Int):Option Nat->Prop
 |none=>True
 |some j=>∃x,ms[j]?=some x/\μ<=x
theorem SB{ms:List Int}{μ:Int}{a:Nat}(ha:a<=ms.length)(o:Option Nat):mi ms μ a o ↔ Abt ms μ o/\a<=o.getD ms.length/\IO ms μ a (o.getD ms.length):=by
 cases o with
 |none=>
  constructor
  ·intro F
   exact⟨trivial,ha,fun k x h1 _ h3=>F k x h1 h3⟩
  rintro⟨_,_,h⟩ k x h1 h3
  exact h k x h1 (gP.mp h3).1 h3
 |some j=>
 constructor
 ·rintro⟨g1,g2,g3⟩
  exact⟨g2,g1,fun k x h1 h2 h3=>g3 k x h1 h2 h3⟩
 rintro⟨g2,g1,g3⟩
 exact⟨g1,g2,fun k x h1 h2 h3=>g3 k x h1 h2 h3⟩
abbrev tx(l:List Nat):Str:=⟨l.toArray⟩
theorem ND(a b:List Nat):tx a++tx b=tx (a++b):=by
 show(⟨a.toArray++b.toArray⟩:Str)=⟨(a++b).toArray⟩
 rw[List.append_toArray]
theorem Bm(a:List Nat):(tx a).length=a.length:=rfl
theorem J4(a:List Nat):(tx a).cps.toList=a:=rfl
theorem Zg(a b:List Nat)(h:a.length+b.length<=16777216):b2 .add (.str (tx a)) (.str (tx b))=.ok (.str (tx (a++b))):=by
 show(if(tx a).length+(tx b).length<=dn then Res.ok (D.str (tx a++tx b)) else .bad)=_
 rw[if_pos (by rw[Bm,Bm];exact h),ND]
theorem Jx:(" " : Str)=tx [32]:=by rw[Str.ofString_eq_toList];rfl
theorem Zh:(" / " : Str)=tx [32,47,32]:=by rw[Str.ofString_eq_toList];rfl
theorem NE:(":" : Str)=tx [58]:=by rw[Str.ofString_eq_toList];rfl
theorem Il:("-" : Str)=tx [45]:=by rw[Str.ofString_eq_toList];rfl
abbrev Ch(n:Nat):List Nat:=(Nat.toDigits 10 n).map Char.toNat
theorem SC{d:Nat}(h:d<10):(Nat.digitChar d).toNat=48+d:=by
 match d,h with
 |0,_=>rfl
 |1,_=>rfl
 |2,_=>rfl
 |3,_=>rfl
 |4,_=>rfl
 |5,_=>rfl
 |6,_=>rfl
 |7,_=>rfl
 |8,_=>rfl
 |9,_=>rfl
 |n+10,h=>exact absurd h (iZ.mpr (ql 10 n))
theorem FR{n:Nat}(h:n<10):Ch n=[48+n]:=by
 unfold Ch
 rw[Nat.toDigits_of_lt_base h,cT,iC,SC h]
theorem G3{n:Nat}(h:10<=n):Ch n=Ch (n/10)++[48+n%10]:=by
 unfold Ch
 rw[Nat.toDigits_of_base_le (by decide) h,aax,cT,iC,SC (Nat.mod_lt _ (by decide))]
theorem UF(n:Nat):Str.ofString (toString (n:Int))=tx (Ch n):=by
 rw[Str.ofString_eq_toList]
 show(⟨((String.ofList (Nat.toDigits 10 n)).toList.map Char.toNat).toArray⟩:Str)=_
 rw[String.toList_ofList]
 rfl
theorem Ho:∀(k n:Nat),1<=k->n<10^k->1<=(Ch n).length/\(Ch n).length<=k
 |0,n,h,_=>absurd h (by decide)
 |k+1,n,_,h=>by
  by_cases c:n<10
  ·rw[FR c];simp
  rw[G3 (by exact iZ.mp c),eP]
  have hk:1<=k:=by
   cases k with
   |zero=>exact absurd h c
   |succ k=>exact qo _
  have:=Ho k (n/10) hk (by rw[mO]at h;omega)
  simp;omega
theorem G4:∀(n:Nat),∀c∈Ch n,c<58
 |n=>by
  by_cases c:n<10
  ·rw[FR c]
   intro x hx
   simp at hx;omega
  rw[G3 (by exact iZ.mp c)]
  intro x hx
  rcases bw.mp hx with hx|hx
  ·exact G4 (n/10) x hx
  simp at hx;omega
theorem Pc{n:Nat}(h:n<10^50):biD .str [.int (n:Int)]=.ok (.str (tx (Ch n))):=by
 rw[<- UF]
 show(if(n:Int).natAbs<_ then Res.ok (D.str (Str.ofString (toString (n:Int)))) else .bad)=_
 rw[if_pos (by rw[Int.natAbs_natCast];exact vA h (by decide))]
abbrev jo(sep:List Nat):List (List Nat)->List Nat
 |[]=>[]
 |x::r=>x++r.flatMap (sep++·)
theorem KT(sep:List Nat):∀ts:List (List Nat),(ts.flatMap (sep++·)).drop sep.length=jo sep ts
 |[]=>by simp[jo]
 |x::r=>by
  rw[tN,jz,vh];rfl
theorem KU(sep:List Nat):∀ts:List (List Nat),Str.join (tx sep) (ts.map tx)=tx (jo sep ts)
 |[]=>rfl
 |[x]=>by show tx x=tx (x++[]);rw[iB]
 |x::y::r=>by
  have ih:=KU sep (y::r)
  show tx x++tx sep++Str.join (tx sep) ((y::r).map tx)=_
  rw[ih,ND,ND]
  congr 1
  show x++sep++(y++r.flatMap (sep++·))=x++((sep++y)++r.flatMap (sep++·))
  simp only[jz]
theorem NF:∀ts:List (List Nat),DX (ts.map fun t=>D.str (tx t))=some (ts.map tx)
 |[]=>rfl
 |t::r=>by
  rw[cT,DX,NF r];rfl
theorem NG(sep:List Nat):∀(ts:List (List Nat))(n:Nat),(ts.map tx).foldl (fun n t=>n+t.length+(tx sep).length) n=n+(ts.flatMap (sep++·)).length
 |[],n=>by simp
 |t::r,n=>by
  rw[cT,rf,NG sep r,tN,eP,eP,Bm,Bm];omega
theorem EM(sep:List Nat)(ts:List (List Nat))(h:(ts.flatMap (sep++·)).length<=16777216):Jf (.str (tx sep)) (.lst (ts.map fun t=>D.str (tx t)))=.ok (.str (tx (jo sep ts))):=by
 show(AG (DX (ts.map fun t=>D.str (tx t)))).bind _=_
 rw[NF]
 show(if(ts.map tx).foldl (fun n t=>n+t.length+(tx sep).length) 0<=dn then Res.ok (D.str (Str.join (tx sep) (ts.map tx))) else .bad)=_
 rw[if_pos (by rw[NG,aa5];exact h),KU]
abbrev gI(r:Int):List Nat:=Ch r.toNat
abbrev Gd(r:Int):Prop:=0<=r/\r<10000000000000000000000000
abbrev cM(t:List Nat):Prop:=∀c∈t,c<1114112
abbrev fl(sep:List Nat)(ts:List (List Nat)):List Nat:=ts.flatMap (sep++·)
theorem Vb{r:Int}(h:Gd r):r.toNat<10^25:=by
 obtain⟨h1,h2⟩:=h
 have:(10:Nat)^25=10000000000000000000000000:=by decide
 omega
theorem Gg{r:Int}(h:Gd r):1<=(gI r).length/\(gI r).length<=25:=Ho 25 _ (by decide) (Vb h)
theorem Vc(r:Int):cM (gI r):=fun c hc=>by have:=G4 r.toNat c hc;exact aS this (by decide)
theorem Im{r:Int}(h:Gd r):biD .str [.int r]=.ok (.str (tx (gI r))):=by
 have:=Pc (n:=r.toNat) (vA (Vb h) (by decide))
 rw[mP h.1]at this
 exact this
theorem W1(sep:List Nat)(t:List Nat)(ts:List (List Nat)):fl sep (t::ts)=sep++t++fl sep ts:=by
 unfold fl;rw[tN]
theorem G5{sep:List Nat}{B:Nat}:∀{ts:List (List Nat)},(∀t∈ts,t.length<=B)->(fl sep ts).length<=ts.length*(sep.length+B)
 |[],_=>by simp[fl]
 |t::r,h=>by
  have ih:=G5 (sep:=sep) (B:=B) (ts:=r) fun x hx=>h x (aL _ hx)
  have:=h t aP
  rw[W1,eP,eP,jS,mL]
  omega
theorem AaD{sep:List Nat}(hs:cM sep){ts:List (List Nat)}(h:∀t∈ts,cM t):cM (fl sep ts):=fun c hc=>by
 obtain⟨t,ht,hc⟩:=List.mem_flatMap.mp hc
 rcases bw.mp hc with hc|hc
 ·exact hs c hc
 exact h t ht c hc
theorem J7{sep:List Nat}(hs:cM sep){ts:List (List Nat)}(h:∀t∈ts,cM t):cM (jo sep ts):=fun c hc=>by
 rw[<- KT]at hc
 exact AaD hs h c (qX hc)
theorem J8{sep:List Nat}{B:Nat}{ts:List (List Nat)}(h:∀t∈ts,t.length<=B):(jo sep ts).length<=ts.length*(sep.length+B):=by
 rw[<- KT,nV]
 have:=G5 (sep:=sep) h
 unfold fl at this
 exact aS (Nat.sub_le ..) this
theorem J9{t:List Nat}(h:cM t)(k:Nat):D.aX k (.str (tx t))=true:=by
 have e:(tx t).cps.all (· < 0x110000)=true:=by
  unfold tx
  rw[List.all_toArray,cz]
  intro c hc
  exact decide_eq_true (h c hc)
 cases k<;>exact e
theorem SD(a b:List Nat):(tx a==tx b)=(a==b):=by
 rw[rA,beq_iff_eq,beq_iff_eq]
 constructor
 ·intro h
  have:=congrArg (fun z:Str=>z.cps.toList) h
  exact this
 intro h;rw[h]
theorem SE{a b:List Nat}(ha:cM a)(hb:cM b):c2 .ne (.str (tx a)) (.str (tx b))=.ok (.bl (!(a==b))):=by
 show(if D.aX 8 (.str (tx a))&&D.aX 8 (.str (tx b)) then Res.ok (D.bl (!(tx a==tx b))) else .bad)=_
 rw[J9 ha,J9 hb,SD];rfl
abbrev nT(rs:List Int):List Nat:=jo [32] (rs.map gI)
theorem NH:cM [32]:=fun c hc=>by simp at hc;exact fO (i9 hc) (by decide)
theorem Zi:cM [32,47,32]:=fun c hc=>by simp at hc;omega
theorem Zj:cM [58]:=fun c hc=>by simp at hc;exact fO (i9 hc) (by decide)
theorem Fd:cM [45]:=fun c hc=>by simp at hc;exact fO (i9 hc) (by decide)
theorem okg{rs:List Int}:∀t∈rs.map gI,cM t:=fun t ht=>by
 obtain⟨r,_,rfl⟩:=a8.mp ht
 exact Vc r
theorem UG{rs:List Int}(h:∀r∈rs,Gd r):∀t∈rs.map gI,t.length<=25:=fun t ht=>by
 obtain⟨r,hr,rfl⟩:=a8.mp ht
 exact(Gg (h r hr)).2
theorem Ja{rs:List Int}(h:∀r∈rs,Gd r)(hl:rs.length<=1000):AZ.den [Ae rs]=.ok (.str (tx (nT rs))):=by
 have hc:=Ax (nl:=1) (fr:=[]) (tg:=.nm 0) (it:=.seq (.nm 0)) (elt:=.bi .str (.cons (.nm 0) .nil)) (δ:=[some (Ae rs)]) (ds:=rs.map .int) (g:=fun d=>match d with|.int r=>.str (tx (gI r))|d=>d) (by
   unfold Ae
   generalize rs.map D.int=X at *
   simp_arith[]) (fun d hd=>by
  obtain⟨r,hr,rfl⟩:=a8.mp hd
  have hs:=Im (h r hr)
  refine⟨[some (.int r)],rfl,?_⟩
  show _=Res.ok (D.str (tx (gI r)))
  have e:ev (.bi .str (.cons (.nm 0) .nil)) [some (.int r)]=biD .str [.int r]:=rfl
  rw[e,hs])
 rw[bH]at hc
 have hc:ev (.ao 1 [] (.nm 0) (.seq (.nm 0)) (.bi .str (.cons (.nm 0) .nil))) [some (Ae rs)]=.ok (.lst ((rs.map gI).map fun t=>D.str (tx t))):=by rw[bH];exact hc
 have hL:=G5 (sep:=[32]) (UG h)
 rw[aF]at hL
 have hj:=EM [32] (rs.map gI) (by unfold fl at hL;simp at hL ⊢;omega)
 rw[<- Jx]at hj
 have hj:Jf (.str " ") (.lst ((rs.map gI).map fun t=>D.str (tx t)))=.ok (.str (tx (nT rs))):=hj
 refine gO ?_
 generalize (rs.map gI).map (fun t=>D.str (tx t))=LL at *
 generalize tx (nT rs)=R at *
 generalize hE:E.ao 1 [] (.nm 0) (.seq (.nm 0)) (.bi .str (.cons (.nm 0) .nil))=EE at *
 rw[EB,hE]
 generalize Ae rs=X at *
 simp_arith[hc,dS,hj]
abbrev Tg1(tr:List (List Int)):Prop:=tr.length<=100/\∀row∈tr,row≠[]/\row.length<=1000/\∀x∈row,Gd x
abbrev tT(tr:List (List Int)):List Nat:=jo [32,47,32] (tr.map nT)
theorem Vd(rs:List Int):cM (nT rs):=J7 NH okg
theorem NI{rs:List Int}(h:∀r∈rs,Gd r)(hl:rs.length<=1000):(nT rs).length<=26000:=by
 have:=J8 (sep:=[32]) (UG h)
 rw[aF]at this
 show(jo [32] (rs.map gI)).length<=_
 simp at this;omega
theorem Abu{tr:List (List Int)}(h:∀row∈tr,row≠[]/\row.length<=1000/\∀x∈row,Gd x):∀t∈tr.map nT,t.length<=26000:=fun t ht=>by
 obtain⟨r,hr,rfl⟩:=a8.mp ht
 exact NI (h r hr).2.2 (h r hr).2.1
theorem Hz{tr:List (List Int)}(h:Tg1 tr):D0.den [Ac tr]=.ok (.str (tx (if tr=[] then [45] else tT tr))):=by
 obtain⟨hl,h⟩:=h
 have hc:=Ax (nl:=1) (fr:=[]) (tg:=.nm 0) (it:=.seq (.nm 0)) (elt:=.call AZ (.cons (.nm 0) .nil)) (δ:=[some (Ac tr)]) (ds:=tr.map Ae) (g:=fun d=>match AZ.den [d] with|.ok v=>v|_=>d) (by
   unfold Ac
   generalize tr.map Ae=X at *
   simp_arith[]) (fun d hd=>by
  obtain⟨r,hr,rfl⟩:=a8.mp hd
  have hs:=Ja (h r hr).2.2 (h r hr).2.1
  refine⟨[some (Ae r)],rfl,?_⟩
  rw[hs]
  generalize Ae r=X at *
  simp_arith[hs])
 have hm:(tr.map Ae).map (fun d=>match AZ.den [d] with|.ok v=>v|_=>d)=(tr.map nT).map fun t=>D.str (tx t):=by
  rw[bH,bH]
  apply fN
  intro r hr
  have hs:=Ja (h r hr).2.2 (h r hr).2.1
  show(match AZ.den [Ae r] with|.ok v=>v|_=>Ae r)=_
  rw[hs];rfl
 rw[hm]at hc
 clear hm
 have hL:=G5 (sep:=[32,47,32]) (Abu h)
 rw[aF]at hL
 have hj:=EM [32,47,32] (tr.map nT) (by unfold fl at hL;simp at hL ⊢;omega)
 rw[<- Zh]at hj
 have hj:Jf (.str " / ") (.lst ((tr.map nT).map fun t=>D.str (tx t)))=.ok (.str (tx (tT tr))):=hj
 have hn:=BK (tr.map Ae) (Jr tr)
 have h3:=Il
 refine gO ?_
 generalize hE:E.ao 1 [] (.nm 0) (.seq (.nm 0)) (.call AZ (.cons (.nm 0) .nil))=EE at *
 rw[GI,hE]
 by_cases c:tr=[]
 ·subst c
  rw[if_pos rfl]
  have hn:c2 .eq (Ac []) (.lst [])=.ok (.bl true):=hn
  generalize tx [45]=M at *
  generalize Ac []=X at *
  simp_arith[hn,h3]
 rw[if_neg c]
 have e:(tr.map Ae).isEmpty=false:=by
  cases tr with
  |nil=>exact absurd rfl c
  |cons a r=>rfl
 rw[e]at hn
 have hn:c2 .eq (Ac tr) (.lst [])=.ok (.bl false):=hn
 generalize (tr.map nT).map (fun t=>D.str (tx t))=LL at *
 generalize tx (tT tr)=M at *
 generalize Ac tr=X at *
 simp_arith[hn,hc,dS,hj]
structure Et where
 a:Int
 b:Int
 c:Int
abbrev Et.d(e:Et):D:=.tup [.int e.a,.int e.b,.int e.c]
abbrev Et.G(e:Et):Prop:=Gd e.a/\Gd e.b/\Gd e.c
abbrev eT(e:Et):List Nat:=jo [58] [gI e.a,gI e.b,gI e.c]
theorem AaE(e:Et):eT e=gI e.a++[58]++gI e.b++[58]++gI e.c:=by
 show gI e.a++(([58]++gI e.b)++(([58]++gI e.c)++[]))=_
 simp only[jz,iB]
theorem Zk(h:e.G):(eT e).length<=77:=by
 have:=Gg h.1
 have:=Gg h.2.1
 have:=Gg h.2.2
 rw[AaE];simp;omega
theorem AaF(e:Et):cM (eT e):=J7 Zj fun t ht=>by
 simp only[bB,oJ,or_false]at ht
 rcases ht with rfl|rfl|rfl<;>exact Vc _
theorem LF(h:e.G):Bj.den [e.d]=.ok (.str (tx (eT e))):=by
 have s1:=Im h.1
 have s2:=Im h.2.1
 have s3:=Im h.2.2
 have hc:=Ax (nl:=1) (fr:=[]) (tg:=.nm 0) (it:=.seq (.nm 0)) (elt:=.bi .str (.cons (.nm 0) .nil)) (δ:=[some e.d]) (ds:=[.int e.a,.int e.b,.int e.c]) (g:=fun d=>match d with|.int r=>.str (tx (gI r))|d=>d) (by
   unfold Et.d
   simp_arith[]) (fun d hd=>by
  have e0:∀d:D,ev (.bi .str (.cons (.nm 0) .nil)) [some d]=biD .str [d]:=fun d=>rfl
  simp only[bB,oJ,or_false]at hd
  rcases hd with rfl|rfl|rfl
  ·exact⟨[some (.int e.a)],rfl,(e0 _).trans s1⟩
  ·exact⟨[some (.int e.b)],rfl,(e0 _).trans s2⟩
  exact⟨[some (.int e.c)],rfl,(e0 _).trans s3⟩)
 have hc:ev (.ao 1 [] (.nm 0) (.seq (.nm 0)) (.bi .str (.cons (.nm 0) .nil))) [some e.d]=.ok (.lst ([gI e.a,gI e.b,gI e.c].map fun t=>D.str (tx t))):=hc
 have g1:=Gg h.1
 have g2:=Gg h.2.1
 have g3:=Gg h.2.2
 have hj:=EM [58] [gI e.a,gI e.b,gI e.c] (by simp;omega)
 rw[<- NE]at hj
 have hj:Jf (.str ":") (.lst ([gI e.a,gI e.b,gI e.c].map fun t=>D.str (tx t)))=.ok (.str (tx (eT e))):=hj
 refine gO ?_
 generalize [gI e.a,gI e.b,gI e.c].map (fun t=>D.str (tx t))=LL at *
 generalize tx (eT e)=R at *
 generalize hE:E.ao 1 [] (.nm 0) (.seq (.nm 0)) (.bi .str (.cons (.nm 0) .nil))=EE at *
 rw[F8,hE]
 generalize e.d=X at *
 simp_arith[hc,dS,hj]
abbrev pT(es:List Et):List Nat:=jo [32] (es.map eT)
theorem oke{es:List Et}:∀t∈es.map eT,cM t:=fun t ht=>by
 obtain⟨r,_,rfl⟩:=a8.mp ht
 exact AaF r
theorem UH{es:List Et}(h:∀e∈es,e.G):∀t∈es.map eT,t.length<=77:=fun t ht=>by
 obtain⟨r,hr,rfl⟩:=a8.mp ht
 exact Zk (h r hr)
theorem Zl(es:List Et):(es.map Et.d).all (D.aX 7)=true:=by
 rw[cz]
 intro d hd
 obtain⟨r,_,rfl⟩:=a8.mp hd
 rfl
theorem KW{es:List Et}(h:∀e∈es,e.G)(hl:es.length<=1000):Ck.den [.lst (es.map Et.d)]=.ok (.str (tx (if es=[] then [45] else pT es))):=by
 have hc:=Ax (nl:=1) (fr:=[]) (tg:=.nm 0) (it:=.seq (.nm 0)) (elt:=.call Bj (.cons (.nm 0) .nil)) (δ:=[some (.lst (es.map Et.d))]) (ds:=es.map Et.d) (g:=fun d=>match Bj.den [d] with|.ok v=>v|_=>d) (by
   generalize es.map Et.d=X at *
   simp_arith[]) (fun d hd=>by
  obtain⟨r,hr,rfl⟩:=a8.mp hd
  have hs:=LF (h r hr)
  refine⟨[some r.d],rfl,?_⟩
  rw[hs]
  generalize r.d=X at *
  simp_arith[hs])
 have hm:(es.map Et.d).map (fun d=>match Bj.den [d] with|.ok v=>v|_=>d)=(es.map eT).map fun t=>D.str (tx t):=by
  rw[bH,bH]
  apply fN
  intro r hr
  have hs:=LF (h r hr)
  show(match Bj.den [r.d] with|.ok v=>v|_=>r.d)=_
  rw[hs];rfl
 rw[hm]at hc
 clear hm
 have hL:=G5 (sep:=[32]) (UH h)
 rw[aF]at hL
 have hj:=EM [32] (es.map eT) (by unfold fl at hL;simp at hL ⊢;omega)
 rw[<- Jx]at hj
 have hj:Jf (.str " ") (.lst ((es.map eT).map fun t=>D.str (tx t)))=.ok (.str (tx (pT es))):=hj
 have hn:=BK (es.map Et.d) (Zl es)
 have h3:=Il
 refine gO ?_
 generalize hE:E.ao 1 [] (.nm 0) (.seq (.nm 0)) (.call Bj (.cons (.nm 0) .nil))=EE at *
 rw[F9,hE]
 by_cases c:es=[]
 ·subst c
  rw[if_pos rfl]
  have hn:c2 .eq (.lst []) (.lst [])=.ok (.bl true):=hn
  simp only[iC]at hc ⊢
  generalize tx [45]=M at *
  simp_arith[hn,h3]
 rw[if_neg c]
 have e:(es.map Et.d).isEmpty=false:=by
  cases es with
  |nil=>exact absurd rfl c
  |cons a r=>rfl
 rw[e]at hn
 generalize (es.map eT).map (fun t=>D.str (tx t))=LL at *
 generalize tx (pT es)=M at *
 generalize es.map Et.d=X at *
 simp_arith[hn,hc,dS,hj]
abbrev dA(c:Nat):Bool:=decide (48<=c)&&decide (c<=57)
abbrev dv(l:List Nat):Nat:=l.foldl (fun acc c=>acc*10+(c-48)) 0
abbrev bA(l:List Nat):Bool:=decide (1<=l.length/\l.length<=20)&&(l.all dA&&(l==[48]||!(l.head?==some 48)))
theorem UI:("0" : Str)=tx [48]:=by rw[Str.ofString_eq_toList];rfl
theorem Abv:("0123456789" : Str)=tx [48,49,50,51,52,53,54,55,56,57]:=by rw[Str.ofString_eq_toList];rfl
theorem G6:cM [48]:=fun c hc=>by simp at hc;exact fO (i9 hc) (by decide)
theorem Gh{a b:List Nat}(ha:cM a)(hb:cM b):c2 .eq (.str (tx a)) (.str (tx b))=.ok (.bl (a==b)):=by
 show(if D.aX 8 (.str (tx a))&&D.aX 8 (.str (tx b)) then Res.ok (D.bl (tx a==tx b)) else .bad)=_
 rw[J9 ha,J9 hb,SD];rfl
theorem SF{l:List Nat}(h:l.length<=16777216):biD .fw [.str (tx l)]=.ok (.int (l.length:Nat)):=by
 show(if(tx l).length<=dn then Res.ok (D.int ((tx l).length:Nat)) else .bad)=_
 rw[if_pos (by rw[Bm];exact h),Bm]
theorem SG{l:List Nat}(h1:l.all dA=true)(h2:l≠[])(h3:l.length<=640):biD .cw [.str (tx l)]=.ok (.int (dv l:Nat)):=by
 show(if((tx l).cps.toList.all fun c=>decide (48<=c)&&decide (c<=57))=true/\(tx l).cps.toList≠[]/\(tx l).length<=640 then Res.ok (D.int (((tx l).cps.toList.foldl (fun acc c=>acc*10+(c-48)) 0:Nat):Int)) else .bad)=_
 rw[if_pos ⟨h1,h2,h3⟩];rfl
theorem SH(n:Bool)(c:Nat):Ku n (.str (tx [c])) (.str "0123456789")=.ok (.bl (dA c != n)):=by
 rw[Abv]
 show Res.ok (D.bl ((decide (c∈[48,49,50,51,52,53,54,55,56,57])) != n))=_
 have e:decide (c∈[48,49,50,51,52,53,54,55,56,57])=dA c:=by
  by_cases h:c<64
  ·exact(by decide:∀c<64,decide (c∈[48,49,50,51,52,53,54,55,56,57])=dA c) c h
  have n:¬c<=57:=fun z=>h (fO z (by decide))
  rw[decide_eq_false fun m=>n ((by decide:∀x∈[48,49,50,51,52,53,54,55,56,57],x<=57) c m)]
  unfold dA
  rw[decide_eq_false n,ab7]
 rw[e]
theorem Ve{l:List Nat}(h:l.length<=16777216):PK (.str (tx l))=.ok (l.map fun c=>D.str (tx [c])):=by
 show(if(tx l).length<=dn then Res.ok (Gp (tx l)) else .bad)=_
 rw[if_pos (by rw[Bm];exact h)];rfl
theorem Zm{c:Nat}{r:List Nat}(h:(c::r).length<=16777216):wH (.str (tx (c::r))) (.int 0)=.ok (.str (tx [c])):=by
 show(if(tx (c::r)).length<=dn then(match (dE (c::r).length 0).bind (fun j=>(c::r)[j]?) with|some c=>Res.ok (D.str ⟨#[c]⟩)|none=>.bad) else .bad)=_
 rw[if_pos (by rw[Bm];exact h)]
 unfold dE
 rw[if_pos (by exact by decide),if_pos (by simp)]
 rfl
theorem IQ{α:Type}(g:α->Bool):∀xs:List α,AM (xs.map fun x=>D.bl (g x))=some (xs.map g)
 |[]=>rfl
 |x::r=>by rw[cT,AM,IQ g r];rfl
theorem LO{l:List Nat}(ok:cM l)(hl:l.length<=16777216):HZ.den [.str (tx l)]=.ok (.bl (bA l)):=by
 have h1:=SF hl
 have hg:=Ve hl
 have hc:=Ax (nl:=1) (fr:=[]) (tg:=.nm 0) (it:=.kA (.nm 0)) (elt:=.eY false (.nm 0) (.gl "FIGURES" (.str "0123456789"))) (δ:=[some (.str (tx l))]) (ds:=l.map fun c=>D.str (tx [c])) (g:=fun d=>match d with|.str z=>.bl (z.cps.toList.all dA)|d=>d) (by
   rw[evI]
   show(Res.ok (D.str (tx l))).bind PK=_
   exact hg) (fun d hd=>by
  obtain⟨c,_,rfl⟩:=a8.mp hd
  refine⟨[some (.str (tx [c]))],rfl,?_⟩
  have e:=SH false c
  have e2:ev (.eY false (.nm 0) (.gl "FIGURES" (.str "0123456789"))) [some (.str (tx [c]))]=Ku false (.str (tx [c])) (.str "0123456789"):=rfl
  rw[e2,e]
  show Res.ok (D.bl (dA c != false))=Res.ok (D.bl (dA c&&true))
  cases dA c<;>rfl)
 rw[bH]at hc
 have hm:(l.map ((fun d=>match d with|.str z=>D.bl (z.cps.toList.all dA)|d=>d) ∘ fun c=>D.str (tx [c])))=l.map fun c=>D.bl (dA c):=fN fun c _=>by
  show D.bl (dA c&&true)=_
  rw[abF]
 rw[hm]at hc
 have h5:biD .all [.lst (l.map fun c=>D.bl (dA c))]=.ok (.bl (l.all dA)):=by
  show(AG (AM (l.map fun c=>D.bl (dA c)))).bind (fun bs=>Res.ok (D.bl (bs.all id)))=_
  rw[IQ]
  show Res.ok (D.bl ((l.map dA).all id))=_
  rw[mK];rfl
 refine gO ?_
 unfold bA
 clear hm hg
 generalize hE:E.ao 1 [] (.nm 0) (.kA (.nm 0)) (.eY false (.nm 0) (.gl "FIGURES" (.str "0123456789")))=EE at *
 rw[GJ,hE]
 have eL:∀δ,ev (.bi .fw (.cons (.nm 0) .nil)) (some (D.str (tx l))::δ)=.ok (.int (l.length:Nat)):=fun δ=>h1
 have eA:ev (.bi .all (.cons EE .nil)) [some (.str (tx l))]=.ok (.bl (l.all dA)):=by
  show((ev EE [some (.str (tx l))]).bind fun x=>(Res.ok []).bind fun xs=>Res.ok (x::xs)).bind (fun ds=>biD .all ds)=_
  rw[hc];exact h5
 have mj:ev (.not (.bi .all (.cons EE .nil))) [some (.str (tx l))]=.ok (.bl (!(l.all dA))):=by
  rw[ev,eA];rfl
 clear hc hE eA
 generalize hL:E.bi .fw (.cons (.nm 0) .nil)=EL at *
 generalize hT:E.not (.bi .all (.cons EE .nil))=NT at *
 by_cases c1:1<=l.length/\l.length<=20
 ·obtain⟨c,r,rfl⟩:∃c r,l=c::r:=by
   cases l with
   |nil=>exact absurd c1.1 (by decide)
   |cons c r=>exact⟨c,r,rfl⟩
  have h0:=Zm hl
  have q1:=Gh ok G6
  have q2:=SE (a:=[c]) (b:=[48]) (fun x hx=>ok x (by simp at hx;simp[hx])) G6
  rw[<- UI]at q1 q2
  rw[decide_eq_true c1,aa4]
  have d1:(1:Int)<=((c::r).length:Nat):=by omega
  have d2:(((c::r).length:Nat):Int)<=20:=by omega
  have xQ:([c]==[48])=((c::r).head?==some 48):=by
   show([c]==[48])=(some c==some 48)
   rw[rA,beq_iff_eq,beq_iff_eq]
   simp
  rw[xQ]at q2
  cases ca:(c::r).all dA with
  |false=>
   rw[ca]at mj
   have mj:ev NT [some (.str (tx (c::r)))]=.ok (.bl true):=mj
   rw[aa0]
   generalize (((c::r).length:Nat):Int)=LN at *
   generalize tx (c::r)=T at *
   simp_arith[eL,d1,d2,mj]
  |true=>
  rw[ca]at mj
  have mj:ev NT [some (.str (tx (c::r)))]=.ok (.bl false):=mj
  rw[aa4]
  generalize (((c::r).length:Nat):Int)=LN at *
  generalize ((c::r).head?==some 48)=HB at *
  generalize ((c::r)==[48])=ZB at *
  generalize tx (c::r)=T at *
  generalize tx [c]=C at *
  cases ZB<;>cases HB
  ·simp_arith[eL,d1,d2,mj,q1,h0,q2,qt]
  ·simp_arith[eL,d1,d2,mj,q1,h0,q2,qt]
  ·simp_arith[eL,d1,d2,mj,q1,vB]
  simp_arith[eL,d1,d2,mj,q1,vB]
 rw[decide_eq_false c1,aa0]
 by_cases cc:1<=l.length
 ·have d1:(1:Int)<=(l.length:Nat):=by exact gS.mpr cc
  have d2:¬((l.length:Nat):Int)<=20:=by omega
  generalize ((l.length:Nat):Int)=LN at *
  generalize tx l=T at *
  simp_arith[eL,d1,d2]
 have d1:¬(1:Int)<=(l.length:Nat):=by exact sX (iZ.mp cc)
 generalize ((l.length:Nat):Int)=LN at *
 generalize tx l=T at *
 simp_arith[eL,d1]
theorem Zn{l:List Nat}(h:bA l=true):(1<=l.length/\l.length<=20)/\l.all dA=true/\(l==[48]||!(l.head?==some 48))=true:=by
 unfold bA at h
 rw[bg,bg,decide_eq_true_eq]at h
 exact h
theorem CJ{l:List Nat}(ok:cM l)(hl:l.length<=16777216):A9.den [.str (tx l)]=if bA l=true then .ok (.int (dv l:Nat)) else .exc 16:=by
 have h1:=LO ok hl
 by_cases c:bA l=true
 ·rw[if_pos c]
  rw[c]at h1
  obtain⟨⟨g1,g2⟩,g3,_⟩:=Zn c
  have h2:=SG g3 (fun z=>by subst z;exact absurd g1 (by decide)) (by exact aS g2 (by decide))
  have h2:ev (.bi .cw (.cons (.nm 0) .nil)) [some (.str (tx l))]=.ok (.int (dv l:Nat)):=h2
  refine gO ?_
  generalize hI:E.bi .cw (.cons (.nm 0) .nil)=EI at *
  rw[Dt,hI]
  generalize tx l=T at *
  simp_arith[h1,h2]
 rw[if_neg c]
 have c:bA l=false:=by simpa using c
 rw[c]at h1
 generalize tx l=T at *
 refine(Ci rfl).trans (GY (δ:=[some (.str T)]) ?_)
 simp_arith[Dt,h1,Out.c7]
abbrev sp(l sep:List Nat):List (List Nat):=(Txt.split (tx l) (tx sep)).map fun z=>z.cps.toList
theorem AaG(z:Str):tx z.cps.toList=z:=by
 obtain⟨a⟩:=z
 show(⟨a.toList.toArray⟩:Str)=⟨a⟩
 rw[Array.toArray_toList]
theorem SI(l sep:List Nat):(sp l sep).map tx=Txt.split (tx l) (tx sep):=by
 unfold sp
 rw[bH]
 exact(fN fun z _=>AaG z).trans (vm _)
theorem Zo(z:Str)(i j:Nat):(∀c∈(Builtin.Str.strSub z i j).cps.toList,c∈z.cps.toList)/\(Builtin.Str.strSub z i j).cps.toList.length<=z.cps.toList.length:=by
 have e:(Builtin.Str.strSub z i j).cps.toList=(z.cps.toList.drop i).take (j-i):=by
  unfold Builtin.Str.strSub
  simp
 rw[e]
 refine⟨fun c hc=>qX (tJ hc),?_⟩
 rw[oI,nV];omega
theorem EN(l sep:List Nat):(∀w∈sp l sep,(∀c∈w,c∈l)/\w.length<=l.length)/\(sp l sep).length<=l.length+2/\sp l sep≠[]:=by
 have key:Txt.split (tx l) (tx sep)=[tx l]\/∃gH:List Nat,gH.length<=l.length+1/\Txt.split (tx l) (tx sep)=Builtin.Str.partsBetween (tx l) gH (tx sep).length:=by
  unfold Txt.split
  split
  ·exact .inl rfl
  split
  ·exact .inl rfl
  exact .inr ⟨_,StrLaws.occ_length_le _ _ _ _ _,rfl⟩
 unfold sp
 rcases key with e|⟨gH,hc,e⟩
 ·rw[e]
  refine⟨fun w hw=>?_,by simp,by simp⟩
  simp only[cT,iC,gp]at hw
  rw[hw,J4]
  exact⟨fun c hc=>hc,bx _⟩
 rw[e]
 refine⟨fun w hw=>?_,?_,?_⟩
 ·obtain⟨z,hz,rfl⟩:=a8.mp hw
  unfold Builtin.Str.partsBetween at hz
  obtain⟨⟨i,j⟩,_,rfl⟩:=a8.mp hz
  exact Zo (tx l) i j
 ·rw[aF,length_partsBetween];exact kn hc
 intro h
 have:=congrArg aaI h
 rw[aF,length_partsBetween]at this
 simp at this
theorem DS{l sep:List Nat}(hs:sep≠[])(hl:l.length<=1000000):Yh (.str (tx l)) (.str (tx sep))=.ok (.lst ((sp l sep).map fun w=>D.str (tx w))):=by
 have h1:=(EN l sep).2.1
 have h2:(Txt.split (tx l) (tx sep)).length=(sp l sep).length:=by unfold sp;rw[aF]
 have e:(sp l sep).map (fun w=>D.str (tx w))=(Txt.split (tx l) (tx sep)).map D.str:=by rw[<- SI,bH];rfl
 rw[e]
 refine if_pos ⟨?_,?_,?_⟩
 ·rw[Bm];exact fun z=>hs (List.length_eq_zero_iff.mp z)
 ·rw[Bm];show l.length<=16777216;exact aS hl (by decide)
 rw[h2];show _<=16777216;omega
theorem NJ{l sep:List Nat}(h:cM l):∀w∈sp l sep,cM w:=fun w hw c hc=>h c (((EN l sep).1 w hw).1 c hc)
theorem Zp{l sep:List Nat}(h:l.length<=1000000):∀w∈sp l sep,w.length<=1000000:=fun w hw=>aS ((EN l sep).1 w hw).2 h
theorem SJ{F:D->Res D}{p:D->Bool}{g:D->D}{c:Nat}:∀{ds:List D},(∀d∈ds,F d=if p d=true then .ok (g d) else .exc c)->DJ F ds=if ds.all p=true then .ok (ds.map g) else .exc c
 |[],_=>rfl
 |d::ds,h=>by
  have h1:=h d (aP ..)
  have h2:=SJ (ds:=ds) fun e he=>h e (aL _ he)
  rw[DJ,h1,h2,eR]
  by_cases c1:p d=true
  ·rw[if_pos c1,c1,aa4,Res.bind_ok]
   by_cases c2:ds.all p=true
   ·rw[if_pos c2,if_pos c2];rfl
   rw[if_neg c2,if_neg c2];rfl
  have e:(p d&&ds.all p)=false:=by
   rw[show p d=false by simpa using c1];rfl
  rw[if_neg c1,e]
  rfl
theorem Jy{nl:Nat}{fr:List Nat}{p:D->Bool}{g:D->D}{c:Nat}(hi:evI it δ=.ok ds)(h:∀d∈ds,∃aQ,CI tg d (lA nl fr δ)=some aQ/\ev elt aQ=if p d=true then .ok (g d) else .exc c)(hc:c<1000:=by decide) :
  ev (.ao nl fr tg it elt) δ=if ds.all p=true then .ok (.lst (ds.map g)) else .exc c:=by
 rw[ev,hi,Res.bind_ok,SJ (p:=p) (g:=g) (c:=c) (fun d hd=>by
  obtain⟨aQ,h1,h2⟩:=h d hd
  rw[h1]
  show kr (ev elt aQ)=_
  rw[h2]
  split
  ·rfl
  exact if_neg (rl hc))]
 by_cases c2:ds.all p=true
 ·rw[if_pos c2,if_pos c2];rfl
 rw[if_neg c2,if_neg c2];rfl
abbrev nz(ws:List (List Nat)):List Int:=ws.map fun w=>(dv w:Int)
abbrev fM(xs:List Int):Bool:=xs.all fun x=>decide (x<=1000000000000000000)
structure Tx(l:List Nat):Prop where
 ok:cM l
 len:l.length<=1000000
theorem Tx.part{l sep w:List Nat}(h:Tx l)(hw:w∈sp l sep):Tx w:=⟨NJ h.ok w hw,Zp h.len w hw⟩
theorem Gi{l:List Nat}(h:Tx l):Bf.den [.str (tx l)]=if(sp l [32]).all bA=true then .ok (Ae (nz (sp l [32]))) else .exc 16:=by
 have dC:=DS (sep:=[32]) (by simp) h.len
 have hc:=Jy (nl:=1) (fr:=[]) (tg:=.nm 0) (it:=.seq (.fJ (.nm 0) (.cS " "))) (elt:=.call A9 (.cons (.nm 0) .nil)) (δ:=[some (.str (tx l))]) (ds:=(sp l [32]).map fun w=>D.str (tx w)) (p:=fun d=>match d with|.str z=>bA z.cps.toList|_=>false) (g:=fun d=>match d with|.str z=>.int (dv z.cps.toList:Nat)|d=>d) (c:=16) (by
   rw[Jx]
   have hd:dS (.str (tx l))=true:=rfl
   generalize tx l=T at *
   simp_arith[hd,dC]) (fun d hd=>by
  obtain⟨w,hw,rfl⟩:=a8.mp hd
  have t:=h.part hw
  refine⟨[some (.str (tx w))],rfl,?_⟩
  have:=CJ t.ok (aS t.len (by decide))
  show ev (.call A9 (.cons (.nm 0) .nil)) [some (.str (tx w))]=if bA w=true then .ok (.int (dv w:Nat)) else .exc 16
  rw[<- this]
  rfl)
 have e1:((sp l [32]).map fun w=>D.str (tx w)).all (fun d=>match d with|.str z=>bA z.cps.toList|_=>false)=(sp l [32]).all bA:=by
  rw[mK];rfl
 have e2:((sp l [32]).map fun w=>D.str (tx w)).map (fun d=>match d with|.str z=>.int (dv z.cps.toList:Nat)|d=>d)=(nz (sp l [32])).map D.int:=by
  unfold nz
  rw[bH,bH];rfl
 rw[e1,e2]at hc
 refine(Ci rfl).trans ?_
 unfold Ae
 by_cases c:(sp l [32]).all bA=true
 ·rw[if_pos c]at hc ⊢
  refine GX ?_
  show exs Bv [some (.str (tx l))]=_
  rw[Bv,exs,ex,hc];rfl
 rw[if_neg c]at hc ⊢
 refine GY (δ:=[some (.str (tx l))]) ?_
 show exs Bv [some (.str (tx l))]=_
 rw[Bv,exs,ex,hc];rfl
theorem Zq(v:Int)(h0:0<=v):Fy.den [.int v]=.ok (.bl (decide (v<=1000000000000000000))):=by
 have hb:=Bz v 0 1000000000000000000
 have e:decide (0<=v/\v<=1000000000000000000)=decide (v<=1000000000000000000):=by
  by_cases c:v<=1000000000000000000
  ·rw[decide_eq_true c,decide_eq_true ⟨h0,c⟩]
  rw[decide_eq_false c,decide_eq_false fun z=>c z.2]
 rw[e]at hb
 refine gO ?_
 generalize decide (v<=1000000000000000000)=b at *
 simp_arith[HX,hb]
theorem Pd{xs:List Int}(h:∀x∈xs,0<=x):Cz.den [Ae xs]=.ok (.bl (fM xs)):=by
 have hc:=Ax (nl:=1) (fr:=[]) (tg:=.nm 0) (it:=.seq (.nm 0)) (elt:=.call Fy (.cons (.nm 0) .nil)) (δ:=[some (Ae xs)]) (ds:=xs.map D.int) (g:=fun d=>match d with|.int v=>.bl (decide (v<=1000000000000000000))|d=>d) (by unfold Ae;simp_arith[]) (fun d hd=>by
  obtain⟨v,hv,rfl⟩:=a8.mp hd
  have:=Zq v (h v hv)
  refine⟨[some (.int v)],rfl,?_⟩
  show _=Res.ok (D.bl (decide (v<=1000000000000000000)))
  generalize decide (v<=1000000000000000000)=b at *
  simp_arith[this])
 have e:(xs.map D.int).map (fun d=>match d with|.int v=>D.bl (decide (v<=1000000000000000000))|d=>d)=xs.map fun x=>D.bl (decide (x<=1000000000000000000)):=by rw[bH];rfl
 rw[e]at hc
 have hb:=IQ (fun x:Int=>decide (x<=1000000000000000000)) xs
 have ha:(xs.map fun x=>decide (x<=1000000000000000000)).all id=fM xs:=by
  unfold fM;rw[mK];rfl
 refine gO ?_
 generalize hC:E.ao 1 [] (.nm 0) (.seq (.nm 0)) (.call Fy (.cons (.nm 0) .nil))=C at *
 rw[Hj,hC]
 unfold Ae at *
 generalize xs.map D.int=R at *
 generalize (xs.map fun x=>D.bl (decide (x<=1000000000000000000)))=RB at *
 generalize (xs.map fun x=>decide (x<=1000000000000000000))=BB at *
 simp_arith[hc,hb,AG,ha]
theorem NK:∀a b:List Nat,D.hV (a.map iN) (b.map iN)=decide (a=b)
 |[],[]=>rfl
 |[],y::b=>rfl
 |x::a,[]=>rfl
 |x::a,y::b=>by
  show(((x:Int)==(y:Int))&&D.hV (a.map iN) (b.map iN))=_
  rw[NK a b]
  by_cases c:x=y
  ·subst c
   by_cases c2:a=b
   ·subst c2;simp
   simp[c2]
  rw[show((x:Int)==(y:Int))=false by rw[beq_eq_false_iff_ne];omega]
  simp[c]
theorem Pe(a:List Nat):D.aX 8 (AA a)=true:=by
 show(a.map iN).all (D.aX 7)=true
 rw[cz]
 intro d hd
 obtain⟨w,_,rfl⟩:=a8.mp hd
 rfl
theorem Zr(a b:List Nat):c2 .eq (AA a) (AA b)=.ok (.bl (decide (a=b))):=by
 show(if(D.aX 8 (AA a)&&D.aX 8 (AA b))=true then _ else _)=_
 rw[Pe,Pe]
 show Res.ok (D.bl (D.hV (a.map iN) (b.map iN)))=_
 rw[NK]
theorem UJ(tr:List (List Int)):DY.den [Ac tr]=.ok (AA (tr.map aaI)):=by
 have h2:=Ax (nl:=1) (fr:=[]) (tg:=.nm 0) (it:=.seq (.nm 0)) (elt:=.bi .len (.cons (.nm 0) .nil)) (δ:=[some (Ac tr)]) (ds:=tr.map Ae) (g:=fun d=>match d with|.lst ds=>.int ds.length|d=>d) (by unfold Ac;simp_arith[]) (fun d hd=>by
  obtain⟨x,_,rfl⟩:=a8.mp hd
  refine⟨[some (Ae x)],rfl,?_⟩
  unfold Ae
  simp_arith[])
 have e:(tr.map Ae).map (fun d=>match d with|.lst ds=>D.int ds.length|d=>d)=(tr.map aaI).map iN:=by
  rw[bH,bH]
  apply fN
  intro x _
  show D.int ((x.map D.int).length:Int)=iN x.length
  rw[aF];rfl
 rw[e]at h2
 refine gO ?_
 unfold Ac AA at *
 simp_arith[]at h2
 simp_arith[EU,h2]
structure Rw(T:List (List Int)):Prop where
 ne:T≠[]
 row:∀r∈T,r≠[]/\∀x∈r,0<=x
theorem W2{T:List (List Int)}(h:Rw T):Br.den [Ac T]=.ok (Ae (T.getD 0 [])):=by
 cases T with
 |nil=>exact absurd rfl h.ne
 |cons r t=>
 have h2:=BK ((r::t).map Ae) (Jr _)
 have h3:bz ((r::t).map Ae) 0=.ok (Ae r):=by
  unfold bz dE
  rw[if_pos (by exact by decide),if_pos (by simp)];rfl
 refine gO ?_
 show exs Cb [some (.lst ((r::t).map Ae))]=.ret (.lst (r.map D.int))
 rw[show((r::t).map Ae).isEmpty=false from rfl]at h2
 unfold Ae at h2 h3 ⊢
 generalize ((r::t).map fun xs=>D.lst (xs.map D.int))=T at *
 generalize r.map D.int=R at *
 simp_arith[Cb,h2,h3]
theorem W3{T:List (List Int)}(h:Rw T)(f:Nat):AT.den [Ac T,.int f]=.ok (aA (T.getD 0 []).length f):=by
 have h1:=W2 h
 have l1:((((T.getD 0 []).map D.int).length:Nat):Int)=((T.getD 0 []).length:Int):=by rw[aF]
 refine gO ?_
 unfold aA
 unfold Ae at h1
 generalize (T.getD 0 []).map D.int=R at *
 generalize Ac T=TT at *
 generalize ((T.getD 0 []).length:Int)=n at *
 simp_arith[DZ,h1,l1]
theorem Hq:∀xs:List Int,AJ (xs.map D.int)=some xs
 |[]=>rfl
 |x::xs=>by
  rw[cT,AJ,Hq xs];rfl
abbrev Ka(T:List (List Int))(lv:List Nat):Bool:=T.all fM&&(decide ((T.getD 0 []).length<=200)&&decide (T.map aaI=lv))
theorem Zs{T:List (List Int)}(h:Rw T){f:Nat}(hf:2<=f)(av:f<=8){lv:List Nat}(jQ:(T.getD 0 []).length<=200->B7.den [aA (T.getD 0 []).length f]=.ok (AA lv)):Hk.den [Ac T,.int f]=.ok (.bl (Ka T lv)):=by
 have hc:=Ax (nl:=1) (fr:=[]) (tg:=.nm 0) (it:=.seq (.nm 0)) (elt:=.call Cz (.cons (.nm 0) .nil)) (δ:=[some (Ac T),some (.int f),none]) (ds:=T.map Ae) (g:=fun d=>match d with|.lst ds=>(match AJ ds with|some xs=>.bl (fM xs)|none=>d)|d=>d) (by unfold Ac;simp_arith[]) (fun d hd=>by
  obtain⟨x,hx,rfl⟩:=a8.mp hd
  have:=Pd (h.row x hx).2
  refine⟨[some (Ae x)],rfl,?_⟩
  show _=Res.ok (match AJ (x.map D.int) with|some xs=>D.bl (fM xs)|none=>Ae x)
  rw[Hq]
  show _=Res.ok (D.bl (fM x))
  generalize Ae x=X at *
  generalize fM x=b at *
  simp_arith[this])
 have e:(T.map Ae).map (fun d=>match d with|.lst ds=>(match AJ ds with|some xs=>D.bl (fM xs)|none=>d)|d=>d)=T.map fun x=>D.bl (fM x):=by
  rw[bH]
  apply fN
  intro x _
  show(match AJ (x.map D.int) with|some xs=>D.bl (fM xs)|none=>Ae x)=_
  rw[Hq]
 rw[e]at hc
 have hb:=IQ fM T
 have ha:(T.map fM).all id=T.all fM:=by rw[mK];rfl
 have hs:=W3 h f
 have xD:=UJ T
 refine gO ?_
 generalize hC:E.ao 1 [] (.nm 0) (.seq (.nm 0)) (.call Cz (.cons (.nm 0) .nil))=C at *
 rw[HY,hC]
 unfold Ka
 by_cases c1:T.all fM=true
 ·rw[c1]at ha ⊢
  by_cases c2:(T.getD 0 []).length<=200
  ·have hl:=jQ c2
   have hq:=Zr (T.map aaI) lv
   rw[decide_eq_true c2]
   have c2:((T.getD 0 []).length:Int)<=200:=by exact gS.mpr c2
   unfold aA at *
   generalize decide (T.map aaI=lv)=B at *
   generalize AA (T.map aaI)=N1 at *
   generalize AA lv=N2 at *
   unfold Ac at *
   generalize T.map Ae=W at *
   generalize (T.map fun x=>D.bl (fM x))=RB at *
   generalize T.map fM=BB at *
   generalize ((T.getD 0 []).length:Int)=n at *
   simp_arith[hc,hb,AG,ha,hs,c2,xD,hl,hq]
  rw[decide_eq_false c2]
  have c2:¬((T.getD 0 []).length:Int)<=200:=by omega
  unfold aA at *
  unfold Ac at *
  generalize T.map Ae=W at *
  generalize (T.map fun x=>D.bl (fM x))=RB at *
  generalize T.map fM=BB at *
  generalize ((T.getD 0 []).length:Int)=n at *
  simp_arith[hc,hb,AG,ha,hs,c2]
 have c1:T.all fM=false:=by simpa using c1
 rw[c1]at ha ⊢
 unfold Ac at *
 generalize T.map Ae=W at *
 generalize (T.map fun x=>D.bl (fM x))=RB at *
 generalize T.map fM=BB at *
 simp_arith[hc,hb,AG,ha]
theorem Kb(l:List Nat):Du.den [.str (tx l)]=.ok .aJ:=by
 refine(Ci rfl).trans ?_
 generalize tx l=T
 simp_arith[run,Ga]
theorem SK(l sep:List Nat):((sp l sep).map aaI).sum<=l.length:=by
 have one:∀P:List Str,P=[tx l]->((P.map fun z=>z.cps.toList).map aaI).sum<=l.length:=fun P e=>by
  subst e
  simp[J4]
 unfold sp
 unfold Txt.split
 split
 ·exact one _ rfl
 split
 ·exact one _ rfl
 have h1:=StrLaws.glued_between_self (tx l) (tx sep) ((tx l).length+1)
 have h2:=size_glued (tx sep) (Builtin.Str.partsBetween (tx l) (Builtin.Str.occurrences (tx l) (tx sep) 0 (tx l).length ((tx l).length+1)) (tx sep).length)
 rw[h1]at h2
 rw[bH]
 have e:(aaI ∘ fun z:Str=>z.cps.toList)=fun z=>z.length:=by
  funext z
  show z.cps.toList.length=z.cps.size
  simp
 rw[e]
 have h3:(tx l).length=l.length:=rfl
 exact aS (ng ..) (i9 h2.symm)
theorem Ke(sep:List Nat):∀ts:List (List Nat),(ts.flatMap (sep++·)).length=ts.length*sep.length+(ts.map aaI).sum
 |[]=>by simp
 |t::ts=>by
  rw[tN,eP,Ke sep ts,eP,cT,List.sum_cons,jS,tX]
  omega
theorem SL(sep:List Nat)(ts:List (List Nat)):(jo sep ts).length<=ts.length*sep.length+(ts.map aaI).sum:=by
 rw[<- KT,nV,Ke]
 exact Nat.sub_le ..
theorem Vf{sep:List Nat}(hs:cM sep)(h8:sep.length<=3){ts:List (List Nat)}(ok:∀w∈ts,cM w)(hb:ts.length*sep.length+(ts.map aaI).sum<=1000000):∃u,Tx u/\Jf (.str (tx sep)) (.lst (ts.map fun t=>D.str (tx t)))=.ok (.str (tx u)):=by
 refine⟨jo sep ts,⟨J7 hs ok,aS (SL sep ts) hb⟩,EM sep ts ?_⟩
 rw[Ke]
 exact aS hb (by decide)
theorem Pf{a b:List Nat}(ha:cM a)(hb:cM b):cM (a++b):=fun c hc=>by
 rcases bw.mp hc with h|h
 ·exact ha c h
 exact hb c h
theorem SM{ws:List (List Nat)}{k:Nat}(h:k<ws.length):∃w,w∈ws/\bz (ws.map fun w=>D.str (tx w)) (k:Int)=.ok (.str (tx w)):=by
 refine⟨ws[k],vf h,?_⟩
 unfold bz dE
 rw[if_pos (by exact gq _),if_pos (by simp;omega),gR]
 show(match (ws.map fun w=>D.str (tx w))[k]? with|some d=>Res.ok d|none=>.bad)=_
 rw[dg,d_ h];rfl
theorem SN{xs:List Int}(h:∀x∈xs,Gd x)(hi:evI it δ=.ok (xs.map D.int))(hl:xs.length<=300):ev (.i7 (.cS " ") (.ao 1 [] (.nm 0) it (.bi .str (.cons (.nm 0) .nil)))) δ=.ok (.str (tx (nT xs))):=by
 have hc:=Ax (nl:=1) (fr:=[]) (tg:=.nm 0) (it:=it) (elt:=.bi .str (.cons (.nm 0) .nil)) (δ:=δ) (ds:=xs.map D.int) (g:=fun d=>match d with|.int r=>.str (tx (gI r))|d=>d) hi (fun d hd=>by
  obtain⟨r,hr,rfl⟩:=a8.mp hd
  exact⟨[some (.int r)],rfl,Im (h r hr)⟩)
 have e:(xs.map D.int).map (fun d=>match d with|.int r=>D.str (tx (gI r))|d=>d)=(xs.map gI).map fun t=>D.str (tx t):=by
  rw[bH,bH];rfl
 rw[e]at hc
 have hj:=EM [32] (xs.map gI) (by
  have h1:=G5 (sep:=[32]) (UG h)
  rw[aF]at h1
  unfold fl at h1
  have:([32]:List Nat).length=1:=rfl
  rw[this]at h1
  have h2:xs.length*(1+25)<=300*(1+25):=m9 _ hl
  omega)
 have ds:dS (.str (tx [32]))=true:=rfl
 unfold nT
 generalize hC:E.ao 1 [] (.nm 0) it (.bi .str (.cons (.nm 0) .nil))=C at *
 rw[Jx]
 generalize ((xs.map gI).map fun t=>D.str (tx t))=L at *
 generalize tx [32]=X at *
 generalize tx (jo [32] (xs.map gI))=J at *
 simp_arith[ds,hc,hj]
abbrev Dg(w:List Nat):Bool:=decide ((sp w [58]).length=3)&&(sp w [58]).all bA
abbrev Fl(w:List Nat):D:=.tup ((sp w [58]).map fun x=>.int (dv x:Nat))
theorem IR{α:Type}{xs:List α}(h:xs.length=3):∃a b c,xs=[a,b,c]:=by
 match xs,h with
 |[a,b,c],_=>exact⟨a,b,c,rfl⟩
theorem W4{w:List Nat}(h:Tx w):Cl.den [.str (tx w)]=if Dg w=true then .ok (Fl w) else .exc 16:=by
 have dC:=DS (sep:=[58]) (by simp) h.len
 have hd:dS (.str (tx w))=true:=rfl
 have hp:=fun x hx=>h.part (sep:=[58]) (w:=x) hx
 unfold Dg Fl
 generalize sp w [58]=ps at *
 by_cases c3:ps.length=3
 ·obtain⟨a,b,c,rfl⟩:=IR c3
  have ha:=CJ (hp a (by simp)).ok (aS (hp a (by simp)).len (by decide))
  have hb:=CJ (hp b (by simp)).ok (aS (hp b (by simp)).len (by decide))
  have hc:=CJ (hp c (by simp)).ok (aS (hp c (by simp)).len (by decide))
  have i0:bz [D.str (tx a),D.str (tx b),D.str (tx c)] 0=.ok (.str (tx a)):=rfl
  have i1:bz [D.str (tx a),D.str (tx b),D.str (tx c)] 1=.ok (.str (tx b)):=rfl
  have i2:bz [D.str (tx a),D.str (tx b),D.str (tx c)] 2=.ok (.str (tx c)):=rfl
  have n3:c2 .ne (.int 3) (.int 3)=.ok (.bl false):=rfl
  simp only[cT,iC]at dC
  refine(Ci rfl).trans ?_
  have e:∀(x y z:Bool),(decide ([a,b,c].length=3)&&[a,b,c].all bA)=(bA a&&(bA b&&bA c)):=fun _ _ _=>by simp[List.all]
  rw[e true true true]
  rw[D2,NE]
  clear hp h e
  generalize tx w=W at *
  generalize tx [58]=C at *
  cases q1:bA a<;>cases q2:bA b<;>cases q3:bA c<;>rw[q1]at ha<;>rw[q2]at hb<;>rw[q3]at hc<;>simp only[aba,if_false,if_true]at ha hb hc
  all_goals first
   | (refine GX ?_
      simp only[abF,acG,if_true,cT,iC]
      simp_arith[hd,dC,n3,i0,i1,i2,ha,hb,hc]
      done)
   | (refine GY (δ:=[some (.str W),some (.lst [.str (tx a),.str (tx b),.str (tx c)])]) ?_
      simp_arith[hd,dC,n3,i0,i1,i2,ha,hb,hc,Res.lL,Res.fK,Out.c7]
      done)
 rw[decide_eq_false c3,aa0,if_neg (by decide)]
 have n3:c2 .ne (.int ((ps.length:Nat):Int)) (.int 3)=.ok (.bl true):=by
  have:((ps.length:Int)==3)=false:=by rw[beq_eq_false_iff_ne];omega
  show Res.ok (D.bl (!((ps.length:Int)==3)))=_
  rw[this];rfl
 have hl:((ps.map fun w=>D.str (tx w)).length:Int)=(ps.length:Int):=by rw[aF]
 refine(Ci rfl).trans (GY (δ:=[some (.str (tx w)),some (.lst (ps.map fun w=>D.str (tx w)))]) ?_)
 rw[D2,NE]
 generalize (ps.map fun w=>D.str (tx w))=P at *
 generalize tx w=W at *
 generalize tx [58]=C at *
 simp_arith[hd,dC,hl,n3,Res.fK,Out.c7]
theorem Zt{l:List Nat}(h:Tx l):c2 .eq (.str (tx l)) (.str "-")=.ok (.bl (l==[45])):=by
 rw[Il];exact Gh h.ok Fd
abbrev Gj(l:List Nat):D:=.lst ((sp l [32]).map Fl)
abbrev Gk(l:List Nat):Bool:=(sp l [32]).all Dg
theorem Pg{l:List Nat}(h:Tx l):Cm.den [.str (tx l)]=if(l==[45])=true then .ok (.lst []) else if Gk l=true then .ok (Gj l) else .exc 16:=by
 have dC:=DS (sep:=[32]) (by simp) h.len
 have hc:=Jy (nl:=1) (fr:=[]) (tg:=.nm 0) (it:=.seq (.fJ (.nm 0) (.cS " "))) (elt:=.call Cl (.cons (.nm 0) .nil)) (δ:=[some (.str (tx l))]) (ds:=(sp l [32]).map fun w=>D.str (tx w)) (p:=fun d=>match d with|.str z=>Dg z.cps.toList|_=>false) (g:=fun d=>match d with|.str z=>Fl z.cps.toList|d=>d) (c:=16) (by
   rw[Jx]
   have hd:dS (.str (tx l))=true:=rfl
   generalize tx l=T at *
   simp_arith[hd,dC]) (fun d hd=>by
  obtain⟨w,hw,rfl⟩:=a8.mp hd
  refine⟨[some (.str (tx w))],rfl,?_⟩
  have:=W4 (h.part hw)
  show ev (.call Cl (.cons (.nm 0) .nil)) [some (.str (tx w))]=if Dg w=true then .ok (Fl w) else .exc 16
  rw[<- this]
  rfl)
 have e1:((sp l [32]).map fun w=>D.str (tx w)).all (fun d=>match d with|.str z=>Dg z.cps.toList|_=>false)=Gk l:=by
  unfold Gk
  rw[mK];rfl
 have e2:D.lst (((sp l [32]).map fun w=>D.str (tx w)).map (fun d=>match d with|.str z=>Fl z.cps.toList|d=>d))=Gj l:=by
  unfold Gj
  rw[bH];rfl
 rw[e1,e2]at hc
 have ht:=Kb l
 have hq:=Zt h
 refine(Ci rfl).trans ?_
 generalize hE:E.ao 1 [] (.nm 0) (.seq (.fJ (.nm 0) (.cS " "))) (.call Cl (.cons (.nm 0) .nil))=EE at *
 rw[Gb,hE]
 generalize (l==[45])=b at *
 generalize Gk l=k at *
 generalize Gj l=dd at *
 generalize tx l=L at *
 cases b with
 |true=>
  rw[if_pos rfl]
  refine GX ?_
  simp_arith[ht,hq]
 |false=>
  rw[if_neg (by decide)]
  cases k with
  |true=>
   rw[if_pos rfl]at hc ⊢
   refine GX ?_
   simp_arith[ht,hq,hc]
  |false=>
  rw[if_neg (by decide)]at hc ⊢
  refine GY (δ:=[some (.str L)]) ?_
  simp_arith[ht,hq,hc,Res.fK,Out.c7]
theorem Vg{c:Nat}:∀{a b x y:List Nat},c∉a->c∉b->a++c::x=b++c::y->a=b/\x=y
 |[],[],x,y,_,_,h=>⟨rfl,by simpa using h⟩
 |[],b0::b,x,y,_,hb,h=>by
  simp only[aaX,aaY,List.cons.injEq]at h
  exact absurd (h.1▸aP ..) hb
 |a0::a,[],x,y,ha,_,h=>by
  simp only[aaX,aaY,List.cons.injEq]at h
  exact absurd (h.1▸aP ..) ha
 |a0::a,b0::b,x,y,ha,hb,h=>by
  simp only[aaY,List.cons.injEq]at h
  obtain⟨e1,e2⟩:=Vg (fun z=>ha (aL _ z)) (fun z=>hb (aL _ z)) h.2
  exact⟨by rw[h.1,e1],e2⟩
theorem G7(s x:List Nat):jo s [x]=x:=by show x++[]=x;exact iB _
theorem Kf(c:Nat)(x y:List Nat)(r:List (List Nat)):jo [c] (x::y::r)=x++c::jo [c] (y::r):=by
 show x++([c]++y++r.flatMap ([c]++·))=x++c::(y++r.flatMap ([c]++·))
 simp
theorem SO{c:Nat}:∀{ps qs:List (List Nat)},ps≠[]->qs≠[]->(∀p∈ps,c∉p)->(∀q∈qs,c∉q)->jo [c] ps=jo [c] qs->ps=qs
 |[],_,h,_,_,_,_=>absurd rfl h
 |_,[],_,h,_,_,_=>absurd rfl h
 |[p],[q],_,_,_,_,h=>by rw[G7,G7]at h;rw[h]
 |[p],q::q2::qs,_,_,hp,_,h=>by
  rw[G7,Kf]at h
  exact absurd (by rw[h];simp) (hp p (aP ..))
 |p::p2::ps,[q],_,_,_,hq,h=>by
  rw[G7,Kf]at h
  exact absurd (by rw[<- h];simp) (hq q (aP ..))
 |p::p2::ps,q::q2::qs,_,_,hp,hq,h=>by
  rw[Kf,Kf]at h
  obtain⟨e1,e2⟩:=Vg (hp p (aP ..)) (hq q (aP ..)) h
  rw[e1,SO (by simp) (by simp) (fun x hx=>hp x (aL _ hx)) (fun x hx=>hq x (aL _ hx)) e2]
theorem SQ{a b:List Nat}(h:tx a=tx b):a=b:=by
 have:=congrArg (fun z:Str=>z.cps.toList) h
 simpa[J4] using this
theorem AaH(l:List Nat)(c:Nat):jo [c] (sp l [c])=l:=by
 have h:=StrLaws.join_split (tx l) (tx [c])
 rw[<- SI,KU]at h
 exact SQ h
theorem W5(l:List Nat)(c:Nat):∀p∈sp l [c],c∉p:=fun p hp=>by
 unfold sp at hp
 obtain⟨z,hz,rfl⟩:=a8.mp hp
 exact StrLaws.split_free (tx l) c z hz
theorem Qx{c:Nat}{ws:List (List Nat)}(h:ws≠[])(hf:∀w∈ws,c∉w):sp (jo [c] ws) [c]=ws :=
 SO (EN _ _).2.2 h (W5 _ c) hf (AaH _ c)
theorem Ph:∀(n:Nat),∀c∈Ch n,48<=c:=by
 intro n
 induction n using Nat.strongRecOn with
 |_ n ih=>
 intro c hc
 by_cases h:n<10
 ·rw[FR h]at hc
  simp at hc;exact aS (ng ..) (i9 hc.symm)
 rw[G3 (by exact iZ.mp h)]at hc
 rcases bw.mp hc with z|z
 ·exact ih (n/10) (by omega) c z
 simp at z;exact aS (ng ..) (i9 z.symm)
theorem W6:∀(n:Nat),1<=n->∃x r,Ch n=x::r/\x≠48:=by
 intro n
 induction n using Nat.strongRecOn with
 |_ n ih=>
 intro h1
 by_cases h:n<10
 ·exact⟨48+n,[],FR h,by omega⟩
 obtain⟨x,r,e,hx⟩:=ih (n/10) (by omega) (by omega)
 exact⟨x,r++[48+n%10],by rw[G3 (by exact iZ.mp h),e];rfl,hx⟩
theorem Kg{r:Int}(h0:0<=r)(h:r<100000000000000000000):bA (gI r)=true:=by
 unfold gI
 have hl:=Ho 20 r.toNat (by decide) (by
  have e:(10:Nat)^20=100000000000000000000:=by decide
  rw[e];omega)
 have hd:(Ch r.toNat).all dA=true:=by
  rw[cz]
  intro c hc
  have h1:=Ph _ c hc
  have h2:=G4 _ c hc
  unfold dA
  rw[decide_eq_true h1,decide_eq_true (by exact m_ h2)];rfl
 unfold bA
 rw[decide_eq_true hl,hd,aa4,aa4]
 by_cases z:r.toNat=0
 ·rw[z,FR (by decide)];rfl
 obtain⟨x,r',e,hx⟩:=W6 r.toNat (by exact zU z)
 rw[e]
 have:(some x==some 48)=false:=by simp[hx]
 rw[List.head?_cons,this]
 simp
theorem NL{r:Int}{c:Nat}(h:c∈gI r):48<=c/\c<58:=⟨Ph _ c h,G4 _ c h⟩
theorem W7(l:List Nat)(c:Nat):dv (l++[c])=dv l*10+(c-48):=by
 unfold dv
 rw[List.foldl_append];rfl
theorem Pi:∀n:Nat,dv (Ch n)=n
 |n=>by
  by_cases h:n<10
  ·rw[FR h]
   show 0*10+(48+n-48)=n
   rw[Nat.zero_mul,aa5,vp]
  have h:=nc h
  have:=Pi (n/10)
  rw[G3 h,W7,this,vp,mM]
  exact acl n 10
termination_by n=>n
decreasing_by exact Nat.div_lt_self (by exact aS (by decide) h) (by decide)
theorem Mk{r:Int}(h:0<=r):((dv (gI r):Nat):Int)=r:=by
 unfold gI
 rw[Pi];exact mP h
theorem Vh{α:Type}(g:α->Bool)(xs:List α):c2 .oi (.bl false) (.lst (xs.map fun x=>D.bl (g x)))=.ok (.bl (xs.all g)):=by
 show(inD (.bl false) (xs.map fun x=>D.bl (g x))).bind (fun b=>Res.ok (D.bl !b))=_
 unfold inD
 have e1:(xs.map fun x=>D.bl (g x)).all (D.aX 8)=true:=by
  rw[cz]
  intro d hd
  obtain⟨w,_,rfl⟩:=a8.mp hd
  rfl
 rw[if_pos (by rw[e1];rfl)]
 show Res.ok (D.bl (!((xs.map fun x=>D.bl (g x)).any fun y=>D.eqv y (.bl false))))=_
 congr 2
 clear e1
 induction xs with
 |nil=>rfl
 |cons x r ih=>
 rw[cT,tQ,eR,<- ih]
 cases g x<;>rfl
theorem AaI{α:Type}(g:α->Bool)(xs:List α):c2 .pJ (.bl false) (.lst (xs.map fun x=>D.bl (g x)))=.ok (.bl (!xs.all g)):=by
 have h:=Vh g xs
 have e:c2 .oi (.bl false) (.lst (xs.map fun x=>D.bl (g x)))=(inD (.bl false) (xs.map fun x=>D.bl (g x))).bind (fun b=>Res.ok (D.bl !b)):=rfl
 rw[e]at h
 show(inD (.bl false) (xs.map fun x=>D.bl (g x))).bind (fun b=>Res.ok (D.bl b))=_
 cases q:inD (.bl false) (xs.map fun x=>D.bl (g x)) with
 |ok b=>
  rw[q]at h
  injection h with h
  injection h with h
  show Res.ok (D.bl b)=_
  rw[<- h];simp
 |_=>rw[q]at h;cases h
theorem Zu{l:List Nat}(ok:cM l)(hl:l.length<=16777216):BF.den [.str (tx l)]=.ok (.bl (bA l)):=by
 have h1:=SF hl
 have hg:=Ve hl
 have hc:=Ax (nl:=1) (fr:=[]) (tg:=.nm 0) (it:=.kA (.nm 0)) (elt:=.eY false (.nm 0) (.cS "0123456789")) (δ:=[some (.str (tx l))]) (ds:=l.map fun c=>D.str (tx [c])) (g:=fun d=>match d with|.str z=>.bl (z.cps.toList.all dA)|d=>d) (by
   rw[evI]
   show(Res.ok (D.str (tx l))).bind PK=_
   exact hg) (fun d hd=>by
  obtain⟨c,_,rfl⟩:=a8.mp hd
  refine⟨[some (.str (tx [c]))],rfl,?_⟩
  have e:=SH false c
  have e2:ev (.eY false (.nm 0) (.cS "0123456789")) [some (.str (tx [c]))]=Ku false (.str (tx [c])) (.str "0123456789"):=rfl
  rw[e2,e]
  show Res.ok (D.bl (dA c != false))=Res.ok (D.bl (dA c&&true))
  cases dA c<;>rfl)
 rw[bH]at hc
 have hm:(l.map ((fun d=>match d with|.str z=>D.bl (z.cps.toList.all dA)|d=>d) ∘ fun c=>D.str (tx [c])))=l.map fun c=>D.bl (dA c):=fN fun c _=>by
  show D.bl (dA c&&true)=_
  rw[abF]
 rw[hm]at hc
 have h5:=Vh dA l
 refine gO ?_
 unfold bA
 clear hm hg
 generalize hE:E.ao 1 [] (.nm 0) (.kA (.nm 0)) (.eY false (.nm 0) (.cS "0123456789"))=EE at *
 rw[Eg,hE]
 have eL:∀δ,ev (.bi .fw (.cons (.nm 0) .nil)) (some (D.str (tx l))::δ)=.ok (.int (l.length:Nat)):=fun δ=>h1
 generalize hL:E.bi .fw (.cons (.nm 0) .nil)=EL at *
 generalize (l.map fun c=>D.bl (dA c))=LD at *
 by_cases c0:l.length<1
 ·rw[decide_eq_false (fun z=>absurd z.1 (rl c0)),aa0]
  have d1:((l.length:Nat):Int)<1:=nZ.mpr c0
  generalize ((l.length:Nat):Int)=LN at *
  generalize tx l=T at *
  simp_arith[eL,d1]
 have d1:¬((l.length:Nat):Int)<1:=fun z=>c0 (nZ.mp z)
 by_cases kd:20<l.length
 ·rw[decide_eq_false (fun z=>absurd z.2 (rl kd)),aa0]
  have d2:20<((l.length:Nat):Int):=nZ.mpr kd
  generalize ((l.length:Nat):Int)=LN at *
  generalize tx l=T at *
  simp_arith[eL,d1,d2]
 have d2:¬20<((l.length:Nat):Int):=fun z=>kd (nZ.mp z)
 rw[decide_eq_true ⟨nc c0,nc kd⟩,aa4]
 obtain⟨c,r,rfl⟩:∃c r,l=c::r:=by
  cases l with
  |nil=>exact absurd (by decide) c0
  |cons c r=>exact⟨c,r,rfl⟩
 have h0:=Zm hl
 have q1:=SE ok G6
 have q2:=Gh (a:=[c]) (b:=[48]) (fun x hx=>ok x (by simp at hx;simp[hx])) G6
 rw[<- UI]at q1 q2
 have xQ:([c]==[48])=((c::r).head?==some 48):=by
  show([c]==[48])=(some c==some 48)
  rw[rA,beq_iff_eq,beq_iff_eq]
  simp
 rw[xQ]at q2
 generalize (((c::r).length:Nat):Int)=LN at *
 generalize (c::r).all dA=A at *
 generalize ((c::r).head?==some 48)=B1 at *
 generalize ((c::r)==[48])=B2 at *
 generalize tx (c::r)=T at *
 generalize tx [c]=TC at *
 cases B1 with
 |false=>
  rw[abK,Bool.or_true,abF]
  simp_arith[eL,d1,d2,h0,q2,hc,h5]
 |true=>
  cases B2 with
  |true=>
   rw[vB,abF]
   simp_arith[eL,d1,d2,h0,q2,q1,hc,h5]
  |false=>
  rw[qt,abQ,ab7]
  simp_arith[eL,d1,d2,h0,q2,q1]
abbrev BH(w:List Nat):D:=.lst ((sp w [58]).map fun x=>D.str (tx x))
theorem Zv{w:List Nat}(h:Tx w)(L R:D):exs Bl [some L,some R,some (BH w)]=if Dg w=true then .bb [some L,some R,some (BH w)] else .ret .aJ:=by
 have hc:=Ax (nl:=1) (fr:=[]) (tg:=.nm 0) (it:=.seq (.nm 2)) (elt:=.call BF (.cons (.nm 0) .nil)) (δ:=[some L,some R,some (BH w)]) (ds:=(sp w [58]).map fun x=>D.str (tx x)) (g:=fun d=>match d with|.str z=>.bl (bA z.cps.toList)|d=>d) (by
   unfold BH
   generalize ((sp w [58]).map fun x=>D.str (tx x))=P at *
   simp_arith[]) (fun d hd=>by
  obtain⟨x,hx,rfl⟩:=a8.mp hd
  have t:=h.part hx
  refine⟨[some (.str (tx x))],rfl,?_⟩
  have:=Zu t.ok (aS t.len (by decide))
  show ev (.call BF (.cons (.nm 0) .nil)) [some (.str (tx x))]=.ok (.bl (bA x))
  rw[<- this]
  rfl)
 have e2:((sp w [58]).map fun x=>D.str (tx x)).map (fun d=>match d with|.str z=>.bl (bA z.cps.toList)|d=>d)=(sp w [58]).map fun x=>D.bl (bA x):=by
  rw[bH];rfl
 rw[e2]at hc
 have hn:=AaI bA (sp w [58])
 have hlen:((((sp w [58]).map fun x=>D.str (tx x)).length:Nat):Int)=((sp w [58]).length:Int):=by rw[aF]
 unfold Dg
 unfold BH at *
 clear e2
 generalize sp w [58]=ps at *
 generalize hC:E.ao 1 [] (.nm 0) (.seq (.nm 2)) (.call BF (.cons (.nm 0) .nil))=C at *
 rw[Bl,hC]
 by_cases c3:ps.length=3
 ·have n3:((ps.length:Int)==3)=true:=by rw[c3];rfl
  rw[decide_eq_true c3,aa4]
  cases q:ps.all bA with
  |true=>
   rw[q]at hn
   rw[if_pos rfl]
   generalize (ps.map fun x=>D.bl (bA x))=B at *
   generalize (ps.map fun x=>D.str (tx x))=P at *
   simp_arith[hc,hlen,n3,hn]
  |false=>
  rw[q]at hn
  rw[if_neg (by decide)]
  generalize (ps.map fun x=>D.bl (bA x))=B at *
  generalize (ps.map fun x=>D.str (tx x))=P at *
  simp_arith[hc,hlen,n3,hn]
 have n3:((ps.length:Int)==3)=false:=by rw[beq_eq_false_iff_ne];omega
 rw[decide_eq_false c3,aa0,if_neg (by decide)]
 generalize (ps.map fun x=>D.bl (bA x))=B at *
 generalize (ps.map fun x=>D.str (tx x))=P at *
 simp_arith[hc,hlen,n3,hn]
theorem SR(L R:D):∀(ws:List (List Nat))(o2:Option D),(∀w∈ws,Tx w)->∃p2,Bc (.nm 2) (exs Bl) (ws.map BH) [some L,some R,o2]=if ws.all Dg=true then .bb [some L,some R,p2] else .ret .aJ
 |[],o2,_=>⟨o2,rfl⟩
 |w::ws,o2,ht=>by
  have e:=Zv (ht w (aP ..)) L R
  obtain⟨p2,ih⟩:=SR L R ws (some (BH w)) (fun x hx=>ht x (aL _ hx))
  refine⟨p2,?_⟩
  rw[cT,Bc]
  show(exs Bl [some L,some R,some (BH w)]).then _=_
  rw[e,eR]
  cases q:Dg w with
  |true=>rw[if_pos rfl,Out.then_nxt,ih,aa4]
  |false=>rfl
theorem KY{x:List Nat}(h:bA x=true):biD .cw [.str (tx x)]=.ok (.int (dv x:Nat)):=by
 unfold bA at h
 rw[bg,bg,decide_eq_true_eq]at h
 exact SG h.2.1 (fun z=>by rw[z]at h;exact absurd h.1.1 (by decide)) (aS h.1.2 (by decide))
theorem Zw{l:List Nat}(h:Tx l):Eh.den [.str (tx l)]=.ok (if(l==[45])=true then .lst [] else if Gk l=true then Gj l else .aJ):=by
 have dC:=DS (sep:=[32]) (by simp) h.len
 have hq:=Zt h
 have hc:=Ax (nl:=1) (fr:=[]) (tg:=.nm 0) (it:=.seq (.fJ (.nm 0) (.cS " "))) (elt:=.fJ (.nm 0) (.cS ":")) (δ:=[some (.str (tx l)),none,none]) (ds:=(sp l [32]).map fun w=>D.str (tx w)) (g:=fun d=>match d with|.str z=>BH z.cps.toList|d=>d) (by
   rw[Jx]
   have hd:dS (.str (tx l))=true:=rfl
   generalize tx l=T at *
   simp_arith[hd,dC]) (fun d hd=>by
  obtain⟨w,hw,rfl⟩:=a8.mp hd
  have t:=h.part hw
  refine⟨[some (.str (tx w))],rfl,?_⟩
  have:=DS (sep:=[58]) (by simp) t.len
  show _=Res.ok (BH w)
  unfold BH
  rw[NE]
  generalize ((sp w [58]).map fun x=>D.str (tx x))=P at *
  generalize tx w=W at *
  simp_arith[this])
 have e1:((sp l [32]).map fun w=>D.str (tx w)).map (fun d=>match d with|.str z=>BH z.cps.toList|d=>d)=(sp l [32]).map BH:=by
  rw[bH];rfl
 rw[e1]at hc
 obtain⟨p2,e⟩:=SR (.str (tx l)) (.lst ((sp l [32]).map BH)) (sp l [32]) none (fun w hw=>h.part hw)
 have hf:Gk l=true->ev (.ao 1 [] (.nm 0) (.bQ (.nm 1)) (.tup (.cons (.bi .cw (.cons (.gU (.nm 0) (.cI 0)) .nil)) (.cons (.bi .cw (.cons (.gU (.nm 0) (.cI 1)) .nil)) (.cons (.bi .cw (.cons (.gU (.nm 0) (.cI 2)) .nil)) .nil))))) [some (.str (tx l)),some (.lst ((sp l [32]).map BH)),p2]=.ok (Gj l):=fun ho=>by
  have hc:=Ax (nl:=1) (fr:=[]) (tg:=.nm 0) (it:=.bQ (.nm 1)) (elt:=.tup (.cons (.bi .cw (.cons (.gU (.nm 0) (.cI 0)) .nil)) (.cons (.bi .cw (.cons (.gU (.nm 0) (.cI 1)) .nil)) (.cons (.bi .cw (.cons (.gU (.nm 0) (.cI 2)) .nil)) .nil)))) (δ:=[some (.str (tx l)),some (.lst ((sp l [32]).map BH)),p2]) (ds:=(sp l [32]).map BH) (g:=fun d=>match d with|.lst [.str a,.str b,.str c]=>.tup [.int (dv a.cps.toList:Nat),.int (dv b.cps.toList:Nat),.int (dv c.cps.toList:Nat)]|d=>d) (by
    generalize (sp l [32]).map BH=P at *
    simp_arith[]) (fun d hd=>by
   obtain⟨w,hw,rfl⟩:=a8.mp hd
   have c_:=cz.mp ho w hw
   unfold Dg at c_
   rw[bg,decide_eq_true_eq]at c_
   obtain⟨w3,wn⟩:=c_
   refine⟨[some (BH w)],rfl,?_⟩
   unfold BH
   generalize sp w [58]=ps at *
   obtain⟨a,b,c,rfl⟩:=IR w3
   rw[eR,eR,eR,bg,bg,bg]at wn
   have i1:=KY wn.1
   have i2:=KY wn.2.1
   have i3:=KY wn.2.2.1
   simp only[cT,iC]
   have e0:bz [D.str (tx a),D.str (tx b),D.str (tx c)] 0=.ok (.str (tx a)):=rfl
   have e1:bz [D.str (tx a),D.str (tx b),D.str (tx c)] 1=.ok (.str (tx b)):=rfl
   have e2:bz [D.str (tx a),D.str (tx b),D.str (tx c)] 2=.ok (.str (tx c)):=rfl
   show _=Res.ok (D.tup [.int (dv a:Nat),.int (dv b:Nat),.int (dv c:Nat)])
   generalize tx a=A at *
   generalize tx b=B at *
   generalize tx c=C at *
   have sc:∀z:Str,(if D.a_ (.str z)=true then Res.ok (D.str z) else .bad)=.ok (.str z):=fun z=>rfl
   simp -implicitDefEqProofs only[ev,evs,DG,Res.bind_ok,ixD,GA,DU,FV,e0,e1,e2,sc,i1,i2,i3])
  refine hc.trans ?_
  congr 1
  unfold Gj
  congr 1
  rw[bH]
  apply fN
  intro w hw
  have c_:=cz.mp ho w hw
  unfold Dg at c_
  rw[bg,decide_eq_true_eq]at c_
  show(match BH w with|.lst [.str a,.str b,.str c]=>D.tup [.int (dv a.cps.toList:Nat),.int (dv b.cps.toList:Nat),.int (dv c.cps.toList:Nat)]|d=>d)=Fl w
  unfold BH Fl
  generalize sp w [58]=ps at *
  obtain⟨a,b,c,rfl⟩:=IR c_.1
  rfl
 refine gO ?_
 unfold Gk at hf ⊢
 generalize uU:E.ao 1 [] (.nm 0) (.seq (.fJ (.nm 0) (.cS " "))) (.fJ (.nm 0) (.cS ":"))=E1 at *
 generalize hE2:E.ao 1 [] (.nm 0) (.bQ (.nm 1)) (.tup (.cons (.bi .cw (.cons (.gU (.nm 0) (.cI 0)) .nil)) (.cons (.bi .cw (.cons (.gU (.nm 0) (.cI 1)) .nil)) (.cons (.bi .cw (.cons (.gU (.nm 0) (.cI 2)) .nil)) .nil))))=E2 at *
 rw[EG,uU,hE2]
 clear e1 dC h
 generalize (l==[45])=b at *
 generalize Gj l=V at *
 generalize (sp l [32]).map BH=W at *
 generalize tx l=L at *
 cases b with
 |true=>
  rw[if_pos rfl]
  simp_arith[hq]
 |false=>
  rw[if_neg (by decide)]
  cases k:(sp l [32]).all Dg with
  |true=>
   rw[k,if_pos rfl]at e
   rw[if_pos rfl]
   have hf:=hf k
   simp_arith[hq,hc,e,hf]
  |false=>
  rw[k,if_neg (by decide)]at e
  rw[if_neg (by decide)]
  simp_arith[hq,hc,e]
abbrev Qy(w:List Nat):iP:=match sp w [58] with
 |[a,b,c]=>⟨dv a,dv b,dv c⟩
 |_=>⟨0,0,0⟩
theorem Abw{l:List Nat}(h:Gk l=true):Gj l=.lst (((sp l [32]).map Qy).map AW):=by
 unfold Gj
 rw[bH]
 congr 1
 apply fN
 intro w hw
 have c_:=cz.mp h w hw
 unfold Dg at c_
 rw[bg,decide_eq_true_eq]at c_
 show Fl w=AW (Qy w)
 unfold Fl Qy
 generalize sp w [58]=ps at *
 obtain⟨a,b,c,rfl⟩:=IR c_.1
 rfl
theorem Abx(ps:List iP):(ps.map AW).all (D.aX 7)=true:=by
 rw[cz]
 intro d hd
 obtain⟨q,_,rfl⟩:=a8.mp hd
 rfl
section
variable{p f h:Nat}(S:Sp p f h)
include S
theorem Zy(need:Int)(o:Option Nat)(qs:List iP):Bw.den [aA p f,.int need,aV o,.lst (qs.map AW)]=.ok (.bl (lo p f h qs 0==some ((o.getD p:Nat):Int)&&qs.all fun q=>decide (q.t<need))):=by
 have h1:=Nz S need qs 0 ((o.getD p:Nat):Int)
 have h2:=G0 p f 0 o
 refine gO ?_
 generalize (lo p f h qs 0==some ((o.getD p:Nat):Int)&&qs.all fun q=>decide (q.t<need))=B at *
 generalize aA p f=s at *
 generalize aV o=d at *
 generalize qs.map AW=Q at *
 simp_arith[Dw,h1,h2]
theorem Zz(need:Int)(o:Option Nat)(qs:List iP):∃v:Bool,Bw.den [.tup [.int p,.int f],.int need,aV o,.lst (qs.map AW)]=.ok (.bl v)/\EF.den [.int p,.int f,.int need,.lst (qs.map AW),.int 0,.int ((o.getD p:Nat):Int)]=.ok (.bl v) :=
 ⟨_,Zy S need o qs,WZ S need qs 0 ((o.getD p:Nat):Int)⟩
theorem AaJ{l:List Nat}(hl:Tx l)(need:Int)(o:Option Nat):Hw.den [.str (tx l),.int p,.int f,.int need,aV o]=.ok (.bl true):=by
 have hr:=Zw hl
 have hp:=Pg hl
 have he:=AaB p o
 refine gO ?_
 have key:∀qs:List iP,Eh.den [.str (tx l)]=.ok (.lst (qs.map AW))->Cm.den [.str (tx l)]=.ok (.lst (qs.map AW))->exs C0 (Pu.AL 7 [.str (tx l),.int p,.int f,.int need,aV o])=.ret (.bl true):=fun qs h1 h2=>by
  obtain⟨v,g1,g2⟩:=Zz S need o qs
  have b8:=Hn (.lst (qs.map AW)) (Abx qs)
  have hC:∀x:Bool,c2 .eq (.bl x) (.bl x)=.ok (.bl true):=fun x=>by cases x<;>rfl
  clear hr hp
  generalize qs.map AW=Q at *
  generalize aV o=O at *
  generalize tx l=L at *
  generalize ((o.getD p:Nat):Int)=e at *
  simp_arith[C0,h1,h2,b8,g1,he,g2,hC]
 by_cases c1:(l==[45])=true
 ·rw[if_pos c1]at hr hp
  exact key [] hr hp
 rw[if_neg c1]at hr hp
 by_cases kd:Gk l=true
 ·rw[if_pos kd,Abw kd]at hr hp
  exact key _ hr hp
 rw[if_neg kd]at hr hp
 have xR:cat 16 16=true:=rfl
 clear key
 generalize aV o=O at *
 generalize tx l=L at *
 simp_arith[C0,hr,hp,Res.fK,Out.c7,xR]
end
@[reducible]noncomputable def b9:List Nat:=[32,47,32]
theorem Pj(x y:List Nat)(r:List (List Nat)):jo b9 (x::y::r)=x++(b9++jo b9 (y::r)):=by
 show x++(b9++y++r.flatMap (b9++·))=x++(b9++(y++r.flatMap (b9++·)))
 rw[jz]
theorem AaK{l:List Nat}{n k:Nat}(h:StrLaws.At (tx l) (tx b9) n k):(l.drop k).take 3=b9:=by
 have:=h.2
 rw[StrLaws.subAt_eq]at this
 exact eq_of_beq this
theorem ZA{l:List Nat}{n k:Nat}(h:StrLaws.At (tx l) (tx b9) n k):l[k+1]?=some 47:=by
 have h:=AaK h
 have e:((l.drop k).take 3)[1]?=some 47:=by rw[h];rfl
 rwa [zy (by decide),va]at e
theorem AaL{l:List Nat}{k:Nat}(h:(l.drop k).take 3=b9):StrLaws.At (tx l) (tx b9) (tx l).length k:=by
 refine⟨?_,?_⟩
 ·have:=congrArg aaI h
  rw[oI,nV]at this
  rw[Bm,Bm]
  show k+3<=l.length
  have:min 3 (l.length-k)=3:=this
  omega
 rw[StrLaws.subAt_eq]
 exact beq_iff_eq.mpr h
theorem Vi{a b c:List Nat}:Builtin.Str.strSub (tx (a++(b++c))) a.length (a.length+b.length)=tx b:=by
 apply Str.ext'
 apply Array.toList_inj.mp
 rw[StrLaws.strSub_toList]
 show((a++(b++c)).drop a.length).take (a.length+b.length-a.length)=b
 rw[vh,vp,List.take_left]
theorem ZC:∀(ws:List (List Nat))(pre:List Nat)(gH:List Nat)(f:Nat),ws≠[]->(∀w∈ws,47∉w)->StrLaws.ChainG (tx (pre++jo b9 ws)) (tx b9) (tx (pre++jo b9 ws)).length pre.length gH f->(∀k,f<=k->¬StrLaws.At (tx (pre++jo b9 ws)) (tx b9) (tx (pre++jo b9 ws)).length k)->StrLaws.partsFrom (tx (pre++jo b9 ws)) 3 pre.length gH=ws.map tx
 |[],_,_,_,h,_,_,_=>absurd rfl h
 |[w],pre,gH,f,_,hw,hG,hn=>by
  rw[G7]at *
  cases gH with
  |nil=>
   show [Builtin.Str.strSub (tx (pre++w)) pre.length (tx (pre++w)).length]=[tx w]
   have:=Vi (a:=pre) (b:=w) (c:=[])
   rw[iB]at this
   rw[Bm,eP,this]
  |cons c r=>
  have h1:=ZA hG.2.1
  rw[kH (rj hG.1)]at h1
  exact absurd (cJ h1) (hw w (gp.mpr rfl))
 |w::w2::r,pre,gH,f,_,hw,hG,hn=>by
  rw[Pj]at *
  generalize hR:jo b9 (w2::r)=R at *
  have hA:StrLaws.At (tx (pre++(w++(b9++R)))) (tx b9) (tx (pre++(w++(b9++R)))).length (pre.length+w.length):=AaL (by
   rw[<- jz,<- eP,vh];rfl)
  have hN:∀k,pre.length<=k->k<pre.length+w.length->¬StrLaws.At (tx (pre++(w++(b9++R)))) (tx b9) (tx (pre++(w++(b9++R)))).length k:=fun k k1 k2 z=>by
   have h1:=ZA z
   rw[kH (rj k1)]at h1
   by_cases c:k+1-pre.length<w.length
   ·rw[oF c]at h1
    exact hw w (aP ..) (cJ h1)
   have:k+1-pre.length=w.length:=by omega
   rw[this,kH (bx _),vz]at h1
   cases h1
  cases gH with
  |nil=>
   have hf:f=pre.length:=hG
   exact absurd hA (hn _ (by exact aS (i9 hf) (ng ..)))
  |cons c q=>
  obtain⟨g1,g2,g3,g4⟩:=hG
  have ec:c=pre.length+w.length:=by
   rcases Nat.lt_trichotomy c (pre.length+w.length) with z|z|z
   ·exact absurd g2 (hN c g1 z)
   ·exact z
   exact absurd hA (g3 _ (ng ..) z)
  subst ec
  have el:pre++(w++(b9++R))=(pre++w++b9)++jo b9 (w2::r):=by rw[hR];simp only[jz]
  have en:pre.length+w.length+3=(pre++w++b9).length:=by rw[eP,eP];rfl
  have g4:StrLaws.ChainG (tx (pre++(w++(b9++R)))) (tx b9) (tx (pre++(w++(b9++R)))).length (pre.length+w.length+3) q f:=g4
  show Builtin.Str.strSub (tx (pre++(w++(b9++R)))) pre.length (pre.length+w.length)::StrLaws.partsFrom (tx (pre++(w++(b9++R)))) 3 (pre.length+w.length+3) q=tx w::(w2::r).map tx
  rw[Vi,en,el]
  rw[en,el]at g4
  rw[el]at hn
  rw[ZC (w2::r) (pre++w++b9) q f (by simp) (fun x hx=>hw x (aL _ hx)) g4 hn]
theorem ZD{ws:List (List Nat)}(h:ws≠[])(hw:∀w∈ws,47∉w):sp (jo b9 ws) b9=ws:=by
 have key:Txt.split (tx (jo b9 ws)) (tx b9)=ws.map tx:=by
  obtain⟨f,hG,hn⟩:=StrLaws.occ_tight (tx (jo b9 ws)) (tx b9) (by rw[Bm];decide)
  have P:=ZC ws [] _ f h hw hG hn
  rw[aaX]at P
  unfold Txt.split
  split
  ·rename_i hc
   match ws,h with
   |[w],_=>rw[G7];rfl
   |w::w2::r,_=>
   exfalso
   rw[tZ,decide_eq_true_eq,decide_eq_true_eq]at hc
   rcases hc with z|z
   ·rw[Bm,Bm,Pj,eP,eP]at z
    have:b9.length=3:=rfl
    omega
   have e1:Builtin.Str.strKind (tx b9)=1:=if_pos (by rw[<- Array.all_toList];decide)
   rw[e1]at z
   unfold Builtin.Str.strKind at z
   split at z
   ·exact absurd z (by decide)
   split at z<;>omega
  split
  ·rename_i he
   have e0:=List.isEmpty_iff.mp he
   rw[e0]at P
   have P:[Builtin.Str.strSub (tx (jo b9 ws)) 0 (tx (jo b9 ws)).length]=ws.map tx:=P
   rw[StrLaws.sub_whole]at P
   exact P
  rw[StrLaws.partsBetween_eq]
  exact P
 unfold sp
 rw[key,bH]
 exact(fN fun w _=>J4 w).trans (vm _)
abbrev Rm(r:Int):Prop:=0<=r/\r<=1000000000000000000
theorem Rm.gd{r:Int}(h:Rm r):Gd r:=⟨h.1,nY h.2 (by decide)⟩
theorem Kh{sep:List Nat}{c:Nat}:∀{ts:List (List Nat)},c∈jo sep ts->c∈sep\/∃t∈ts,c∈t
 |[],h=>nomatch h
 |x::r,h=>by
  rcases bw.mp (show c∈x++r.flatMap (sep++·) from h) with z|z
  ·exact .inr ⟨x,aP ..,z⟩
  obtain⟨t,ht,z⟩:=List.mem_flatMap.mp z
  rcases bw.mp z with z|z
  ·exact .inl z
  exact .inr ⟨t,aL _ ht,z⟩
theorem NM{rs:List Int}{c:Nat}(h:c∈nT rs):c=32\/(48<=c/\c<58):=by
 rcases Kh h with z|⟨t,ht,z⟩
 ·exact .inl (gp.mp z)
 obtain⟨r,_,rfl⟩:=a8.mp ht
 exact .inr (NL z)
theorem n32(r:Int):32∉gI r:=fun h=>absurd (NL h).1 (by decide)
theorem n58(r:Int):58∉gI r:=fun h=>absurd (NL h).2 (by decide)
theorem Ml{rs:List Int}(h:rs≠[]):sp (nT rs) [32]=rs.map gI:=Qx (fun z=>h (tL.mp z)) fun w hw=>by
 obtain⟨r,_,rfl⟩:=a8.mp hw
 exact n32 r
theorem Vj{rs:List Int}(h:∀r∈rs,Rm r):nz (rs.map gI)=rs:=by
 unfold nz
 rw[bH]
 exact(fN fun r hr=>Mk (h r hr).1).trans (vm _)
theorem Pk{rs:List Int}(h:∀r∈rs,Rm r):(rs.map gI).all bA=true:=by
 rw[mK,cz]
 intro r hr
 exact Kg (h r hr).1 (nY (h r hr).2 (by decide))
theorem Pl{rs:List Int}(h:∀r∈rs,Rm r):fM rs=true:=by
 unfold fM
 rw[cz]
 intro r hr
 exact decide_eq_true (h r hr).2
theorem Vk{rs:List Int}(h:∀r∈rs,Rm r)(hl:rs.length<=200):Tx (nT rs):=⟨Vd rs,aS (NI (fun r hr=>(h r hr).gd) (aS hl (by decide))) (by decide)⟩
theorem AaM{rs:List Int}:nT rs≠[45]:=fun z=>by
 have:45∈nT rs:=by rw[z];exact gp.mpr rfl
 rcases NM this with h|h
 ·exact absurd h (by decide)
 exact absurd h.1 (by decide)
abbrev KZ(rs:List Int):List Nat:=if rs=[] then [45] else nT rs
theorem ZE{rs:List Int}(h:∀r∈rs,Rm r)(hl:rs.length<=200):CY.den [Ae rs]=.ok (.str (tx (KZ rs))):=by
 have hn:=BK (rs.map D.int) (by
  rw[cz]
  intro d hd
  obtain⟨r,_,rfl⟩:=a8.mp hd
  rfl)
 have hj:=SN (fun x hx=>(h x hx).gd) (it:=.seq (.nm 0)) (δ:=[some (Ae rs)]) (by unfold Ae;simp_arith[]) (aS hl (by decide))
 generalize hE:E.i7 (.cS " ") (.ao 1 [] (.nm 0) (.seq (.nm 0)) (.bi .str (.cons (.nm 0) .nil)))=EE at *
 refine gO ?_
 rw[De,hE]
 unfold KZ
 by_cases c:rs=[]
 ·rw[if_pos c]
  subst c
  unfold Ae at *
  rw[<- Il]
  simp only[iC,List.isEmpty_nil]at hn
  rw[iC]
  simp_arith[hn]
 rw[if_neg c]
 have:(rs.map D.int).isEmpty=false:=by
  cases rs with
  |nil=>exact absurd rfl c
  |cons a r=>rfl
 rw[this]at hn
 unfold Ae at *
 generalize rs.map D.int=R at *
 generalize tx (nT rs)=T at *
 simp_arith[hn,hj]
theorem Aby{rs:List Int}(h:∀r∈rs,Rm r)(hl:rs.length<=200):Hu.den [.str (tx (KZ rs))]=.ok (Ae rs):=by
 have ht:=Kb (KZ rs)
 unfold KZ at *
 by_cases c:rs=[]
 ·rw[if_pos c]at *
  have hq:=Gh Fd Fd
  rw[beq_self_eq_true]at hq
  subst c
  refine gO ?_
  rw[D1,Il]
  show _=Out.ret (.lst [])
  generalize tx [45]=M at *
  simp_arith[ht,hq]
 rw[if_neg c]at *
 have hT:=Vk h hl
 have hq:=Gh hT.ok Fd
 rw[show(nT rs==[45])=false from beq_eq_false_iff_ne.mpr AaM]at hq
 have hr:=Gi hT
 rw[Ml c,Pk h,if_pos rfl,Vj h]at hr
 have d9:Cz.dep=9:=rfl
 have jQ:=Pd (xs:=rs) (fun x hx=>(h x hx).1)
 rw[Pl h]at jQ
 have l1:(((rs.map D.int).length:Nat):Int)=(rs.length:Int):=by rw[aF]
 have f9:∀b:Bool,D.flat 9 9 (.bl b)=true:=fun b=>rfl
 have c3:¬200<(rs.length:Int):=by exact sX hl
 refine gO ?_
 rw[D1,Il]
 unfold Ae at *
 generalize rs.map D.int=R at *
 generalize tx (nT rs)=T at *
 generalize tx [45]=M at *
 simp_arith[ht,hq,hr,l1,c3,jQ,d9,f9]
theorem AaN{rs:List Int}{f h:Nat}(hf:2<=f)(bD:1<=rs.length)(hn:rs.length<=200)(hr:∀r∈rs,Rm r):∀row∈Aa rs f (h+1),row≠[]/\row.length<=200/\∀x∈row,Rm x:=fun row bR=>by
 unfold Aa at bR
 obtain⟨l,_,rfl⟩:=a8.mp bR
 have hl:(AB rs f l (cnt rs.length f l)).length=cnt rs.length f l:=by unfold AB;rw[aF,kI]
 have c1:=WG (show 1<=f by exact a6 hf) bD l
 have c2:=Fc (p:=rs.length) (f:=f) (l:=l) (by exact a6 hf)
 refine⟨fun z=>?_,by rw[hl];exact aS c2 hn,fun x hx=>?_⟩
 ·rw[z]at hl
  exact absurd hl (g_ c1)
 unfold AB at hx
 obtain⟨j,hj,rfl⟩:=a8.mp hx
 have bU:=(AO (show 1<=f by exact a6 hf)).mp (oM.mp hj)
 have hw:0<f^l:=i_ (by exact a6 hf)
 obtain⟨⟨k,_,_,hk⟩,_⟩:=IL (rs:=rs) (a:=j*f^l) (b:=min rs.length (j*f^l+f^l)) (by omega) (by exact iE ..)
 exact hr _ (cJ hk)
section
variable{rs:List Int}{f h:Nat}(hf:2<=f)(av:f<=8)(H:Hs rs.length f h)(hh:h<=8)(hn:rs.length<=200)(bD:1<=rs.length)(hr:∀r∈rs,Rm r)
include hf av H hh hn bD hr
theorem AaO:∃l,D0.den [Ac (Aa rs f (h+1))]=.ok (.str (tx l))/\CS.den [.str (tx l),.int f]=.ok (Ac (Aa rs f (h+1))):=by
 have bR:=AaN (h:=h) hf bD hn hr
 have hlen:(Aa rs f (h+1)).length=h+1:=by unfold Aa;rw[aF,kI]
 have b8:Aa rs f (h+1)≠[]:=fun z=>by rw[z]at hlen;cases hlen
 have hd:=BG rs f h
 have h0:(Aa rs f (h+1)).getD 0 []=rs:=by
  have e1:(Aa rs f (h+1)).getD 0 []=AB rs f 0 (cnt rs.length f 0):=by
   unfold Aa
   rw[iX,dg,tK (by exact qo _)];rfl
  rw[e1,Js]
 have qR:=Hz (tr:=Aa rs f (h+1)) ⟨by omega,fun row jt=>⟨(bR row jt).1,aS (bR row jt).2.1 (by decide),fun x hx=>((bR row jt).2.2 x hx).gd⟩⟩
 rw[if_neg b8]at qR
 refine⟨_,qR,?_⟩
 have jQ:=El hf av H hh
 rw[<- h0]at jQ
 have hit:=Zs (T:=Aa rs f (h+1)) ⟨b8,fun r jt=>⟨(bR r jt).1,fun x hx=>((bR r jt).2.2 x hx).1⟩⟩ hf av (lv:=fo rs.length f h) (fun _=>by rw[h0]at jQ ⊢;exact jQ)
 have hg:Ka (Aa rs f (h+1)) (fo rs.length f h)=true:=by
  unfold Ka
  rw[h0,decide_eq_true hn,decide_eq_true (show(Aa rs f (h+1)).map aaI=fo rs.length f h from hd),abF,abF,cz]
  intro r jt
  exact Pl (bR r jt).2.2
 rw[hg]at hit
 clear hg jQ h0
 generalize Aa rs f (h+1)=tr at *
 have aI:cM (tT tr):=J7 Zi fun w hw=>by
  obtain⟨r,_,rfl⟩:=a8.mp hw
  exact Vd r
 have hl:(tT tr).length<=1000000:=by
  have:=J8 (sep:=[32,47,32]) (B:=26000) (ts:=tr.map nT) fun w hw=>by
   obtain⟨r,jt,rfl⟩:=a8.mp hw
   exact NI (fun x hx=>((bR r jt).2.2 x hx).gd) (aS (bR r jt).2.1 (by decide))
  rw[aF,hlen]at this
  refine aS this (aS (m9 _ (kn hh)) (by decide))
 have hT:Tx (tT tr):=⟨aI,hl⟩
 have dC:sp (tT tr) b9=tr.map nT:=ZD (fun z=>b8 (tL.mp z)) fun w hw z=>by
  obtain⟨r,_,rfl⟩:=a8.mp hw
  rcases NM z with q|q
  ·exact absurd q (by decide)
  exact absurd q.1 (by decide)
 have h45:tT tr≠[45]:=fun z=>by
  have:45∈tT tr:=by rw[z];exact gp.mpr rfl
  rcases Kh this with q|⟨t,ht,q⟩
  ·exact absurd q (by decide)
  obtain⟨r,_,rfl⟩:=a8.mp ht
  rcases NM q with q|q
  ·exact absurd q (by decide)
  exact absurd q.1 (by decide)
 have ht:=Kb (tT tr)
 have hq:=Gh hT.ok Fd
 rw[show(tT tr==[45])=false from beq_eq_false_iff_ne.mpr h45]at hq
 have hs:=DS (sep:=b9) (by simp) hT.len
 rw[dC]at hs
 have hc:=Jy (nl:=1) (fr:=[]) (tg:=.nm 0) (it:=.seq (.fJ (.nm 0) (.cS " / "))) (elt:=.call Bf (.cons (.nm 0) .nil)) (δ:=[some (.str (tx (tT tr))),some (.int f),none]) (ds:=(tr.map nT).map fun w=>D.str (tx w)) (p:=fun _=>true) (g:=fun d=>match d with|.str z=>Ae (nz (sp z.cps.toList [32]))|d=>d) (c:=16) (by
   rw[Zh]
   have hd:dS (.str (tx (tT tr)))=true:=rfl
   generalize tx (tT tr)=T at *
   simp_arith[hd,hs]) (fun d hd=>by
  obtain⟨w,hw,rfl⟩:=a8.mp hd
  obtain⟨r,jt,rfl⟩:=a8.mp hw
  obtain⟨g1,g2,g3⟩:=bR r jt
  refine⟨[some (.str (tx (nT r)))],rfl,?_⟩
  have:=Gi (Vk g3 g2)
  rw[Ml g1,Pk g3,if_pos rfl]at this
  rw[if_pos rfl]
  show ev (.call Bf (.cons (.nm 0) .nil)) [some (.str (tx (nT r)))]=.ok (Ae (nz (sp (nT r) [32])))
  rw[Ml g1,<- this]
  rfl)
 rw[if_pos (cz.mpr fun _ _=>rfl),bH,bH]at hc
 have ee:tr.map (((fun d=>match d with|.str z=>Ae (nz (sp z.cps.toList [32]))|d=>d) ∘ fun w=>D.str (tx w)) ∘ nT)=tr.map Ae:=fN fun r jt=>by
  obtain⟨g1,g2,g3⟩:=bR r jt
  show Ae (nz (sp (nT r) [32]))=Ae r
  rw[Ml g1,Vj g3]
 rw[ee]at hc
 have hc:_=Res.ok (Ac tr):=hc
 have d9:Hk.dep=9:=rfl
 have f9:D.flat 9 9 (.bl true)=true:=rfl
 generalize hE:E.ao 1 [] (.nm 0) (.seq (.fJ (.nm 0) (.cS " / "))) (.call Bf (.cons (.nm 0) .nil))=EE at *
 refine gO ?_
 rw[EY,Il,hE]
 clear ee hs
 generalize Ac tr=TR at *
 generalize tx (tT tr)=T at *
 generalize tx [45]=M at *
 simp_arith[ht,hq,hc,hit,d9,f9]
end
abbrev ZF(tr:List (List Int))(q:Nat×Nat):Et:=⟨q.1,q.2,tl tr q.1 q.2⟩
abbrev Hr(es:List Et):List Nat:=if es=[] then [45] else pT es
theorem SS(tr:List (List Int))(qs:List (Nat×Nat)):qs.map (Au tr)=(qs.map (ZF tr)).map Et.d:=by
 rw[bH];rfl
structure Nu(e:Et):Prop where
 a:Rm e.a
 b:Rm e.b
 c:Rm e.c
theorem Vl(e:Et):sp (eT e) [58]=[gI e.a,gI e.b,gI e.c]:=Qx (by simp) fun x hx=>by
 simp only[bB,oJ,or_false]at hx
 rcases hx with rfl|rfl|rfl<;>exact n58 _
theorem ST{c:Nat}(h:c∈eT e):48<=c/\c<=58:=by
 rcases Kh h with z|⟨t,ht,z⟩
 ·rw[gp.mp z];decide
 simp only[bB,oJ,or_false]at ht
 rcases ht with rfl|rfl|rfl<;>exact⟨(NL z).1,a6 (NL z).2⟩
theorem Vm(h:es≠[]):sp (pT es) [32]=es.map eT:=Qx (fun z=>h (tL.mp z)) fun w hw z=>by
 obtain⟨e,_,rfl⟩:=a8.mp hw
 exact absurd (ST z).1 (by decide)
theorem AaP:pT es≠[45]:=fun z=>by
 have:45∈pT es:=by rw[z];exact gp.mpr rfl
 rcases Kh this with q|⟨t,ht,q⟩
 ·exact absurd q (by decide)
 obtain⟨r,_,rfl⟩:=a8.mp ht
 exact absurd (ST q).1 (by decide)
theorem AaQ{es:List Et}(h:∀e∈es,Nu e)(hl:es.length<=1000):Tx (pT es):=by
 refine⟨J7 NH oke,?_⟩
 have:=J8 (sep:=[32]) (UH (es:=es) fun e he=>⟨(h e he).a.gd,(h e he).b.gd,(h e he).c.gd⟩)
 rw[aF]at this
 exact aS this (aS (m9 _ hl) (by decide))
theorem Vn(h:∀e∈es,Nu e)(hl:es.length<=1000):Tx (Hr es):=by
 unfold Hr
 split
 ·exact⟨Fd,by decide⟩
 exact AaQ h hl
theorem Vo(h:∀e∈es,Nu e)(hl:es.length<=1000):Ck.den [.lst (es.map Et.d)]=.ok (.str (tx (Hr es))):=KW (fun e he=>⟨(h e he).a.gd,(h e he).b.gd,(h e he).c.gd⟩) hl
theorem AaR(h:∀e∈es,Nu e)(hl:es.length<=1000):Cm.den [.str (tx (Hr es))]=.ok (.lst (es.map Et.d)):=by
 have hp:=Pg (Vn h hl)
 rw[hp]
 unfold Hr
 by_cases c:es=[]
 ·rw[if_pos c,c];rfl
 rw[if_neg c,if_neg (by rw[beq_iff_eq];exact AaP)]
 have e1:Gk (pT es)=true:=by
  unfold Gk
  rw[Vm c,mK,cz]
  intro e he
  show Dg (eT e)=true
  unfold Dg
  rw[Vl]
  have hn:=h e he
  show(decide (3=3)&&(bA (gI e.a)&&(bA (gI e.b)&&(bA (gI e.c)&&true))))=true
  rw[Kg hn.a.1 (nY hn.a.2 (by decide)),Kg hn.b.1 (nY hn.b.2 (by decide)),Kg hn.c.1 (nY hn.c.2 (by decide))];rfl
 rw[if_pos e1]
 unfold Gj
 rw[Vm c,bH]
 congr 2
 apply fN
 intro e he
 have hn:=h e he
 show Fl (eT e)=e.d
 unfold Fl Et.d
 rw[Vl]
 show D.tup [.int (dv (gI e.a):Nat),.int (dv (gI e.b):Nat),.int (dv (gI e.c):Nat)]=_
 rw[Mk hn.a.1,Mk hn.b.1,Mk hn.c.1]
theorem K0{es:List Et}(h:∀e∈es,Nu e)(hl:es.length<=1000):Az.den [.lst (es.map Et.d)]=.ok (.lst (es.map Et.d)):=by
 have h1:=Vo h hl
 have h2:=AaR h hl
 refine gO ?_
 generalize es.map Et.d=X at *
 generalize tx (Hr es)=T at *
 simp_arith[Ef,h1,h2]
theorem Pm{n:Nat}(h:n<xs.length):Mb (n:Int) v xs=some (xs.set n v):=by
 unfold Mb dE
 rw[if_pos (gq _),if_pos (by exact gS.mpr h)];rfl
theorem Io:∀(ts:List (List Nat))(j:Nat)(v:List Nat),((ts.set j v).map aaI).sum<=(ts.map aaI).sum+v.length
 |[],_,_=>cK _
 |t::r,0,v=>by
  show v.length+(r.map aaI).sum<=t.length+(r.map aaI).sum+v.length
  omega
 |t::r,j+1,v=>by
  have:=Io r j v
  show t.length+((r.set j v).map aaI).sum<=t.length+(r.map aaI).sum+v.length
  omega
theorem Pn{ts:List (List Nat)}{j:Nat}{v:List Nat}(h:∀w∈ts,cM w)(hv:cM v):∀w∈ts.set j v,cM w:=fun w hw=>by
 rcases qh hw with z|rfl
 ·exact h w z
 exact hv
theorem Abz:("" : Str)=tx []:=by rw[Str.ofString_eq_toList];rfl
theorem AbA:("-1" : Str)=tx [45,49]:=by rw[Str.ofString_eq_toList];rfl
theorem AaS{a:Int}(h0:0<=a)(h9:a<6):a=0\/a=1\/a=2\/a=3\/a=4\/a=5:=by
 have:=(by decide:∀n:Fin 6,(n.val:Int)=0\/(n.val:Int)=1\/(n.val:Int)=2\/(n.val:Int)=3\/(n.val:Int)=4\/(n.val:Int)=5) ⟨a.toNat,(Int.toNat_lt h0).mpr h9⟩
 simp only[mP h0]at this
 exact this
theorem AbB:cM [45,49]:=fun c hc=>by
 simp only[bB,oJ,or_false]at hc
 rcases hc with rfl|rfl<;>decide
theorem AaT{l:List Nat}(ok:cM l)(hl:l.length<=20000){y0 y1 y2 y3 y4:Int}(h2:0<=y2/\y2<6)(h3:0<=y3/\y3<40):∃u,Tx u/\CF.den [.str (tx l),.lst [.int y0,.int y1,.int y2,.int y3,.int y4]]=.ok (.str (tx u)):=by
 have lC:=DS (l:=l) (sep:=[32]) (by simp) (aS hl (by decide))
 obtain⟨a1,a2,a3⟩:=EN l [32]
 have a4:=SK l [32]
 have a5:=NJ (sep:=[32]) ok
 generalize sp l [32]=ws at *
 have n1:0<ws.length:=qZ.mpr a3
 obtain⟨i,hi,ei⟩:=KN (y:=y0) n1
 obtain⟨w,hw,ew⟩:=SM (ws:=ws) hi
 have wl:=(a1 w hw).2
 have kq:=DS (l:=w) (sep:=[58]) (by simp) (aS wl (aS hl (by decide)))
 obtain⟨b1,xS,b3⟩:=EN w [58]
 have b4:=SK w [58]
 have b5:=NJ (sep:=[58]) (a5 w hw)
 generalize sp w [58]=ps at *
 have n2:0<ps.length:=qZ.mpr b3
 obtain⟨j,hj,ej⟩:=KN (y:=y1) n2
 obtain⟨x,hx,zW⟩:=SM (ws:=ps) hj
 have xl:=(b1 x hx).2
 have xo:=b5 x hx
 have p1:=Zg x [48] (by show x.length+1<=16777216;omega)
 have p2:=Zg [48] x (by show 1+x.length<=16777216;omega)
 have p3:biD .str [.int y3]=.ok (.str (tx (Ch y3.toNat))):=by
  have:=Pc (n:=y3.toNat) (gQ (show y3.toNat<40 by omega) (by decide))
  rwa [mP h3.1]at this
 have p3':(if y3.natAbs<1606938044258990275541962092341162602522202993782792835301376 then Res.ok (D.str (Str.ofString (toString y3))) else .bad)=.ok (.str (tx (Ch y3.toNat))):=p3
 have fl3:=Ho 20 y3.toNat (by decide) (gQ (show y3.toNat<40 by omega) (by decide))
 obtain⟨v,vo,vl,ev'⟩:∃v,cM v/\v.length<=20001/\bz [.str (tx (x++[48])),.str (tx ([48]++x)),.str (tx []),.str (tx (Ch y3.toNat)),.str (tx [45,49]),.str (tx x)] y2=.ok (.str (tx v)):=by
  rcases AaS h2.1 h2.2 with rfl|rfl|rfl|rfl|rfl|rfl
  ·exact⟨_,Pf xo G6,by rw[eP];show x.length+1<=_;omega,rfl⟩
  ·exact⟨_,Pf G6 xo,by rw[eP];show 1+x.length<=_;omega,rfl⟩
  ·exact⟨[],fun c hc=>(nomatch hc),by decide,rfl⟩
  ·exact⟨_,fun c hc=>gQ (G4 _ c hc) (by decide),by omega,rfl⟩
  ·exact⟨_,AbB,by decide,rfl⟩
  exact⟨x,xo,by omega,rfl⟩
 have q1:=Io ps j v
 obtain⟨u1,t1,e1⟩:=Vf (sep:=[58]) (fun c hc=>by rw[gp.mp hc];decide) (by decide) (Pn (j:=j) b5 vo) (by
  rw[iD,nU,oO]
  omega)
 have t1l:u1.length<=70000:=by
  have:u1=jo [58] (ps.set j v):=by
   have h:=EM [58] (ps.set j v) (by
    rw[Ke,iD,nU,oO];omega)
   rw[h]at e1
   injection e1 with e1
   injection e1 with e1
   exact(SQ e1).symm
  rw[this]
  refine aS (SL ..) ?_
  rw[iD,nU,oO]
  omega
 have q2:=Io ws i u1
 obtain⟨u,t2,e2⟩:=Vf (sep:=[32]) NH (by decide) (Pn (j:=i) a5 t1.ok) (by
  rw[iD,nU,oO]
  omega)
 refine⟨u,t2,?_⟩
 have g1:=Pm (n:=j) (v:=.str (tx v)) (xs:=ps.map fun w=>D.str (tx w)) (by rw[aF];exact hj)
 have g2:=Pm (n:=i) (v:=.str (tx u1)) (xs:=ws.map fun w=>D.str (tx w)) (by rw[aF];exact hi)
 rw[nW]at e1 e2
 have l1:(((ws.map fun w=>D.str (tx w)).length:Nat):Int)=(ws.length:Int):=by rw[aF]
 have l2:(((ps.map fun w=>D.str (tx w)).length:Nat):Int)=(ps.length:Int):=by rw[aF]
 have m1:0<(ws.length:Int):=nZ.mpr n1
 have m2:0<(ps.length:Int):=nZ.mpr n2
 have i0:∀a b c d e:D,bz [a,b,c,d,e] 0=.ok a:=fun a b c d e=>rfl
 have i1:∀a b c d e:D,bz [a,b,c,d,e] 1=.ok b:=fun a b c d e=>rfl
 have i2:∀a b c d e:D,bz [a,b,c,d,e] 2=.ok c:=fun a b c d e=>rfl
 have i3:∀a b c d e:D,bz [a,b,c,d,e] 3=.ok d:=fun a b c d e=>rfl
 have hd:∀z,dS (.str z)=true:=fun z=>rfl
 refine gO ?_
 rw[CZ,Jx,NE,UI,Abz,AbA]
 clear a1 a2 a4 a5 b1 xS b4 b5 q1 q2 t1 t2 t1l xo vo fl3
 generalize (ws.map fun w=>D.str (tx w)).set i (.str (tx u1))=WS2 at *
 generalize (ws.map fun w=>D.str (tx w))=WS at *
 generalize (ps.map fun w=>D.str (tx w)).set j (.str (tx v))=PS2 at *
 generalize (ps.map fun w=>D.str (tx w))=PS at *
 generalize tx (x++[48])=X1 at *
 generalize tx ([48]++x)=X2 at *
 generalize tx (Ch y3.toNat)=X3 at *
 generalize tx [45,49]=X4 at *
 generalize tx [48]=X5 at *
 generalize tx [32]=X6 at *
 generalize tx [58]=X7 at *
 generalize tx []=X8 at *
 generalize tx x=X9 at *
 generalize tx v=V at *
 generalize tx u1=U1 at *
 generalize tx u=Uz9 at *
 generalize tx w=W at *
 generalize tx l=L at *
 simp_arith[hd,lC,l1,m1,i0,i1,i2,i3,ei,ew,kq,l2,m2,ej,zW,p1,p2,p3',ev',g1,e1,g2,e2]
abbrev K1(es:List Et):Prop:=(∀e∈es,Nu e)/\es.length<=200
abbrev eu(es:List Et):D:=.lst (es.map Et.d)
abbrev xT(rs:List Int)(f:Nat)(μ:Int):Prop:=∃(T:D)(l:List Nat)(o:Option Nat)(es kf:List Et)(o2:Option Nat),(F7.den [Ae rs,.int f]=.ok T/\D0.den [T]=.ok (.str (tx l))/\CS.den [.str (tx l),.int f]=.ok T/\D.flat 9 2 T=true/\K1 es/\K1 kf)/\BZ.den [T,.int f,.int μ]=.ok (.tup [aV o,eu es])/\AS.den [Ae rs,.int μ,.int 0]=.ok (aV o)/\Bw.den [.tup [.int rs.length,.int f],.int μ,aV o,eu es]=.ok (.bl true)/\CU.den [T,eu es]=.ok (.bl true)/\Cp.den [T,.int f,.int μ]=.ok (.tup [aV o2,eu kf])/\Dx.den [.tup [.int rs.length,.int f],.int μ,aV o2,eu kf]=.ok (.bl true)/\CU.den [T,eu kf]=.ok (.bl true)/\∀a<rs.length,∃(o3:Option Nat)(nP:List Et),K1 nP/\BE.den [T,.int f,.int μ,.int a]=.ok (.tup [aV o3,eu nP])/\AS.den [Ae rs,.int μ,.int a]=.ok (aV o3)/\Cc.den [.tup [.int rs.length,.int f],.int μ,.int a,aV o3,eu nP]=.ok (.bl true)
theorem AbC:BW.den [.lst [],.lst []]=.ok (.lst []):=by
 have hc:=Ax (nl:=1) (fr:=[0]) (tg:=.nm 0) (it:=.seq (.nm 1)) (elt:=.tup (.cons (.ix (.nm 0) (.cI 0)) (.cons (.ix (.nm 0) (.cI 1)) (.cons (.call AU (.cons (.nm 1) (.cons (.nm 0) .nil))) .nil)))) (δ:=[some (.lst []),some (.lst [])]) (ds:=[]) (g:=fun d=>d) (by simp_arith[]) (fun d ey=>nomatch ey)
 refine gO ?_
 generalize hC:E.ao 1 [0] (.nm 0) (.seq (.nm 1)) (.tup (.cons (.ix (.nm 0) (.cI 0)) (.cons (.ix (.nm 0) (.cI 1)) (.cons (.call AU (.cons (.nm 1) (.cons (.nm 0) .nil))) .nil))))=C at *
 have hc:ev C [some (.lst []),some (.lst [])]=.ok (.lst []):=hc
 rw[EW,hC]
 simp_arith[hc]
theorem AbD{f:Nat}(hf:2<=f)(av:f<=8)(μ:Int):xT [] f μ:=by
 have S:Sp 0 f 0:=⟨hf,av,by decide,by decide,.inl rfl⟩
 have hs:AT.den [.lst [],.int f]=.ok (aA 0 f):=Hy f
 have hw:=AbC
 have self:=J3 (.lst []) rfl
 have hR:Br.den [.lst []]=.ok (Ae []):=by
  refine gO ?_
  show _=Out.ret (.lst [])
  simp_arith[Cb,self]
 have uV:ED.den [.lst [],.int f,.int μ]=.ok .aJ:=by
  have h1:Fa.den [.lst [],.int f,.int μ,.int 0]=.ok (.lst []):=N9 f μ
  have h3:Cn.den [.lst [],.int f,.int μ,.int 0]=.ok .aJ:=by
   refine gO ?_
   simp_arith[CW,h1,self]
  refine gO ?_
  simp_arith[ID,h3]
 have hfp:BZ.den [.lst [],.int f,.int μ]=.ok (.tup [.aJ,.lst []]):=by
  have nL:AN.den [aA 0 f,.int 0,.aJ]=.ok (.tup [.int 0,.int 0]):=G0 0 f 0 none
  have hc:EC.den [aA 0 f,.int 0,.int 0]=.ok (.lst []):=GZ 0 f 0 (bx _)
  have hp:Co.den [.lst [],.int f,.tup [.int 0,.int 0]]=.ok (.lst []):=by
   refine gO ?_
   generalize aA 0 f=s at *
   simp_arith[D7,hs,hc,hw]
  have d1:ED.dep=0:=rfl
  have d3:AN.dep=0:=rfl
  have g1:D.flat 9 0 .aJ=true:=rfl
  have g3:∀x y:Int,D.flat 9 0 (.tup [.int x,.int y])=true:=fun x y=>rfl
  refine gO ?_
  generalize aA 0 f=s at *
  simp_arith[Dy,uV,d1,g1,hs,nL,d3,g3,hp]
 have hho:CU.den [.lst [],.lst []]=.ok (.bl true):=by
  have hc:=Ax (nl:=1) (fr:=[0]) (tg:=.nm 0) (it:=.seq (.nm 1)) (elt:=.call Cd (.cons (.nm 1) (.cons (.nm 0) .nil))) (δ:=[some (.lst []),some (.lst [])]) (ds:=[]) (g:=fun d=>d) (by simp_arith[]) (fun d ey=>nomatch ey)
  generalize hC:E.ao 1 [0] (.nm 0) (.seq (.nm 1)) (.call Cd (.cons (.nm 1) (.cons (.nm 0) .nil)))=C at *
  have hc:ev C [some (.lst []),some (.lst [])]=.ok (.lst []):=hc
  have h3:AG (AM [])=.ok []:=rfl
  refine gO ?_
  rw[Hl,hC]
  simp_arith[hc,h3,List.all_nil]
 have wW:∀δ:Fr,ev Qw (some (.int μ)::some (.lst [])::δ)=.ok (.lst []):=fun δ=>by
  have hc:=EJ (nl:=1) (fr:=[0]) (tg:=.nm 0) (it:=.seq (.nm 1)) (cond:=.bo true (.cons (.cmp .eq (.ix (.nm 0) (.cI 0)) (.cI 0)) (.cons (.cmp .ge (.ix (.nm 0) (.cI 2)) (.nm 1)) .nil))) (elt:=.nm 0) (δ:=some (.int μ)::some (.lst [])::δ) (ds:=[]) (b:=fun _=>true) (g:=fun d=>d) (by simp_arith[]) (fun d ey=>nomatch ey)
  exact hc
 obtain⟨o2,uW,pS⟩:=SA [] μ f (.lst []) hR (.lst []) (wW _)
 have xM:Bq.den [.lst [],aA 0 f,.int μ]=.ok (.lst []):=by
  refine gO ?_
  unfold aA
  have c0:(((0:Nat):Int)==0)=true:=rfl
  simp_arith[A3,qT,c0]
 have hbp:Cp.den [.lst [],.int f,.int μ]=.ok (.tup [aV o2,.lst []]):=by
  have d1:BW.dep=1:=rfl
  have g1:D.flat 9 1 (.lst [])=true:=rfl
  refine gO ?_
  generalize aA 0 f=s at *
  generalize aV o2=O at *
  simp_arith[D9,hs,xM,uW,hw,d1,g1]
 have wo:Dx.den [.tup [.int 0,.int f],.int μ,aV o2,.lst []]=.ok (.bl true):=by
  have mS:=KQ S [] 0 0
  have mS:CT.den [.tup [.int 0,.int f],.tup [.int 0,.int 0],.lst []]=.ok (.bl true):=mS
  have qb:=EJ (nl:=1) (fr:=[1]) (tg:=.nm 0) (it:=.seq (.nm 3)) (cond:=.cmp .gt (.ix (.nm 0) (.cI 0)) (.cI 0)) (elt:=.cmp .lt (.ix (.nm 0) (.cI 2)) (.nm 1)) (δ:=[some (.tup [.int 0,.int f]),some (.int μ),some (aV o2),some (.lst [])]) (ds:=[]) (b:=fun _=>true) (g:=fun d=>d) (by simp_arith[]) (fun d ey=>nomatch ey)
  have tF:=Va o2 o2
  rw[decide_eq_true rfl]at tF
  have h3:AG (AM [])=.ok []:=rfl
  generalize hC:E.a9 1 [1] (.nm 0) (.seq (.nm 3)) (.cmp .gt (.ix (.nm 0) (.cI 0)) (.cI 0)) (.cmp .lt (.ix (.nm 0) (.cI 2)) (.nm 1))=C at *
  have qb:ev C [some (.tup [.int 0,.int f]),some (.int μ),some (aV o2),some (.lst [])]=.ok (.lst []):=qb
  refine gO ?_
  rw[D4,hC]
  generalize aV o2=O at *
  simp_arith[mS,qb,h3,List.all_nil,pS,tF]
 have hrt:CS.den [.str (tx [45]),.int f]=.ok (.lst []):=by
  have ht:=Kb [45]
  have hq:=Gh Fd Fd
  rw[beq_self_eq_true]at hq
  refine gO ?_
  rw[EY,Il]
  generalize tx [45]=M at *
  simp_arith[ht,hq]
 have jJ:AS.den [Ae [],.int μ,.int 0]=.ok .aJ:=by
  obtain⟨o,F,e⟩:=Jv [] μ (by simp) (cK _)
  cases o with
  |none=>exact e
  |some j=>
  obtain⟨_,⟨x,g2,_⟩,_⟩:=F
  cases g2
 have pa:K1 []:=⟨fun e he=>(nomatch he),by decide⟩
 exact⟨.lst [],[45],none,[],[],o2,⟨Qp f,Hz (tr:=[]) ⟨by decide,fun r hr=>(nomatch hr)⟩,hrt,rfl,pa,pa⟩,hfp,jJ,Zy S μ none [],hho,hbp,wo,hho,fun a ha=>(nomatch ha)⟩
section
variable{rs:List Int}{f h:Nat}(hf:2<=f)(av:f<=8)(H:Hs rs.length f h)(hh:h<=8)(hn:rs.length<=200)(bD:1<=rs.length)(hr:∀r∈rs,Rm r)
include hf av H hh hn bD hr
theorem SU{n:Nat}(h:n<=200):Rm n:=⟨gq _,rD (gS.mpr h) (by decide)⟩
theorem UK(hv:Val rs.length f h qs)(hl:qs.length<=200):K1 (qs.map (ZF (Aa rs f (h+1)))):=by
 refine⟨fun e he=>?_,by rw[aF];exact hl⟩
 obtain⟨q,hq,rfl⟩:=a8.mp he
 obtain⟨v1,v2⟩:=hv q hq
 have c2:=Fc (p:=rs.length) (f:=f) (l:=q.1) (by exact a6 hf)
 have bU:=(AO (show 1<=f by exact a6 hf)).mp v2
 have hw:0<f^q.1:=i_ (by exact a6 hf)
 obtain⟨⟨k,_,_,hk⟩,_⟩:=IL (rs:=rs) (a:=q.2*f^q.1) (b:=min rs.length (q.2*f^q.1+f^q.1)) (by omega) (by exact iE ..)
 refine⟨SU hf av H hh hn bD hr (by exact q9J v1 hh (by decide)),SU hf av H hh hn bD hr (by omega),?_⟩
 show Rm (tl (Aa rs f (h+1)) q.1 q.2)
 rw[KO v1 v2]
 exact hr _ (cJ hk)
theorem AbE(μ:Int):xT rs f μ:=by
 obtain⟨l,t1,t2⟩:=AaO hf av H hh hn bD hr
 obtain⟨o1,F1,_,nM⟩:=W0 hf av H hh hn bD μ
 obtain⟨o4,ys,⟨v4,l4⟩,_,xU,hs4⟩:=Abs hf av H hh hn bD μ
 have i1:=Mj hf av H hh hn bD F1
 obtain⟨w1,z1,s1⟩:=Abr hf av H hh hn bD μ o1 i1.2
 rw[z1.mpr ((SB (cK _) o1).mp F1).2.2]at s1
 have v1:=EK (h:=h) (show 1<=f by exact a6 hf) i1.2 200 0
 have n1:=U9 hf av H hh hn bD v1
 have n4:=U9 hf av H hh hn bD v4
 obtain⟨u1,G1,e1⟩:=Jv rs μ hn (cK _)
 cases O4 F1 G1
 unfold Ik at nM xU
 rw[SS]at nM xU n1 n4 s1 hs4
 refine⟨_,l,o1,_,_,_,⟨Sl hf av H hh hn bD,t1,t2,Sj _,UK hf av H hh hn bD hr v1 (UD _ _),UK hf av H hh hn bD hr v4 (aS l4 hn)⟩,nM,e1,s1,n1,xU,hs4,n4,fun a ha=>?_⟩
 obtain⟨o2,F2,_,sY⟩:=Abo hf av H hh hn μ ha
 have i2:=Mj hf av H hh hn ha F2
 obtain⟨w2,z2,s2⟩:=AaC hf av H hh hn bD μ o2 a i2.2
 rw[z2.mpr ((SB (a6 ha) o2).mp F2).2,qm i2.1]at s2
 have v2:=EK (h:=h) (show 1<=f by exact a6 hf) i2.2 200 a
 obtain⟨u2,G2,e2⟩:=Jv rs μ hn (a6 ha)
 cases O4 F2 G2
 unfold Ik at sY
 rw[SS]at sY s2
 exact⟨o2,_,UK hf av H hh hn bD hr v2 (UD _ _),sY,e2,s2⟩
end
theorem ZG(h:K1 es):(Hr es).length<=20000:=by
 unfold Hr
 split
 ·decide
 have:=J8 (sep:=[32]) (UH (es:=es) fun e he=>⟨(h.1 e he).a.gd,(h.1 e he).b.gd,(h.1 e he).c.gd⟩)
 rw[aF]at this
 exact aS this (aS (m9 _ h.2) (by decide))
theorem ZH{ys:List Int}(h:ys.length=5):∃a b c d e,ys=[a,b,c,d,e]:=by
 match ys,h with
 |[a,b,c,d,e],_=>exact⟨a,b,c,d,e,rfl⟩
theorem W8:∀ns:List Int,ns.length<=63->JZ.den [.lst (ns.map .int)]=.ok (.bl true):=by
 intro ns _
 obtain⟨rs,hl,uX,xV⟩:=Sg ns 0 (by decide) 60 (by decide)
 have xV:DE.den [.lst (ns.map .int),.int 0,.int 60]=.ok (.lst (rs.map .int)):=xV
 obtain⟨f,hf,av,xW⟩:=WQ ns 1 (by decide)
 have hn:rs.length<=200:=aS hl (by decide)
 obtain⟨μ,td,hq⟩:=Uz ns 2 (by decide) rs (fun r hr=>(uX r hr).1) hn
 obtain⟨ys,hry,xk,hyb⟩:=IF ns 3 (by decide) [60,3,6,40,60] (by decide) (by decide)
 obtain⟨y0,y1,y2,y3,y4,rfl⟩:=ZH xk
 have xS:=hyb 2 y2 _ rfl rfl
 have b3':=hyb 3 y3 _ rfl rfl
 simp only[acb]at hry
 have hA:xT rs f μ:=by
  by_cases c:rs=[]
  ·rw[c];exact AbD hf av μ
  have bD:=qZ.mpr c
  obtain⟨h,hh,H⟩:=hs8 hf bD hn
  exact AbE hf av H hh hn bD uX μ
 obtain⟨T,l,o,es,kf,o2,⟨k1,k2,k3,k4,pe,pe2⟩,k5,k6,k7,k8,k9,k10,k11,xX⟩:=hA
 obtain⟨hx,hS⟩:=Aax hn hf av
 have g1:=ZE uX hn
 have g2:=Aby uX hn
 have a1:=K0 pe.1 (aS pe.2 (by decide))
 have a2:=K0 pe2.1 (aS pe2.2 (by decide))
 have p1:=Vo pe.1 (aS pe.2 (by decide))
 obtain⟨u,hu,c1⟩:=AaT (Vn pe.1 (aS pe.2 (by decide))).ok (ZG pe) xS b3' (y0:=y0) (y1:=y1) (y4:=y4)
 have j1:=AaJ hS hu μ o
 have uY:∀o:Option Nat,c2 .ne (aV o) (aV o)=.ok (.bl false):=fun o=>Hn (aV o) (by cases o<;>rfl)
 have b8:=DQ (rs.map D.int) (by
  rw[cz]
  intro d hd
  obtain⟨r,_,rfl⟩:=a8.mp hd
  rfl)
 have l1:(((rs.map D.int).length:Nat):Int)=(rs.length:Int):=by rw[aF]
 have i4:∀a b c d e:D,bz [a,b,c,d,e] 4=.ok e:=fun a b c d e=>rfl
 have d1:F7.dep=2:=rfl
 have d2:CS.dep=2:=rfl
 have d3:BZ.dep=1:=rfl
 have d4:Cp.dep=1:=rfl
 have d5:BE.dep=1:=rfl
 have d6:AS.dep=0:=rfl
 have d7:CU.dep=9:=rfl
 have d8:Ed.dep=0:=rfl
 have d9:CY.dep=9:=rfl
 have d10:CF.dep=9:=rfl
 have f0:∀o:Option Nat,D.flat 9 0 (aV o)=true:=fun o=>by cases o<;>rfl
 have f1:∀(o:Option Nat)(es:List Et),D.flat 9 1 (.tup [aV o,eu es])=true:=fun o es=>by
  have e1:D.flat 8 1 (aV o)=true:=by cases o<;>rfl
  have e2:D.flat 8 1 (eu es)=true:=by
   show(es.map Et.d).all (D.flat 7 0)=true
   rw[cz]
   intro d hd
   obtain⟨e,_,rfl⟩:=a8.mp hd
   rfl
  show(D.flat 8 1 (aV o)&&(D.flat 8 1 (eu es)&&true))=true
  rw[e1,e2];rfl
 have f3:∀b,D.flat 9 9 (.bl b)=true:=fun b=>rfl
 have f4:∀b,D.flat 9 9 (.str b)=true:=fun b=>rfl
 have f5:∀b,D.flat 9 0 (.int b)=true:=fun b=>rfl
 change Az.den [eu es]=.ok (eu es) at a1
 change Az.den [eu kf]=.ok (eu kf) at a2
 change Ck.den [eu es]=_ at p1
 obtain⟨X,hX⟩:∃X:S,X=.iff (.cmp .ne (.nm 1) (.lst .nil)) (.cons (.asg 12 0 (.bin .mod (.cC (.nm 11) (.cI 4)) (.bi .len (.cons (.nm 1) .nil)))) (.cons (.eE [13,14] (.aK BE (.cons (.nm 5) (.cons (.nm 2) (.cons (.nm 3) (.cons (.nm 12) .nil)))))) (.cons (.iff (.cmp .ne (.nm 13) (.aK AS (.cons (.nm 1) (.cons (.nm 3) (.cons (.nm 12) .nil))))) (.cons (.ret (.cB false)) .nil) .nil) (.cons (.iff (.not (.call Cc (.cons (.nm 6) (.cons (.nm 3) (.cons (.nm 12) (.cons (.nm 13) (.cons (.call Az (.cons (.nm 14) .nil)) .nil))))))) (.cons (.ret (.cB false)) .nil) .nil) .nil)))) .nil:=⟨_,rfl⟩
 obtain⟨m7,o13,o14,eX⟩:∃m7 o13 o14:Option D,ex X [some (.lst (ns.map .int)),some (Ae rs),some (.int f),some (.int μ),some (Ae rs),some T,some (.tup [.int rs.length,.int f]),some (aV o),some (eu es),some (aV o2),some (eu kf),some (.lst [.int y0,.int y1,.int y2,.int y3,.int y4]),none,none,none]=.bb [some (.lst (ns.map .int)),some (Ae rs),some (.int f),some (.int μ),some (Ae rs),some T,some (.tup [.int rs.length,.int f]),some (aV o),some (eu es),some (aV o2),some (eu kf),some (.lst [.int y0,.int y1,.int y2,.int y3,.int y4]),m7,o13,o14]:=by
  subst hX
  by_cases c:rs=[]
  ·refine⟨none,none,none,?_⟩
   rw[c,iC]at b8
   rw[c]
   have b8:c2 .ne (.lst []) (.lst [])=.ok (.bl false):=b8
   rw[show Ae []=.lst [] from rfl]
   generalize eu es=P1 at *
   generalize eu kf=P2 at *
   generalize aV o=Q1 at *
   generalize aV o2=Q2 at *
   generalize ns.map D.int=N at *
   simp_arith[b8]
  obtain⟨a,ha,ea⟩:=KN (y:=y4) (qZ.mpr c)
  obtain⟨o3,nP,pe3,m1,m2,m3⟩:=xX a ha
  have a3:Az.den [eu nP]=.ok (eu nP):=K0 pe3.1 (aS pe3.2 (by decide))
  have hn3:=uY o3
  have f13:=f1 o3 nP
  have f03:=f0 o3
  have m0:0<(rs.length:Int):=nZ.mpr (qZ.mpr c)
  have:(rs.map D.int).isEmpty=false:=by
   cases rs with
   |nil=>exact absurd rfl c
   |cons a r=>rfl
  rw[this]at b8
  refine⟨some (.int a),some (aV o3),some (eu nP),?_⟩
  clear xX uY f1 f0
  unfold Ae at *
  generalize eu es=P1 at *
  generalize eu kf=P2 at *
  generalize eu nP=P3 at *
  generalize aV o=Q1 at *
  generalize aV o2=Q2 at *
  generalize aV o3=Q3 at *
  generalize ns.map D.int=N at *
  generalize rs.map D.int=R at *
  simp_arith[b8,abK,i4,l1,m0,ea,m1,d5,f13,IJ,m2,d6,f03,hn3,a3,m3]
 have n1:=uY o
 have f11:=f1 o es
 have f12:=f1 o2 kf
 have f01:=f0 o
 refine gO ?_
 rw[Id,<- hX]
 clear xX uY f1 f0 b8 hX
 unfold Ae at *
 generalize eu es=P1 at *
 generalize eu kf=P2 at *
 generalize aV o=Q1 at *
 generalize aV o2=Q2 at *
 generalize ns.map D.int=N at *
 generalize rs.map D.int=R at *
 generalize tx (KZ rs)=L1 at *
 generalize tx l=L2 at *
 generalize tx (Hr es)=L3 at *
 generalize tx u=L4 at *
 simp_arith[xV,xW,hq,d8,f5,g1,d9,f4,g2,k1,d1,k4,k2,k3,d2,l1,k5,d3,f11,IJ,k6,d6,f01,n1,a1,k7,k8,d7,f3,k9,d4,f12,a2,k10,k11,hry,eX,p1,c1,d10,j1]
end Pu
end
namespace Pu
open PySem PySem.Spec PyProof.Rows PySem.W L2
abbrev top(i:Nat):Stmt:=PySem.Challenge.pw_ullage_k98_whole_text_to_paper.main.body.getD i (.Pass ⟨0,0,0,0⟩)
theorem Of:aU ["thing"] ["thing"] (top 6) JW 9=true:=by decide +kernel
theorem LP:aU ["thing", "least", "most"] ["thing", "least", "most"] (top 7) F5 9=true:=by decide +kernel
theorem SV:aU ["shape", "fan", "counts", "many"] ["shape"] (top 10) Hh 1=true:=by decide +kernel
theorem Ip:aU ["counts", "thing"] ["counts", "thing"] (top 12) Bk 9=true:=by decide +kernel
theorem Qz:aU ["shape", "thing"] ["shape", "thing"] (top 11) Gw 9=true:=by decide +kernel
theorem LQ:aU ["shape", "thing"] ["shape", "thing"] (top 13) F6 9=true:=by decide +kernel
theorem W9:aU ["shape", "node", "width", "level", "begin"] ["shape", "node"] (top 14) Nj 0=true:=by decide +kernel
theorem ZI:aU ["shape", "counts"] ["shape"] (top 17) Qi 1=true:=by decide +kernel
theorem SW:aU ["shape", "node"] ["shape", "node"] (top 15) Hi 1=true:=by decide +kernel
theorem Og:aU ["shape", "node", "beneath", "begin", "end"] ["shape", "node"] (top 16) Fx 1=true:=by decide +kernel
theorem QA:aU ["thing"] ["thing"] (top 19) HX 9=true:=by decide +kernel
theorem K3:aU ["level", "fan"] ["level", "fan"] (top 21) Fg 9=true:=by decide +kernel
theorem UL:aU ["rooms", "fan", "tree", "level"] ["rooms", "fan"] (top 20) IB 2=true:=by decide +kernel
theorem NN:aU ["tree"] ["tree"] (top 24) EU 9=true:=by decide +kernel
theorem Oh:aU ["thing"] ["thing"] (top 23) Hj 9=true:=by decide +kernel
theorem Oi:aU ["tree"] ["tree"] (top 25) Cb 1=true:=by decide +kernel
theorem Oj:aU ["tree", "fan"] ["tree", "fan"] (top 26) DZ 0=true:=by decide +kernel
theorem QB:aU ["thing", "fan", "shape"] ["thing", "fan"] (top 22) HY 9=true:=by decide +kernel
theorem Ol:aU ["tree", "thing"] ["tree", "thing"] (top 27) FA 9=true:=by decide +kernel
theorem IS:aU ["tree", "thing"] ["tree", "thing"] (top 28) DC 9=true:=by decide +kernel
theorem UM:aU ["tree", "node"] ["tree", "node"] (top 29) Kz 0=true:=by decide +kernel
theorem NO:aU ["tree", "nodes"] ["tree", "nodes"] (top 30) EW 1=true:=by decide +kernel
theorem Ki:aU ["numbers"] ["numbers"] (top 35) EB 9=true:=by decide +kernel
theorem NP:aU ["tree"] ["tree"] (top 36) GI 9=true:=by decide +kernel
theorem LR:aU ["entry"] ["entry"] (top 38) F8 9=true:=by decide +kernel
theorem LU:aU ["paper"] ["paper"] (top 37) F9 9=true:=by decide +kernel
theorem NQ:aU ["word"] ["word"] (top 39) GJ 9=true:=by decide +kernel
theorem K4:aU ["word"] ["word"] (top 40) Dt 9=true:=by decide +kernel
theorem Kj:aU ["line"] ["line"] (top 41) Bv 9=true:=by decide +kernel
theorem LV:aU ["line"] ["line"] (top 42) Ga 9=true:=by decide +kernel
theorem LW:aU ["line", "rooms"] ["line"] (top 43) D1 2=true:=by decide +kernel
theorem NR:aU ["line", "fan", "tree"] ["line", "fan"] (top 44) EY 2=true:=by decide +kernel
theorem LX:aU ["word", "words"] ["word"] (top 46) D2 9=true:=by decide +kernel
theorem LY:aU ["line"] ["line"] (top 45) Gb 9=true:=by decide +kernel
theorem K5:aU ["shape", "begin", "page"] ["shape", "begin", "page"] (top 50) Dv 0=true:=by decide +kernel
theorem NS:aU ["shape", "pages", "paper", "reached", "entry", "node"] ["shape", "pages", "paper"] (top 52) EZ 9=true:=by decide +kernel
theorem NU:aU ["shape", "need", "pages", "paper"] ["shape", "need", "pages", "paper"] (top 51) E0 9=true:=by decide +kernel
theorem K6:aU ["shape", "need", "page", "paper"] ["shape", "need", "page", "paper"] (top 48) Dw 9=true:=by decide +kernel
theorem Jz:aU ["shape", "need", "at", "page", "paper"] ["shape", "need", "at", "page", "paper"] (top 49) D3 9=true:=by decide +kernel
theorem NV:aU ["need", "paper", "fitting", "least"] ["need", "paper"] (top 54) E3 0=true:=by decide +kernel
theorem LZ:aU ["shape", "need", "page", "paper"] ["shape", "need", "page", "paper"] (top 53) D4 9=true:=by decide +kernel
theorem QC:aU ["tree", "entry", "node"] ["tree", "entry"] (top 56) Ib 9=true:=by decide +kernel
theorem SX:aU ["tree", "paper"] ["tree", "paper"] (top 55) Hl 9=true:=by decide +kernel
theorem K7:aU ["pages", "begin", "end"] ["pages", "begin", "end"] (top 60) Fh 9=true:=by decide +kernel
theorem IU:aU ["shape", "begin", "end", "node", "above"] ["shape", "begin", "end"] (top 59) DD 0=true:=by decide +kernel
theorem UN:aU ["shape", "begin", "end", "nodes", "at", "node"] ["shape", "begin", "end"] (top 58) IC 1=true:=by decide +kernel
theorem L5:aU ["shape", "page"] ["shape", "page"] (top 61) Gc 9=true:=by decide +kernel
theorem Kk:aU ["tree", "need", "nodes", "looks", "node"] ["tree", "need", "nodes"] (top 64) C9 1=true:=by decide +kernel
theorem SY:aU ["tree", "fan", "need", "begin", "shape", "walk", "nodes", "looks"] ["tree", "fan", "need", "begin"] (top 63) Ge 1=true:=by decide +kernel
theorem L6:aU ["tree", "fan", "need", "begin", "walk"] ["tree", "fan", "need", "begin"] (top 67) CW 0=true:=by decide +kernel
theorem UO:aU ["tree", "fan", "need"] ["tree", "fan", "need"] (top 66) ID 0=true:=by decide +kernel
theorem QD:aU ["tree", "fan", "need", "at"] ["tree", "fan", "need", "at"] (top 68) Ic 0=true:=by decide +kernel
theorem Xa:aU ["tree", "fan", "need", "rooms", "fitting"] ["tree", "fan", "need"] (top 69) JX 9=true:=by decide +kernel
theorem L7:aU ["tree", "fan", "pages"] ["tree", "fan", "pages"] (top 73) D7 1=true:=by decide +kernel
theorem K8:aU ["tree", "fan", "need", "page"] ["tree", "fan", "need"] (top 71) Dy 1=true:=by decide +kernel
theorem JA:aU ["tree", "fan", "need", "at", "page"] ["tree", "fan", "need", "at"] (top 72) D8 1=true:=by decide +kernel
theorem FK:aU ["tree", "shape", "need", "nodes", "waiting", "node"] ["tree", "shape", "need"] (top 75) A3 1=true:=by decide +kernel
theorem L8:aU ["tree", "fan", "need", "nodes"] ["tree", "fan", "need"] (top 74) D9 1=true:=by decide +kernel
theorem Om:aU ["_law_script", "_law_place", "_law_seed", "_law_cell_here"] ["_law_script", "_law_place"] (top 77) Ea 0=true:=by decide +kernel
theorem K9:aU ["_law_cell_here", "_law_k", "_law_one", "_law_two"] ["_law_cell_here", "_law_k"] (top 78) Dz 1=true:=by decide +kernel
theorem La:aU ["_law_script", "_law_place", "_law_sizes", "_law_cell_here", "_law_left", "_law_some", "_law_k", "_law_other"] ["_law_script", "_law_place", "_law_sizes"] (top 79) Fj 2=true:=by decide +kernel
theorem JB:aU ["_law_script", "_law_place", "_law_most", "_law_some", "_law_scale", "_law_rooms_here", "_law_k", "_law_here"] ["_law_script", "_law_place", "_law_most"] (top 80) Ec 2=true:=by decide +kernel
theorem Lb:aU ["_law_script", "_law_place"] ["_law_script", "_law_place"] (top 81) Fk 1=true:=by decide +kernel
theorem Kl:aU ["_law_script", "_law_place", "_law_rooms_here", "_law_some", "_law_here"] ["_law_script", "_law_place", "_law_rooms_here"] (top 82) By 0=true:=by decide +kernel
theorem IV:aU ["_law_pages", "_law_fan_here", "_law_found"] ["_law_pages", "_law_fan_here"] (top 83) Ce 1=true:=by decide +kernel
theorem JC:aU ["_law_pages", "_law_fan_here", "_law_level", "_law_place", "_law_wide", "_law_k"] ["_law_pages", "_law_fan_here", "_law_level", "_law_place"] (top 84) Ee 1=true:=by decide +kernel
theorem Lc:aU ["_law_pages", "_law_fan_here", "_law_need_here", "_law_paper", "_law_begin", "_law_end_here", "_law_counts_here", "_law_at", "_law_level", "_law_place", "_law_told", "_law_low", "_law_high"] ["_law_pages", "_law_fan_here", "_law_need_here", "_law_paper", "_law_begin", "_law_end_here"] (top 85) DA 9=true:=by decide +kernel
theorem Km:aU ["_law_rooms_here", "_law_need_here", "_law_at", "_law_page"] ["_law_rooms_here", "_law_need_here", "_law_at"] (top 86) Db 0=true:=by decide +kernel
theorem QE:aU ["_law_page", "_law_pages"] ["_law_page", "_law_pages"] (top 87) Gy 0=true:=by decide +kernel
theorem Iq:aU ["_law_rooms_here"] ["_law_rooms_here"] (top 88) De 9=true:=by decide +kernel
theorem JD:aU ["_law_paper"] ["_law_paper"] (top 89) Ef 9=true:=by decide +kernel
theorem HA:aU ["_law_line", "_law_some", "_law_words", "_law_at", "_law_parts", "_law_place"] ["_law_line", "_law_some"] (top 90) CZ 9=true:=by decide +kernel
theorem JE:aU ["_law_word"] ["_law_word"] (top 91) Eg 9=true:=by decide +kernel
theorem Kn:aU ["_law_line", "_law_rows", "_law_row_here"] ["_law_line"] (top 92) EG 9=true:=by decide +kernel
theorem L9:aU ["_law_line", "_law_pages", "_law_fan_here", "_law_need_here", "_law_page", "_law_due", "_law_found"] ["_law_line", "_law_pages", "_law_fan_here", "_law_need_here", "_law_page"] (top 93) C0 9=true:=by decide +kernel
theorem QF:aU ["_law_script", "_law_rooms_here", "_law_fan_here", "_law_need_here", "_law_told", "_law_tree", "_law_shape", "_law_page", "_law_paper", "_law_best_page", "_law_best_rows", "_law_some", "_law_at", "_law_further_page", "_law_rows"] ["_law_script"] (top 94) Id 9=true:=by decide +kernel
set_option maxHeartbeats 0 in
theorem ZJ{l:PySem.W.OpenLaw}{w:World}{K:PySem.W.Frag}{h:Heap}{mg:Str->Option Value}{fa:Addr}{C2 C3 dW:Addr}{gv0:Value}{gv1:Value}{gv2:Value}{gv3:Value}(X:K.In h)(G:h.Ns mainGlobals mg)(xv:mg "law" = some (.ref fa))(t0:Ak K "is_whole" (top 6))(t1:Ak K "is_between" (top 7))(t2:Ak K "levels" (top 10))(t3:Ak K "is_counted_node" (top 12))(t4:Ak K "is_node" (top 11))(t5:Ak K "check_node" (top 13))(t6:Ak K "span" (top 14))(t7:Ak K "top" (top 17))(t8:Ak K "parent" (top 15))(t9:Ak K "children" (top 16))(xY:Ak K "is_room" (top 19))(xZ:Ak K "level_above" (top 21))(x3:Ak K "built" (top 20))(x4:Ak K "counts_of" (top 24))(x5:Ak K "is_level" (top 23))(x6:Ak K "rooms_of" (top 25))(x8:Ak K "shape_of" (top 26))(x9:Ak K "is_tree" (top 22))(x_:Ak K "has_node" (top 27))(ya:Ak K "check_has_node" (top 28))(yb:Ak K "tells" (top 29))(yc:Ak K "with_told" (top 30))(yd:Ak K "numbers_line" (top 35))(ye:Ak K "tree_line" (top 36))(yf:Ak K "entry_word" (top 38))(yg:Ak K "paper_line" (top 37))(yh:Ak K "is_number" (top 39))(yi:Ak K "read_number" (top 40))(yj:Ak K "read_numbers" (top 41))(yl:Ak K "check_text" (top 42))(ym:Ak K "read_rooms" (top 43))(yn:Ak K "read_tree" (top 44))(yo:Ak K "read_entry" (top 46))(yp:Ak K "read_paper" (top 45))(yq:Ak K "pages_up_to" (top 50))(yr:Ak K "lies_over" (top 52))(yt:Ak K "rules_out" (top 51))(yu:Ak K "shows_first" (top 48))(yv:Ak K "shows_further" (top 49))(yw:Ak K "best_told" (top 54))(yx:Ak K "shows_best" (top 53))(yy:Ak K "is_true" (top 56))(yz:Ak K "honest" (top 55))(yA:Ak K "lies_within" (top 60))(yB:Ak K "highest_within" (top 59))(yC:Ak K "cover" (top 58))(yD:Ak K "check_page" (top 61))(yE:Ak K "up_to_enough" (top 64))(yF:Ak K "walked" (top 63))(yG:Ak K "first_from" (top 67))(yH:Ak K "first" (top 66))(yI:Ak K "further" (top 68))(yJ:Ak K "best" (top 69))(yK:Ak K "paper_over" (top 73))(yL:Ak K "first_paper" (top 71))(yM:Ak K "further_paper" (top 72))(yN:Ak K "nodes_with_each_enough" (top 75))(yO:Ak K "best_paper" (top 74))(yP:Ak K "_law_cell" (top 77))(yQ:Ak K "_law_mix" (top 78))(yR:Ak K "_law_row" (top 79))(yS:Ak K "_law_rooms" (top 80))(yT:Ak K "_law_fan" (top 81))(yU:Ak K "_law_need" (top 82))(yV:Ak K "_law_counts" (top 83))(yW:Ak K "_law_reach" (top 84))(yX:Ak K "_law_out" (top 85))(yY:Ak K "_law_from" (top 86))(yZ:Ak K "_law_end" (top 87))(y6:Ak K "_law_line_of" (top 88))(y7:Ak K "_law_again" (top 89))(y9:Ak K "_law_changed_line" (top 90))(y_:Ak K "_law_is_number" (top 91))(zb:Ak K "_law_read" (top 92))(zd:Ak K "_law_judged" (top 93))(ze:Ak K "law" (top 94))(ml:nsIn K mainGlobals "len" = some none)(mm:nsIn K mainGlobals "min" = some none)(mq:nsIn K mainGlobals "max" = some none)(mr:nsIn K mainGlobals "abs" = some none)(mv:nsIn K mainGlobals "int" = some none)(ju:nsIn K mainGlobals "list" = some none)(ij:nsIn K mainGlobals "tuple" = some none)(mw:nsIn K mainGlobals "all" = some none)(my:nsIn K mainGlobals "any" = some none)(mz:nsIn K mainGlobals "sum" = some none)(fZ:nsIn K mainGlobals "sorted" = some none)(cO:nsIn K mainGlobals "isinstance" = some none)(mB:nsIn K mainGlobals "str" = some none)(il:nsIn K mainGlobals "range" = some none)(da:nsIn K mainGlobals "enumerate" = some none)(mC:nsIn K mainGlobals "zip" = some none)(dY:nsIn K mainGlobals "reversed" = some none)(jv:nsIn K mainGlobals "bool" = some none)(jw:nsIn K mainGlobals "dict" = some none)(cP:nsIn K mainGlobals "ValueError" = some none)(mD:nsIn K mainGlobals "set" = some none)(c2:j9 K "NoNode" C2)(c3:j9 K "NoPage" C3)(tG:j9 K "NoLine" dW)(e2:excIn K C2 Gz "ValueError.__new__" = true)(e3:excIn K C3 Gz "ValueError.__new__" = true)(zf:excIn K dW Gz "ValueError.__new__" = true)(qc:kitOne K (.ref C2) (.ref C2)=some true)(qd:kitOne K (.ref C2) (.ref C3)=some false)(mE:kitOne K (.ref C2) (.ref dW)=some false)(qe:kitOne K (.ref C3) (.ref C2)=some false)(qf:kitOne K (.ref C3) (.ref C3)=some true)(mF:kitOne K (.ref C3) (.ref dW)=some false)(mG:kitOne K (.ref dW) (.ref C2)=some false)(mH:kitOne K (.ref dW) (.ref C3)=some false)(jx:kitOne K (.ref dW) (.ref dW)=some true)(zg:PySem.W.nsIn K mainGlobals "MOST_PAGES" = some (some gv0))(zh:RelV (dT (.int 200)).val gv0)(zi:PySem.W.nsIn K mainGlobals "NOTHING" = some (some gv1))(zj:RelV (dT (.str "-")).val gv1)(zo:PySem.W.nsIn K mainGlobals "MOST_FIGURES" = some (some gv2))(zp:RelV (dT (.int 20)).val gv2)(zr:PySem.W.nsIn K mainGlobals "FIGURES" = some (some gv3))(zu:RelV (dT (.str "0123456789")).val gv3)(nl:uO K=true)
  (pX:∀ns:List Int,ns.length<=63->JZ.den [.lst (ns.map .int)]=.ok (.bl true)) :
  ∃fd:FuncData,(∀(s:Shared)(v:Value),BindsTo s fd ⟨[v],[]⟩ [("_law_script",v)])/\∀base:Heap,K.In base->base.Ns mainGlobals mg->dQ l.prog w K mg base (cX l.prog w) 13 fa fd ["_law_script"] (sV K):=by
 have O:∀base:Heap,Lw.Ok ⟨⟨K,ie [(2,C2),(3,C3),(16,dW)],BD [(2,C2),(3,C3),(16,dW)]⟩,l.prog,w,mg,base⟩:=fun base=>Aat rfl X G ⟨ml,mm,mq,mr,mv,ju,ij,mw,my,mz,fZ,cO,mB,il,da,mC,dY,jv,jw,cP,mD,trivial⟩ ⟨c2,c3,tG,trivial⟩ ⟨⟨qc,qd,mE,trivial⟩,⟨qe,qf,mF,trivial⟩,⟨mG,mH,jx,trivial⟩,trivial⟩
 refine WF (cs:=[(2,C2),(3,C3),(16,dW)]) (lv:=12) X G xv ze QF (fun _ _ _ _ _ _ s v=>.of_eq rfl) O (fun base=>?_) nl pX
 have rs2:=(⟨rfl,c2.q,e2⟩:bX ⟨⟨K,ie [(2,C2),(3,C3),(16,dW)],BD [(2,C2),(3,C3),(16,dW)]⟩,l.prog,w,mg,base⟩ 0 (.rs 2))
 have cl2:=(⟨rfl,PySem.W.mg_of X G c2.q⟩:bX ⟨⟨K,ie [(2,C2),(3,C3),(16,dW)],BD [(2,C2),(3,C3),(16,dW)]⟩,l.prog,w,mg,base⟩ 0 (.cl 2))
 have rs3:=(⟨rfl,c3.q,e3⟩:bX ⟨⟨K,ie [(2,C2),(3,C3),(16,dW)],BD [(2,C2),(3,C3),(16,dW)]⟩,l.prog,w,mg,base⟩ 0 (.rs 3))
 have cl3:=(⟨rfl,PySem.W.mg_of X G c3.q⟩:bX ⟨⟨K,ie [(2,C2),(3,C3),(16,dW)],BD [(2,C2),(3,C3),(16,dW)]⟩,l.prog,w,mg,base⟩ 0 (.cl 3))
 have mI:=(⟨rfl,tG.q,zf⟩:bX ⟨⟨K,ie [(2,C2),(3,C3),(16,dW)],BD [(2,C2),(3,C3),(16,dW)]⟩,l.prog,w,mg,base⟩ 0 (.rs 16))
 have zw:=(⟨rfl,PySem.W.mg_of X G tG.q⟩:bX ⟨⟨K,ie [(2,C2),(3,C3),(16,dW)],BD [(2,C2),(3,C3),(16,dW)]⟩,l.prog,w,mg,base⟩ 0 (.cl 16))
 have gl0:=(⟨_,PySem.W.mg_of X G zg,zh⟩:bX ⟨⟨K,ie [(2,C2),(3,C3),(16,dW)],BD [(2,C2),(3,C3),(16,dW)]⟩,l.prog,w,mg,base⟩ 0 (.gl "MOST_PAGES" (.int 200)))
 have tH:=(⟨_,PySem.W.mg_of X G zi,zj⟩:bX ⟨⟨K,ie [(2,C2),(3,C3),(16,dW)],BD [(2,C2),(3,C3),(16,dW)]⟩,l.prog,w,mg,base⟩ 0 (.gl "NOTHING" (.str "-")))
 have gl2:=(⟨_,PySem.W.mg_of X G zo,zp⟩:bX ⟨⟨K,ie [(2,C2),(3,C3),(16,dW)],BD [(2,C2),(3,C3),(16,dW)]⟩,l.prog,w,mg,base⟩ 0 (.gl "MOST_FIGURES" (.int 20)))
 have gl3:=(⟨_,PySem.W.mg_of X G zr,zu⟩:bX ⟨⟨K,ie [(2,C2),(3,C3),(16,dW)],BD [(2,C2),(3,C3),(16,dW)]⟩,l.prog,w,mg,base⟩ 0 (.gl "FIGURES" (.str "0123456789")))
 have jy:=Ag (lv:=0) (O base) (Af X G t0 fun _ _ _ _ _ _=>gw fun _=>rfl) Of trivial
 have b7:=Ag (lv:=1) (O base) (Af X G t1 fun _ _ _ _ _ _=>iM fun _ _ _=>rfl) LP ⟨⟨by decide,jy⟩,trivial⟩
 have eH:=Ag (lv:=0) (O base) (Af X G t2 fun _ _ _ _ _ _=>gw fun _=>rfl) SV trivial
 have cu:=Ag (lv:=2) (O base) (Af X G t3 fun _ _ _ _ _ _=>fz fun _ _=>rfl) Ip ⟨⟨by decide,b7⟩,⟨by decide,b7⟩,trivial⟩
 have gX:=Ag (lv:=3) (O base) (Af X G t4 fun _ _ _ _ _ _=>fz fun _ _=>rfl) Qz ⟨⟨by decide,cu⟩,⟨by decide,eH⟩,trivial⟩
 have cQ:=Ag (lv:=4) (O base) (Af X G t5 fun _ _ _ _ _ _=>fz fun _ _=>rfl) LQ ⟨⟨by decide,gX⟩,rs2,trivial⟩
 have ip:=Ag (lv:=5) (O base) (Af X G t6 fun _ _ _ _ _ _=>fz fun _ _=>rfl) W9 ⟨⟨by decide,cQ⟩,trivial⟩
 have oE:=Ag (lv:=1) (O base) (Af X G t7 fun _ _ _ _ _ _=>gw fun _=>rfl) ZI ⟨⟨by decide,eH⟩,trivial⟩
 have iR:=Ag (lv:=5) (O base) (Af X G t8 fun _ _ _ _ _ _=>fz fun _ _=>rfl) SW ⟨⟨by decide,cQ⟩,⟨by decide,oE⟩,trivial⟩
 have f_:=Ag (lv:=5) (O base) (Af X G t9 fun _ _ _ _ _ _=>fz fun _ _=>rfl) Og ⟨⟨by decide,cQ⟩,⟨by decide,eH⟩,trivial⟩
 have kg:=Ag (lv:=2) (O base) (Af X G xY fun _ _ _ _ _ _=>gw fun _=>rfl) QA ⟨⟨by decide,b7⟩,trivial⟩
 have gJ:=Ag (lv:=0) (O base) (Af X G xZ fun _ _ _ _ _ _=>fz fun _ _=>rfl) K3 trivial
 have nQ:=Ag (lv:=1) (O base) (Af X G x3 fun _ _ _ _ _ _=>fz fun _ _=>rfl) UL ⟨⟨by decide,gJ⟩,trivial⟩
 have fq:=Ag (lv:=0) (O base) (Af X G x4 fun _ _ _ _ _ _=>gw fun _=>rfl) NN trivial
 have f':=Ag (lv:=3) (O base) (Af X G x5 fun _ _ _ _ _ _=>gw fun _=>rfl) Oh ⟨⟨by decide,kg⟩,trivial⟩
 have gb:=Ag (lv:=0) (O base) (Af X G x6 fun _ _ _ _ _ _=>gw fun _=>rfl) Oi trivial
 have bu:=Ag (lv:=1) (O base) (Af X G x8 fun _ _ _ _ _ _=>fz fun _ _=>rfl) Oj ⟨⟨by decide,gb⟩,trivial⟩
 have kh:=Ag (lv:=4) (O base) (Af X G x9 fun _ _ _ _ _ _=>fz fun _ _=>rfl) QB ⟨⟨by decide,f'⟩,⟨by decide,bu⟩,gl0,⟨by decide,fq⟩,⟨by decide,eH⟩,trivial⟩
 have gf:=Ag (lv:=3) (O base) (Af X G x_ fun _ _ _ _ _ _=>fz fun _ _=>rfl) Ol ⟨⟨by decide,cu⟩,⟨by decide,fq⟩,trivial⟩
 have fe:=Ag (lv:=4) (O base) (Af X G ya fun _ _ _ _ _ _=>fz fun _ _=>rfl) IS ⟨⟨by decide,gf⟩,rs2,trivial⟩
 have dr:=Ag (lv:=5) (O base) (Af X G yb fun _ _ _ _ _ _=>fz fun _ _=>rfl) UM ⟨⟨by decide,fe⟩,trivial⟩
 have ft:=Ag (lv:=6) (O base) (Af X G yc fun _ _ _ _ _ _=>fz fun _ _=>rfl) NO ⟨⟨by decide,dr⟩,trivial⟩
 have gg:=Ag (lv:=0) (O base) (Af X G yd fun _ _ _ _ _ _=>gw fun _=>rfl) Ki trivial
 have iS:=Ag (lv:=1) (O base) (Af X G ye fun _ _ _ _ _ _=>gw fun _=>rfl) NP ⟨tH,⟨by decide,gg⟩,trivial⟩
 have iq:=Ag (lv:=0) (O base) (Af X G yf fun _ _ _ _ _ _=>gw fun _=>rfl) LR trivial
 have eI:=Ag (lv:=1) (O base) (Af X G yg fun _ _ _ _ _ _=>gw fun _=>rfl) LU ⟨tH,⟨by decide,iq⟩,trivial⟩
 have iT:=Ag (lv:=0) (O base) (Af X G yh fun _ _ _ _ _ _=>gw fun _=>rfl) NQ ⟨gl2,gl3,trivial⟩
 have bL:=Ag (lv:=1) (O base) (Af X G yi fun _ _ _ _ _ _=>gw fun _=>rfl) K4 ⟨⟨by decide,iT⟩,mI,trivial⟩
 have de:=Ag (lv:=2) (O base) (Af X G yj fun _ _ _ _ _ _=>gw fun _=>rfl) Kj ⟨⟨by decide,bL⟩,trivial⟩
 have cR:=Ag (lv:=0) (O base) (Af X G yl fun _ _ _ _ _ _=>gw fun _=>rfl) LV ⟨mI,trivial⟩
 have ir:=Ag (lv:=4) (O base) (Af X G ym fun _ _ _ _ _ _=>gw fun _=>rfl) LW ⟨⟨by decide,cR⟩,tH,⟨by decide,de⟩,gl0,⟨by decide,f'⟩,mI,trivial⟩
 have iU:=Ag (lv:=5) (O base) (Af X G yn fun _ _ _ _ _ _=>fz fun _ _=>rfl) NR ⟨⟨by decide,cR⟩,tH,⟨by decide,de⟩,⟨by decide,kh⟩,mI,trivial⟩
 have iu:=Ag (lv:=2) (O base) (Af X G yo fun _ _ _ _ _ _=>gw fun _=>rfl) LX ⟨mI,⟨by decide,bL⟩,⟨by decide,bL⟩,⟨by decide,bL⟩,trivial⟩
 have eJ:=Ag (lv:=3) (O base) (Af X G yp fun _ _ _ _ _ _=>gw fun _=>rfl) LY ⟨⟨by decide,cR⟩,tH,⟨by decide,iu⟩,trivial⟩
 have bM:=Ag (lv:=0) (O base) (Af X G yq fun _ _ _ _ _ _=>iM fun _ _ _=>rfl) K5 trivial
 have fu:=Ag (lv:=6) (O base) (Af X G yr fun _ _ _ _ _ _=>iM fun _ _ _=>rfl) NS ⟨⟨by decide,gX⟩,⟨by decide,ip⟩,⟨by decide,ip⟩,trivial⟩
 have fv:=Ag (lv:=7) (O base) (Af X G yt fun _ _ _ _ _ _=>oC fun _ _ _ _=>rfl) NU ⟨⟨by decide,fu⟩,trivial⟩
 have dM:=Ag (lv:=8) (O base) (Af X G yu fun _ _ _ _ _ _=>oC fun _ _ _ _=>rfl) K6 ⟨⟨by decide,fv⟩,⟨by decide,bM⟩,trivial⟩
 have fD:=Ag (lv:=8) (O base) (Af X G yv fun _ _ _ _ _ _=>ba5 fun _ _ _ _ _=>rfl) Jz ⟨⟨by decide,fv⟩,⟨by decide,bM⟩,trivial⟩
 have iV:=Ag (lv:=0) (O base) (Af X G yw fun _ _ _ _ _ _=>fz fun _ _=>rfl) NV trivial
 have iw:=Ag (lv:=7) (O base) (Af X G yx fun _ _ _ _ _ _=>oC fun _ _ _ _=>rfl) LZ ⟨⟨by decide,fu⟩,⟨by decide,iV⟩,trivial⟩
 have ki:=Ag (lv:=6) (O base) (Af X G yy fun _ _ _ _ _ _=>fz fun _ _=>rfl) QC ⟨⟨by decide,gf⟩,⟨by decide,dr⟩,trivial⟩
 have iW:=Ag (lv:=7) (O base) (Af X G yz fun _ _ _ _ _ _=>fz fun _ _=>rfl) SX ⟨⟨by decide,ki⟩,trivial⟩
 have gK:=Ag (lv:=0) (O base) (Af X G yA fun _ _ _ _ _ _=>iM fun _ _ _=>rfl) K7 trivial
 have ff:=Ag (lv:=6) (O base) (Af X G yB fun _ _ _ _ _ _=>iM fun _ _ _=>rfl) IU ⟨⟨by decide,iR⟩,⟨by decide,gK⟩,⟨by decide,ip⟩,⟨by decide,iR⟩,trivial⟩
 have jR:=Ag (lv:=7) (O base) (Af X G yC fun _ _ _ _ _ _=>iM fun _ _ _=>rfl) UN ⟨rs3,⟨by decide,ff⟩,⟨by decide,ip⟩,trivial⟩
 have iy:=Ag (lv:=2) (O base) (Af X G yD fun _ _ _ _ _ _=>fz fun _ _=>rfl) L5 ⟨⟨by decide,b7⟩,rs3,trivial⟩
 have gh:=Ag (lv:=6) (O base) (Af X G yE fun _ _ _ _ _ _=>iM fun _ _ _=>rfl) Kk ⟨⟨by decide,dr⟩,trivial⟩
 have mJ:=Ag (lv:=8) (O base) (Af X G yF fun _ _ _ _ _ _=>oC fun _ _ _ _=>rfl) SY ⟨⟨by decide,bu⟩,⟨by decide,jR⟩,⟨by decide,gh⟩,⟨by decide,dr⟩,⟨by decide,f_⟩,trivial⟩
 have eK:=Ag (lv:=9) (O base) (Af X G yG fun _ _ _ _ _ _=>oC fun _ _ _ _=>rfl) L6 ⟨⟨by decide,mJ⟩,⟨by decide,dr⟩,trivial⟩
 have nR:=Ag (lv:=10) (O base) (Af X G yH fun _ _ _ _ _ _=>iM fun _ _ _=>rfl) UO ⟨⟨by decide,eK⟩,trivial⟩
 have kl:=Ag (lv:=10) (O base) (Af X G yI fun _ _ _ _ _ _=>oC fun _ _ _ _=>rfl) QD ⟨⟨by decide,iy⟩,⟨by decide,bu⟩,⟨by decide,eK⟩,trivial⟩
 have qg:=Ag (lv:=1) (O base) (Af X G yJ fun _ _ _ _ _ _=>iM fun _ _ _=>rfl) Xa ⟨⟨by decide,gb⟩,trivial⟩
 have eM:=Ag (lv:=8) (O base) (Af X G yK fun _ _ _ _ _ _=>iM fun _ _ _=>rfl) L7 ⟨⟨by decide,ft⟩,⟨by decide,jR⟩,⟨by decide,bu⟩,trivial⟩
 have gL:=Ag (lv:=11) (O base) (Af X G yL fun _ _ _ _ _ _=>iM fun _ _ _=>rfl) K8 ⟨⟨by decide,nR⟩,⟨by decide,eM⟩,⟨by decide,bM⟩,⟨by decide,bu⟩,trivial⟩
 have fE:=Ag (lv:=11) (O base) (Af X G yM fun _ _ _ _ _ _=>oC fun _ _ _ _=>rfl) JA ⟨⟨by decide,kl⟩,⟨by decide,eM⟩,⟨by decide,bM⟩,⟨by decide,bu⟩,trivial⟩
 have cy:=Ag (lv:=6) (O base) (Af X G yN fun _ _ _ _ _ _=>iM fun _ _ _=>rfl) FK ⟨⟨by decide,oE⟩,⟨by decide,dr⟩,⟨by decide,f_⟩,trivial⟩
 have iz:=Ag (lv:=7) (O base) (Af X G yO fun _ _ _ _ _ _=>iM fun _ _ _=>rfl) L8 ⟨⟨by decide,cy⟩,⟨by decide,bu⟩,⟨by decide,qg⟩,⟨by decide,ft⟩,trivial⟩
 have gi:=Ag (lv:=0) (O base) (Af X G yP fun _ _ _ _ _ _=>fz fun _ _=>rfl) Om trivial
 have dN:=Ag (lv:=0) (O base) (Af X G yQ fun _ _ _ _ _ _=>fz fun _ _=>rfl) K9 trivial
 have bN:=Ag (lv:=1) (O base) (Af X G yR fun _ _ _ _ _ _=>iM fun _ _ _=>rfl) La ⟨⟨by decide,gi⟩,⟨by decide,dN⟩,⟨by decide,gi⟩,⟨by decide,dN⟩,trivial⟩
 have fF:=Ag (lv:=2) (O base) (Af X G yS fun _ _ _ _ _ _=>iM fun _ _ _=>rfl) JB ⟨⟨by decide,bN⟩,trivial⟩
 have gM:=Ag (lv:=2) (O base) (Af X G yT fun _ _ _ _ _ _=>fz fun _ _=>rfl) Lb ⟨⟨by decide,bN⟩,trivial⟩
 have gk:=Ag (lv:=2) (O base) (Af X G yU fun _ _ _ _ _ _=>iM fun _ _ _=>rfl) Kl ⟨⟨by decide,bN⟩,trivial⟩
 have fg:=Ag (lv:=0) (O base) (Af X G yV fun _ _ _ _ _ _=>fz fun _ _=>rfl) IV trivial
 have fG:=Ag (lv:=0) (O base) (Af X G yW fun _ _ _ _ _ _=>oC fun _ _ _ _=>rfl) JC trivial
 have gN:=Ag (lv:=1) (O base) (Af X G yX fun _ _ _ _ _ _=>ba6 fun _ _ _ _ _ _=>rfl) Lc ⟨⟨by decide,fg⟩,⟨by decide,fG⟩,trivial⟩
 have df:=Ag (lv:=0) (O base) (Af X G yY fun _ _ _ _ _ _=>iM fun _ _ _=>rfl) Km trivial
 have km:=Ag (lv:=0) (O base) (Af X G yZ fun _ _ _ _ _ _=>fz fun _ _=>rfl) QE trivial
 have eN:=Ag (lv:=0) (O base) (Af X G y6 fun _ _ _ _ _ _=>gw fun _=>rfl) Iq trivial
 have aZ:=Ag (lv:=4) (O base) (Af X G y7 fun _ _ _ _ _ _=>gw fun _=>rfl) JD ⟨⟨by decide,eJ⟩,⟨by decide,eI⟩,trivial⟩
 have dZ:=Ag (lv:=0) (O base) (Af X G y9 fun _ _ _ _ _ _=>fz fun _ _=>rfl) HA trivial
 have fH:=Ag (lv:=0) (O base) (Af X G y_ fun _ _ _ _ _ _=>gw fun _=>rfl) JE trivial
 have gm:=Ag (lv:=1) (O base) (Af X G zb fun _ _ _ _ _ _=>gw fun _=>rfl) Kn ⟨⟨by decide,fH⟩,trivial⟩
 have iA:=Ag (lv:=9) (O base) (Af X G zd fun _ _ _ _ _ _=>ba5 fun _ _ _ _ _=>rfl) L9 ⟨⟨by decide,gm⟩,zw,⟨by decide,eJ⟩,⟨by decide,dM⟩,⟨by decide,gN⟩,⟨by decide,km⟩,trivial⟩
 exact⟨⟨by decide,fF⟩,⟨by decide,gM⟩,⟨by decide,gk⟩,⟨by decide,ir⟩,⟨by decide,eN⟩,⟨by decide,iU⟩,⟨by decide,iS⟩,⟨by decide,nQ⟩,⟨by decide,gL⟩,⟨by decide,df⟩,⟨by decide,dM⟩,⟨by decide,aZ⟩,⟨by decide,iW⟩,⟨by decide,aZ⟩,⟨by decide,iz⟩,⟨by decide,iw⟩,⟨by decide,aZ⟩,⟨by decide,iW⟩,⟨by decide,aZ⟩,⟨by decide,bN⟩,⟨by decide,fE⟩,⟨by decide,df⟩,⟨by decide,fD⟩,⟨by decide,aZ⟩,⟨by decide,iA⟩,⟨by decide,dZ⟩,⟨by decide,eI⟩,trivial⟩
end Pu
end Internal
open Internal
open PySem PySem.W PyProof.Rows
structure PySem.W.Fast:Prop where(tw10060112050644174690 tw10066356811825130984 tw10066757301592821290 tw10126981541248111619 tw10175510104602656142 tw10223366134653723494 tw10290156939276329183 tw10326497339370515060 tw1036085526222561109 tw10398089454512915401 tw10427116581315979863 tw10427386260793079897 tw10619888639809575704 tw10628016958479195164 tw10647518809356722782 tw10713789208660317075 tw10807391263084207219 tw10841396467177224410 tw10846971999692851139 tw10853112294852590473 tw10921799623131087947 tw1095161284837955179 tw10962145587733804441 tw10962479173193201430 tw11068316585498836784 tw11069318132346126832 tw11117357867402577654 tw11154137417263456004 tw1121692972404899201 tw11240328221523082064 tw11309641397233721336 tw11315066421739956696 tw11328744028504617373 tw11344061240928976065 tw1137299803847461200 tw11375079100339391316 tw11410565412440683611 tw11476159512763698728 tw11479926167552546545 tw11509293005323336324 tw11532894474289049650 tw11567698268023448290 tw11594189483298990250 tw11596479067338603530 tw11599526102500698157 tw11604353684298581280 tw11608462642291346474 tw11651801872226112547 tw11742236864399361962 tw11888759527320162207 tw11951459658338716399 tw11954456708815172119 tw11978337393430125242 tw12024251895672050080 tw12030741137180823349 tw12054011529102078276 tw12169159312662679490 tw12174662231512079692 tw12182659020377461822 tw12223003958217926697 tw12231236193374944607 tw12233682756278381113 tw1224474852879431199 tw12289584530340095994 tw12311153436591960418 tw12367990180672776772 tw12402900489316242567 tw1240414178501575584 tw12416728069444918338 tw12427124183519092316 tw12432445614349745041 tw1244590584537443525 tw12455673730232337176 tw1246682567723455449 tw12513026135420663963 tw12531021921345481767 tw12637763380755697088 tw12655243086624824571 tw12694012997917057845 tw12829489416695207281 tw12875300991460916667 tw12887248598873222623 tw12889547874157213087 tw12928632427660339983 tw12942635873599595806 tw12968692980474457506 tw13005259511199990024 tw13016339810390083538 tw13025182886741379758 tw13027389918260003433 tw13049499688474686651 tw13054558257096693172 tw13095603902083276418 tw13126949149556555438 tw1317554926250371254 tw13220568989399273088 tw13257888975833650643 tw13386565134986138846 tw13404070848830957950 tw13409488972532665456 tw13429270244994623755 tw13434496897524769067 tw13491560589506674948 tw13551720117064871096 tw13577713170444858892 tw1360147535335398913 tw13706274161152469738 tw13881537206842175157 tw13922042498038245540 tw13948884198509421017 tw13954324452162283932 tw13965075761839581414 tw1401434236269265411 tw14027659008261983861 tw14080699567127092490 tw14093048529214982894 tw14111701952261417746 tw14119703063401278602 tw14131486042369783006 tw14157702129186053019 tw14161004670441260455 tw14164553294070178184 tw14190829533864586398 tw14214255930399807286 tw14226990544566091391 tw14240402780814998576 tw14246390464492795873 tw14356548906182289843 tw14367887484658575063 tw14410024070948149005 tw14436648036890272862 tw14471314248939589571 tw14522616230485522046 tw14539248849516023148 tw14579886063819778651 tw14581200728949575844 tw1458866170816226121 tw14619401068605306462 tw14628498184823396454 tw14665223063801230835 tw14760910335927949204 tw14816098897666327236 tw14936492225727697529 tw15043468116967648056 tw1504916848067615276 tw15060691624843874079 tw15068114603995427619 tw15139060106349781387 tw15172019568700335931 tw15195797781544999964 tw15289144010726156395 tw15328366296031367786 tw15332322574991804202 tw15359218481314214238 tw15376001639120040365 tw15385245580997188616 tw1542278203262678621 tw15425610259591470980 tw15434975099713672485 tw15469302824748255779 tw15493908853392452484 tw15521870641212502227 tw15522983208950229295 tw15540006775844714118 tw15552104729619733121 tw15560610296457164585 tw15564219409225446975 tw15569380211384670894 tw15640884958876891320 tw15658380594003448526 tw15660356941539231776 tw15721104705218691838 tw15771000723363152654 tw15832447999442288704 tw15839674950387387763 tw15913765805178015469 tw15926127407992376038 tw15943839990604819712 tw15945920082382098451 tw15983742460811990583 tw16038818620224036457 tw16131447662146727781 tw16145434227027403625 tw16163803984359677051 tw16296278285049471756 tw16344513495210467509 tw16359980471663005301 tw16363428326400944866 tw16433063000124584034 tw16438934491516832497 tw16441509853524374747 tw16493200916556306976 tw16494393633126577120 tw16501724416012732646 tw1652127378263863123 tw16544594877692441593 tw16619356293215145458 tw16641797718153333931 tw16643507159101693794 tw16658778698683102525 tw16688811540803191621 tw16722522505149161557 tw16746086791856563214 tw16749179646351787245 tw1674975608250858250 tw16754654212954689887 tw16756584292790166675 tw16814161356552641969 tw16876591195390383986 tw16887921467422744005 tw16938876721971824535 tw16943856761628979228 tw17009688762868124499 tw1701680206907184726 tw17023454481056805244 tw17043912488941149428 tw17055745142602460900 tw17071592653332698227 tw17108036746104746780 tw17134610461218407791 tw17200679681518346566 tw17229014335703313766 tw17309708892504708708 tw17313230242772888133 tw17322393853507698466 tw17409043972535031719 tw17463045668318964326 tw17496837197370136767 tw17520112746897768769 tw1752268883157555973 tw17562876992443085302 tw17672494156403200243 tw17683846078934458285 tw17724614579170261 tw1777125193192173604 tw17784806809191870646 tw17822062655909990426 tw17902726863826765576 tw17944070881454186216 tw17995817519915418223 tw18000286899097776609 tw18022388162252560532 tw18033484939365171105 tw18035426261393194855 tw18065547741248185542 tw18079039780043796869 tw18150123560497661675 tw1815587502992523467 tw18210582086649330949 tw1824496626573860866 tw18257436995373935007 tw18318741130890962053 tw18342051796135161711 tw1834313959877310476 tw1836971679238705932 tw18391676102399126851 tw18394480666224700796 tw1914620344180478946 tw192308176164612039 tw193389654073088039 tw1938127880556422111 tw1938702211926121679 tw1961097030499579516 tw1983214691281094 tw1995372928885320784 tw2017646205558059463 tw2024946769685326878 tw2100231181798719493 tw2118956890808767470 tw2125854065814398043 tw2126038552213724284 tw2290938796717055632 tw229122664810819323 tw2334279761839219968 tw2359808526236595327 tw2397469891673485608 tw2417766333046408903 tw2424367211291084324 tw2460689334151805781 tw2577318562916172408 tw2589809725459871564 tw2631551705269923278 tw2779138517186087232 tw2794284092517115383 tw2816231374814731642 tw284997731709684758 tw2876081847046982805 tw2889240995519676560 tw2927580839065383643 tw3017217190899736115 tw3076220011040805131 tw3162458523724649342 tw3165407146119935866 tw3171625759519447024 tw3194193462319161949 tw3285036202524937802 tw3296044501150582513 tw3330841133925459647 tw3341301980234479228 tw3378091999966236000 tw3415902053139866772 tw3490171457725396765 tw3498376024218172479 tw3515529433992529744 tw3524225709681277627 tw3569322898725602099 tw3578963962999080483 tw3646546739387231703 tw3654394705503633291 tw3708760134331778581 tw373288992797754429 tw3748085052638384395 tw3748194636917637206 tw3775899053492256912 tw3811986997267868659 tw3835917882281116321 tw390479087053812037 tw39088798799625796 tw4031646145381111609 tw4070127050269307184 tw4092711991110500701 tw4248440587029117041 tw4266600804541228290 tw4310620234828299997 tw4312527807303932863 tw4335704649128276216 tw4389161126465386840 tw4395020298303916446 tw4573747056727206220 tw4592862199174010655 tw4605559993301652116 tw4659456612105004713 tw4667251978497943531 tw4744232388832946667 tw477694436100679576 tw477848955254256187 tw4795236419737446205 tw4797365845940975027 tw4836115154260550374 tw4843825377527210169 tw4848054103848968716 tw486622496811178238 tw4885157651933702084 tw4897874285836460004 tw4939340641573572731 tw5008695404506137016 tw5077561605968896188 tw5083804662690826080 tw5097193551398581611 tw5097580037263186734 tw5104718142602646786 tw5255219502673826849 tw5262035313812743171 tw5398250791421881615 tw542444578731551109 tw5540394452546113651 tw5553753727415936485 tw5644658817208724420 tw5671406181024165829 tw5791909353989540613 tw5793465832967275619 tw5807971960365282958 tw5856143456629934515 tw5862250879862210420 tw5907049335363706249 tw5930566175481422860 tw5943635558837451718 tw5947589853323779331 tw5948383976557125201 tw5948899957131912434 tw6050885933097017047 tw6078994292900248417 tw6095736713812823623 tw6144744781530851759 tw6358949435720878414 tw6389035660621499007 tw6401198998068614330 tw6410361800941032188 tw6436723783938580193 tw6487961120877306022 tw6507007157420741343 tw6515491797105270419 tw6555549151136419828 tw6569815999978846829 tw6613399208340167130 tw665762357186891641 tw6721914219485567245 tw6725060941219879373 tw6746253721155481147 tw6789977075844183099 tw6791914956158529172 tw6819406673810059687 tw6878741065126549328 tw69222473652942715 tw6959478801432200369 tw7009346324318288124 tw7043927772895715429 tw7128394332159352266 tw7195889183469100310 tw7219557440651417039 tw7280603587125978770 tw7291524370739159407 tw7297960585879030830 tw7337598781698536722 tw7369154822484503543 tw7407570368093402666 tw7420018798597492328 tw7446370770161067542 tw7455371349604761115 tw7458146024055973783 tw7463210515955622746 tw7502011274640209867 tw7539997330932484307 tw7602939662115140018 tw7659428921179974486 tw773158640304116487 tw7801980670807759450 tw7822796286600983453 tw7827103114375854290 tw7868574739308168554 tw7878106405822800117 tw7908325108948727697 tw7985849051149011491 tw804134912642820681 tw8058118591716430226 tw8090688255098536205 tw8100873131473082010 tw8135150852676080768 tw815107946196904960 tw8266850286078878473 tw8303920567607392637 tw833354725537851058 tw8357266259208705920 tw8363121934580178407 tw846438570174839083 tw8465360716915567971 tw8504918336719220574 tw8514818917764045153 tw8544534592452858477 tw8566982531645261453 tw8600165013971449642 tw8621227480219572413 tw8667072183807848416 tw8727598659216903647 tw8765237212918660208 tw8770113405747521143 tw8798411232628474841 tw8835639108245227847 tw8890888273626138334 tw8907317602530433132 tw8923244402013347814 tw899346318469306355 tw9077014634564139999 tw9083636894768822731 tw909757599897808773 tw9106351379571185525 tw9109016152977904026 tw9119214175498019440 tw9127705901081130244 tw9143555715968626720 tw9148137797302781018 tw9171752299227913586 tw9201376001434025883 tw9277223151865875603 tw9356291756273640298 tw9392399510782832128 tw9428912585646083927 tw9454942672477158829 tw950305865133717530 tw9519507633419941331 tw9537643839723133256 tw9560984457734209086 tw9564679610728908232 tw9611976513092664688 tw9620335083822451661 tw9633063776809227006 tw9727746080498089230 tw9734121806223489229 tw9768616930649765692 tw97868408575006949 tw9791221570595120878 tw981409892038029421 tw9831475350683087425 tw9850675556616617490 tw986408358311993360 tw9874124223473681153 tw9882832931151354272 tw9925626315929977580 tw9934794434147255098 tw9949786019625842648 tw9966233372969551329 tw9995463766485032491:True)
local macro_rules | `(tactic| simp_arith!)=>`(tactic| (refine' Pu.Am ?za ?zl ?zc ?zk; (case za=>k_is); (case zl=>k_is); (case zc=>k_is); (case zk=>k_is)))
local macro_rules | `(tactic| simp_all_arith)=>`(tactic| (refine' Pu.Uu ?zq ?zx1 ?zx2 ?zx3 ?zx4 ?zx5 ?zx6 ?zx7 ?zt1 ?zt2 ?zt3 ?zt4 ?zt5 ?zt6 ?zv ?zs; (case zq=>k_is); (case zx1=>k_is); (case zx2=>k_is); (case zx3=>k_is); (case zx4=>k_is); (case zx5=>k_is); (case zx6=>k_is); (case zx7=>k_is); (case zt1=>kit_is); (case zt2=>kit_is); (case zt3=>kit_is); (case zt4=>kit_is); (case zt5=>kit_is); (case zt6=>kit_is); (case zv=>kit_is); (case zs=>k_is)))
set_option maxRecDepth 100000 in
set_option maxHeartbeats 0 in
theorem PySem.Challenge.cw_ullage_k98_whole_text_to_paper_holds : PySem.Challenge.rw_ullage_k98_whole_text_to_paper.Holds := by
 w_on;o_law;k_head;(case hw=>w_witness2)
 k_fill
 refine Pu.Aar (l:=PySem.Challenge.rw_ullage_k98_whole_text_to_paper) (k:=13) (x := "_law_script") rfl rfl ⟨rfl,by decide,by decide⟩ (fun w h Y=>PySem.W.kIn_of Y) ?F
 case F=>
  intro w mg fa h KX G rW
  refine' Pu.ZJ KX G rW ?t0 ?t1 ?t2 ?t3 ?t4 ?t5 ?t6 ?t7 ?t8 ?t9 ?xY ?xZ ?x3 ?x4 ?x5 ?x6 ?x8 ?x9 ?x_ ?ya ?yb ?yc ?yd ?ye ?yf ?yg ?yh ?yi ?yj ?yl ?ym ?yn ?yo ?yp ?yq ?yr ?yt ?yu ?yv ?yw ?yx ?yy ?yz ?yA ?yB ?yC ?yD ?yE ?yF ?yG ?yH ?yI ?yJ ?yK ?yL ?yM ?yN ?yO ?yP ?yQ ?yR ?yS ?yT ?yU ?yV ?yW ?yX ?yY ?yZ ?y6 ?y7 ?y9 ?y_ ?zb ?zd ?ze ?ml ?mm ?mq ?mr ?mv ?ju ?ij ?mw ?my ?mz ?fZ ?cO ?mB ?il ?da ?mC ?dY ?jv ?jw ?cP ?mD ?c2 ?c3 ?tG ?e2 ?e3 ?zf ?qc ?qd ?mE ?qe ?qf ?mF ?mG ?mH ?jx ?zg ?zh ?zi ?zj ?zo ?zp ?zr ?zu ?nl Pu.W8
  (case t0=>simp_arith!)
  (case t1=>simp_arith!)
  (case t2=>simp_arith!)
  (case t3=>simp_arith!)
  (case t4=>simp_arith!)
  (case t5=>simp_arith!)
  (case t6=>simp_arith!)
  (case t7=>simp_arith!)
  (case t8=>simp_arith!)
  (case t9=>simp_arith!)
  (case xY=>simp_arith!)
  (case xZ=>simp_arith!)
  (case x3=>simp_arith!)
  (case x4=>simp_arith!)
  (case x5=>simp_arith!)
  (case x6=>simp_arith!)
  (case x8=>simp_arith!)
  (case x9=>simp_arith!)
  (case x_=>simp_arith!)
  (case ya=>simp_arith!)
  (case yb=>simp_arith!)
  (case yc=>simp_arith!)
  (case yd=>simp_arith!)
  (case ye=>simp_arith!)
  (case yf=>simp_arith!)
  (case yg=>simp_arith!)
  (case yh=>simp_arith!)
  (case yi=>simp_arith!)
  (case yj=>simp_arith!)
  (case yl=>simp_arith!)
  (case ym=>simp_arith!)
  (case yn=>simp_arith!)
  (case yo=>simp_arith!)
  (case yp=>simp_arith!)
  (case yq=>simp_arith!)
  (case yr=>simp_arith!)
  (case yt=>simp_arith!)
  (case yu=>simp_arith!)
  (case yv=>simp_arith!)
  (case yw=>simp_arith!)
  (case yx=>simp_arith!)
  (case yy=>simp_arith!)
  (case yz=>simp_arith!)
  (case yA=>simp_arith!)
  (case yB=>simp_arith!)
  (case yC=>simp_arith!)
  (case yD=>simp_arith!)
  (case yE=>simp_arith!)
  (case yF=>simp_arith!)
  (case yG=>simp_arith!)
  (case yH=>simp_arith!)
  (case yI=>simp_arith!)
  (case yJ=>simp_arith!)
  (case yK=>simp_arith!)
  (case yL=>simp_arith!)
  (case yM=>simp_arith!)
  (case yN=>simp_arith!)
  (case yO=>simp_arith!)
  (case yP=>simp_arith!)
  (case yQ=>simp_arith!)
  (case yR=>simp_arith!)
  (case yS=>simp_arith!)
  (case yT=>simp_arith!)
  (case yU=>simp_arith!)
  (case yV=>simp_arith!)
  (case yW=>simp_arith!)
  (case yX=>simp_arith!)
  (case yY=>simp_arith!)
  (case yZ=>simp_arith!)
  (case y6=>simp_arith!)
  (case y7=>simp_arith!)
  (case y9=>simp_arith!)
  (case y_=>simp_arith!)
  (case zb=>simp_arith!)
  (case zd=>simp_arith!)
  (case ze=>simp_arith!)
  (case ml=>k_is)
  (case mm=>k_is)
  (case mq=>k_is)
  (case mr=>k_is)
  (case mv=>k_is)
  (case ju=>k_is)
  (case ij=>k_is)
  (case mw=>k_is)
  (case my=>k_is)
  (case mz=>k_is)
  (case fZ=>k_is)
  (case cO=>k_is)
  (case mB=>k_is)
  (case il=>k_is)
  (case da=>k_is)
  (case mC=>k_is)
  (case dY=>k_is)
  (case jv=>k_is)
  (case jw=>k_is)
  (case cP=>k_is)
  (case mD=>k_is)
  (case c2=>simp_all_arith)
  (case c3=>simp_all_arith)
  (case tG=>simp_all_arith)
  (case e2=>k_exc)
  (case e3=>k_exc)
  (case zf=>k_exc)
  (case qc=>kit_is)
  (case qd=>kit_is)
  (case mE=>kit_is)
  (case qe=>kit_is)
  (case qf=>kit_is)
  (case mF=>kit_is)
  (case mG=>kit_is)
  (case mH=>kit_is)
  (case jx=>kit_is)
  (case zg=>k_is)
  (case zh=>first|exact rfl|exact⟨_,rfl⟩)
  (case zi=>k_is)
  (case zj=>first|exact rfl|exact⟨_,rfl⟩)
  (case zo=>k_is)
  (case zp=>first|exact rfl|exact⟨_,rfl⟩)
  (case zr=>k_is)
  (case zu=>first|exact rfl|exact⟨_,rfl⟩)
  (case nl=>exact rfl)

import PyProof.Rows.All
import Wide.All
import OpenK.AllK
import Wide.FinOn
import Lean
import PyProof.EqAt
import PyProof.EqKinds
import PyProof.TupleCall
import PyProof.ZipIter
import PyProof.DictTable
import PyProof.DictKinds
import PyProof.DictStraight
import PySem.Challenge.RW_ullage_k48_whole_papers_show
set_option Elab.async false
set_option linter.all false
set_option maxRecDepth 100000
open List renaming mem_cons_of_mem->aaa,mem_cons_self->aab,length_map->aac,getElem?_eq_getElem->aae,mem_of_getElem?->aaf,mem_append->aag,mem_cons->aai,getElem?_eq_some_iff->aak,mem_append_right->aal,replicate->aam,size_toArray->aan,map_append->aao,getD_eq_getElem?_getD->aap,getElem?_map->aaq,range->aar,mem_map->aav,all_eq_true->aaw,map_cons->aax,map_map->aaz,mem_append_left->aaA,getElem?_set_ne->aaB,length_append->aaE,mem_singleton->aaF,all_cons->aaG,getElem?_append_right->aaH,nodup_cons->aaI,length_cons->aaJ,mem_filterMap->aaL,getElem?_append_left->aaN,append_nil->aaP,map_congr_left->aaR,getElem?_replicate->aaS,eq_nil_iff_forall_not_mem->aaV,nil_append->aaW,getElem?_cons_succ->aaZ,cons_append->aa0,length_set->aa2,length_replicate->aa5,getElem?_cons_zero->aa8,append_assoc->aba,map_nil->abb,mem_reverse->abd,map_replicate->abe,eq_nil_of_length_eq_zero->abf,filterMap_cons->abg,replicate_succ->abh,length->abk,find?_cons_of_pos->abl,find?_cons_of_neg->abm,mem_filter->abp,range_succ->abq,length_take->abt,length_drop->abu,not_mem_nil->abv,getElem_of_mem->abx,getElem?_set_self'->aby,foldl_cons->abB,filter_map->abD,range_succ_eq_map->abE,range'->abF,flatten_cons->abG,length_range->abH,mem_range->abJ,length_singleton->abL,getElem?_eq_none->abN,filter_cons->abP,mem_of_mem_drop->abQ,mem_of_mem_take->abR,map->abS,length_reverse->abU,getElem?_range->abV,drop_eq_getElem_cons->abW,mem_replicate->abY,find?_eq_none->ab1,reverse_cons->ab2,filter_congr->ab4,take_of_length_le->ab5,map_take->ab7,map_drop->ab8,max?_eq_some_iff->aca,eraseIdxIfInBounds_toArray->acb,length_nil->acd,getElem?_of_mem->acf,dropLast_subset->acg,ext_getElem?->acl,mem_of_find?_eq_some->acn,getElem_mem->acq,drop_length->acs,map_reverse->act,set->acu,filter_cons_of_pos->acx,filter_cons_of_neg->acy,of_mem_zip->acz,getElem?_set_self->acB,eraseIdx_sublist->acG,getElem_toArray->acI,any_cons->acK,zip_cons_cons->acR,all_map->acS,map_set->acV,filter_append->acX,getElem?_take->acY,getElem?_drop->acZ,nodup_append->ac0,map_dropLast->ac1,foldl->ac3
open Nat renaming le_refl->aaj,zero_le->aat,lt_of_lt_of_le->aay,ne_of_lt->aaC,le_trans->aaK,zero_add->aaM,min_le_right->aaQ,lt_irrefl->aaT,sub_eq_zero_of_le->aaX,min_le_left->aa1,pow_pos->aa7,add_sub_cancel_left->aa9,le_of_not_lt->abc,min_eq_right->abj,min_eq_left->abr,pow_succ->abw,le_of_lt->abK,mul_comm->abM,eq_zero_or_pos->abX,pow_zero->ab0,lt_succ_of_lt->ab3,le_of_succ_le_succ->ab6,lt_succ_self->ab9,succ_mul->ace,pow_le_pow_right->ach,div_add_mod->aci,le_succ->ack,le_of_eq->aco,lt_or_ge->acp,le_mul_of_pos_right->acw,le_antisymm->acA,div_div_eq_div_mul->acC,mul_one->acD,le_div_iff_mul_le->acH,div_eq_of_lt_le->acM,pow_le_pow_left->acN,div_mul_le_self->acO,ne_of_gt->acQ,lt_of_le_of_lt->acT
open Option renaming map_eq_some_iff->aas,isSome_iff_exists->aaD,map_some->aaY,bind_some->aa6,getD->acE,getD_none->ac2
open Bool renaming and_eq_true->aah,false_eq_true->aaO,false_ne_true->aaU,false_and->abi,true_eq_false->abo,not_true->abz,true_and->abA,eq_iff_iff->abC,not_false->abO,or_false->abT,or_eq_true_iff->acj,not_eq_true'->acm,and_false->acF,and_self->acJ,and_true->acL
open Int renaming toNat_natCast->aau,emod_nonneg->aa3,natCast_mul->aa4,emod_lt_of_pos->abn,zero_add->abZ,sub_zero->acr,natCast_ediv->acv,toNat_of_nonneg->acP,ofNat_lt->acU,cast_ofNat_Int->acW
theorem nF {P:Prop} (h:false=true):P:=Bool.noConfusion h
theorem nE {P:Prop} (h:False):P:=h.elim
theorem bS {α β:Type _} {o:Option α} {f:α->Option β} {b:β} (h:o.bind f=some b):∃ a,o=some a/\f a=some b:=Option.bind_eq_some_iff.mp h
section
namespace L2
open PySem PySem.Spec PyProof.Rows
noncomputable abbrev Key:=Sum Int Str
noncomputable def Sg:Key->Value->Bool
 | .inl k,v=>Value.isInt k v
 | .inr x,v=>Value.isStrOf x v
noncomputable def WN (w:World):Key->Int
 | .inl k=>hashInt k
 | .inr x=>hashStr w x
theorem Bc:∀ {k:Key} {v:Value},Sg k v=true->(∃ i t,k=Sum.inl i/\v=Value.int i t)\/(∃ x t,k=Sum.inr x/\v=Value.str x t)
 | .inl i,v,h=>by
  obtain ⟨t,e⟩:=Value.isInt_shape (k:=i) (v:=v) h
  exact .inl ⟨i,t,rfl,e⟩
 | .inr x,v,h=>by
  obtain ⟨t,e⟩:=Value.isStrOf_shape (x:=x) (v:=v) h
  exact .inr ⟨x,t,rfl,e⟩
theorem Uo (a b:Int):decide ((Sum.inl a:Key)=Sum.inl b)=(a==b):=by
 by_cases e:a=b
 ·subst e; simp
 ·have h:¬ (Sum.inl a:Key)=Sum.inl b:=fun q=>e (Sum.inl.inj q)
  rw [decide_eq_false h]
  exact (beq_eq_false_iff_ne.mpr e).symm
theorem Up (a b:Str):decide ((Sum.inr a:Key)=Sum.inr b)=decide (a=b):=by
 by_cases e:a=b
 ·subst e; simp
 ·have h:¬ (Sum.inr a:Key)=Sum.inr b:=fun q=>e (Sum.inr.inj q)
  rw [decide_eq_false h,decide_eq_false e]
theorem Uq (a:Int) (b:Str):decide ((Sum.inl a:Key)=Sum.inr b)=false:=decide_eq_false (fun q=>nomatch q)
theorem Ur (a:Str) (b:Int):decide ((Sum.inr a:Key)=Sum.inl b)=false:=decide_eq_false (fun q=>nomatch q)
noncomputable def JA (prog:Program) (w:World):PySem.KeyKind prog w Key where
 is:=Sg
 hash:=WN w
 inj:=fun v a b ha hb=>by
  rcases Bc ha with ⟨i,t,rfl,rfl⟩ | ⟨x,t,rfl,rfl⟩
  ·rcases Bc hb with ⟨j,u,rfl,e⟩ | ⟨y,u,rfl,e⟩
   ·injection e with e1 _; rw [e1]
   ·exact nomatch e
  ·rcases Bc hb with ⟨j,u,rfl,e⟩ | ⟨y,u,rfl,e⟩
   ·exact nomatch e
   ·injection e with e1 _; rw [e1]
 byValue:=fun k v h=>by
  rcases Bc h with ⟨i,t,rfl,rfl⟩ | ⟨x,t,rfl,rfl⟩ <;> rfl
 pyHash:=fun hv h=>by
  rcases Bc hv with ⟨i,t,rfl,rfl⟩ | ⟨x,t,rfl,rfl⟩
  ·exact wpAny_pyHash_int h
  ·exact wpAny_pyHash_str h
 eqBool:=fun hu hv h=>by
  rcases Bc hu with ⟨i,t,rfl,rfl⟩ | ⟨x,t,rfl,rfl⟩
  ·rcases Bc hv with ⟨j,u,rfl,rfl⟩ | ⟨y,u,rfl,rfl⟩
   ·rw [Uo] at h; exact wpAny_eqBool_int h
   ·rw [Uq] at h; exact SeqAt.EqAt.int_str i t y u _ _ _ _ h
  ·rcases Bc hv with ⟨j,u,rfl,rfl⟩ | ⟨y,u,rfl,rfl⟩
   ·rw [Ur] at h; exact SeqAt.EqAt.str_int x t j u _ _ _ _ h
   ·rw [Up] at h; exact wpAny_eqBool_str h
 «strs»:=fun k x t v h=>by
  rcases Bc h with ⟨i,u,rfl,e⟩ | ⟨y,u,rfl,e⟩
  ·exact nomatch e
  ·injection e with e1 _
   subst e1
   cases v <;> rfl
end L2
namespace L2
open PySem PySem.Spec PyProof.Rows
inductive V where
 | non | bl (b:Bool) | int (i:Int) | str (x:Str) | byt (b:Array UInt8) | flt (b:UInt64) | ref (a:Addr) | ty (n:String)
 deriving DecidableEq
noncomputable def RelV:V->Value->Prop
 | .non,u=>u=Value.none
 | .bl b,u=>u=Value.bool b
 | .int i,u=>∃ t,u=Value.int i t
 | .str x,u=>∃ t,u=Value.str x t
 | .byt b,u=>∃ t,u=Value.bytes b t
 | .flt b,u=>∃ t,u=Value.float b t
 | .ref a,u=>u=Value.ref a
 | .ty n,u=>u=Value.type n
noncomputable abbrev Vals:List V->List Value->Prop:=Paired RelV
theorem Vals.length {xs:List V} {us:List Value} (r:Vals xs us):xs.length=us.length:=Paired.length r
theorem Vals.get:∀ {xs:List V} {us:List Value} {i:Nat} {x:V},Vals xs us->xs[i]?=some x->∃ u,us[i]?=some u/\RelV x u
 | _,_,_,_,.nil,e=>by simp at e
 | _,_,0,_,.cons r _,e=>by simp at e; subst e; exact ⟨_,rfl,r⟩
 | _,_,i + 1,x,.cons _ t,e=>by
  obtain ⟨u,h1,h2⟩:=Vals.get (i:=i) (x:=x) t (by simpa using e)
  exact ⟨u,by simpa using h1,h2⟩
theorem Vals.set {x:V} {u:Value} (r:RelV x u):∀ {xs:List V} {us:List Value} (i:Nat),Vals xs us->Vals (xs.set i x) (us.set i u)
 | _,_,_,.nil=>.nil
 | _,_,0,.cons _ t=>.cons r t
 | _,_,i + 1,.cons q t=>.cons q (Vals.set r i t)
theorem Vals.append:∀ {xs ys:List V} {us ws:List Value},Vals xs us->Vals ys ws->Vals (xs ++ ys) (us ++ ws)
 | _,_,_,_,.nil,s=>s
 | _,_,_,_,.cons r t,s=>.cons r (Vals.append t s)
theorem Vals.take:∀ {xs:List V} {us:List Value} (n:Nat),Vals xs us->Vals (xs.take n) (us.take n)
 | _,_,0,_=>.nil
 | _,_,_ + 1,.nil=>.nil
 | _,_,n + 1,.cons r t=>.cons r (Vals.take n t)
theorem Vals.drop:∀ {xs:List V} {us:List Value} (n:Nat),Vals xs us->Vals (xs.drop n) (us.drop n)
 | _,_,0,r=>r
 | _,_,_ + 1,.nil=>.nil
 | _,_,n + 1,.cons _ t=>Vals.drop n t
noncomputable def QB:Option V->Option Value->Prop
 | some v,some u=>RelV v u
 | none,none=>True
 | _,_=>False
noncomputable def KV {κ:Type}:List (κ × V)->List (κ × Value)->Prop:=Paired fun (p:κ × V) (q:κ × Value)=>p.1=q.1/\RelV p.2 q.2
noncomputable def kV:Key->V
 | .inl i=>.int i
 | .inr x=>.str x
inductive HO where
  | lst (xs:List V)
  | tup (xs:List V)
  | dK (kvs:List (Key × V)) | dT (kvs:List (List Key × V))
  | set (S:Int->Bool) (n:Nat)
  | ins (C dx:Addr) (fs:List (Str × V))
  | own (x:Addr)
  | xd (fs:List (Str × V))
  | met (f x:Addr)
  | rng (lo hi:Int)
  | frz (o:Obj) (u:HO)
  | tbl (ps:Array Value)
  | ext (φ:Heap->Prop)
noncomputable abbrev Hp:=Addr->Option HO
noncomputable def upd (H:Hp) (a:Addr) (o:HO):Hp:=fun b=>if b=a then some o else H b
theorem Bp {H:Hp} {a:Addr} {o:HO}:upd H a o a=some o:=by unfold upd; rw [if_pos rfl]
theorem Aw {H:Hp} {a b:Addr} {o:HO} (h:b ≠ a):upd H a o b=H b:=by unfold upd; rw [if_neg h]
theorem C0 {H:Hp} {a b:Addr} {o:HO} (h:H a=some o) (h':H b=none):a ≠ b:=by
 intro e; subst e; rw [h] at h'; cases h'
section
variable (P:Program) (w:World)
noncomputable def ObjOk (H:Hp) (h:Heap) (a:Addr):HO->Prop
 | .lst xs=>xs.length<=sizeLine/\∃ (its:List Value) (n:Nat),Vals xs its/\h.get? a=some { cls:=.type "list",data:=.seq its.toArray n }
 | .tup xs=>xs.length<=sizeLine/\∃ its:List Value,Vals xs its/\IsTup h a its.toArray
 | .dK kvs=>kvs.length<=sizeLine/\(a==sysModules)=false/\∃ vs,KV kvs vs/\h.DictOf (JA P w) a vs
 | .dT kvs=>kvs.length<=sizeLine/\(a==sysModules)=false/\∃ xs:List (List Key × Addr × Value),
   Paired (fun (p:List Key × V) (q:List Key × Addr × Value)=>p.1=q.1/\H q.2.1=some (.tup (p.1.map kV))/\RelV p.2 q.2.2) kvs xs /\
   ∃ o es ep,h.get? a=some o/\o.ExactDict/\o.data=.dict es ep/\es.toList=xs.map (entryOfKey (tupleKind (JA P w)))/\(xs.map (·.1)).Nodup
 | .set S n=>h.SetOf (intKind P w) a S n
 | .ins C dx fs=>H dx=some (.own a)/\fs.length<=1000/\dx ≠ a/\h.get? a=some (PySem.W.instObj C dx) /\
   ∃ mA,h.Ns1 dx mA/\(∀ f,QB (fs.lookup f) (mA f))/\PySem.Within mA (fs.map (·.1))
 | .own _=>∃ o,h.get? a=some o
 | .xd fs=>∃ mA,h.Ns1 a mA/\∀ f,QB (fs.lookup f) (mA f)
 | .rng lo hi=>∃ t u v,h.get? a=some { cls:=.type "range",data:=.fields #[.int lo t,.int hi u,.int 1 v] }
 | .frz o u=>h.get? a=some o/\ObjOk H h a u
 | .tbl ps=>h.get? a=some { cls:=.none,data:=.fields ps }
 | .met f x=>h.get? a=some (PySem.W.methodObj (.ref f) (.ref x))
 | .ext φ=>φ h/\(∃ o,h.get? a=some o)/\∀ h1 h2:Heap,φ h1->(∀ o,h1.get? a=some o->h2.get? a=some o)->φ h2
noncomputable def HOk (H:Hp) (h:Heap):Prop:=∀ a o,H a=some o->ObjOk P w H h a o
end
section
variable {P:Program} {w:World} {H H':Hp} {h h':Heap} {a:Addr} {o:HO}
theorem ObjOk.lt (x:ObjOk P w H h a o):a < h.objs.size:=by
 cases o with
 | lst xs=>obtain ⟨_,_,_,_,e⟩:=x; exact Heap.lt_size e
 | tup xs=>obtain ⟨_,_,_,p⟩:=x; exact p.lt
 | dK kvs=>obtain ⟨_,_,_,_,o,_,_,e,_⟩:=x; exact Heap.lt_size e
 | dT kvs=>obtain ⟨_,_,_,_,o,_,_,e,_⟩:=x; exact Heap.lt_size e
 | set S n=>obtain ⟨o,_,_,_,e,_⟩:=x; exact Heap.lt_size e
 | ins C dx fs=>obtain ⟨_,_,_,e,_⟩:=x; exact Heap.lt_size e
 | own y=>obtain ⟨_,e⟩:=x; exact Heap.lt_size e
 | xd fs=>obtain ⟨_,⟨_,_,_,e,_⟩,_⟩:=x; exact Heap.lt_size e
 | rng lo hi=>obtain ⟨_,_,_,e⟩:=x; exact Heap.lt_size e
 | frz ob u=>obtain ⟨e,_⟩:=x; exact Heap.lt_size e
 | tbl ps=>exact Heap.lt_size (show h.get? a=some _ from x)
 | met f y=>exact Heap.lt_size (show h.get? a=some _ from x)
 | ext φ=>obtain ⟨_,⟨_,e⟩,_⟩:=x; exact Heap.lt_size e
theorem Paired.mapP {α β:Type} {F G:α->β->Prop}:∀ {l₁:List α} {l₂:List β},Paired F l₁ l₂->(∀ a b,F a b->G a b)->Paired G l₁ l₂
 | _,_,.nil,_=>.nil
 | _,_,.cons r t,f=>.cons (f _ _ r) (Paired.mapP t f)
theorem ObjOk.stay (x:ObjOk P w H h a o) (k:∀ b u,(b=a\/H b=some (.own a))->h.get? b=some u->h'.get? b=some u)
  (ho:∀ b,H b=some (.own a)->H' b=some (.own a)) (ht:∀ b xs,H b=some (.tup xs)->H' b=some (.tup xs)):ObjOk P w H' h' a o:=by
 induction o with
 | lst xs=>obtain ⟨z,its,n,r,e⟩:=x; exact ⟨z,its,n,r,k _ _ (.inl rfl) e⟩
 | tup xs=>obtain ⟨z,its,r,ob,e,c⟩:=x; exact ⟨z,its,r,ob,k _ _ (.inl rfl) e,c⟩
 | dK kvs=>obtain ⟨z,y,vs,r,ob,es,ep,e,c⟩:=x; exact ⟨z,y,vs,r,ob,es,ep,k _ _ (.inl rfl) e,c⟩
 | dT kvs =>
  obtain ⟨z,y,xs,r,ob,es,ep,e,c⟩:=x
  exact ⟨z,y,xs,Paired.mapP r fun p q z=>⟨z.1,ht _ _ z.2.1,z.2.2⟩,ob,es,ep,k _ _ (.inl rfl) e,c⟩
 | set S n=>obtain ⟨ob,es,ep,t,e,c⟩:=x; exact ⟨ob,es,ep,t,k _ _ (.inl rfl) e,c⟩
 | ins C dx fs =>
  obtain ⟨d,z,ne,e,mA,⟨od,es,ep,e2,c⟩,r⟩:=x
  exact ⟨ho _ d,z,ne,k _ _ (.inl rfl) e,mA,⟨od,es,ep,k _ _ (.inr d) e2,c⟩,r⟩
 | own y=>obtain ⟨ob,e⟩:=x; exact ⟨ob,k _ _ (.inl rfl) e⟩
 | xd fs=>obtain ⟨mA,⟨od,es,ep,e,c⟩,r⟩:=x; exact ⟨mA,⟨od,es,ep,k _ _ (.inl rfl) e,c⟩,r⟩
 | rng lo hi=>obtain ⟨t,u,v,e⟩:=x; exact ⟨t,u,v,k _ _ (.inl rfl) e⟩
 | frz ob u ih=>obtain ⟨e,q⟩:=x; exact ⟨k _ _ (.inl rfl) e,ih q⟩
 | tbl ps =>
  have e:h.get? a=some { cls:=.none,data:=.fields ps }:=x
  show h'.get? a=some { cls:=.none,data:=.fields ps }
  exact k a _ (.inl rfl) e
 | met f y =>
  have e:h.get? a=some (PySem.W.methodObj (.ref f) (.ref y)):=x
  show h'.get? a=some (PySem.W.methodObj (.ref f) (.ref y))
  exact k a _ (.inl rfl) e
 | ext φ=>obtain ⟨p,⟨o,e⟩,st⟩:=x; exact ⟨st _ _ p fun o q=>k _ _ (.inl rfl) q,⟨o,k _ _ (.inl rfl) e⟩,st⟩
theorem HOk.lt (x:HOk P w H h) (e:H a=some o):a < h.objs.size:=(x a o e).lt
theorem HOk.fresh (x:HOk P w H h) (e:h.objs.size<=a):H a=none:=by
 cases q:H a with
 | none=>rfl
 | some u=>exact absurd (aay (x.lt q) e) (aaT _)
theorem HOk.kept (x:HOk P w H h) (k:∀ b u,h.get? b=some u->h'.get? b=some u):HOk P w H h':=fun a o e =>
 (x a o e).stay (fun b u _ q=>k b u q) (fun _ q=>q) fun _ _ q=>q
theorem HOk.laid (x:HOk P w H h) (k:∀ b u,h.get? b=some u->h'.get? b=some u) (hp:h.objs.size<=a) (new:ObjOk P w (upd H a o) h' a o):HOk P w (upd H a o) h':=fun b u e=>by
 have hn:=x.fresh hp
 by_cases hb:b=a
 ·subst hb; rw [Bp] at e; cases e; exact new
 ·rw [Aw hb] at e
  exact (x b u e).stay (fun c v _ q=>k c v q) (fun c q=>by rw [Aw (C0 q hn)]; exact q) fun c xs q=>by rw [Aw (C0 q hn)]; exact q
end
noncomputable def Rd (H:Hp) (a:Addr) (u:HO):Prop:=H a=some u\/∃ o,H a=some (.frz o u)
theorem Rd.ok {P:Program} {w:World} {H:Hp} {h:Heap} {a:Addr} {u:HO} (r:Rd H a u) (x:HOk P w H h):ObjOk P w H h a u:=by
 rcases r with r | ⟨o,r⟩
 ·exact x a u r
 ·obtain ⟨_,q⟩:=x a _ r
  exact q
noncomputable def Mut:Option HO->Prop
 | some (.lst _)=>True
 | some (.dK _)=>True
 | some (.dT _)=>True
 | some (.set _ _)=>True
 | some (.ins _ _ _)=>True
 | some (.ext _)=>True
 | _=>False
section
variable {P:Program} {w:World} {H:Hp} {h h':Heap} {x e:Addr} {o':HO}
theorem HOk.write (ok:HOk P w H h) (mu:Mut (H x)) (he:e=x\/H e=some (.own x)) (k:∀ b u,b ≠ e->h.get? b=some u->h'.get? b=some u) (heo:∃ u,h'.get? e=some u)
  (new:ObjOk P w (upd H x o') h' x o'):HOk P w (upd H x o') h':=fun b u q=>by
 have nown:∀ c y,H c=some (.own y)->c ≠ x:=fun c y r z=>by subst z; rw [r] at mu; exact mu
 have ntup:∀ c xs,H c=some (.tup xs)->c ≠ x:=fun c xs r z=>by subst z; rw [r] at mu; exact mu
 by_cases hb:b=x
 ·subst hb; rw [Bp] at q; cases q; exact new
 ·rw [Aw hb] at q
  by_cases hbe:b=e
  ·have q':H b=some (.own x):=by
    rcases he with z | z
    ·exact absurd (hbe.trans z) hb
    ·rw [hbe]; exact z
   rw [q] at q'; cases q'
   obtain ⟨v,hv⟩:=heo
   exact ⟨v,by rw [hbe]; exact hv⟩
  ·refine (ok b u q).stay (fun c v hc r=>k c v ?_ r) (fun c r=>by rw [Aw (nown c b r)]; exact r) fun c xs r=>by rw [Aw (ntup c xs r)]; exact r
   rcases hc with rfl | hc
   ·exact hbe
   ·rintro rfl
    rcases he with z | z
    ·exact nown c b hc z
    ·rw [hc] at z; cases z; exact hb rfl
end
structure Un (fs ex:List Addr) (H H':Hp) (h h':Heap):Prop where
 keep:∀ b o,h.get? b=some o->H b=none->b ∉ fs->b ∉ ex->h'.get? b=some o
 slot:∀ b o,h.get? b=some o->H b=none->b ∈ fs->b ∉ ex->∃ sl,h'.get? b=some { o with slots:=sl }
 free:∀ b o,h.get? b=some o->H b=none->b ∉ ex->H' b=none
 there:∀ b o,h.get? b=some o->b ∉ ex->∃ o',h'.get? b=some o'
 tups:∀ b xs,H b=some (.tup xs)->H' b=some (.tup xs)
 frzs:∀ b o u,H b=some (.frz o u)->H' b=some (.frz o u)
 tbls:∀ b ps,H b=some (.tbl ps)->∃ more,H' b=some (.tbl (ps ++ more))
section
variable {fs fs' ex ex':List Addr} {H H1 H2:Hp} {h h1 h2 h':Heap} {a x e:Addr} {o:HO}
theorem Un.any (u:Un fs ex H H1 h h1) {b:Addr} {ob:Obj} (q:h.get? b=some ob) (n:H b=none) (hx:b ∉ ex):∃ sl,h1.get? b=some { ob with slots:=sl }:=by
 by_cases hb:b ∈ fs
 ·exact u.slot b ob q n hb hx
 ·exact ⟨ob.slots,u.keep b ob q n hb hx⟩
theorem Un.kept (k:∀ b u,h.get? b=some u->h'.get? b=some u):Un fs ex H H h h' :=
 ⟨fun b ob q _ _ _=>k b ob q,fun b ob q _ _ _=>⟨ob.slots,k b ob q⟩,fun _ _ _ n _=>n,fun b ob q _=>⟨ob,k b ob q⟩,fun _ _ q=>q,fun _ _ _ q=>q,fun _ ps q=>⟨#[],by rw [q]; simp⟩⟩
theorem Un.refl:Un fs ex H H h h:=Un.kept fun _ _ q=>q
theorem Un.laid (k:∀ b u,h.get? b=some u->h'.get? b=some u) (hp:h.objs.size<=a) (hn:H a=none):Un fs ex H (upd H a o) h h' where
 keep:=fun b u q _ _ _=>k b u q
 slot:=fun b u q _ _ _=>⟨u.slots,k b u q⟩
 free:=fun b u q n _=>by rw [Aw (aaC (aay (Heap.lt_size q) hp))]; exact n
 there:=fun b u q _=>⟨u,k b u q⟩
 tups:=fun b xs q=>by rw [Aw (C0 q hn)]; exact q
 frzs:=fun b u xs q=>by rw [Aw (C0 q hn)]; exact q
 tbls:=fun b ps q=>⟨#[],by rw [Aw (C0 q hn),q]; simp⟩
theorem Un.write (mu:Mut (H x)) (he:e=x\/H e=some (.own x)) (k:∀ b u,b ≠ e->h.get? b=some u->h'.get? b=some u) (heo:∃ u,h'.get? e=some u):Un fs ex H (upd H x o) h h':=by
 have hx:∀ b,H b=none->b ≠ x:=fun b n z=>by subst z; rw [n] at mu; exact mu
 have hb:∀ b,H b=none->b ≠ e:=fun b n z=>by
  subst z
  rcases he with r | r
  ·exact hx b n r
  ·rw [n] at r; cases r
 have hm:∀ b u,H b=some u->¬ Mut (some u)->b ≠ x:=fun b u q nm z=>by subst z; rw [q] at mu; exact nm mu
 refine ⟨fun b u q n _ _=>k b u (hb b n) q,fun b u q n _ _=>⟨u.slots,k b u (hb b n) q⟩,fun b u q n _=>by rw [Aw (hx b n)]; exact n,fun b u q _=>?_,
  fun b xs q=>by rw [Aw (hm b _ q fun z=>z)]; exact q,fun b u xs q=>by rw [Aw (hm b _ q fun z=>z)]; exact q,fun b ps q=>⟨#[],by rw [Aw (hm b _ q fun z=>z),q]; simp⟩⟩
 by_cases hbe:b=e
 ·subst hbe; exact heo
 ·exact ⟨u,k b u hbe q⟩
end
noncomputable def trk (h:Heap) (H:Hp):List Addr:=(aar h.objs.size).filter fun a=>(H a).isSome
noncomputable def Gn (h:Heap) (H:Hp):Heap:=PySem.W.hideAll h (trk h H)
theorem ON (h:Heap) (H:Hp):(Gn h H).objs.size=h.objs.size:=PySem.W.hideAll_size _ _
theorem QC {h:Heap} {H:Hp} {b:Addr} {o:Obj} (e:h.get? b=some o) (n:H b=none):(Gn h H).get? b=some o :=
 PySem.W.hideAll_get _ e fun hm=>by
  have q:(H b).isSome=true:=(abp.mp hm).2
  rw [n] at q; simp at q
theorem SF {h:Heap} {H:Hp} {b:Addr} {o:Obj} (e:(Gn h H).get? b=some o):h.get? b=some o/\H b=none:=by
 have e':h.get? b=some o:=PySem.W.of_hideAll (trk h H) e
 refine ⟨e',?_⟩
 cases q:H b with
 | none=>rfl
 | some x =>
  have hm:b ∈ trk h H:=abp.mpr ⟨abJ.mpr (Heap.lt_size e'),by simp [q]⟩
  have z:(Gn h H).get? b=none:=PySem.W.hideAll_none (trk h H) hm
  rw [z] at e; cases e
structure Mod (K:PySem.W.Frag) (mg:Str->Option Value) (base:Heap):Prop where
 kin:K.In base
 glob:base.Ns mainGlobals mg
 blt:∃ mb,base.Ns builtinsNs mb/\∀ x:Str,x ≠ "__name__" -> mb x=bootBuiltins x
 nolimit:base.NoLimit
structure Cx where
 prog:Program
 w:World
 K:PySem.W.Frag
 mg:Str->Option Value
 base:Heap
 A:Around
 N:List Str
 s₀:Shared
 H₀:Hp
 env:Env
 outer:List Env
 stack:List Env
 ex:List Addr
 fn:Str->Bool
 calm:Bool
 pn:List (Addr × Obj)
 xe:Value->Shared->Prop
noncomputable def frs (l:List Env):List Addr:=l.filterMap (·.frame)
noncomputable abbrev Cx.fs (X:Cx):List Addr:=frs X.outer
noncomputable def Vis (sc:Scope) (x:Str):Prop:=sc.names.lookup x=some .local\/sc.names.lookup x=some .cell\/sc.names.lookup x=some .free
noncomputable def Loc (sc:Scope) (x:Str):Prop:=sc.names.lookup x=some .local\/sc.names.lookup x=some .cell
noncomputable def WO (env:Env) (h:Heap) (m:Str->Option Value) (x:Str) (u:Value):Prop :=
 (env.kindOf x=some .local/\m x=some u)\/((env.kindOf x=some .cell\/env.kindOf x=some .free)/\∃ c,env.cells.lookup x=some c/\h.IsCell c (some u))
structure Cx.Ok (X:Cx):Prop where
 mod:Mod X.K X.mg X.base
 kind:X.env.scope.kind=.function
 glob:X.env.globals=mainGlobals
 blt:X.env.builtins=builtinsNs
 above:X.s₀.heap.objs.size<=X.env.locals
 inj:∀ x y c,X.env.cells.lookup x=some c->X.env.cells.lookup y=some c->x=y
 has:∀ x,(X.env.kindOf x=some .cell\/X.env.kindOf x=some .free)->∃ c,X.env.cells.lookup x=some c
 cab:∀ x c,X.fn x=true->X.env.cells.lookup x=some c->X.s₀.heap.objs.size<=c
 hd:X.calm=true->X.A.handled=none
 frames:X.A.frames=some X.stack
 stk:X.stack=X.outer\/(X.stack=X.env :: X.outer/\X.env.frame=some X.env.locals)
 exf:∀ b ∈ X.ex,b ≠ X.env.locals/\∀ x c,X.env.cells.lookup x=some c->c ≠ b
 bs:∀ b o,X.base.get? b=some o->X.s₀.heap.get? b=some o/\X.H₀ b=none
 bsz:X.base.objs.size<=X.s₀.heap.objs.size
 noex:∀ b o,X.base.get? b=some o->b ∉ X.ex
 exfs:∀ b ∈ X.ex,b ∉ X.fs
 funs:X.s₀.heap.FunFrames X.base X.outer
 frf:∀ b ∈ X.fs,X.H₀ b=none
structure Inv (X:Cx) (pins:List (Addr × Obj)) (σ:List (Option V)) (H:Hp) (s:Shared):Prop where
 ok:X.Ok
 os:s.os=X.s₀.os
 bare:AllBare s.gens
 base:Un X.fs X.ex X.H₀ H X.s₀.heap s.heap
 loc:∃ m,s.heap.Ns X.env.locals m/\∀ (i:Nat) (x:Str) (v:V),X.N[i]?=some x->σ[i]?=some (some v)->Vis X.env.scope x->∃ u,RelV v u/\WO X.env s.heap m x u
 cell:∀ x c,X.env.cells.lookup x=some c->∃ v,s.heap.IsCell c v
 free:H X.env.locals=none
 freeC:∀ x c,X.env.cells.lookup x=some c->H c=none
 pin:∀ p ∈ X.pn ++ pins,s.heap.get? p.1=some p.2/\H p.1=none/\p.1 ≠ X.env.locals/\p.1 ∉ X.fs/\∀ v,p.2.data ≠ .cell v
 hok:HOk X.prog X.w H s.heap
 len:σ.length=X.N.length
section
variable {X:Cx} {pins:List (Addr × Obj)} {σ:List (Option V)} {H H':Hp} {s:Shared} {h':Heap}
theorem Cx.Ok.nofr (ok:X.Ok) {b:Addr} {o:Obj} (e:X.base.get? b=some o):b ∉ X.fs:=fun hb=>by
 have:=(ok.funs.mem hb).1
 rw [e] at this; cases this
theorem Inv.bs (I:Inv X pins σ H s):∀ b o,X.base.get? b=some o->s.heap.get? b=some o/\H b=none:=fun b o e =>
 ⟨I.base.keep b o (I.ok.bs b o e).1 (I.ok.bs b o e).2 (I.ok.nofr e) (I.ok.noex b o e),I.base.free b o (I.ok.bs b o e).1 (I.ok.bs b o e).2 (I.ok.noex b o e)⟩
theorem Inv.bk (I:Inv X pins σ H s):∀ b o,X.base.get? b=some o->s.heap.get? b=some o:=fun b o e=>(I.bs b o e).1
theorem Inv.mod (I:Inv X pins σ H s):Mod X.K X.mg X.base:=I.ok.mod
theorem Inv.kIn (I:Inv X pins σ H s):X.K.In s.heap:=I.ok.mod.kin.keeps I.bk
theorem Inv.fr (I:Inv X pins σ H s):∃ m,Fr X.base X.env.locals s.heap m :=
 let ⟨m,hn,_⟩:=I.loc
 ⟨m,hn,I.bk,aaK I.ok.bsz I.ok.above⟩
theorem Inv.lt (I:Inv X pins σ H s):X.env.locals < s.heap.objs.size:=let ⟨_,hn,_⟩:=I.loc; hn.lt
theorem Inv.sz (I:Inv X pins σ H s):X.s₀.heap.objs.size<=s.heap.objs.size:=aaK I.ok.above (abK I.lt)
theorem Inv.nofs (I:Inv X pins σ H s) {a:Addr} (h:s.heap.objs.size<=a):a ∉ X.fs:=fun hb=>by
 obtain ⟨_,o,ho,_⟩:=I.ok.funs.mem hb
 exact absurd (aay (Heap.lt_size ho) (aaK I.sz h)) (aaT _)
theorem Inv.cne (I:Inv X pins σ H s):∀ x c,X.env.cells.lookup x=some c->c ≠ X.env.locals:=fun x c e z=>by
 obtain ⟨v,o,ho,hd⟩:=I.cell x c e
 obtain ⟨m,⟨o',es,ep,ho',hd',_⟩,_⟩:=I.loc
 rw [z,ho'] at ho; cases ho; rw [hd'] at hd; cases hd
theorem Inv.funs (I:Inv X pins σ H s):s.heap.FunFrames X.base X.outer:=by
 have all:∀ (l:List Env),(∀ b ∈ frs l,b ∈ X.fs)->X.s₀.heap.FunFrames X.base l->s.heap.FunFrames X.base l:=by
  intro l
  induction l with
  | nil=>intro _ _; trivial
  | cons env r ih =>
   intro hs hl
   obtain ⟨hk,⟨L,o,hf,hn,ho,hd⟩,hr⟩:=hl
   have hL:L ∈ X.fs:=hs L (by unfold frs; rw [abg,hf]; exact aab)
   obtain ⟨sl,e⟩:=I.base.slot L o ho (I.ok.frf L hL) hL fun z=>I.ok.exfs L z hL
   exact ⟨hk,⟨L,_,hf,hn,e,hd⟩,ih (fun b hb=>hs b (by unfold frs; rw [abg,hf]; exact aaa _ hb)) hr⟩
 exact all X.outer (fun _ hb=>hb) I.ok.funs
theorem Inv.stack (I:Inv X pins σ H s):s.heap.FunFrames X.base X.stack:=by
 rcases I.ok.stk with e | ⟨e,hf⟩
 ·rw [e]; exact I.funs
 ·rw [e]
  obtain ⟨m,hn,_⟩:=I.loc
  refine .cons (by rw [I.ok.kind]; decide) hf hn ?_ I.funs
  exact Heap.get?_none_of_le (aaK I.ok.bsz I.ok.above)
theorem Inv.stkSub (I:Inv X pins σ H s):∀ b ∈ frs X.stack,b ∈ X.env.locals :: X.fs:=fun b hb=>by
 rcases I.ok.stk with e | ⟨e,hf⟩
 ·rw [e] at hb; exact aaa _ hb
 ·rw [e] at hb
  unfold frs at hb
  rw [abg,hf] at hb
  exact hb
theorem Inv.stkFree (I:Inv X pins σ H s):∀ b ∈ frs X.stack,H b=none:=fun b hb=>by
 rcases aai.mp (I.stkSub b hb) with e | hb
 ·rw [e]; exact I.free
 ·obtain ⟨_,o,ho,_⟩:=I.ok.funs.mem hb
  exact I.base.free b o ho (I.ok.frf b hb) fun z=>I.ok.exfs b z hb
theorem Inv.step {g':Array GenState} {t':Nat} {d':Drawn} {ch:List Addr} (I:Inv X pins σ H s)
  (hch:∀ b ∈ ch,(b ∈ X.ex\/X.s₀.heap.objs.size<=b)/\b ≠ X.env.locals/\(∀ x c,X.env.cells.lookup x=some c->c ≠ b)/\∀ p ∈ X.pn ++ pins,p.1 ≠ b)
  (keep:∀ b o,b ≠ X.env.locals->b ∉ X.fs->b ∉ ch->s.heap.get? b=some o->H b=none->h'.get? b=some o)
  (slot:∀ b o,b ≠ X.env.locals->b ∈ X.fs->b ∉ ch->s.heap.get? b=some o->H b=none->∃ sl,h'.get? b=some { o with slots:=sl }) (free:∀ b o,b ∉ ch->s.heap.get? b=some o->H b=none->H' b=none)
  (there:∀ b o,b ∉ ch->s.heap.get? b=some o->∃ o',h'.get? b=some o')
  (tups:∀ b xs,H b=some (.tup xs)->H' b=some (.tup xs)) (frzs:∀ b o u,H b=some (.frz o u)->H' b=some (.frz o u)) (tbls:∀ b ps,H b=some (.tbl ps)->∃ more,H' b=some (.tbl (ps ++ more)))
  (ns:∀ m,s.heap.Ns X.env.locals m->h'.Ns X.env.locals m) (hok:HOk X.prog X.w H' h') (hg:AllBare g') :
  Inv X pins σ H' { s with heap:=h',gens:=g',drawn:=d',toks:=t' }:=by
 have neL:∀ b o,X.s₀.heap.get? b=some o->b ≠ X.env.locals:=fun b o e=>aaC (aay (Heap.lt_size e) I.ok.above)
 have neC:∀ b o,X.s₀.heap.get? b=some o->b ∉ X.ex->b ∉ ch:=fun b o e hx hb=>by
  rcases (hch b hb).1 with z | z
  ·exact hx z
  ·exact absurd (aay (Heap.lt_size e) z) (aaT _)
 have cellK:∀ x c,X.env.cells.lookup x=some c->∀ v,s.heap.IsCell c v->h'.IsCell c v:=fun x c e v ⟨o,ho,hd⟩=>by
  have nch:c ∉ ch:=fun z=>(hch c z).2.2.1 x c e rfl
  by_cases hc:c ∈ X.fs
  ·obtain ⟨sl,q⟩:=slot c o (I.cne x c e) hc nch ho (I.freeC x c e)
   exact ⟨_,q,hd⟩
  ·exact ⟨o,keep c o (I.cne x c e) hc nch ho (I.freeC x c e),hd⟩
 refine ⟨I.ok,I.os,hg,⟨fun b o e n hb hx=>?_,fun b o e n hb hx=>?_,fun b o e n hx=>?_,fun b o e hx=>?_,fun b xs e=>tups b xs (I.base.tups b xs e),fun b o xs e=>frzs b o xs (I.base.frzs b o xs e),fun b ps e=>?_⟩,?_,fun x c e=>?_,?_,fun x c e=>?_,fun p hp=>?_,hok,I.len⟩
 ·exact keep b o (neL b o e) hb (neC b o e hx) (I.base.keep b o e n hb hx) (I.base.free b o e n hx)
 ·obtain ⟨sl,e1⟩:=I.base.slot b o e n hb hx
  obtain ⟨sl',e2⟩:=slot b _ (neL b o e) hb (neC b o e hx) e1 (I.base.free b o e n hx)
  exact ⟨sl',e2⟩
 ·obtain ⟨o',e1⟩:=I.base.there b o e hx
  exact free b o' (neC b o e hx) e1 (I.base.free b o e n hx)
 ·obtain ⟨o',e1⟩:=I.base.there b o e hx
  exact there b o' (neC b o e hx) e1
 ·obtain ⟨m1,e1⟩:=I.base.tbls b ps e
  obtain ⟨m2,e2⟩:=tbls b _ e1
  exact ⟨m1 ++ m2,by rw [e2,Array.append_assoc]⟩
 ·obtain ⟨m,hn,hl⟩:=I.loc
  refine ⟨m,ns m hn,fun i x v e1 e2 e3=>?_⟩
  obtain ⟨u,r,l⟩:=hl i x v e1 e2 e3
  refine ⟨u,r,?_⟩
  rcases l with l | ⟨k,c,e,z⟩
  ·exact .inl l
  ·exact .inr ⟨k,c,e,cellK x c e _ z⟩
 ·obtain ⟨v,z⟩:=I.cell x c e
  exact ⟨v,cellK x c e v z⟩
 ·obtain ⟨m,⟨o,_,_,ho,_⟩,_⟩:=I.loc
  exact free _ o (fun z=>(hch _ z).2.1 rfl) ho I.free
 ·obtain ⟨v,o,ho,hd⟩:=I.cell x c e
  exact free c o (fun z=>(hch c z).2.2.1 x c e rfl) ho (I.freeC x c e)
 ·obtain ⟨e,n,ne,nf,d⟩:=I.pin p hp
  have nch:p.1 ∉ ch:=fun z=>(hch p.1 z).2.2.2 p hp rfl
  exact ⟨keep p.1 p.2 ne nf nch e n,free p.1 p.2 nch e n,ne,nf,d⟩
theorem Inv.un {t':Nat} (I:Inv X pins σ H s) (u:Un X.fs [] H H' s.heap h') (hok:HOk X.prog X.w H' h'):Inv X pins σ H' { s with heap:=h',toks:=t' }:=by
 obtain ⟨m,⟨o,es,ep,ho,r⟩,_⟩:=id I.loc
 obtain ⟨sl,hL⟩:=u.any ho I.free (by simp)
 exact I.step (g':=s.gens) (d':=s.drawn) (ch:=[]) (fun _ z=>nomatch z) (fun b o _ hb _ e n=>u.keep b o e n hb (by simp)) (fun b o _ hb _ e n=>u.slot b o e n hb (by simp)) (fun b o _ e n=>u.free b o e n (by simp)) (fun b o _ e=>u.there b o e (by simp)) u.tups u.frzs u.tbls (fun m' hm=>by
  obtain ⟨o',es',ep',ho',r'⟩:=hm
  rw [ho] at ho'; cases ho'
  exact ⟨_,es',ep',hL,r'⟩) hok I.bare
theorem Inv.call {g':Array GenState} {t':Nat} {d':Drawn} {ch:List Addr} (I:Inv X pins σ H s) (u:Un (frs X.stack) ch H H' s.heap h') (hok:HOk X.prog X.w H' h') (hg:AllBare g')
  (hch:∀ b ∈ ch,(b ∈ X.ex\/X.s₀.heap.objs.size<=b)/\b ≠ X.env.locals/\(∀ x c,X.env.cells.lookup x=some c->c ≠ b)/\∀ p ∈ X.pn ++ pins,p.1 ≠ b) :
  Inv X pins σ H' { s with heap:=h',gens:=g',drawn:=d',toks:=t' }:=by
 obtain ⟨m,⟨o,es,ep,ho,r⟩,_⟩:=id I.loc
 obtain ⟨sl,hL⟩:=u.any ho I.free fun z=>(hch _ z).2.1 rfl
 exact I.step (ch:=ch) hch (fun b o hL hb hc e n=>u.keep b o e n (fun z=>(aai.mp (I.stkSub b z)).elim hL hb) hc) (fun b o _ _ hc e n=>u.any e n hc) (fun b o hc e n=>u.free b o e n hc) (fun b o hc e=>u.there b o e hc) u.tups u.frzs u.tbls (fun m' hm=>by
  obtain ⟨o',es',ep',ho',r'⟩:=hm
  rw [ho] at ho'; cases ho'
  exact ⟨_,es',ep',hL,r'⟩) hok hg
theorem Inv.turned {t':Nat} {it:Addr} (I:Inv X pins σ H s) (k:∀ b o,b ≠ it->s.heap.get? b=some o->h'.get? b=some o) (hn:H it=none) (hL:it ≠ X.env.locals)
  (h1:it ∈ X.ex\/X.s₀.heap.objs.size<=it) (h2:∀ x c,X.env.cells.lookup x=some c->c ≠ it) (h3:∀ p ∈ X.pn ++ pins,p.1 ≠ it):Inv X pins σ H { s with heap:=h',toks:=t' }:=by
 have nit:∀ b u,H b=some u->b ≠ it:=fun b u e z=>by rw [z,hn] at e; cases e
 refine I.step (g':=s.gens) (d':=s.drawn) (ch:=[it]) (fun b hb=>?_) (fun b o _ _ hc e _=>k b o (fun z=>hc (by simp [z])) e) (fun b o _ _ hc e _=>⟨o.slots,k b o (fun z=>hc (by simp [z])) e⟩) (fun _ _ _ _ n=>n)
  (fun b o hc e=>⟨o,k b o (fun z=>hc (by simp [z])) e⟩) (fun _ _ e=>e) (fun _ _ _ e=>e) (fun b ps e=>⟨#[],by rw [e]; simp⟩) (fun m hm=>?_) (fun b u e=>?_) I.bare
 ·have e:b=it:=by simpa using hb
  subst e
  exact ⟨h1,hL,h2,h3⟩
 ·obtain ⟨o,es,ep,ho,r⟩:=hm
  exact ⟨o,es,ep,k _ o (Ne.symm hL) ho,r⟩
 ·refine (I.hok b u e).stay (fun c v hc q=>k c v ?_ q) (fun _ q=>q) fun _ _ q=>q
  rcases hc with z | z
  ·rw [z]; exact nit b u e
  ·exact nit c _ z
theorem Inv.tok (I:Inv X pins σ H s) (t:Nat):Inv X pins σ H { s with toks:=t }:=I.un (h':=s.heap) (t':=t) Un.refl I.hok
theorem Inv.kept {t':Nat} (I:Inv X pins σ H s) (k:∀ b u,s.heap.get? b=some u->h'.get? b=some u):Inv X pins σ H { s with heap:=h',toks:=t' }:=I.un (Un.kept k) (I.hok.kept k)
theorem Inv.laid {a:Addr} {o:HO} {t':Nat} (I:Inv X pins σ H s) (k:∀ b u,s.heap.get? b=some u->h'.get? b=some u) (hp:s.heap.objs.size<=a) (new:ObjOk X.prog X.w (upd H a o) h' a o) :
  Inv X pins σ (upd H a o) { s with heap:=h',toks:=t' }:=I.un (Un.laid k hp (I.hok.fresh hp)) (I.hok.laid k hp new)
theorem Inv.write {x e:Addr} {o:HO} {t':Nat} (I:Inv X pins σ H s) (mu:Mut (H x)) (he:e=x\/H e=some (.own x)) (k:∀ b u,b ≠ e->s.heap.get? b=some u->h'.get? b=some u) (heo:∃ u,h'.get? e=some u)
  (new:ObjOk X.prog X.w (upd H x o) h' x o):Inv X pins σ (upd H x o) { s with heap:=h',toks:=t' }:=I.un (Un.write mu he k heo) (I.hok.write mu he k heo new)
theorem Inv.weak {σ':List (Option V)} (I:Inv X pins σ H s) (hl:σ'.length=σ.length) (w:∀ (i:Nat) v,σ'[i]?=some (some v)->σ[i]?=some (some v)):Inv X pins σ' H s :=
 ⟨I.ok,I.os,I.bare,I.base,let ⟨m,hn,hl'⟩:=I.loc; ⟨m,hn,fun i x v e1 e2 e3=>hl' i x v e1 (w i v e2) e3⟩,I.cell,I.free,I.freeC,I.pin,I.hok,hl.trans I.len⟩
theorem Inv.pins_of {pins':List (Addr × Obj)} (I:Inv X pins σ H s) (h:∀ p ∈ pins',s.heap.get? p.1=some p.2/\H p.1=none/\p.1 ≠ X.env.locals/\p.1 ∉ X.fs/\∀ v,p.2.data ≠ .cell v):Inv X pins' σ H s :=
 ⟨I.ok,I.os,I.bare,I.base,I.loc,I.cell,I.free,I.freeC,fun p hp=>(aag.mp hp).elim (fun z=>I.pin p (aaA _ z)) (h p),I.hok,I.len⟩
theorem Lj {N:List Str} (hN:N.Nodup) {i j:Nat} {x:Str} (a:N[i]?=some x) (b:N[j]?=some x):i=j:=by
 obtain ⟨h1,e1⟩:=aak.mp a
 obtain ⟨h2,e2⟩:=aak.mp b
 exact (List.getElem_inj hN).mp (e1.trans e2.symm)
theorem Ki {M:Model} {A:Around} {E:Value->Shared->Prop} {i:Nat} {x:Str} {v:V} {u:Value} {Q:Unit->Shared->Prop} (I:Inv X pins σ H s) (hN:X.N.Nodup) (hi:X.N[i]?=some x) (hx:Loc X.env.scope x) (r:RelV v u)
  (h:∀ s',Inv X pins (σ.set i (some v)) H s'->(∃ a,Heap.SameBut a s.heap s'.heap/\(a=X.env.locals\/X.env.cells.lookup x=some a))->Q () s') (hf:X.fn x=true\/X.env.scope.names.lookup x=some .local:=by first | exact .inl rfl | exact .inr rfl | assumption):wpAny M A (storeName X.env x u) Q E s:=by
 obtain ⟨m,hn,hl⟩:=id I.loc
 have hcls:(X.env.scope.kind==.class || (X.env.scope.kind==.module && X.env.locals != X.env.globals))=false:=by rw [I.ok.kind]; rfl
 have hiσ:i < σ.length:=by rw [I.len]; exact (aak.mp hi).1
 have cne:=I.cne
 have tracked:∀ {a:Addr} {h':Heap},(∃ o,s.heap.get? a=some o/\H a=none)->Heap.SameBut a s.heap h'->HOk X.prog X.w H h':=fun {a h'} ha hs b ob e=>by
  obtain ⟨_,_,hfree⟩:=ha
  refine (I.hok b ob e).stay (fun c w' hc q=>(hs.2 c ?_).trans q) (fun _ q=>q) fun _ _ q=>q
  rintro rfl
  rcases hc with rfl | hc
  ·rw [hfree] at e; cases e
  ·rw [hfree] at hc; cases hc
 rcases hx with hk | hk
 ·refine wpAny_storeName_local hk hn (fun h' hn' hs=>?_) hcls
  obtain ⟨oL,_,_,hoL,_⟩:=id hn
  refine h _ ⟨I.ok,I.os,I.bare,⟨fun b o e n hb hx=>?_,fun b o e n hb hx=>?_,I.base.free,fun b o e hx=>?_,I.base.tups,I.base.frzs,I.base.tbls⟩,⟨_,hn',fun j y v' e1 e2 e3=>?_⟩,fun y c e=>?_,I.free,I.freeC,fun p hp=>?_,tracked ⟨oL,hoL,I.free⟩ hs,by simpa using I.len⟩ ⟨_,hs,.inl rfl⟩
  ·exact (hs.2 b (aaC (aay (Heap.lt_size e) I.ok.above))).trans (I.base.keep b o e n hb hx)
  ·obtain ⟨sl,e1⟩:=I.base.slot b o e n hb hx
   exact ⟨sl,(hs.2 b (aaC (aay (Heap.lt_size e) I.ok.above))).trans e1⟩
  ·obtain ⟨o',e1⟩:=I.base.there b o e hx
   exact ⟨o',(hs.2 b (aaC (aay (Heap.lt_size e) I.ok.above))).trans e1⟩
  ·by_cases hj:j=i
   ·subst hj
    rw [hi] at e1; cases e1
    rw [acB hiσ] at e2
    cases e2
    exact ⟨u,r,.inl ⟨hk,by simp⟩⟩
   ·rw [aaB (Ne.symm hj)] at e2
    obtain ⟨u',r',q⟩:=hl j y v' e1 e2 e3
    refine ⟨u',r',?_⟩
    rcases q with ⟨k,e⟩ | ⟨k,c,e,z⟩
    ·refine .inl ⟨k,?_⟩
     have:y ≠ x:=fun e=>hj (Lj hN e1 (e ▸ hi))
     simp [this,e]
    ·exact .inr ⟨k,c,e,z.sameBut hs (cne y c e)⟩
  ·obtain ⟨w',z⟩:=I.cell y c e
   exact ⟨w',z.sameBut hs (cne y c e)⟩
  ·obtain ⟨e,n,ne,nf,d⟩:=I.pin p hp
   exact ⟨(hs.2 p.1 ne).trans e,n,ne,nf,d⟩
 ·have hfn:X.fn x=true:=by
   rcases hf with z | z
   ·exact z
   ·rw [z] at hk; cases hk
  obtain ⟨c,hc⟩:=I.ok.has x (.inl hk)
  obtain ⟨w',z⟩:=I.cell x c hc
  refine wpAny_storeName_cell I.ok.kind hk hc z (fun h' hc' hs=>?_)
  obtain ⟨oc,hoc,hocd⟩:=id z
  refine h { s with heap:=h' } ⟨I.ok,I.os,I.bare,⟨fun b o e n hb hx=>?_,fun b o e n hb hx=>?_,I.base.free,fun b o e hx=>?_,I.base.tups,I.base.frzs,I.base.tbls⟩,⟨m,hn.sameBut hs (Ne.symm (cne x c hc)),fun j y v' e1 e2 e3=>?_⟩,fun y c' e=>?_,I.free,I.freeC,fun p hp=>?_,tracked ⟨oc,hoc,I.freeC x c hc⟩ hs,by simpa using I.len⟩ ⟨c,hs,.inr hc⟩
  ·exact (hs.2 b (aaC (aay (Heap.lt_size e) (I.ok.cab x c hfn hc)))).trans (I.base.keep b o e n hb hx)
  ·obtain ⟨sl,e1⟩:=I.base.slot b o e n hb hx
   exact ⟨sl,(hs.2 b (aaC (aay (Heap.lt_size e) (I.ok.cab x c hfn hc)))).trans e1⟩
  ·obtain ⟨o',e1⟩:=I.base.there b o e hx
   exact ⟨o',(hs.2 b (aaC (aay (Heap.lt_size e) (I.ok.cab x c hfn hc)))).trans e1⟩
  ·by_cases hj:j=i
   ·subst hj
    rw [hi] at e1; cases e1
    rw [acB hiσ] at e2
    cases e2
    exact ⟨u,r,.inr ⟨.inl hk,c,hc,hc'⟩⟩
   ·rw [aaB (Ne.symm hj)] at e2
    obtain ⟨u',r',q⟩:=hl j y v' e1 e2 e3
    refine ⟨u',r',?_⟩
    rcases q with q | ⟨k,c',e,z'⟩
    ·exact .inl q
    ·refine .inr ⟨k,c',e,z'.sameBut hs ?_⟩
     rintro rfl
     exact hj (Lj hN e1 (I.ok.inj _ _ _ e hc ▸ hi))
  ·by_cases hcc:c'=c
   ·subst hcc; exact ⟨_,hc'⟩
   ·obtain ⟨w2,z2⟩:=I.cell y c' e
    exact ⟨w2,z2.sameBut hs hcc⟩
  ·obtain ⟨e,n,ne,nf,d⟩:=I.pin p hp
   refine ⟨(hs.2 p.1 ?_).trans e,n,ne,nf,d⟩
   intro q
   rw [q,hoc] at e
   have q':oc=p.2:=Option.some.inj e
   exact d w' (by rw [<- q']; exact hocd)
theorem Lk {M:Model} {A:Around} {E:Value->Shared->Prop} {i:Nat} {x:Str} {v:V} {u:Value} {Q:Unit->Shared->Prop} (I:Inv X pins σ H s) (hN:X.N.Nodup) (hi:X.N[i]?=some x) (hx:Loc X.env.scope x) (r:RelV v u)
  (h:∀ s',Inv X pins (σ.set i (some v)) H s'->Q () s') (hf:X.fn x=true\/X.env.scope.names.lookup x=some .local:=by first | exact .inl rfl | exact .inr rfl | assumption):wpAny M A (storeName X.env x u) Q E s :=
 Ki I hN hi hx r (fun s' I' _=>h s' I') hf
theorem Inv.call' {s':Shared} {ch:List Addr} (I:Inv X pins σ H s) (ho:s'.os=s.os) (u:Un (frs X.stack) ch H H' s.heap s'.heap) (hok:HOk X.prog X.w H' s'.heap) (hg:AllBare s'.gens)
  (hch:∀ b ∈ ch,(b ∈ X.ex\/X.s₀.heap.objs.size<=b)/\b ≠ X.env.locals/\(∀ x c,X.env.cells.lookup x=some c->c ≠ b)/\∀ p ∈ X.pn ++ pins,p.1 ≠ b):Inv X pins σ H' s':=by
 obtain ⟨h',g',d',t',o'⟩:=s'
 have e:o'=s.os:=ho
 subst e
 exact I.call (g':=g') (t':=t') (d':=d') u hok hg hch
end
noncomputable abbrev XK:=Value->Option Addr->Hp->Prop
noncomputable abbrev St:=List (Option V)
noncomputable abbrev VK:=V->Hp->Prop
noncomputable abbrev TE:=St->Hp->VK->Prop
noncomputable abbrev TT:=St->Hp->(Bool->Hp->Prop)->Prop
noncomputable abbrev TA:=St->Hp->(List V->Hp->Prop)->Prop
structure Ends where
 nx:St->Hp->Prop
 rt:VK
 bk:St->Hp->Prop:=fun _ _=>False
 ct:St->Hp->Prop:=fun _ _=>False
noncomputable abbrev TS:=Ends->St->Hp->Prop
noncomputable def EP (X:Cx) (pins:List (Addr × Obj)) (σ:St) (Q:VK) (u:Value) (s':Shared):Prop:=∃ v H',Inv X pins σ H' s'/\RelV v u/\Q v H'
noncomputable def TP (X:Cx) (pins:List (Addr × Obj)) (σ:St) (Q:Bool->Hp->Prop) (b:Bool) (s':Shared):Prop:=∃ H',Inv X pins σ H' s'/\Q b H'
noncomputable def AP (X:Cx) (pins:List (Addr × Obj)) (σ:St) (Q:List V->Hp->Prop) (us:List Value) (s':Shared):Prop:=∃ vs H',Inv X pins σ H' s'/\Vals vs us/\Q vs H'
noncomputable def SP (X:Cx) (pins:List (Addr × Obj)) (D:Ends) (f:Flow) (s':Shared):Prop :=
 match f with
 | .next=>∃ σ' H',Inv X pins σ' H' s'/\D.nx σ' H'
 | .brk=>∃ σ' H',Inv X pins σ' H' s'/\D.bk σ' H'
 | .cont=>∃ σ' H',Inv X pins σ' H' s'/\D.ct σ' H'
 | .ret u=>∃ v σ' H',Inv X pins σ' H' s'/\RelV v u/\D.rt v H'
noncomputable def PE (X:Cx) (e:Expr) (t:TE):Prop :=
 ∀ (pins:List (Addr × Obj)) (s:Shared) (σ:St) (H:Hp) (Q:VK),Inv X pins σ H s->t σ H Q->wpAny (model X.prog X.w) X.A (eval e X.env) (EP X pins σ Q) X.xe s
noncomputable def PT (X:Cx) (e:Expr) (t:TT):Prop :=
 ∀ (pins:List (Addr × Obj)) (s:Shared) (σ:St) (H:Hp) (Q:Bool->Hp->Prop),Inv X pins σ H s->t σ H Q->wpAny (model X.prog X.w) X.A (isTrue e X.env (eval e X.env)) (TP X pins σ Q) X.xe s
noncomputable def PW (X:Cx) (e:Expr) (t:TT):Prop :=
 ∀ (whole:Sem Value) (pins:List (Addr × Obj)) (s:Shared) (σ:St) (H:Hp) (Q:Bool->Hp->Prop),Inv X pins σ H s->t σ H Q->wpAny (model X.prog X.w) X.A (isTrue e X.env whole) (TP X pins σ Q) X.xe s
theorem PW.pt {X:Cx} {e:Expr} {t:TT} (h:PW X e t):PT X e t:=h _
noncomputable def PA (X:Cx) (es:List Expr) (t:TA):Prop :=
 ∀ (pos:Pos) (pins:List (Addr × Obj)) (s:Shared) (σ:St) (H:Hp) (Q:List V->Hp->Prop),Inv X pins σ H s->t σ H Q->wpAny (model X.prog X.w) X.A (spliced (backTo pos (starEach es X.env))) (AP X pins σ Q) X.xe s
noncomputable def PS (X:Cx) (st:Stmt) (t:TS):Prop :=
 ∀ (pins:List (Addr × Obj)) (s:Shared) (σ:St) (H:Hp) (D:Ends),Inv X pins σ H s->t D σ H->wpAny (model X.prog X.w) X.A (exec st X.env) (SP X pins D) X.xe s
noncomputable def PSs (X:Cx) (st:List Stmt) (t:TS):Prop :=
 ∀ (pins:List (Addr × Obj)) (s:Shared) (σ:St) (H:Hp) (D:Ends),Inv X pins σ H s->t D σ H->wpAny (model X.prog X.w) X.A (execs st X.env) (SP X pins D) X.xe s
theorem thn {α:Type} {t:Sem α} {Q Q':α->Shared->Prop} {M:Model} {A:Around} {E:Value->Shared->Prop} {s:Shared} (h:wpAny M A t Q E s) (hQ:∀ a s,Q a s->Q' a s):wpAny M A t Q' E s:=wpAny_mono h hQ fun _ _ x=>x
section
variable {X:Cx}
theorem bin {a b:Expr} {ta tb:TE} (ha:PE X a ta) (hb:PE X b tb) {pins:List (Addr × Obj)} {s:Shared} {σ:St} {H:Hp} {R:V->V->Hp->Prop} (I:Inv X pins σ H s) (h:ta σ H fun x H1=>tb σ H1 fun y H2=>R x y H2)
  {α:Type} {Q:α->Shared->Prop} {f:Value->Value->Sem α}
  (hf:∀ v u s2 x y H2,Inv X pins σ H2 s2->RelV x v->RelV y u->R x y H2->wpAny (model X.prog X.w) X.A (f v u) Q X.xe s2) :
  wpAny (model X.prog X.w) X.A (eval a X.env) (fun v s₁=>wpAny (model X.prog X.w) X.A (eval b X.env) (fun u s₂=>wpAny (model X.prog X.w) X.A (f v u) Q X.xe s₂) X.xe s₁) X.xe s:=by
 refine thn (ha pins s σ H _ I h) fun v s1 ⟨x,H1,I1,r1,q1⟩=>?_
 refine thn (hb pins s1 σ H1 _ I1 q1) fun u s2 ⟨y,H2,I2,r2,q2⟩=>?_
 exact hf v u s2 x y H2 I2 r1 r2 q2
noncomputable def QD (i:Nat):TE:=fun σ H Q=>∃ v,σ[i]?=some (some v)/\Q v H
noncomputable def tC (v:V):TE:=fun _ H Q=>Q v H
theorem FZ {i:Nat} {x:Str} {pos:Pos} (hN:X.N[i]?=some x) (hv:Vis X.env.scope x) (hd:(x==("__debug__" : Str))=false:=by decide) (hcd:(x==("__classdict__" : Str))=false:=by decide):PE X (.Name x pos) (QD i):=by
 intro pins s σ H Q I h
 obtain ⟨v,e,h⟩:=h
 obtain ⟨m,hn,hl⟩:=I.loc
 obtain ⟨u,r,l⟩:=hl i x v hN e hv
 have fin:EP X pins σ Q u s:=⟨v,H,I,r,h⟩
 rcases l with ⟨hk,hm⟩ | ⟨hk,c,hc,hcell⟩
 ·exact wpAny_Name (wpAny_loadName_local I.ok.kind hk hn hm fin) hd
 ·rcases hk with hk | hk
  ·exact wpAny_Name (wpAny_loadName_cell I.ok.kind hk hc hcell fin) hd
  ·exact wpAny_Name (wpAny_loadName_free I.ok.kind hk hc hcell fin hcd) hd
theorem Us {i j pos}:PE X (.Constant (.int i) j pos) (tC (.int i)):=fun _ _ _ H _ I h=>wpAny_Constant_int ⟨.int i,H,I.tok _,⟨_,rfl⟩,h⟩
theorem V3 {b j pos}:PE X (.Constant (.bool b) j pos) (tC (.bl b)):=fun _ _ _ H _ I h=>Constant_bool ⟨.bl b,H,I,rfl,h⟩
theorem Ut {j pos}:PE X (.Constant .none j pos) (tC .non):=fun _ _ _ H _ I h=>Constant_none ⟨.non,H,I,rfl,h⟩
theorem Uu {x j pos}:PE X (.Constant (.str x) j pos) (tC (.str x)):=fun _ _ _ H _ I h=>Calls.Constant_str ⟨.str x,H,I.tok _,⟨_,rfl⟩,h⟩
noncomputable def Gl (X:Cx) (x:Str):Prop:=X.env.kindOf x=some .globalImplicit
theorem JB {E:Value->Shared->Prop} {pins:List (Addr × Obj)} {s:Shared} {σ:St} {H:Hp} {x:Str} {u:Value} {pos:Pos} {Q:Value->Shared->Prop} (I:Inv X pins σ H s) (hg:Gl X x) (hm:X.mg x=some u) (h:Q u s)
  (hd:(x==("__debug__" : Str))=false:=by decide):wpAny (model X.prog X.w) X.A (eval (.Name x pos) X.env) Q E s :=
 Calls.Name_function_global I.ok.kind hg (Calls.loadGlobal_global (by rw [I.ok.glob]; exact I.mod.glob.keeps I.bk) hm h) hd
theorem F0 {E:Value->Shared->Prop} {pins:List (Addr × Obj)} {s:Shared} {σ:St} {H:Hp} {x:Str} {u:Value} {pos:Pos} {Q:Value->Shared->Prop} (I:Inv X pins σ H s) (hg:Gl X x) (hm:X.mg x=none) (hv:bootBuiltins x=some u) (h:Q u s)
  (hn:x ≠ "__name__" := by decide) (hd:(x==("__debug__" : Str))=false:=by decide):wpAny (model X.prog X.w) X.A (eval (.Name x pos) X.env) Q E s:=by
 obtain ⟨mb,h1,h2⟩:=I.mod.blt
 exact Calls.Name_function_global I.ok.kind hg (Calls.loadGlobal_builtin (by rw [I.ok.glob]; exact I.mod.glob.keeps I.bk) hm (by rw [I.ok.blt]; exact h1.keeps I.bk) ((h2 x hn).trans hv) h) hd
theorem MZ {x:Str} {v:V} {u:Value} {pos:Pos} (hg:Gl X x) (hm:X.mg x=some u) (r:RelV v u) (hd:(x==("__debug__" : Str))=false:=by decide):PE X (.Name x pos) (tC v) :=
 fun _ _ _ H _ I h=>JB I hg hm ⟨v,H,I,r,h⟩ hd
theorem SG {x:Str} {v:V} {u:Value} {pos:Pos} (hg:Gl X x) (hm:X.mg x=none) (hv:bootBuiltins x=some u) (r:RelV v u) (hn:x ≠ "__name__" := by decide) (hd:(x==("__debug__" : Str))=false:=by decide):PE X (.Name x pos) (tC v) :=
 fun _ _ _ H _ I h=>F0 I hg hm hv ⟨v,H,I,r,h⟩ hn hd
variable {a b:Expr} {ta tb:TE} {pos:Pos}
noncomputable def PC (X:Cx) (op:CmpOp) (a b:Expr) (t:TE):Prop :=
 ∀ (pins:List (Addr × Obj)) (s:Shared) (σ:St) (H:Hp) (Q:VK),Inv X pins σ H s->t σ H Q ->
  wpAny (model X.prog X.w) X.A (eval a X.env) (fun v s₁=>wpAny (model X.prog X.w) X.A (eval b X.env) (fun u s₂=>wpAny (model X.prog X.w) X.A (compareOp op v u) (EP X pins σ Q) X.xe s₂) X.xe s₁) X.xe s
theorem Ll (b:Expr) {op:CmpOp} (h:op ≠ .In) (h2:op ≠ .NotIn):behindInMarks op b=false:=by
 have e1:(op==CmpOp.In)=false:=by cases op <;> first | rfl | exact absurd rfl h
 have e2:(op==CmpOp.NotIn)=false:=by cases op <;> first | rfl | exact absurd rfl h2
 cases b <;> simp [behindInMarks,e1,e2]
noncomputable def WP (ta:TE):TE:=fun σ H Q=>ta σ H fun x H1=>Q (.bl (decide (x=.non))) H1
noncomputable def V4 (ta:TE):TE:=fun σ H Q=>ta σ H fun x H1=>Q (.bl (!decide (x=.non))) H1
theorem RelV.none_iff {x:V} {v:Value} (r:RelV x v):(v==Value.none)=decide (x=.non):=by
 cases x with
 | non=>cases r; rfl
 | bl _=>cases r; rfl
 | int _=>obtain ⟨t,rfl⟩:=r; rfl
 | str _=>obtain ⟨t,rfl⟩:=r; rfl
 | byt _=>obtain ⟨t,rfl⟩:=r; rfl
 | flt _=>obtain ⟨t,rfl⟩:=r; rfl
 | ref _=>cases r; rfl
 | ty _=>cases r; rfl
theorem OO {j pos'} (ha:PE X a ta):PC X .Is a (.Constant .none j pos') (WP ta):=by
 intro pins s σ H Q I h
 refine thn (ha pins s σ H _ I h) fun v s1 ⟨x,H1,I1,r1,q1⟩=>?_
 exact Constant_none (is_none_gen ⟨.bl _,H1,I1,by rw [r1.none_iff]; rfl,q1⟩)
theorem M0 {j pos'} (ha:PE X a ta):PC X .IsNot a (.Constant .none j pos') (V4 ta):=by
 intro pins s σ H Q I h
 refine thn (ha pins s σ H _ I h) fun v s1 ⟨x,H1,I1,r1,q1⟩=>?_
 exact Constant_none (isnot_none_gen ⟨.bl _,H1,I1,by rw [r1.none_iff]; rfl,q1⟩)
noncomputable def tB (t:TE):TT:=fun σ H Q=>t σ H fun x H1=>∃ c,x=.bl c/\Q c H1
theorem OP {op:CmpOp} {t:TE} (h:PC X op a b t) (h1:behindInMarks op b=false:=by first | exact Ll _ (by decide) (by decide) | rfl):PE X (.Compare a [op] [b] pos) t:=fun pins s σ H Q I hw=>wpAny_Compare1 (h pins s σ H Q I hw) h1
theorem OQ {op:CmpOp} {t:TE} (h:PC X op a b t) (h1:behindInMarks op b=false:=by first | exact Ll _ (by decide) (by decide) | rfl):PT X (.Compare a [op] [b] pos) (tB t):=by
 intro pins s σ H Q I hw
 refine wpAny_isTrue_Compare1 (thn (h pins s σ H _ I hw) fun v s1 h1=>thn h1 fun u s2 h2=>thn h2 fun c s3 ⟨x,H1,I1,r1,q1⟩=>?_) h1
 obtain ⟨d,rfl,q⟩:=q1
 cases r1
 exact wpAny_truthy_bool ⟨H1,I1,q⟩
variable {tA tB':TT} {rest:List Expr}
noncomputable def WQ (t u:TT):TT:=fun σ H Q=>t σ H fun c H1=>if c=true then u σ H1 Q else Q false H1
noncomputable def tOr (t u:TT):TT:=fun σ H Q=>t σ H fun c H1=>if c=true then Q true H1 else u σ H1 Q
noncomputable def WR (t:TT):TT:=fun σ H Q=>t σ H fun c H1=>Q (!c) H1
theorem SH (ha:PT X a tA):PW X (.BoolOp .And [a] pos) tA:=by
 intro wh pins s σ H Q I h
 refine isTrue_and (thn (ha pins s σ H Q I h) fun c s1 e=>?_)
 cases c with
 | true=>exact isTrue_and_nil e
 | false=>exact e
theorem Uv (ha:PT X a tA):PW X (.BoolOp .Or [a] pos) tA:=by
 intro wh pins s σ H Q I h
 refine isTrue_or (thn (ha pins s σ H Q I h) fun c s1 e=>?_)
 cases c with
 | false=>exact isTrue_or_nil e
 | true=>exact e
theorem Uw (ha:PT X a tA) (hb:PW X (.BoolOp .And (b :: rest) pos) tB'):PW X (.BoolOp .And (a :: b :: rest) pos) (WQ tA tB'):=by
 intro wh pins s σ H Q I h
 refine isTrue_and (thn (ha pins s σ H _ I h) fun c s1 ⟨H1,I1,q1⟩=>?_)
 cases c with
 | true=>exact hb wh pins s1 σ H1 Q I1 q1
 | false=>exact ⟨H1,I1,q1⟩
theorem V5 (ha:PT X a tA) (hb:PW X (.BoolOp .Or (b :: rest) pos) tB'):PW X (.BoolOp .Or (a :: b :: rest) pos) (tOr tA tB'):=by
 intro wh pins s σ H Q I h
 refine isTrue_or (thn (ha pins s σ H _ I h) fun c s1 ⟨H1,I1,q1⟩=>?_)
 cases c with
 | true=>exact ⟨H1,I1,q1⟩
 | false=>exact hb wh pins s1 σ H1 Q I1 q1
theorem Ux (ha:PT X a tA):PT X (.UnaryOp .Not a pos) (WR tA):=by
 intro pins s σ H Q I h
 exact isTrue_not (ha pins s σ H (fun c H1=>Q (!c) H1) I h)
noncomputable def V6 (ta tb:TE):TE:=fun σ H Q=>ta σ H fun x H1=>∃ c,x=.bl c/\if c=true then tb σ H1 Q else Q (.bl false) H1
noncomputable def WS (ta tb:TE):TE:=fun σ H Q=>ta σ H fun x H1=>∃ c,x=.bl c/\if c=true then Q (.bl true) H1 else tb σ H1 Q
noncomputable def V7 (ta:TE):TE:=fun σ H Q=>ta σ H fun x H1=>∃ c,x=.bl c/\Q (.bl (!c)) H1
theorem Uy {op} {t:TE} (h:PE X a t):PE X (.BoolOp op [a] pos) t:=fun pins s σ H Q I hw=>BoolOp_one (h pins s σ H Q I hw)
theorem Uz (ha:PE X a ta) (hb:PE X (.BoolOp .And (b :: rest) pos) tb):PE X (.BoolOp .And (a :: b :: rest) pos) (V6 ta tb):=by
 intro pins s σ H Q I h
 refine BoolOp_and (thn (ha pins s σ H _ I h) fun v s1 ⟨x,H1,I1,r1,q1⟩=>?_)
 obtain ⟨c,rfl,q1⟩:=q1
 cases r1
 refine wpAny_truthy_bool ?_
 cases c with
 | true=>exact hb pins s1 σ H1 Q I1 q1
 | false=>exact ⟨.bl false,H1,I1,rfl,q1⟩
theorem V8 (ha:PE X a ta) (hb:PE X (.BoolOp .Or (b :: rest) pos) tb):PE X (.BoolOp .Or (a :: b :: rest) pos) (WS ta tb):=by
 intro pins s σ H Q I h
 refine BoolOp_or (thn (ha pins s σ H _ I h) fun v s1 ⟨x,H1,I1,r1,q1⟩=>?_)
 obtain ⟨c,rfl,q1⟩:=q1
 cases r1
 refine wpAny_truthy_bool ?_
 cases c with
 | false=>exact hb pins s1 σ H1 Q I1 q1
 | true=>exact ⟨.bl true,H1,I1,rfl,q1⟩
theorem UA (ha:PE X a ta):PE X (.UnaryOp .Not a pos) (V7 ta):=by
 intro pins s σ H Q I h
 refine UnaryOp_ (thn (ha pins s σ H _ I h) fun v s1 ⟨x,H1,I1,r1,q1⟩=>?_)
 obtain ⟨c,rfl,q1⟩:=q1
 cases r1
 exact not_of (wpAny_truthy_bool ⟨.bl (!c),H1,I1,rfl,q1⟩)
end
noncomputable def SqL (K:PySem.W.Frag) (H:Hp) (a:Addr) (xs:List V):Prop :=
 Rd H a (.lst xs) \/
  ∃ (o:Obj) (its:Array Value) (n:Nat),K.lookup a=some o/\o.cls=.type "list" /\ o.dict=none/\o.data=.seq its n/\its.size<=sizeLine/\Vals xs its.toList
noncomputable def SqT (K:PySem.W.Frag) (H:Hp) (a:Addr) (xs:List V):Prop :=
 Rd H a (.tup xs) \/
  ∃ (o:Obj) (its:Array Value) (n:Nat),K.lookup a=some o/\o.cls=.type "tuple" /\ o.data=.seq its n/\its.size<=sizeLine/\Vals xs its.toList
noncomputable def WT:Value->Option V
 | .none=>some .non
 | .bool b=>some (.bl b)
 | .int i _=>some (.int i)
 | .str x _=>some (.str x)
 | .bytes b _=>some (.byt b)
 | .float b _=>some (.flt b)
 | .ref a=>some (.ref a)
 | .type n=>some (.ty n)
 | _=>none
theorem RelV.abs {x:V} {u:Value} (r:RelV x u):WT u=some x:=by
 cases x with
 | non=>cases r; rfl
 | bl _=>cases r; rfl
 | int _=>obtain ⟨t,rfl⟩:=r; rfl
 | str _=>obtain ⟨t,rfl⟩:=r; rfl
 | byt _=>obtain ⟨t,rfl⟩:=r; rfl
 | flt _=>obtain ⟨t,rfl⟩:=r; rfl
 | ref _=>cases r; rfl
 | ty _=>cases r; rfl
theorem RelV.inj {x y:V} {u:Value} (r:RelV x u) (q:RelV y u):x=y:=Option.some.inj (r.abs.symm.trans q.abs)
theorem Vals.inj:∀ {xs ys:List V} {us:List Value},Vals xs us->Vals ys us->xs=ys
 | _,_,_,.nil,.nil=>rfl
 | _,_,_,.cons r t,.cons r' t'=>by rw [r.inj r',Vals.inj t t']
section
variable {X:Cx} {pins:List (Addr × Obj)} {σ:St} {H:Hp} {s:Shared} {a:Addr} {xs ys:List V}
theorem SqL.of {K:PySem.W.Frag} (h:H a=some (.lst xs)):SqL K H a xs:=.inl (.inl h)
theorem SqT.of {K:PySem.W.Frag} (h:H a=some (.tup xs)):SqT K H a xs:=.inl (.inl h)
theorem Inv.list (I:Inv X pins σ H s) (h:SqL X.K H a xs):∃ its:List Value,Vals xs its/\PlainL s.heap a its.toArray/\xs.length<=sizeLine:=by
 rcases h with h | ⟨o,its,n,hk,hc,hd,hs,hz,r⟩
 ·obtain ⟨z,its,n,r,e⟩:=h.ok I.hok
  exact ⟨its,r,⟨_,n,e,rfl,rfl,rfl⟩,z⟩
 ·refine ⟨its.toList,r,⟨o,n,I.kIn a o hk,hc,hd,by simpa using hs⟩,?_⟩
  have e:=r.length
  simp only [Array.length_toList] at e
  omega
theorem Inv.tuple (I:Inv X pins σ H s) (h:SqT X.K H a xs):∃ its:List Value,Vals xs its/\IsTup s.heap a its.toArray/\xs.length<=sizeLine:=by
 rcases h with h | ⟨o,its,n,hk,hc,hs,hz,r⟩
 ·obtain ⟨z,its,r,p⟩:=h.ok I.hok
  exact ⟨its,r,p,z⟩
 ·refine ⟨its.toList,r,⟨o,I.kIn a o hk,hc,n,by simpa using hs⟩,?_⟩
  have e:=r.length
  simp only [Array.length_toList] at e
  omega
theorem Inv.list_inj (I:Inv X pins σ H s) (h:SqL X.K H a xs) (h':SqL X.K H a ys):xs=ys:=by
 obtain ⟨its,r,⟨o,n,e,_,_,d⟩,_⟩:=I.list h
 obtain ⟨its',r',⟨o',n',e',_,_,d'⟩,_⟩:=I.list h'
 rw [e] at e'; cases e'
 rw [d] at d'
 injection d' with d1 _
 have:its=its':=by simpa using congrArg Array.toList d1
 subst this
 exact r.inj r'
theorem Inv.tuple_inj (I:Inv X pins σ H s) (h:SqT X.K H a xs) (h':SqT X.K H a ys):xs=ys:=by
 obtain ⟨its,r,⟨o,e,_,n,d⟩,_⟩:=I.tuple h
 obtain ⟨its',r',⟨o',e',_,n',d'⟩,_⟩:=I.tuple h'
 rw [e] at e'; cases e'
 rw [d] at d'
 injection d' with d1 _
 have:its=its':=by simpa using congrArg Array.toList d1
 subst this
 exact r.inj r'
end
section
variable {X:Cx} {st:Stmt} {rest:List Stmt} {t u:TS} {e:Expr} {te:TE} {pos:Pos}
noncomputable def V9:TS:=fun D σ H=>D.nx σ H
noncomputable def WU (t u:TS):TS:=fun D σ H=>t { D with nx:=u D } σ H
theorem SI:PSs X [] V9:=fun _ _ σ H _ I h=>wpAny_execs_nil ⟨σ,H,I,h⟩
theorem QE (h1:PS X st t) (h2:PSs X rest u):PSs X (st :: rest) (WU t u):=by
 intro pins s σ H D I h
 refine wpAny_execs_cons (thn (h1 pins s σ H { D with nx:=u D } I h) fun f s1 q=>?_)
 cases f with
 | next =>
  obtain ⟨σ',H',I',q⟩:=q
  exact h2 pins s1 σ' H' D I' q
 | ret v=>exact q
 | brk=>exact q
 | cont=>exact q
theorem Inv.quiet {pins:List (Addr × Obj)} {σ:St} {H:Hp} {s:Shared} (I:Inv X pins σ H s):interactive X.env=false:=by simp [interactive,I.ok.kind]
noncomputable def Si (te:TE):TS:=fun D σ H=>te σ H fun _ H1=>D.nx σ H1
theorem C4 (he:PE X e te) (hs:swapsWith e none pos.line X.env=pure false:=by rfl):PS X (.Expr e pos) (Si te):=by
 intro pins s σ H D I h
 exact wpAny_Expr_any (thn (he pins s σ H _ I h) fun v s1 ⟨x,H1,I1,r1,q1⟩=>⟨σ,H1,I1,q1⟩) I.quiet hs
noncomputable def WV (te:TE):TS:=fun D σ H=>te σ H D.rt
theorem Lm (he:PE X e te):PS X (.Return (some e) pos) (WV te):=by
 intro pins s σ H D I h
 exact wpAny_Return_some (thn (he pins s σ H _ I h) fun v s1 ⟨x,H1,I1,r1,q1⟩=>⟨x,σ,H1,I1,r1,q1⟩)
noncomputable def UB (c:TT) (t u:TS):TS:=fun D σ H=>c σ H fun b H1=>if b=true then t D σ H1 else u D σ H1
theorem Wa {c:Expr} {a b:List Stmt} {tc:TT} (hc:PT X c tc) (ha:PSs X a t) (hb:PSs X b u):PS X (.If c a b pos) (UB tc t u):=by
 intro pins s σ H D I h
 refine wpAny_If (thn (hc pins s σ H _ I h) fun d s1 ⟨H1,I1,q1⟩=>?_)
 cases d with
 | true=>exact ha pins s1 σ H1 D I1 q1
 | false=>exact hb pins s1 σ H1 D I1 q1
end
noncomputable abbrev TG:=V->St->Hp->(St->Hp->Prop)->Prop
noncomputable abbrev TGs:=List V->St->Hp->(St->Hp->Prop)->Prop
noncomputable def PG (X:Cx) (target:Expr) (t:TG):Prop :=
 ∀ (pins:List (Addr × Obj)) (s:Shared) (σ:St) (H:Hp) (v:V) (u:Value) (Q:St->Hp->Prop),Inv X pins σ H s->RelV v u->t v σ H Q ->
  wpAny (model X.prog X.w) X.A (assign target X.env u) (fun _ s'=>∃ σ' H',Inv X pins σ' H' s'/\Q σ' H') X.xe s
noncomputable def PGs (X:Cx) (ts:List Expr) (t:TGs):Prop :=
 ∀ (pins:List (Addr × Obj)) (s:Shared) (σ:St) (H:Hp) (vs:List V) (us:List Value) (Q:St->Hp->Prop),Inv X pins σ H s->Vals vs us->t vs σ H Q ->
  wpAny (model X.prog X.w) X.A (assignInOrder ((assignEach ts X.env).map (·.2)) us) (fun _ s'=>∃ σ' H',Inv X pins σ' H' s'/\Q σ' H') X.xe s
section
variable {X:Cx} {pos:Pos}
noncomputable def Fy (i:Nat):TG:=fun v σ H Q=>Q (σ.set i (some v)) H
theorem M1 {i:Nat} {x:Str} (hN:X.N.Nodup) (hi:X.N[i]?=some x) (hx:Loc X.env.scope x) (hf:X.fn x=true\/X.env.scope.names.lookup x=some .local:=by first | exact .inl rfl | exact .inr rfl | assumption):PG X (.Name x pos) (Fy i):=by
 intro pins s σ H v u Q I r h
 exact wpAny_assign_Name (Lk I hN hi hx r (fun s' I'=>⟨_,H,I',h⟩) hf)
noncomputable def UC:TGs:=fun vs σ H Q=>vs=[]/\Q σ H
noncomputable def Sj (t:TG) (u:TGs):TGs:=fun vs σ H Q=>∃ v r,vs=v :: r/\t v σ H fun σ' H'=>u r σ' H' Q
theorem SJ:PGs X [] UC:=by
 intro pins s σ H vs us Q I r h
 obtain ⟨e,h⟩:=h
 subst e
 cases r
 exact assignInOrder_nil ⟨σ,H,I,h⟩
theorem QF {e:Expr} {es:List Expr} {t:TG} {u:TGs} (h1:PG X e t) (h2:PGs X es u)
  (hs:(assignEach (e :: es) X.env).map (·.2)=assign e X.env :: (assignEach es X.env).map (·.2):=by rfl):PGs X (e :: es) (Sj t u):=by
 intro pins s σ H vs us Q I r h
 obtain ⟨v,vr,e1,h⟩:=h
 subst e1
 cases r with
 | cons r rr =>
  rw [hs]
  refine assignInOrder_cons (thn (h1 pins s σ H _ _ _ I r h) fun _ s1 ⟨σ1,H1,I1,q1⟩=>?_)
  exact h2 pins s1 σ1 H1 _ _ Q I1 rr q1
noncomputable def UD (K:PySem.W.Frag) (n:Nat) (t:TGs):TG:=fun v σ H Q=>∃ a xs,v=.ref a/\SqT K H a xs/\xs.length=n/\t xs σ H Q
theorem UE {es:List Expr} {k:Nat} {t:TGs} {n:Nat} (hc:X.calm=true) (h:PGs X es t)
  (hn:(assignEach es X.env).length=n:=by rfl) (hst:(assignEach es X.env).findIdx? (·.1)=none:=by rfl):PG X (.Tuple es k pos) (UD X.K n t):=by
 intro pins s σ H v u Q I r hw
 obtain ⟨a,xs,e1,hq,hl,hw⟩:=hw
 subst e1
 cases r
 obtain ⟨its,rv,ht,hz⟩:=I.tuple hq
 refine assign_Tuple_tuple (I.ok.hd hc) ht (by simp [hn,<- hl,rv.length]) hst fun h' hx=>?_
 have I1:Inv X pins σ H { s with heap:=h' }:=I.kept (t':=s.toks) fun b o e=>hx b o (aaC (Heap.lt_size e)) e
 exact h pins _ σ H xs _ Q I1 (by simpa using rv) hw
noncomputable def HM (te:TE) (g:TG):TS:=fun D σ H=>te σ H fun x H1=>g x σ H1 D.nx
theorem UF {tg e:Expr} {te:TE} {g:TG} (he:PE X e te) (hg:PG X tg g) (hs:swapsWithSole [tg] e pos.line X.env=pure false:=by rfl) (hw:swappedStores [tg] e X.env=pure none:=by rfl)
  (h1:(assignEach [tg] X.env).map (·.2)=[assign tg X.env]:=by rfl):PS X (.Assign [tg] e pos) (HM te g):=by
 intro pins s σ H D I h
 refine wpAny_Assign_stores (thn (he pins s σ H _ I h) fun v s1 ⟨x,H1,I1,r1,q1⟩=>?_) hs hw
 rw [h1]
 exact thn (hg pins s1 σ H1 x v _ I1 r1 q1) fun _ s2 q=>q
theorem OR {i:Nat} {x:Str} {e:Expr} {te:TE} {pos':Pos} (hN:X.N.Nodup) (hi:X.N[i]?=some x) (hx:Loc X.env.scope x) (he:PE X e te) (hs:swapsWith e (some (.Name x pos')) pos.line X.env=pure false:=by rfl) (hf:X.fn x=true\/X.env.scope.names.lookup x=some .local:=by first | exact .inl rfl | exact .inr rfl | assumption) :
  PS X (.Assign [.Name x pos'] e pos) (HM te (Fy i)):=by
 intro pins s σ H D I h
 refine wpAny_Assign_Name (thn (he pins s σ H _ I h) fun v s1 ⟨y,H1,I1,r1,q1⟩=>?_) hs
 exact Lk I1 hN hi hx r1 (fun s2 I2=>⟨_,H1,I2,q1⟩) hf
end
section
variable {X:Cx} {pos:Pos}
noncomputable def OS (c:TT) (tb:TS):TS:=fun D σ H=>∃ W:Nat->St->Hp->Prop,(∃ m,W m σ H)/\∀ m σ H,W m σ H ->
 c σ H fun b H1=>if b=true then ∃ N:St->Hp->Prop,(∀ σ' H',N σ' H'->∃ m',m' < m/\W m' σ' H')/\tb { D with nx:=N,ct:=N,bk:=D.nx } σ H1 else D.nx σ H1
theorem QG {c:Expr} {body:List Stmt} {tc:TT} {tb:TS} (hp:PassesOwn (model X.prog X.w) X.A X.env X.xe) (hc:PT X c tc) (hb:PSs X body tb):PS X (.While c body [] pos) (OS tc tb):=by
 intro pins s σ H D I h
 obtain ⟨W,⟨m0,w0⟩,turn⟩:=h
 refine wpAny_While (codeAny_whileLoop (fun n s'=>∃ σ' H',Inv X pins σ' H' s'/\W n σ' H') ?_ m0 ⟨σ,H,I,w0⟩)
 rintro n s1 ⟨σ1,H1,I1,w1⟩
 refine wpAny_passesOwn hp (thn (hc pins s1 σ1 H1 _ I1 (turn n σ1 H1 w1)) fun b s2 ⟨H2,I2,q2⟩=>?_)
 cases b with
 | true =>
  obtain ⟨N,hN,q2⟩:=q2
  rw [if_pos rfl]
  refine wpAny_passesOwn hp (thn (hb pins s2 σ1 H2 _ I2 q2) fun f s3 q3=>?_)
  cases f with
  | next =>
   obtain ⟨σ3,H3,I3,n3⟩:=q3
   obtain ⟨m',hm,w3⟩:=hN σ3 H3 n3
   exact ⟨m',hm,σ3,H3,I3,w3⟩
  | cont =>
   obtain ⟨σ3,H3,I3,n3⟩:=q3
   obtain ⟨m',hm,w3⟩:=hN σ3 H3 n3
   exact ⟨m',hm,σ3,H3,I3,w3⟩
  | brk=>exact q3
  | ret v=>exact q3
 | false =>
  rw [if_neg aaU]
  exact wpAny_execs_nil ⟨σ1,H2,I2,q2⟩
end
structure It where
 go:Nat->Hp->Prop
 yld:Nat->Hp->V->Hp->Prop
 stop:Nat->Hp->Prop
noncomputable def GG (X:Cx) (pins:List (Addr × Obj)) (H:Hp) (b:Addr):Prop :=
 H b=none/\b ≠ X.env.locals/\b ∉ X.fs/\(b ∈ X.ex\/X.s₀.heap.objs.size<=b)/\(∀ x c,X.env.cells.lookup x=some c->c ≠ b)/\∀ p ∈ X.pn ++ pins,p.1 ≠ b
theorem Inv.fpOk {X:Cx} {pins:List (Addr × Obj)} {σ:St} {H H':Hp} {s:Shared} {b:Addr} (I:Inv X pins σ H s) (hb:s.heap.objs.size<=b) (hn:H' b=none):GG X pins H' b:=by
 refine ⟨hn,acQ (aay I.lt hb),I.nofs hb,.inr (aaK I.sz hb),fun x c e z=>?_,fun p hp z=>?_⟩
 ·obtain ⟨v,q⟩:=I.cell x c e
  exact absurd (aay q.lt (by rw [z]; exact hb)) (aaT _)
 ·exact absurd (aay (Heap.lt_size (I.pin p hp).1) (by rw [z]; exact hb)) (aaT _)
structure Turn (P:Program) (w:World) (K:PySem.W.Frag) (tg:Expr) (J:It) (fp:List Addr) (it:Addr) (tn:Nat->Heap->Prop):Prop where
 mem:it ∈ fp
 obj:∀ i h,tn i h->∀ b ∈ fp,∃ o,h.get? b=some o/\∀ v,o.data ≠ .cell v
 keep:∀ i h h',tn i h->(∀ b ∈ fp,∀ o,h.get? b=some o->h'.get? b=some o)->tn i h'
 item:∀ (X:Cx),X.prog=P->X.w=w->X.K=K->X.calm=true->∀ (i:Nat) (pins:List (Addr × Obj)) (s:Shared) (σ:St) (H:Hp) (E:Value->Shared->Prop),Inv X pins σ H s->(∀ b ∈ fp,GG X pins H b)->tn i s.heap->J.go i H ->
  wpAny (model P w) X.A (pyNext (.ref it)) (fun r s1=>∃ u,r=some u /\
   wpAny (model P w) X.A (letOwnedTupleGo tg (.ref it) u) (fun _ s2=>∃ x H',Inv X pins σ H' s2/\RelV x u/\J.yld i H x H'/\tn (i + 1) s2.heap/\∀ b ∈ fp,H' b=none) E s1) E s
 done:∀ (X:Cx),X.prog=P->X.w=w->X.K=K->X.calm=true->∀ (i:Nat) (pins:List (Addr × Obj)) (s:Shared) (σ:St) (H:Hp) (E:Value->Shared->Prop),Inv X pins σ H s->(∀ b ∈ fp,GG X pins H b)->tn i s.heap->J.stop i H ->
  wpAny (model P w) X.A (pyNext (.ref it)) (fun r s1=>r=none/\Inv X pins σ H s1) E s
 self:∀ (A:Around) (i:Nat) (s:Shared) (Q:Value->Shared->Prop) (E:Value->Shared->Prop),tn i s.heap->Q (.ref it) s->wpAny (model P w) A (pyIter (.ref it)) Q E s
noncomputable abbrev TI:=St->Hp->(It->Hp->Prop)->Prop
noncomputable def PIE (X:Cx) (pins:List (Addr × Obj)) (σ:St) (tg:Expr) (R:It->Hp->Prop) (itv:Value) (s2:Shared):Prop :=
 ∃ (it:Addr) (fp:List Addr) (tn:Nat->Heap->Prop) (J:It) (H':Hp),itv=.ref it/\Inv X pins σ H' s2/\Turn X.prog X.w X.K tg J fp it tn/\tn 0 s2.heap/\(∀ b ∈ fp,GG X pins H' b)/\R J H'
noncomputable def PI (X:Cx) (tg iter:Expr) (wi:TI):Prop :=
 ∀ (pins:List (Addr × Obj)) (s:Shared) (σ:St) (H:Hp) (R:It->Hp->Prop),Inv X pins σ H s->wi σ H R ->
  wpAny (model X.prog X.w) X.A (eval iter X.env) (fun v s1=>wpAny (model X.prog X.w) X.A (pyIter v) (PIE X pins σ tg R) X.xe s1) X.xe s
theorem K9 {M:Model} {A:Around} {E:Value->Shared->Prop} {s:Shared} {tg:Expr} {it:Addr} {u:Value} {o:Obj} {n:String} {vs:Array Value} {Q:Unit->Shared->Prop} (ho:s.heap.get? it=some o) (hc:o.cls=.type n) (hd:o.data=.fields vs)
  (hn:["enumerate", "zip", "dict_itemiterator", "dict_reverseitemiterator", "odict_iterator", "itertools.zip_longest", "itertools.pairwise"].contains n=false) (hQ:Q () s):wpAny M A (letOwnedTupleGo tg (.ref it) u) Q E s:=by
 unfold letOwnedTupleGo
 cases tg <;> first
  | exact wpAny_pure hQ
  | (cases u <;> first
    | exact wpAny_pure hQ
    | (refine wpAny_bind (wpAny_load ho ?_)
       rw [hc,hd]
       show wpAny M A (if (["enumerate", "zip", "dict_itemiterator", "dict_reverseitemiterator", "odict_iterator", "itertools.zip_longest", "itertools.pairwise"].contains n && vs[0]?==some (rawInt _))=true then _ else _) Q E s
       rw [if_neg (by intro h; rw [hn,abi] at h; cases h)]
       exact wpAny_pure hQ))
noncomputable def Itl (K:PySem.W.Frag) (a:Addr):It :=
 ⟨fun i H=>∃ xs x,SqL K H a xs/\xs[i]?=some x,fun i H x H'=>H'=H/\∀ xs,SqL K H a xs->xs[i]?=some x,fun i H=>∃ xs,SqL K H a xs/\xs.length<=i⟩
noncomputable def Itt (K:PySem.W.Frag) (a:Addr):It :=
 ⟨fun i H=>∃ xs x,SqT K H a xs/\xs[i]?=some x,fun i H x H'=>H'=H/\∀ xs,SqT K H a xs->xs[i]?=some x,fun i H=>∃ xs,SqT K H a xs/\xs.length<=i⟩
noncomputable def Itr (lo:Int) (n:Nat):It:=⟨fun i _=>i < n,fun i H x H'=>H'=H/\x=.int (lo + i),fun i _=>n<=i⟩
theorem OT {P:Program} {w:World} {K:PySem.W.Frag} {tg:Expr} (a it:Addr):Turn P w K tg (Itl K a) [it] it (fun i h=>h.IsListIter it a i) where
 mem:=by simp
 obj:=fun i h st b hb=>by
  have e:b=it:=by simpa using hb
  subst e
  obtain ⟨o,e,c,d⟩:=st
  exact ⟨o,e,fun v z=>by rw [d] at z; cases z⟩
 keep:=fun i h h' st k=>st.at fun o e=>k it (by simp) o e
 item:=by
  intro X hP hw hK hc i pins s σ H E I hf st hg
  subst hP hw hK
  obtain ⟨xs,x,hq,hx⟩:=hg
  obtain ⟨its,rv,p,hz⟩:=I.list hq
  obtain ⟨u,hu,ru⟩:=rv.get hx
  obtain ⟨f0,f1,f2,f3,f4,f5⟩:=hf it (by simp)
  refine wpAny_pyNext_list_item st p.isList (x:=u) (by simpa using hu) fun h' st' sb=>?_
  have I1:Inv X pins σ H { s with heap:=h' }:=I.turned (t':=s.toks) (fun b o hb e=>(sb.2 b hb).trans e) f0 f1 f3 f4 f5
  obtain ⟨o,e,c,d⟩:=id st'
  exact ⟨u,rfl,K9 (s:={ s with heap:=h' }) e c d (by decide) ⟨x,H,I1,ru,⟨rfl,fun ys hy=>by rw [I.list_inj hy hq]; exact hx⟩,st',fun b hb=>(hf b hb).1⟩⟩
 done:=by
  intro X hP hw hK hc i pins s σ H E I hf st hg
  subst hP hw hK
  obtain ⟨xs,hq,hx⟩:=hg
  obtain ⟨its,rv,p,hz⟩:=I.list hq
  obtain ⟨f0,f1,f2,f3,f4,f5⟩:=hf it (by simp)
  have hl:=rv.length
  exact wpAny_pyNext_list_end (I.ok.hd hc) st p.isList (by simp; omega) fun h' eb=>⟨rfl,I.turned (t':=s.toks) (fun b o hb e=>eb b o hb e) f0 f1 f3 f4 f5⟩
 self:=fun _ _ _ _ _ st h=>wpAny_pyIter_listiter st h
theorem NS {P:Program} {w:World} {K:PySem.W.Frag} {tg:Expr} (a it:Addr):Turn P w K tg (Itt K a) [it] it (fun i h=>h.IsTupleIter it a i) where
 mem:=by simp
 obj:=fun i h st b hb=>by
  have e:b=it:=by simpa using hb
  subst e
  obtain ⟨o,e,c,d⟩:=st
  exact ⟨o,e,fun v z=>by rw [d] at z; cases z⟩
 keep:=fun i h h' st k=>st.at fun o e=>k it (by simp) o e
 item:=by
  intro X hP hw hK hc i pins s σ H E I hf st hg
  subst hP hw hK
  obtain ⟨xs,x,hq,hx⟩:=hg
  obtain ⟨its,rv,p,hz⟩:=I.tuple hq
  obtain ⟨u,hu,ru⟩:=rv.get hx
  obtain ⟨f0,f1,f2,f3,f4,f5⟩:=hf it (by simp)
  refine wpAny_pyNext_tuple_item st (show s.heap.IsTuple a its.toArray from p) (x:=u) (by simpa using hu) fun h' st' sb=>?_
  have I1:Inv X pins σ H { s with heap:=h' }:=I.turned (t':=s.toks) (fun b o hb e=>(sb.2 b hb).trans e) f0 f1 f3 f4 f5
  obtain ⟨o,e,c,d⟩:=id st'
  exact ⟨u,rfl,K9 (s:={ s with heap:=h' }) e c d (by decide) ⟨x,H,I1,ru,⟨rfl,fun ys hy=>by rw [I.tuple_inj hy hq]; exact hx⟩,st',fun b hb=>(hf b hb).1⟩⟩
 done:=by
  intro X hP hw hK hc i pins s σ H E I hf st hg
  subst hP hw hK
  obtain ⟨xs,hq,hx⟩:=hg
  obtain ⟨its,rv,p,hz⟩:=I.tuple hq
  obtain ⟨f0,f1,f2,f3,f4,f5⟩:=hf it (by simp)
  have hl:=rv.length
  exact wpAny_pyNext_tuple_end (I.ok.hd hc) st (show s.heap.IsTuple a its.toArray from p) (by simp; omega) fun h' eb=>⟨rfl,I.turned (t':=s.toks) (fun b o hb e=>eb b o hb e) f0 f1 f3 f4 f5⟩
 self:=fun _ _ _ _ _ st h=>wpAny_pyIter_tupleiter st h
theorem NT {P:Program} {w:World} {K:PySem.W.Frag} {tg:Expr} (it:Addr) (lo:Int) (n:Nat):Turn P w K tg (Itr lo n) [it] it (fun i h=>IsRangeIter h it (lo + (i:Nat) * 1) ((n:Int) - (i:Nat)) 1) where
 mem:=by simp
 obj:=fun i h st b hb=>by
  have e:b=it:=by simpa using hb
  subst e
  exact ⟨_,st,fun v z=>by
   have z':Data.fields _=Data.cell v:=z
   cases z'⟩
 keep:=fun i h h' st k=>k it (by simp) _ st
 item:=by
  intro X hP hw hK hc i pins s σ H E I hf st hg
  subst hP hw hK
  obtain ⟨f0,f1,f2,f3,f4,f5⟩:=hf it (by simp)
  have W:=Walks.range (prog:=X.prog) (w:=X.w) (I.ok.hd hc) it lo 1 n
  refine W.item i s _ _ hg st fun v h' tk hv st' kk=>?_
  obtain ⟨t,rfl⟩:=hv
  have I1:Inv X pins σ H { s with heap:=h',toks:=tk }:=I.turned (fun b o hb e=>kk b o (by simpa using hb) e) f0 f1 f3 f4 f5
  refine ⟨_,rfl,K9 (s:={ s with heap:=h',toks:=tk }) (n := "range_iterator") st' rfl rfl (by decide) ⟨.int (lo + i),H,I1,⟨t,?_⟩,⟨rfl,rfl⟩,st',fun b hb=>(hf b hb).1⟩⟩
  rw [Int.mul_one]
 done:=by
  intro X hP hw hK hc i pins s σ H E I hf st hg
  subst hP hw hK
  obtain ⟨f0,f1,f2,f3,f4,f5⟩:=hf it (by simp)
  exact wpAny_pyNext_range_end (I.ok.hd hc) st (by have:n<=i:=hg; omega) fun h' eb=>⟨rfl,I.turned (t':=s.toks) (fun b o hb e=>eb b o hb e) f0 f1 f3 f4 f5⟩
 self:=fun _ _ _ _ _ st h=>wpAny_pyIter_rangeiter st h
section
variable {X:Cx} {tg:Expr}
theorem Ln {pins:List (Addr × Obj)} {σ:St} {H:Hp} {s:Shared} {R:It->Hp->Prop} {E:Value->Shared->Prop} {lo hi:Int} {t u v:Tok} {tk:Nat} (I:Inv X pins σ H s) (h1:-(2 ^ 62)<=lo) (h2:lo < 2 ^ 62) (h3:-(2 ^ 62)<=hi) (h4:hi < 2 ^ 62)
  (q:R (Itr lo (hi - lo).toNat) H):wpAny (model X.prog X.w) X.A (pyIter (.ref s.heap.objs.size)) (PIE X pins σ tg R) E { s with heap:=s.heap.push { cls:=.type "range",data:=.fields #[.int lo t,.int hi u,.int 1 v] },toks:=tk }:=by
 refine wpAny_pyIter_range (IsRange.new ..) (small_one h1 h2 h3 h4) ?_
 have I1:Inv X pins σ H { s with heap:=s.heap.push { cls:=.type "range",data:=.fields #[.int lo t,.int hi u,.int 1 v] },toks:=tk }:=I.kept fun b o e=>Heap.get?_push_of_some _ e
 refine ⟨(s.heap.push { cls:=.type "range",data:=.fields #[.int lo t,.int hi u,.int 1 v] }).objs.size,[(s.heap.push { cls:=.type "range",data:=.fields #[.int lo t,.int hi u,.int 1 v] }).objs.size],_,_,H,rfl,
  I1.kept (t':=tk) fun b o e=>Heap.get?_push_of_some _ e,NT _ lo (hi - lo).toNat,?_,fun b hb=>?_,q⟩
 ·have e1:lo + ((0:Nat):Int) * 1=lo:=by simp
  have e2:(((hi - lo).toNat:Nat):Int) - ((0:Nat):Int)=Builtin.Range.rangeSize lo hi 1:=by rw [rangeSize_one]; split <;> omega
  show IsRangeIter _ _ (lo + ((0:Nat):Int) * 1) ((((hi - lo).toNat:Nat):Int) - ((0:Nat):Int)) 1
  rw [e1,e2]
  exact Heap.get?_push_size _ rfl
 ·have e:b=(s.heap.push { cls:=.type "range",data:=.fields #[.int lo t,.int hi u,.int 1 v] }).objs.size:=by simpa using hb
  subst e
  exact I1.fpOk (aaj _) (I1.hok.fresh (aaj _))
noncomputable def Wb (ta:TA):TI:=fun σ H R=>ta σ H fun vs H1=>∃ j:Int,vs=[.int j]/\-(2 ^ 62)<=j/\j < 2 ^ 62/\R (Itr 0 j.toNat) H1
noncomputable def Wc (ta:TA):TI:=fun σ H R=>ta σ H fun vs H1=>∃ i j:Int,vs=[.int i,.int j]/\(-(2 ^ 62)<=i/\i < 2 ^ 62/\-(2 ^ 62)<=j/\j < 2 ^ 62)/\R (Itr i (j - i).toNat) H1
theorem OU {a:Expr} {ta:TA} {p pos:Pos} (hg:Gl X "range") (hm:X.mg "range" = none) (ha:PA X [a] ta) (hs:starEach [a] X.env=[(false,eval a X.env)]:=by rfl):PI X tg (.Call (.Name "range" p) [a] [] pos) (Wb ta):=by
 intro pins s σ H R I h
 refine Call_ (F0 I hg hm boot_range (PyProof.Rows.callWith_type1 (thn (ha pos pins s σ H _ I h) fun us s1 ⟨vs,H1,I1,r1,q1⟩=>?_) hs rfl))
 obtain ⟨j,e,q1,q2,q⟩:=q1
 subst e
 cases r1 with
 | cons r rr =>
  cases rr
  obtain ⟨t,rfl⟩:=r
  exact call_range_1 (Ln I1 (by omega) (by omega) q1 q2 (by simpa using q))
theorem OV {a b:Expr} {ta:TA} {p pos:Pos} (hg:Gl X "range") (hm:X.mg "range" = none) (ha:PA X [a,b] ta) (hs:starEach [a,b] X.env=[(false,eval a X.env),(false,eval b X.env)]:=by rfl) (hs2:starEach [b] X.env=[(false,eval b X.env)]:=by rfl) :
  PI X tg (.Call (.Name "range" p) [a,b] [] pos) (Wc ta):=by
 intro pins s σ H R I h
 refine Call_ (F0 I hg hm boot_range (PyProof.Rows.callWith_type1 (thn (ha pos pins s σ H _ I h) fun us s1 ⟨vs,H1,I1,r1,q1⟩=>?_) (by rw [hs,hs2]) (by rw [hs2]; rfl)))
 obtain ⟨i,j,e,⟨q1,q2,q3,q4⟩,q⟩:=q1
 subst e
 cases r1 with
 | cons r rr =>
  cases rr with
  | cons r' rr =>
   cases rr
   obtain ⟨t,rfl⟩:=r
   obtain ⟨t',rfl⟩:=r'
   exact call_range_2 (Ln I1 q1 q2 q3 q4 q)
noncomputable def UG (wi:TI) (g:TG) (tb:TS):TS:=fun D σ H=>wi σ H fun J H1=>∃ W:Nat->Nat->St->Hp->Prop,(∃ m,W 0 m σ H1)/\∀ i m σ H,W i m σ H ->
 (J.stop i H/\D.nx σ H)\/(J.go i H/\∃ N:St->Hp->Prop,(∀ σ' H',N σ' H'->∃ m',m' < m/\W (i + 1) m' σ' H')/\∀ x H',J.yld i H x H'->g x σ H' fun σ2 H2=>tb { D with nx:=N,ct:=N,bk:=D.nx } σ2 H2)
noncomputable def F5 (fp:List Addr) (h:Heap):List (Addr × Obj):=fp.filterMap fun b=>(h.get? b).map fun o=>(b,o)
theorem C5 {fp:List Addr} {h:Heap} {b:Addr} {o:Obj} (hb:b ∈ fp) (e:h.get? b=some o):(b,o) ∈ F5 fp h:=aaL.mpr ⟨b,hb,by rw [e]; rfl⟩
theorem OW {fp:List Addr} {h:Heap} {p:Addr × Obj} (hp:p ∈ F5 fp h):p.1 ∈ fp/\h.get? p.1=some p.2:=by
 obtain ⟨b,hb,e⟩:=aaL.mp hp
 cases q:h.get? b with
 | none=>rw [q] at e; cases e
 | some o =>
  rw [q] at e
  have e':(b,o)=p:=Option.some.inj e
  subst e'
  exact ⟨hb,q⟩
theorem Inv.pinned {pins:List (Addr × Obj)} {σ:St} {H:Hp} {s:Shared} {fp:List Addr} (I:Inv X pins σ H s) (hf:∀ b ∈ fp,GG X pins H b) (ho:∀ b ∈ fp,∃ o,s.heap.get? b=some o/\∀ v,o.data ≠ .cell v):Inv X (pins ++ F5 fp s.heap) σ H s :=
 I.pins_of fun p hp=>(aag.mp hp).elim (fun z=>I.pin p (aal _ z)) fun z=>by
  obtain ⟨hb,e⟩:=OW z
  obtain ⟨f0,f1,f2,_⟩:=hf p.1 hb
  obtain ⟨o,e',d⟩:=ho p.1 hb
  rw [e] at e'; cases e'
  exact ⟨e,f0,f1,f2,d⟩
theorem Inv.unpinned {pins pl:List (Addr × Obj)} {σ:St} {H:Hp} {s:Shared} (I:Inv X (pins ++ pl) σ H s):Inv X pins σ H s:=I.pins_of fun p hp=>I.pin p (aal _ (aaA _ hp))
theorem OX {iter:Expr} {body:List Stmt} {wi:TI} {g:TG} {tb:TS} {pos:Pos} (hp:PassesOwn (model X.prog X.w) X.A X.env X.xe) (hc:X.calm=true) (hi:PI X tg iter wi) (hg:PG X tg g) (hb:PSs X body tb)
  (hs:∀ x,foldedSetIterable iter X.env x=pure x:=by intro _; rfl):PS X (.For tg iter body [] pos) (UG wi g tb):=by
 intro pins s σ H D I h
 refine wpAny_For (thn (hi pins s σ H _ I h) fun v s1 h1=>thn h1 fun itv s2 h2=>?_) hs
 obtain ⟨it,fp,tn,J,H2,e,I2,T,st2,f2,W,⟨m0,w0⟩,turn⟩:=h2
 subst e
 have stat:∀ {H':Hp},(∀ b ∈ fp,H' b=none)->∀ b ∈ fp,GG X pins H' b:=fun hn b hb=>⟨hn b hb,(f2 b hb).2⟩
 refine codeAny_forLoop_any (fun n s'=>∃ i σ' H',Inv X pins σ' H' s'/\tn i s'.heap/\(∀ b ∈ fp,H' b=none)/\W i n σ' H') ?_ m0 ⟨0,σ,H2,I2,st2,fun b hb=>(f2 b hb).1,w0⟩
 rintro n s3 ⟨i,σ3,H3,I3,st3,fr3,w3⟩
 rcases turn i n σ3 H3 w3 with ⟨stop,qn⟩ | ⟨go,N,hN,step⟩
 ·refine wpAny_passesOwn hp (thn (T.done X rfl rfl rfl hc i pins s3 σ3 H3 X.xe I3 (stat fr3) st3 stop) fun r s4 ⟨hr,I4⟩=>?_)
  subst hr
  exact wpAny_execs_nil ⟨σ3,H3,I4,qn⟩
 ·refine wpAny_passesOwn hp (thn (T.item X rfl rfl rfl hc i pins s3 σ3 H3 X.xe I3 (stat fr3) st3 go) fun r s4 ⟨u,hr,h4⟩=>?_)
  subst hr
  refine wpAny_passesOwn hp (thn h4 fun _ s5 ⟨x,H5,I5,r5,y5,st5,fr5⟩=>?_)
  have I5':=I5.pinned (stat fr5) (T.obj _ _ st5)
  refine wpAny_passesOwn hp (thn (hg _ s5 σ3 H5 x u _ I5' r5 (step x H5 y5)) fun _ s6 ⟨σ6,H6,I6,q6⟩=>?_)
  refine wpAny_passesOwn hp (thn (hb _ s6 σ6 H6 _ I6 q6) fun f s7 q7=>?_)
  have again:∀ {σ7:St} {H7:Hp},Inv X (pins ++ F5 fp s5.heap) σ7 H7 s7->N σ7 H7->∃ m,m < n/\∃ i σ' H',Inv X pins σ' H' s7/\tn i s7.heap/\(∀ b ∈ fp,H' b=none)/\W i m σ' H':=fun {σ7 H7} I7 n7=>by
   obtain ⟨m',hm,w7⟩:=hN σ7 H7 n7
   refine ⟨m',hm,i + 1,σ7,H7,I7.unpinned,T.keep _ _ _ st5 fun b hb o e=>(I7.pin (b,o) (aal _ (aal _ (C5 hb e)))).1,fun b hb=>?_,w7⟩
   obtain ⟨o,e,d⟩:=T.obj _ _ st5 b hb
   exact (I7.pin (b,o) (aal _ (aal _ (C5 hb e)))).2.1
  cases f with
  | next=>obtain ⟨σ7,H7,I7,n7⟩:=q7; exact again I7 n7
  | cont=>obtain ⟨σ7,H7,I7,n7⟩:=q7; exact again I7 n7
  | brk=>obtain ⟨σ7,H7,I7,q7⟩:=q7; exact ⟨σ7,H7,I7.unpinned,q7⟩
  | ret v=>obtain ⟨x7,σ7,H7,I7,r7,q7⟩:=q7; exact ⟨x7,σ7,H7,I7.unpinned,r7,q7⟩
end
noncomputable abbrev R2:=V->V->Hp->VK->Prop
noncomputable def OpR (X:Cx) (f:Value->Value->Sem Value) (r:R2):Prop :=
 ∀ (pins:List (Addr × Obj)) (s:Shared) (σ:St) (H:Hp) (x y:V) (v u:Value) (Q:VK),Inv X pins σ H s->RelV x v->RelV y u->r x y H Q ->
  wpAny (model X.prog X.w) X.A (f v u) (EP X pins σ Q) X.xe s
noncomputable def UnR (X:Cx) (f:Value->Sem Value) (r:V->Hp->VK->Prop):Prop :=
 ∀ (pins:List (Addr × Obj)) (s:Shared) (σ:St) (H:Hp) (x:V) (v:Value) (Q:VK),Inv X pins σ H s->RelV x v->r x H Q ->
  wpAny (model X.prog X.w) X.A (f v) (EP X pins σ Q) X.xe s
noncomputable def C6 (X:Cx) (f:Value) (r:List V->Hp->VK->Prop):Prop :=
 ∀ (pins:List (Addr × Obj)) (s:Shared) (σ:St) (H:Hp) (xs:List V) (us:List Value) (Q:VK),Inv X pins σ H s->Vals xs us->r xs H Q ->
  wpAny (model X.prog X.w) X.A (call f us) (EP X pins σ Q) X.xe s
noncomputable def WW (X:Cx) (r:V->Hp->(Bool->Hp->Prop)->Prop):Prop :=
 ∀ (pins:List (Addr × Obj)) (s:Shared) (σ:St) (H:Hp) (x:V) (v:Value) (Q:Bool->Hp->Prop),Inv X pins σ H s->RelV x v->r x H Q ->
  wpAny (model X.prog X.w) X.A (truthy v) (TP X pins σ Q) X.xe s
noncomputable def tOp (r:R2) (ta tb:TE):TE:=fun σ H Q=>ta σ H fun x H1=>tb σ H1 fun y H2=>r x y H2 Q
noncomputable def tUn (r:V->Hp->VK->Prop) (ta:TE):TE:=fun σ H Q=>ta σ H fun x H1=>r x H1 Q
noncomputable def rI (C:Int->Int->Prop) (g:Int->Int->V):R2:=fun x y H Q=>∃ i j,x=.int i/\y=.int j/\C i j/\Q (g i j) H
noncomputable def rI0 (g:Int->Int->V):R2:=fun x y H Q=>∃ i j,x=.int i/\y=.int j/\Q (g i j) H
noncomputable def rU (g:Int->V):V->Hp->VK->Prop:=fun x H Q=>∃ i,x=.int i/\Q (g i) H
section
variable {X:Cx} {a b c:Expr} {ta tb tc:TE} {pos:Pos}
theorem QH (ha:PE X a ta) (hb:PE X b tb) {pins:List (Addr × Obj)} {s:Shared} {σ:St} {H:Hp} {R:V->V->Hp->Prop} (I:Inv X pins σ H s)
  (h:ta σ H fun x H1=>tb σ H1 fun y H2=>R x y H2) {Q:Value->Shared->Prop} {f:Value->Value->Sem Value}
  (hf:∀ v u s2 x y H2,Inv X pins σ H2 s2->RelV x v->RelV y u->R x y H2->wpAny (model X.prog X.w) X.A (f v u) Q X.xe s2) :
  wpAny (model X.prog X.w) X.A (eval a X.env) (fun v s₁=>wpAny (model X.prog X.w) X.A (eval b X.env) (fun u s₂=>wpAny (model X.prog X.w) X.A (f v u) Q X.xe s₂) X.xe s₁) X.xe s:=by
 refine thn (ha pins s σ H _ I h) fun v s1 ⟨x,H1,I1,r1,q1⟩=>?_
 refine thn (hb pins s1 σ H1 _ I1 q1) fun u s2 ⟨y,H2,I2,r2,q2⟩=>?_
 exact hf v u s2 x y H2 I2 r1 r2 q2
theorem Wd {op:Operator} {r:R2} (ho:OpR X (binaryOp op) r) (ha:PE X a ta) (hb:PE X b tb):PE X (.BinOp a op b pos) (tOp r ta tb):=by
 intro pins s σ H Q I h
 exact wpAny_BinOp (QH ha hb I h fun v u s2 x y H2 I2 rx ry q=>ho pins s2 σ H2 x y v u Q I2 rx ry q)
theorem We {op:UnaryOp} {r:V->Hp->VK->Prop} (ho:UnR X (unaryOp op) r) (ha:PE X a ta):PE X (.UnaryOp op a pos) (tUn r ta):=by
 intro pins s σ H Q I h
 exact UnaryOp_ (thn (ha pins s σ H _ I h) fun v s1 ⟨x,H1,I1,r1,q1⟩=>ho pins s1 σ H1 x v Q I1 r1 q1)
theorem opI {f:Value->Value->Sem Value} {C:Int->Int->Prop} {g:Int->Int->Int}
  (rule:∀ (i j:Int) (t u:Tok) (s:Shared) (Q:Value->Shared->Prop) (E:Value->Shared->Prop),C i j->Q (.int (g i j) s.toks) { s with toks:=s.toks + 1 }->wpAny (model X.prog X.w) X.A (f (.int i t) (.int j u)) Q E s) :
  OpR X f (rI C fun i j=>.int (g i j)):=by
 intro pins s σ H x y v u Q I rx ry h
 obtain ⟨i,j,rfl,rfl,hc,q⟩:=h
 obtain ⟨t,rfl⟩:=rx
 obtain ⟨t',rfl⟩:=ry
 exact rule i j t t' s _ _ hc ⟨.int (g i j),H,I.tok _,⟨_,rfl⟩,q⟩
theorem UH {f:Value->Value->Sem Value} {g:Int->Int->Int}
  (rule:∀ (i j:Int) (t u:Tok) (s:Shared) (Q:Value->Shared->Prop) (E:Value->Shared->Prop),Q (.int (g i j) s.toks) { s with toks:=s.toks + 1 }->wpAny (model X.prog X.w) X.A (f (.int i t) (.int j u)) Q E s) :
  OpR X f (rI0 fun i j=>.int (g i j)):=by
 intro pins s σ H x y v u Q I rx ry h
 obtain ⟨i,j,rfl,rfl,q⟩:=h
 obtain ⟨t,rfl⟩:=rx
 obtain ⟨t',rfl⟩:=ry
 exact rule i j t t' s _ _ ⟨.int (g i j),H,I.tok _,⟨_,rfl⟩,q⟩
theorem NU {f:Value->Value->Sem Value} {g:Int->Int->Bool}
  (rule:∀ (i j:Int) (t u:Tok) (s:Shared) (Q:Value->Shared->Prop) (E:Value->Shared->Prop),Q (.bool (g i j)) s->wpAny (model X.prog X.w) X.A (f (.int i t) (.int j u)) Q E s) :
  OpR X f (rI0 fun i j=>.bl (g i j)):=by
 intro pins s σ H x y v u Q I rx ry h
 obtain ⟨i,j,rfl,rfl,q⟩:=h
 obtain ⟨t,rfl⟩:=rx
 obtain ⟨t',rfl⟩:=ry
 exact rule i j t t' s _ _ ⟨.bl (g i j),H,I,rfl,q⟩
noncomputable def UI (i j:Int):Prop:=0<=j/\j<=1000000/\i.natAbs < 2 ^ 64
noncomputable def CMul (i j:Int):Prop:=(-(2 ^ 64) < i/\i < 2 ^ 64)\/(-(2 ^ 64) < j/\j < 2 ^ 64)
theorem CMul.ok {i j:Int} (h:CMul i j):IntMulOk i j:=by
 rcases h with ⟨h1,h2⟩ | ⟨h1,h2⟩
 ·exact .of_left (intBits_le_64 h1 h2)
 ·exact .of_right (intBits_le_64 h1 h2)
theorem UJ:OpR X (binaryOp .Add) (rI0 fun i j=>.int (i + j)):=UH fun _ _ _ _ _ _ _ q=>add_int q
theorem UK:OpR X (binaryOp .Sub) (rI0 fun i j=>.int (i - j)):=UH fun _ _ _ _ _ _ _ q=>sub_int q
theorem UL:OpR X (binaryOp .Mod) (rI (fun _ j=>0 < j) fun i j=>.int (i % j)):=opI fun i j _ _ _ _ _ hc q=>by
 have h1:(0:Int) < j:=hc
 exact mod_int' (by omega) (by rw [Int.fmod_eq_emod_of_nonneg i (by omega)]; exact q)
theorem UM:OpR X (binaryOp .Pow) (rI UI fun i j=>.int (i ^ j.toNat)):=opI fun _ _ _ _ _ _ _ hc q=>pow_int_small hc.1 hc.2.1 hc.2.2 q
theorem unI {f:Value->Sem Value} {g:Int->Int}
  (rule:∀ (i:Int) (t:Tok) (s:Shared) (Q:Value->Shared->Prop) (E:Value->Shared->Prop),Q (.int (g i) s.toks) { s with toks:=s.toks + 1 }->wpAny (model X.prog X.w) X.A (f (.int i t)) Q E s) :
  UnR X f (rU fun i=>.int (g i)):=by
 intro pins s σ H x v Q I rx h
 obtain ⟨i,rfl,q⟩:=h
 obtain ⟨t,rfl⟩:=rx
 exact rule i t s _ _ ⟨.int (g i),H,I.tok _,⟨_,rfl⟩,q⟩
theorem UN:UnR X (unaryOp .USub) (rU fun i=>.int (-i)):=unI fun _ _ _ _ _ q=>neg_int q
end
section
variable {X:Cx} {a b c:Expr} {ta tb tc:TE} {pos:Pos}
theorem Wf:OpR X (compareOp .Lt) (rI0 fun i j=>.bl (decide (i < j))):=NU fun _ _ _ _ _ _ _ q=>lt_int q
theorem Wg:OpR X (compareOp .LtE) (rI0 fun i j=>.bl (decide (i<=j))):=NU fun _ _ _ _ _ _ _ q=>le_int q
theorem Wh:OpR X (compareOp .Gt) (rI0 fun i j=>.bl (decide (j < i))):=NU fun _ _ _ _ _ _ _ q=>gt_int q
theorem Wi:OpR X (compareOp .GtE) (rI0 fun i j=>.bl (decide (j<=i))):=NU fun _ _ _ _ _ _ _ q=>ge_int q
theorem OpR.or {f:Value->Value->Sem Value} {r r':R2} (h:OpR X f r) (h':OpR X f r'):OpR X f (fun x y H Q=>r x y H Q\/r' x y H Q):=by
 intro pins s σ H x y v u Q I rx ry q
 rcases q with q | q
 ·exact h pins s σ H x y v u Q I rx ry q
 ·exact h' pins s σ H x y v u Q I rx ry q
theorem SK {op:CmpOp} {r:R2} (ho:OpR X (compareOp op) r) (ha:PE X a ta) (hb:PE X b tb) (hm:behindInMarks op b=false):PE X (.Compare a [op] [b] pos) (tOp r ta tb):=by
 intro pins s σ H Q I h
 exact wpAny_Compare1 (QH ha hb I h fun v u s2 x y H2 I2 rx ry q=>ho pins s2 σ H2 x y v u Q I2 rx ry q) hm
noncomputable def Sk (t:TE):TT:=fun σ H Q=>t σ H fun x H'=>∃ k,x=.bl k/\Q k H'
theorem SL {op:CmpOp} {r:R2} (ho:OpR X (compareOp op) r) (ha:PE X a ta) (hb:PE X b tb) (hm:behindInMarks op b=false):PT X (.Compare a [op] [b] pos) (Sk (tOp r ta tb)):=by
 intro pins s σ H Q I h
 refine wpAny_isTrue_Compare1 (thn (ha pins s σ H _ I h) fun v s1 ⟨x,H1,I1,r1,q1⟩=>thn (hb pins s1 σ H1 _ I1 q1) fun u s2 ⟨y,H2,I2,r2,q2⟩ =>
  thn (ho pins s2 σ H2 x y v u _ I2 r1 r2 q2) fun c s3 ⟨z,H3,I3,r3,k,e,q3⟩=>?_) hm
 subst e
 cases r3
 exact wpAny_truthy_bool ⟨H3,I3,q3⟩
noncomputable def Lo (r r':R2) (ta tb tc:TE):TE:=fun σ H Q=>ta σ H fun x H1=>tb σ H1 fun y H2=>r x y H2 fun z H3=>∃ k,z=.bl k /\
 (if k=true then tc σ H3 fun w' H4=>r' y w' H4 Q else Q (.bl false) H3)
theorem QI {op op':CmpOp} {r r':R2} (ho:OpR X (compareOp op) r) (ho':OpR X (compareOp op') r') (ha:PE X a ta) (hb:PE X b tb) (hc:PE X c tc)
  (hm:lastMarks [op,op'] [b,c]=false:=by with_unfolding_all rfl):PE X (.Compare a [op,op'] [b,c] pos) (Lo r r' ta tb tc):=by
 intro pins s σ H Q I h
 refine Compare_chain (thn (ha pins s σ H _ I h) fun v s1 ⟨x,H1,I1,r1,q1⟩=>chain_link (thn (hb pins s1 σ H1 _ I1 q1) fun u s2 ⟨y,H2,I2,r2,q2⟩ =>
  thn (ho pins s2 σ H2 x y v u _ I2 r1 r2 q2) fun d s3 ⟨z,H3,I3,r3,k,e,q3⟩=>?_)) hm
 subst e
 cases r3
 refine wpAny_truthy_bool ?_
 cases k with
 | false=>exact ite_ff ⟨.bl false,H3,I3,rfl,q3⟩
 | true=>exact ite_tt (chain_last (thn (hc pins s3 σ H3 _ I3 q3) fun w' s4 ⟨z',H4,I4,r4,q4⟩=>ho' pins s4 σ H4 y z' u w' Q I4 r2 r4 q4))
theorem QJ {op op':CmpOp} {r r':R2} (ho:OpR X (compareOp op) r) (ho':OpR X (compareOp op') r') (ha:PE X a ta) (hb:PE X b tb) (hc:PE X c tc)
  (hm:lastMarks [op,op'] [b,c]=false:=by with_unfolding_all rfl):PT X (.Compare a [op,op'] [b,c] pos) (Sk (Lo r r' ta tb tc)):=by
 intro pins s σ H Q I h
 refine isTrue_chain (thn (ha pins s σ H _ I h) fun v s1 ⟨x,H1,I1,r1,q1⟩=>test_link (thn (hb pins s1 σ H1 _ I1 q1) fun u s2 ⟨y,H2,I2,r2,q2⟩ =>
  thn (ho pins s2 σ H2 x y v u _ I2 r1 r2 q2) fun d s3 ⟨z,H3,I3,r3,k,e,q3⟩=>?_)) hm
 subst e
 cases r3
 refine wpAny_truthy_bool ?_
 cases k with
 | false =>
  obtain ⟨k',e',q'⟩:=q3
  cases e'
  exact ite_ff ⟨H3,I3,q'⟩
 | true =>
  refine ite_tt (test_last (thn (hc pins s3 σ H3 _ I3 q3) fun w' s4 ⟨z',H4,I4,r4,q4⟩=>thn (ho' pins s4 σ H4 y z' u w' _ I4 r2 r4 q4) fun d' s5 ⟨z2,H5,I5,r5,k2,e2,q5⟩=>?_))
  subst e2
  cases r5
  exact wpAny_truthy_bool ⟨H5,I5,q5⟩
noncomputable def QK (K:PySem.W.Frag) (x:V) (H:Hp) (k:Bool):Prop :=
 match x with
 | .non=>k=false
 | .bl b=>k=b
 | .int i=>k=(i != 0)
 | .str y=>y.length<=sizeLine/\k=((y.length:Int) != 0)
 | .byt y=>y.size<=sizeLine/\k=((y.size:Int) != 0)
 | .ref p=>(∃ xs,SqL K H p xs/\k=!xs.isEmpty)\/(∃ xs,SqT K H p xs/\k=!xs.isEmpty)\/∃ kvs,H p=some (.dK kvs)/\k=!kvs.isEmpty
 | _=>False
theorem NV {κ:Type} {kvs:List (κ × V)} {vs:List (κ × Value)} (r:KV kvs vs):(!vs.isEmpty)=!kvs.isEmpty:=by
 cases r <;> rfl
theorem IA {xs:List V} {its:List Value} (r:Vals xs its):(!its.toArray.isEmpty)=!xs.isEmpty:=by
 cases r <;> simp
theorem IB:(sizeLine:Nat) < 2 ^ 63:=by rw [sizeLine_eq]; decide
theorem UO:WW X (fun x H Q=>∃ k,QK X.K x H k/\Q k H):=by
 intro pins s σ H x v Q I rx h
 obtain ⟨k,e,q⟩:=h
 have hl:=IB
 have hs:sizeLine=16777216:=sizeLine_eq
 cases x with
 | non =>
  cases rx
  have e':k=false:=e
  subst e'
  exact truthy_none ⟨H,I,q⟩
 | bl b =>
  cases rx
  have e':k=b:=e
  subst e'
  exact wpAny_truthy_bool ⟨H,I,q⟩
 | int i =>
  obtain ⟨t,rfl⟩:=rx
  have e':k=(i != 0):=e
  subst e'
  exact PySem.P.truthy_int ⟨H,I,q⟩
 | str y =>
  obtain ⟨t,rfl⟩:=rx
  obtain ⟨hy,e'⟩:y.length<=sizeLine/\k=((y.length:Int) != 0):=e
  subst e'
  exact PySem.P.truthy_str (by omega) ⟨H,I.tok _,q⟩
 | byt y =>
  obtain ⟨t,rfl⟩:=rx
  obtain ⟨hy,e'⟩:y.size<=sizeLine/\k=((y.size:Int) != 0):=e
  subst e'
  exact PySem.W.truthy_bytes (by omega) ⟨H,I.tok _,q⟩
 | ref p =>
  cases rx
  have e':(∃ xs,SqL X.K H p xs/\k=!xs.isEmpty)\/(∃ xs,SqT X.K H p xs/\k=!xs.isEmpty)\/∃ kvs,H p=some (.dK kvs)/\k=!kvs.isEmpty:=e
  rcases e' with ⟨xs,hx,e'⟩ | ⟨xs,hx,e'⟩ | ⟨kvs,hx,e'⟩
  ·subst e'
   obtain ⟨its,r,pl,hz⟩:=I.list hx
   have hlen:=r.length
   exact wpAny_truthy_list pl.isList (by simp only [aan]; omega) ⟨H,I.tok _,by rw [IA r]; exact q⟩
  ·subst e'
   obtain ⟨its,r,pl,hz⟩:=I.tuple hx
   have hlen:=r.length
   exact truthy_tuple pl (by simp only [aan]; omega) ⟨H,I.tok _,by rw [IA r]; exact q⟩
  ·subst e'
   obtain ⟨hz,hS,vs,r,m⟩:kvs.length<=sizeLine/\(p==sysModules)=false/\∃ vs,KV kvs vs/\s.heap.DictOf (JA X.prog X.w) p vs:=I.hok p _ hx
   have hlen:kvs.length=vs.length:=Paired.length r
   exact wpAny_truthy_dict hS m (by omega) ⟨H,I.tok _,by rw [NV r]; exact q⟩
 | _=>exact nE e
theorem QL (ha:PE X a ta) (he:∀ whole,isTrue a X.env whole=(do let v <- whole; standAt a.pos; holding [v] (truthy v))) :
  PT X a (fun σ H Q=>ta σ H fun x H'=>∃ k,QK X.K x H' k/\Q k H'):=by
 intro pins s σ H Q I h
 exact isTrue_plain (thn (ha pins s σ H _ I h) fun v s1 ⟨x,H1,I1,r1,q1⟩=>UO pins s1 σ H1 x v Q I1 r1 q1) (he _)
theorem NW:OpR X (binaryOp .Add) (fun x y H Q=>∃ i j,x=.str i/\y=.str j/\i.length + j.length<=sizeLine/\Q (.str (i ++ j)) H):=by
 intro pins s σ H x y v u Q I rx ry h
 obtain ⟨i,j,rfl,rfl,hz,q⟩:=h
 obtain ⟨t,rfl⟩:=rx
 obtain ⟨t',rfl⟩:=ry
 exact add_str (fun t' tk=>⟨.str (i ++ j),H,I.tok _,⟨_,rfl⟩,q⟩) hz
theorem EN {x:V} {us:List Value} (r:Vals [x] us):∃ u,us=[u]/\RelV x u:=by
 cases r with
 | cons r1 r2=>cases r2; exact ⟨_,rfl,r1⟩
theorem La {x y:V} {us:List Value} (r:Vals [x,y] us):∃ u w',us=[u,w']/\RelV x u/\RelV y w':=by
 cases r with
 | cons r1 r2 =>
  cases r2 with
  | cons r3 r4=>cases r4; exact ⟨_,_,rfl,r1,r3⟩
theorem QM:C6 X (.builtin "abs") (fun xs H Q=>∃ i,xs=[.int i]/\Q (.int (if i < 0 then -i else i)) H):=by
 intro pins s σ H xs us Q I r h
 obtain ⟨i,rfl,q⟩:=h
 obtain ⟨u,rfl,t,rfl⟩:=EN r
 exact call_abs_int fun u tk=>⟨.int (if i < 0 then -i else i),H,I.tok _,⟨_,rfl⟩,q⟩
theorem OY (hc:X.calm=true):C6 X (.builtin "max") (fun xs H Q=>∃ i j,xs=[.int i,.int j]/\Q (.int (if j > i then j else i)) H):=by
 intro pins s σ H xs us Q I r h
 obtain ⟨i,j,rfl,q⟩:=h
 obtain ⟨u,w',rfl,⟨t,rfl⟩,⟨t',rfl⟩⟩:=La r
 refine max_two_ints (I.ok.hd hc) fun h' tk k=>⟨_,H,I.kept k,?_,q⟩
 by_cases hj:j > i
 ·rw [if_pos hj,if_pos hj]; exact ⟨_,rfl⟩
 ·rw [if_neg hj,if_neg hj]; exact ⟨_,rfl⟩
theorem OZ (hc:X.calm=true):C6 X (.builtin "min") (fun xs H Q=>∃ i j,xs=[.int i,.int j]/\Q (.int (if j < i then j else i)) H):=by
 intro pins s σ H xs us Q I r h
 obtain ⟨i,j,rfl,q⟩:=h
 obtain ⟨u,w',rfl,⟨t,rfl⟩,⟨t',rfl⟩⟩:=La r
 refine min_two_ints (I.ok.hd hc) fun h' tk k=>⟨_,H,I.kept k,?_,q⟩
 by_cases hj:j < i
 ·rw [if_pos hj,if_pos hj]; exact ⟨_,rfl⟩
 ·rw [if_neg hj,if_neg hj]; exact ⟨_,rfl⟩
theorem O0:C6 X (.type "int") (fun xs H Q=>(∃ i,xs=[.int i]/\Q (.int i) H)\/∃ k,xs=[.bl k]/\Q (.int (if k then 1 else 0)) H):=by
 intro pins s σ H xs us Q I r h
 rcases h with ⟨i,rfl,q⟩ | ⟨k,rfl,q⟩
 ·obtain ⟨u,rfl,t,rfl⟩:=EN r
  exact call_int_int ⟨.int i,H,I,⟨_,rfl⟩,q⟩
 ·obtain ⟨u,rfl,r1⟩:=EN r
  cases r1
  exact call_int_bool ⟨.int (if k then 1 else 0),H,I.tok _,⟨_,rfl⟩,q⟩
end
structure ObjM (h:Heap) (x dx C:Addr) (mA:Str->Option Value):Prop where
 obj:h.get? x=some (PySem.W.instObj C dx)
 ns:h.Ns1 dx mA
 ne:dx ≠ x
theorem O5 {h:Heap} {dx:Addr} {mA:Str->Option Value} (n:h.Ns1 dx mA):∃ od,h.get? dx=some od/\∀ name,PySem.W.lookIn name od=some (mA name):=by
 obtain ⟨o,es,ep,ho,hd,hk,_,hm⟩:=n
 refine ⟨o,ho,fun name=>?_⟩
 have e:=hm name
 unfold nsFind findBy at e
 rw [<- Array.find?_toList] at e
 unfold PySem.W.lookIn
 rw [hd]
 dsimp only
 split
 ·rename_i y q
  rw [q] at e
  exact congrArg some e
 ·rename_i q
  rw [q] at e
  have a:es.toList.any (·.refKey)=false:=by
   rw [List.any_eq_false]
   intro y hy
   obtain ⟨z,t,hkey⟩:=hk y (Array.mem_toList_iff.mp hy)
   simp [DictEntry.refKey,hkey]
  have a':¬ es.toList.any (·.refKey)=true:=by rw [a]; exact aaU
  rw [if_neg a']
  exact congrArg some e
theorem ObjM.look {h:Heap} {x dx C:Addr} {mA:Str->Option Value} (I:ObjM h x dx C mA):∃ od,PySem.W.InstAt h x (PySem.W.instObj C dx) C (some od)/\∀ name,PySem.W.lookIn name od=some (mA name) :=
 let ⟨od,ho,hl⟩:=O5 I.ns
 ⟨od,⟨I.obj,rfl,rfl,ho⟩,hl⟩
section
variable {P:Program} {w:World} {H H':Hp} {h h':Heap} {a C dx:Addr} {fs fs':List (Str × V)}
theorem SM (hok:HOk P w H h) (e:H a=some (.ins C dx fs)):∃ mA,ObjM h a dx C mA/\(∀ f,QB (fs.lookup f) (mA f))/\PySem.Within mA (fs.map (·.1))/\fs.length<=1000/\H dx=some (.own a):=by
 obtain ⟨d,z,ne,ob,mA,n,r,q⟩:=(show ObjOk P w H h a (.ins C dx fs) from hok a _ e)
 exact ⟨mA,⟨ob,n,ne⟩,r,q,z,d⟩
end
structure Cls (K:PySem.W.Frag) (C:Addr):Prop where
 pg:PySem.W.plainGet K C Str.empty=true
 hd:PySem.W.hasDictIn K C=true
 po:PySem.W.plainOver K C=true
 sa:PySem.W.findIn K (.ref C) "__setattr__" = some (some (.builtin "object.__setattr__"))
theorem Cls.get {K:PySem.W.Frag} {C:Addr} (c:Cls K C) (f:Str):PySem.W.plainGet K C f=true:=c.pg
section
variable {X:Cx} {pins:List (Addr × Obj)} {σ:St} {H:Hp} {s:Shared} {a C dx:Addr} {fs:List (Str × V)} {f:Str} {v:V} {A:Around} {E:Value->Shared->Prop}
theorem Inv.made (I:Inv X pins σ H s):Inv X pins σ (upd (upd H s.heap.objs.size (.own (s.heap.objs.size + 1))) (s.heap.objs.size + 1) (.ins C s.heap.objs.size []))
  { s with heap:=(s.heap.push PySem.W.emptyDict).push (PySem.W.instObj C s.heap.objs.size) }:=by
 have e1:(s.heap.push PySem.W.emptyDict).get? s.heap.objs.size=some PySem.W.emptyDict:=Heap.get?_push_size s.heap rfl
 have e2:((s.heap.push PySem.W.emptyDict).push (PySem.W.instObj C s.heap.objs.size)).get? (s.heap.objs.size + 1)=some (PySem.W.instObj C s.heap.objs.size):=by
  have:=Heap.get?_push_size (s.heap.push PySem.W.emptyDict) (o:=PySem.W.instObj C s.heap.objs.size) rfl
  rwa [Heap.size_push] at this
 have e3:(s.heap.push PySem.W.emptyDict).Ns s.heap.objs.size (fun _=>none):=⟨PySem.W.emptyDict,#[],_,e1,rfl,(fun e he=>absurd he (by simp)),fun _=>rfl⟩
 have I1:=I.laid (a:=s.heap.objs.size) (o:=.own (s.heap.objs.size + 1)) (h':=s.heap.push PySem.W.emptyDict) (t':=s.toks) (fun b u q=>Heap.get?_push_of_some _ q) (aaj _) ⟨_,e1⟩
 refine I1.laid (a:=s.heap.objs.size + 1) (o:=.ins C s.heap.objs.size []) (t':=s.toks) (fun b u q=>Heap.get?_push_of_some _ q) (aco (Heap.size_push _ _)) ?_
 have ne:s.heap.objs.size ≠ s.heap.objs.size + 1:=aaC (ab9 _)
 refine ⟨by rw [Aw ne,Bp],aat _,ne,e2,fun _=>none,(Heap.Ns1.of_empty e3).at fun o q=>Heap.get?_push_of_some _ q,fun _=>True.intro,fun y hy=>absurd rfl hy⟩
end
section
variable {X:Cx} {pins:List (Addr × Obj)} {σ:St} {H:Hp} {s:Shared} {A:Around} {E:Value->Shared->Prop} {Q:Value->Shared->Prop} {c:Value} {b:Bool}
inductive TyOf (K:PySem.W.Frag) (H:Hp):V->Value->Prop where
 | non:TyOf K H .non (.type "NoneType")
 | bl (x:Bool):TyOf K H (.bl x) (.type "bool")
 | int (i:Int):TyOf K H (.int i) (.type "int")
 | str (x:Str):TyOf K H (.str x) (.type "str")
 | flt (x:UInt64):TyOf K H (.flt x) (.type "float")
 | lst {a:Addr} {xs:List V} (e:H a=some (.lst xs)):TyOf K H (.ref a) (.type "list")
 | frz {a:Addr} {o:Obj} {xs:List V} (e:H a=some (.frz o (.lst xs))):TyOf K H (.ref a) (.type "list")
 | tup {a:Addr} {xs:List V} (e:H a=some (.tup xs)):TyOf K H (.ref a) (.type "tuple")
 | dK {a:Addr} {kvs:List (Key × V)} (e:H a=some (.dK kvs)):TyOf K H (.ref a) (.type "dict")
 | dT {a:Addr} {kvs:List (List Key × V)} (e:H a=some (.dT kvs)):TyOf K H (.ref a) (.type "dict")
 | ins {a C dx:Addr} {fs:List (Str × V)} (e:H a=some (.ins C dx fs)) (cl:Cls K C) (ha:PySem.W.findIn K (.ref C) "__class__" = some (some (.builtin "object.__class__")))
   (hn:PySem.W.specialIn K (.builtin "object.__class__") "__get__" = some (some (.builtin "getset_descriptor.__get__"))) (htk:PySem.W.takesIn K (.builtin "object.__class__")=some true)
   (hm:PySem.W.mroIn K C (.type "object")=some true):TyOf K H (.ref a) (.ref C)
theorem O6 {x:V} {u t:Value} (I:Inv X pins σ H s) (rx:RelV x u) (ty:TyOf X.K H x t) (e:PySem.W.kitOne X.K t c=some b) (h:∀ tk,Q (.bool b) { s with toks:=tk }) :
  wpAny (model X.prog X.w) A (call (.builtin "isinstance") [u,c]) Q E s:=by
 cases ty with
 | non=>cases (show u=Value.none from rx); exact PySem.W.kia_one PySem.W.kitx_none I.kIn True.intro e (fun z=>nomatch z) h
 | bl y=>cases (show u=Value.bool y from rx); exact PySem.W.kia_one PySem.W.kitx_bool I.kIn True.intro e (fun z=>nomatch z) h
 | int i=>obtain ⟨t,q⟩:=(show ∃ t,u=Value.int i t from rx); cases q; exact PySem.W.kia_one PySem.W.kitx_int I.kIn True.intro e (fun z=>nomatch z) h
 | str y=>obtain ⟨t,q⟩:=(show ∃ t,u=Value.str y t from rx); cases q; exact PySem.W.kia_one PySem.W.kitx_str I.kIn True.intro e (fun z=>nomatch z) h
 | flt y=>obtain ⟨t,q⟩:=(show ∃ t,u=Value.float y t from rx); cases q; exact PySem.W.kia_one PySem.W.kitx_float I.kIn True.intro e (fun z=>nomatch z) h
 | @lst a xs ea =>
  cases (show u=Value.ref a from rx)
  obtain ⟨_,_,n,_,h1⟩:=(show ObjOk X.prog X.w H s.heap a (.lst xs) from I.hok a _ ea)
  exact PySem.W.kia_one PySem.W.kitx_list I.kIn ⟨_,h1,rfl⟩ e (fun z=>nomatch z) h
 | @frz a ob xs ea =>
  cases (show u=Value.ref a from rx)
  obtain ⟨_,_,_,n,_,h1⟩:=(show ObjOk X.prog X.w H s.heap a (.frz ob (.lst xs)) from I.hok a _ ea)
  exact PySem.W.kia_one PySem.W.kitx_list I.kIn ⟨_,h1,rfl⟩ e (fun z=>nomatch z) h
 | @tup a xs ea =>
  cases (show u=Value.ref a from rx)
  obtain ⟨_,_,_,p⟩:=(show ObjOk X.prog X.w H s.heap a (.tup xs) from I.hok a _ ea)
  obtain ⟨o,h1,h2,_⟩:=p
  exact PySem.W.kia_one PySem.W.kitx_tuple I.kIn ⟨o,h1,h2⟩ e (fun z=>nomatch z) h
 | @dK a kvs ea =>
  cases (show u=Value.ref a from rx)
  obtain ⟨_,_,vs,_,p⟩:=(show ObjOk X.prog X.w H s.heap a (.dK kvs) from I.hok a _ ea)
  obtain ⟨o,es,ep,h1,h2,_⟩:=p
  exact PySem.W.kia_one PySem.W.kitx_dict I.kIn ⟨o,h1,h2.1⟩ e (fun z=>nomatch z) h
 | @dT a kvs ea =>
  cases (show u=Value.ref a from rx)
  obtain ⟨_,_,xs,_,o,es,ep,h1,h2,_⟩:=(show ObjOk X.prog X.w H s.heap a (.dT kvs) from I.hok a _ ea)
  exact PySem.W.kia_one PySem.W.kitx_dict I.kIn ⟨o,h1,h2.1⟩ e (fun z=>nomatch z) h
 | @ins a C dx fs ea cl ha hn htk hm =>
  cases (show u=Value.ref a from rx)
  obtain ⟨mA,O,_⟩:=SM I.hok ea
  obtain ⟨od,J,_⟩:=O.look
  exact PySem.W.kia_one (PySem.W.kitx_own (cl.get _) cl.hd ha hn htk hm) I.kIn J e (fun z=>nomatch z) h
end
structure Room (k:Nat) (A:Around):Prop where
 hd:A.handled=none
 dp:A.depth + 3 * k + 5 < recursionLimit
 un:A.units + 16 * k + 200 < cLine
theorem Room.mono {j k:Nat} {A:Around} (r:Room k A) (h:j<=k):Room j A:=⟨r.hd,by have:=r.dp; omega,by have:=r.un; omega⟩
theorem Room.deeper {k:Nat} {A:Around} (r:Room (k + 1) A) (env:Env):Room k (A.deeper env) :=
 ⟨r.hd,by have:=r.dp; show A.depth + 1 + 3 * k + 5 < _; omega,by have:=r.un; show A.units + 3 + 16 * k + 200 < _; omega⟩
theorem Room.depth {k:Nat} {A:Around} (r:Room k A):A.depth < recursionLimit:=by have:=r.dp; omega
theorem Room.units {k:Nat} {A:Around} (r:Room k A):A.units + 64 < cLine:=by have:=r.un; omega
noncomputable def UP:TA:=fun _ H Q=>Q [] H
noncomputable def Sl (ta:TE) (tr:TA):TA:=fun σ H Q=>ta σ H fun x H1=>tr σ H1 fun xs H2=>Q (x :: xs) H2
section
variable {X:Cx} {e:Expr} {es:List Expr} {te:TE} {t:TA} {pos:Pos}
theorem DM:PA X [] UP:=fun _ _ _ _ H Q I h=>Calls.spliced_nil ⟨[],H,I,.nil,h⟩
theorem BE (ha:PE X e te) (hr:PA X es t) (hs:starEach (e :: es) X.env=(false,eval e X.env) :: starEach es X.env:=by rfl):PA X (e :: es) (Sl te t):=by
 intro pos pins s σ H Q I h
 rw [hs]
 show wpAny _ _ (spliced ((false,eval e X.env) :: backTo pos (starEach es X.env))) _ _ s
 refine Calls.spliced_cons (thn (ha pins s σ H _ I h) fun u s1 ⟨x,H1,I1,r1,q1⟩=>?_)
 exact thn (hr pos pins s1 σ H1 _ I1 q1) fun us s2 ⟨xs,H2,I2,r2,q2⟩=>⟨x :: xs,H2,I2,.cons r1 r2,q2⟩
noncomputable def UQ (t:TA):TE:=fun σ H Q=>t σ H fun xs H1=>xs.length<=sizeLine/\∀ p,H1 p=none->Q (.ref p) (upd H1 p (.tup xs))
noncomputable def WX (t:TA):TE:=fun σ H Q=>t σ H fun xs H1=>xs.length<=sizeLine/\∀ p,H1 p=none->Q (.ref p) (upd H1 p (.lst xs))
theorem O7 {x1} (h:PA X es t):PE X (.Tuple es x1 pos) (UQ t):=by
 intro pins s σ H Q I hq
 refine wpAny_Tuple_spliced (thn (h pos pins s σ H _ I hq) fun us s1 ⟨xs,H1,I1,r,z,q⟩=>⟨by rw [<- r.length]; exact z,?_⟩)
 have hf:H1 s1.heap.objs.size=none:=I1.hok.fresh (aaj _)
 refine ⟨.ref s1.heap.objs.size,upd H1 s1.heap.objs.size (.tup xs),I1.laid (t':=s1.toks) (fun b u e=>Heap.get?_push_of_some _ e) (aaj _) ?_,rfl,q _ hf⟩
 exact ⟨z,us,r,⟨_,Heap.get?_push_size _ rfl,rfl,_,rfl⟩⟩
theorem UR (h:PA X es t):PE X (.List es pos) (WX t):=by
 intro pins s σ H Q I hq
 refine wpAny_List_spliced (thn (h pos pins s σ H _ I hq) fun us s1 ⟨xs,H1,I1,r,z,q⟩=>⟨by rw [<- r.length]; exact z,?_⟩)
 have hf:H1 s1.heap.objs.size=none:=I1.hok.fresh (aaj _)
 refine ⟨.ref s1.heap.objs.size,upd H1 s1.heap.objs.size (.lst xs),I1.laid (t':=s1.toks) (fun b u e=>Heap.get?_push_of_some _ e) (aaj _) ?_,rfl,q _ hf⟩
 exact ⟨z,us,0,r,Heap.get?_push_size _ rfl⟩
end
noncomputable abbrev Sp:=List V->Hp->VK->XK->Prop
noncomputable abbrev CXT:=List Env->Hp->Shared->XK->Value->Shared->Prop
structure Env0 (P:Program) (w:World) (K:PySem.W.Frag) (mg:Str->Option Value) (base:Heap) (A:Around) (outer:List Env) (s:Shared) (H:Hp):Prop where
 frames:A.frames=some outer
 mod:Mod K mg base
 bs:∀ b o,base.get? b=some o->s.heap.get? b=some o/\H b=none
 bsz:base.objs.size<=s.heap.objs.size
 funs:s.heap.FunFrames base outer
 frf:∀ b ∈ frs outer,H b=none
 hok:HOk P w H s.heap
 bare:AllBare s.gens
noncomputable def CE (outer:List Env) (P:Program) (w:World) (H:Hp) (s:Shared) (Q:VK) (u:Value) (s':Shared):Prop :=
 ∃ v H',s'.os=s.os/\AllBare s'.gens/\Un (frs outer) [] H H' s.heap s'.heap/\HOk P w H' s'.heap/\RelV v u/\Q v H'
noncomputable def CR (CX:CXT) (outer:List Env) (P:Program) (w:World) (H:Hp) (s:Shared) (Q:VK) (E:XK) (r:Result) (s':Shared):Prop :=
 match r with
 | .ok (.ret u)=>CE outer P w H s Q u s'
 | .ok _=>False
 | .error e=>CX outer H s E e s'
structure FnOk (P:Program) (w:World) (K:PySem.W.Frag) (mg:Str->Option Value) (base:Heap) (CX:CXT) (k:Nat) (f:Addr) (fd:FuncData) (ps:List Str) (sp:Sp):Prop where
 len:∀ vs H Q E,sp vs H Q E->vs.length=ps.length
 run:∀ (A:Around) (outer:List Env) (s:Shared) (H:Hp) (args:Args) (us:List Value) (vs:List V) (Q:VK) (E:XK),Room k A->Env0 P w K mg base A outer s H->BindsTo s fd args (ps.zip us)->Vals vs us->sp vs H Q E ->
  codeAny (model P w) A (.call (.ref f) args) (CR CX outer P w H s Q E) s
theorem FnOk.imp {P:Program} {w:World} {K:PySem.W.Frag} {mg:Str->Option Value} {base:Heap} {CX:CXT} {k:Nat} {f:Addr} {fd:FuncData} {ps:List Str} {sp sp':Sp} (F:FnOk P w K mg base CX k f fd ps sp)
  (h:∀ vs H Q E,sp' vs H Q E->sp vs H Q E):FnOk P w K mg base CX k f fd ps sp' :=
 ⟨fun vs H Q E q=>F.len vs H Q E (h _ _ _ _ q),fun A outer s H args us vs Q E hr he hb hv hs=>F.run A outer s H args us vs Q E hr he hb hv (h _ _ _ _ hs)⟩
section
variable {X:Cx} {pins:List (Addr × Obj)} {σ:St} {H:Hp} {s s':Shared}
theorem Inv.env0 (I:Inv X pins σ H s):Env0 X.prog X.w X.K X.mg X.base X.A X.stack s H :=
 ⟨I.ok.frames,I.ok.mod,I.bs,aaK I.ok.bsz I.sz,I.stack,I.stkFree,I.hok,I.bare⟩
theorem Inv.after {Q:VK} {u:Value} (I:Inv X pins σ H s) (h:CE X.stack X.prog X.w H s Q u s'):EP X pins σ Q u s':=by
 obtain ⟨v,H',os,bare,un,hok,r,q⟩:=h
 obtain ⟨hh,g,d,t,os'⟩:=s'
 obtain rfl:os'=s.os:=os
 exact ⟨v,H',I.call (h':=hh) (g':=g) (d':=d) (t':=t) (ch:=[]) un hok bare (fun b z=>absurd z (by simp)),r,q⟩
end
noncomputable def Binds (K:PySem.W.Frag) (fd:FuncData) (ps:List Str) (ds:List Value):Prop :=
 ∀ (s:Shared) (us:List Value),K.In s.heap->(us ++ ds).length=ps.length->BindsTo s fd ⟨us,[]⟩ (ps.zip (us ++ ds))
theorem Binds.all {K:PySem.W.Frag} {fd:FuncData} {ps:List Str} (h:∀ us:List Value,us.length=ps.length->bindArgs fd ⟨us,[]⟩=pure (ps.zip us)):Binds K fd ps []:=fun s us _ hl=>by
 rw [aaP] at hl ⊢
 exact .of_eq (h us hl)
noncomputable def US (CX:CXT) (X:Cx) (E:XK):Prop:=∀ (pins:List (Addr × Obj)) (σ:St) (H:Hp) (s:Shared) (e:Value) (s':Shared),Inv X pins σ H s->CX X.stack H s E e s'->X.xe e s'
structure FnScope (N P:List Str) (sc:Scope):Prop where
 kind:sc.kind=.function
 co:sc.isCoroutine=false
 gen:sc.isGenerator=false
 nd:N.Nodup
 pre:N.take P.length=P
 par:∀ x ∈ P,sc.names.lookup x=some .local\/sc.names.lookup x=some .cell
 nofree:∀ y ∈ sc.names,y.2 ≠ .free
theorem Kj {kindOf:Str->Option NameKind} {x:Str}:∀ {binds:List (Str × Value)} {m:Str->Option Value},(∀ v,(x,v) ∉ binds)->bindL kindOf binds m x=m x
 | [],_,_=>rfl
 | (n,v) :: r,m,h=>by
  unfold bindL
  rw [Kj fun w hw=>h w (aaa _ hw)]
  split
  ·have:x ≠ n:=by rintro rfl; exact h v aab
   simp [this]
  ·rfl
theorem Kk {kindOf:Str->Option NameKind} {x:Str}:∀ {binds:List (Str × Value)} {m:Str->Option Value},(∀ v,(x,v) ∉ binds)->bindC kindOf binds m x=m x
 | [],_,_=>rfl
 | (n,v) :: r,m,h=>by
  unfold bindC
  rw [Kk fun w hw=>h w (aaa _ hw)]
  split
  ·rfl
  ·have:x ≠ n:=by rintro rfl; exact h v aab
   simp [this]
theorem Kl {kindOf:Str->Option NameKind} {x:Str} {v:Value}:∀ {P:List Str} {vs:List Value} {i:Nat} {m:Str->Option Value},P.Nodup->P[i]?=some x->vs[i]?=some v->kindOf x=some .local ->
  bindL kindOf (P.zip vs) m x=some v
 | [],_,_,_,_,h,_,_=>by simp at h
 | _ :: _,[],_,_,_,_,h,_=>by simp at h
 | p :: P,w :: vs,0,m,nd,h1,h2,hk=>by
  simp at h1 h2; subst h1; subst h2
  show bindL kindOf ((p,w) :: P.zip vs) m p=_
  unfold bindL
  rw [Kj fun v hv=>(aaI.mp nd).1 (acz hv).1,if_pos hk]
  simp
 | p :: P,w :: vs,i + 1,m,nd,h1,h2,hk=>by
  show bindL kindOf ((p,w) :: P.zip vs) m x=_
  unfold bindL
  exact Kl (i:=i) (aaI.mp nd).2 (by simpa using h1) (by simpa using h2) hk
theorem Km {kindOf:Str->Option NameKind} {x:Str} {v:Value}:∀ {P:List Str} {vs:List Value} {i:Nat} {m:Str->Option Value},P.Nodup->P[i]?=some x->vs[i]?=some v->kindOf x ≠ some .local ->
  bindC kindOf (P.zip vs) m x=some v
 | [],_,_,_,_,h,_,_=>by simp at h
 | _ :: _,[],_,_,_,_,h,_=>by simp at h
 | p :: P,w :: vs,0,m,nd,h1,h2,hk=>by
  simp at h1 h2; subst h1; subst h2
  show bindC kindOf ((p,w) :: P.zip vs) m p=_
  unfold bindC
  rw [Kk fun v hv=>(aaI.mp nd).1 (acz hv).1,if_neg hk]
  simp
 | p :: P,w :: vs,i + 1,m,nd,h1,h2,hk=>by
  show bindC kindOf ((p,w) :: P.zip vs) m x=_
  unfold bindC
  exact Km (i:=i) (aaI.mp nd).2 (by simpa using h1) (by simpa using h2) hk
noncomputable def AR (N:List Str) (vs:List V):St:=vs.map some ++ aam (N.length - vs.length) none
noncomputable def B6 (CX:CXT) (P:Program) (w:World) (K:PySem.W.Frag) (mg:Str->Option Value) (base:Heap) (N:List Str) (qual:Str) (scope:Scope) (f:Addr) (cd:Value) (A:Around) (outer:List Env) (s:Shared) (H:Hp) (E:XK):Cx where
 prog:=P
 w:=w
 K:=K
 mg:=mg
 base:=base
 A:=A.deeper (envOfC qual scope s.heap.objs.size f cd)
 N:=N
 s₀:=s
 H₀:=H
 env:=envOfC qual scope s.heap.objs.size f cd
 outer:=outer
 stack:=envOfC qual scope s.heap.objs.size f cd :: outer
 ex:=[]
 calm:=true
 fn:=fun _=>true
 pn:=[]
 xe:=fun e s'=>wpAny (model P w) (A.deeper (envOfC qual scope s.heap.objs.size f cd)) (leaving (envOfC qual scope s.heap.objs.size f cd) e) (fun _ s''=>CX outer H s E e s'') (fun e' s''=>CX outer H s E e' s'') s'
theorem Lp {sc:Scope} {n:Nat} {x:Str} (h:sc.names.lookup x=some .cell):∃ c,(cellsFrom n sc.names []).lookup x=some c:=by
 have q:=PySem.W.cellsFrom_some sc.names n [] (.inl h)
 exact aaD.mp q
theorem O8 {CX:CXT} {P:Program} {w:World} {K:PySem.W.Frag} {mg:Str->Option Value} {base:Heap} {N ps:List Str} {qual:Str} {scope:Scope} {f:Addr} {cd:Value} {A:Around} {outer:List Env} {s s1:Shared} {H:Hp} {E:XK} {us:List Value} {vs:List V}
  (S:FnScope N ps scope) (hd:A.handled=none) (e0:Env0 P w K mg base A outer s H) (hl:vs.length=ps.length) (r:Vals vs us)
  (x:InCallC s s.heap.objs.size (bindL (envOfC qual scope s.heap.objs.size f cd).kindOf (ps.zip us) fun _=>none) (cellsFrom (s.heap.objs.size + 1) scope.names []) (bindC (envOfC qual scope s.heap.objs.size f cd).kindOf (ps.zip us) fun _=>none) s1) :
  Inv (B6 CX P w K mg base N qual scope f cd A outer s H E) [] (AR N vs) H s1:=by
 have hpl:ps.length<=N.length:=by have:=congrArg abk S.pre; rw [abt] at this; omega
 obtain ⟨h1,tk,rfl,hk⟩:=x.done
 have noA:∀ b:Addr,b ∉ (B6 CX P w K mg base N qual scope f cd A outer s H E).ex:=fun b z=>absurd (show b ∈ ([]:List Addr) from z) (by simp)
 refine ⟨⟨e0.mod,S.kind,rfl,rfl,aaj _,fun y z c h1 h2=>?_,fun y hy=>?_,fun y c _ h=>?_,fun _=>hd,Around.frames_deeper e0.frames,.inr ⟨rfl,rfl⟩,fun b z=>absurd z (noA b),e0.bs,e0.bsz,fun b _ _=>noA b,fun b z=>absurd z (noA b),e0.funs,e0.frf⟩,
  rfl,e0.bare,Un.kept hk,⟨_,x.toInCall.ns,fun i y v h1 h2 h3=>?_⟩,fun y c h=>⟨_,x.cell y c h⟩,e0.hok.fresh (aaj _),fun y c h=>?_,fun p hp=>absurd (show p ∈ ([]:List (Addr × Obj)) from hp) (by simp),e0.hok.kept hk,?_⟩
 ·exact name_of_addr x.apart (PySem.mem_of_lookup h1) (PySem.mem_of_lookup h2)
 ·have hy:scope.names.lookup y=some .cell\/scope.names.lookup y=some .free:=hy
  rcases hy with hy | hy
  ·exact Lp hy
  ·exact absurd rfl (S.nofree _ (PySem.mem_of_lookup hy))
 ·exact abK (x.above y c (PySem.mem_of_lookup h))
 ·have hi:i < vs.length:=by
   unfold AR at h2
   by_cases hi:i < vs.length
   ·exact hi
   ·rw [aaH (by simpa using hi)] at h2
    rw [aaS] at h2
    split at h2 <;> cases h2
  have ha:vs[i]?=some v:=by
   unfold AR at h2
   rw [aaN (by simpa using hi),aaq] at h2
   cases e:vs[i]? with
   | none=>rw [e] at h2; cases h2
   | some a=>rw [e] at h2; cases h2; rfl
  obtain ⟨u,hu,rv⟩:=r.get ha
  have hp:ps[i]?=some y:=by
   rw [<- S.pre,List.getElem?_take_of_lt (by omega)]; exact h1
  have ndP:ps.Nodup:=by rw [<- S.pre]; exact S.nd.sublist (List.take_sublist _ _)
  refine ⟨u,rv,?_⟩
  rcases S.par y (aaf hp) with k | k
  ·exact .inl ⟨k,Kl ndP hp hu k⟩
  ·obtain ⟨c,e⟩:=Lp (n:=s.heap.objs.size + 1) k
   refine .inr ⟨.inl k,c,e,?_⟩
   have q:=x.cell y c e
   rw [Km ndP hp hu (by show scope.names.lookup y ≠ _; rw [k]; decide)] at q
   exact q
 ·exact e0.hok.fresh (abK (x.above y c (PySem.mem_of_lookup h)))
 ·unfold AR
  show _=N.length
  rw [aaE,aac,aa5]
  omega
theorem Wj {CX:CXT} {P:Program} {w:World} {K:PySem.W.Frag} {mg:Str->Option Value} {base:Heap} {k:Nat} {f:Addr} {name qual:Str} {params:Arguments} {body:List Stmt} {scope:Scope} {dV kV doc pm cdv ct oc:Value} {an od:Option Addr}
  {osl:Array (Option Value)} {N ps:List Str} {sp:Sp} (lk:K.lookup f=some ⟨oc,od,.func (PySem.W.fnOf name qual params body scope dV kV doc pm an cdv ct),osl⟩) (hcd:PySem.W.codeIn K cdv qual=true) (S:FnScope N ps scope)
  (len:∀ vs H Q E,sp vs H Q E->vs.length=ps.length)
  (hbody:∀ (A:Around) (outer:List Env) (s:Shared) (H:Hp) (vs:List V) (Q:VK) (E:XK),Room k (A.deeper (envOfC qual scope s.heap.objs.size f cdv))->sp vs H Q E ->
   ∃ t,PSs (B6 CX P w K mg base N qual scope f cdv A outer s H E) body t/\t { nx:=fun _ H'=>Q .non H',rt:=Q } (AR N vs) H) :
  FnOk P w K mg base CX (k + 1) f (PySem.W.fnOf name qual params body scope dV kV doc pm an cdv ct) ps sp:=by
 refine ⟨len,fun A outer s H args us vs Q E hr e0 hb r hsp=>?_⟩
 have hl:=len _ _ _ _ hsp
 have KX:K.In s.heap:=e0.mod.kin.keeps fun b o e=>(e0.bs b o e).1
 have lim:s.heap.NoLimit:=e0.mod.nolimit.keeps fun b o e=>(e0.bs b o e).1
 have hkind:∀ y ∈ ps.zip us,scope.names.lookup y.1=some .local\/(scope.names.lookup y.1=some .cell/\((cellsFrom (s.heap.objs.size + 1) scope.names []).lookup y.1).isSome=true):=fun ⟨n,v⟩ hy=>by
  rcases S.par n (acz hy).1 with q | q
  ·exact .inl q
  ·exact .inr ⟨q,PySem.W.cellsFrom_some _ _ _ (.inl q)⟩
 refine codeAny_call_function hr.depth (KX _ _ lk) rfl S.co S.gen rfl (PySem.W.codeRec_of KX hcd) (hb _ _ _ _ ?_)
 refine wpAny_newFunctionEnv_cells S.kind hkind fun env he s1 x=>?_
 subst he
 refine ⟨lim.keeps x.toInCall.keep,codeAny_func ?_⟩
 obtain ⟨t,ht,hq⟩:=hbody A outer s H vs Q E (hr.deeper _) hsp
 have I:Inv (B6 CX P w K mg base N qual scope f cdv A outer s H E) [] (AR N vs) H s1:=O8 S hr.hd e0 hl r x
 refine wpAny_mono (ht [] s1 (AR N vs) H _ I hq) (fun fl s' hs=>?_) fun e s' hs=>hs
 have fin:∀ {σ':St} {H':Hp} {v:V} {u:Value},Inv (B6 CX P w K mg base N qual scope f cdv A outer s H E) [] σ' H' s'->RelV v u->Q v H'->CE outer P w H s Q u s' :=
  fun {σ' H' v u} J rv q=>⟨v,H',J.os,J.bare,J.base,J.hok,rv,q⟩
 cases fl with
 | ret u =>
  obtain ⟨v,σ',H',J,rv,q⟩:=hs
  exact fin J rv q
 | next =>
  obtain ⟨σ',H',J,q⟩:=hs
  exact fin (v:=V.non) (u:=Value.none) J rfl q
 | brk =>
  obtain ⟨_,_,_,q⟩:=hs
  exact False.elim q
 | cont =>
  obtain ⟨_,_,_,q⟩:=hs
  exact False.elim q
section
variable {X:Cx} {x:Str} {p pos:Pos} {e:Expr} {es:List Expr} {t:TA} {id T:String} {r:List V->Hp->VK->Prop}
noncomputable def tCB (r:List V->Hp->VK->Prop) (t:TA):TE:=fun σ H Q=>t σ H fun vs H1=>r vs H1 Q
theorem B7 (hc:C6 X (.builtin id) r) (hg:Gl X x) (hm:X.mg x=none) (hv:bootBuiltins x=some (.builtin id)) (ha:PA X (e :: es) t) (hn:x ≠ "__name__" := by decide) (hdb:(x==("__debug__" : Str))=false:=by decide)
  (he:starEach (e :: es) X.env=(false,eval e X.env) :: starEach es X.env:=by rfl) (hpl:(backTo pos (starEach es X.env)).any (·.1)=false:=by rfl):PE X (.Call (.Name x p) (e :: es) [] pos) (tCB r t):=by
 intro pins s σ H Q I h
 refine wpAny_Call_Name_kw (F0 I hg hm hv ?_ hn hdb)
 exact PyProof.Rows.callWith_builtin1 (thn (ha pos pins s σ H _ I h) fun us s1 ⟨vs,H1,I1,r1,q1⟩=>hc pins s1 σ H1 vs us Q I1 r1 q1) he hpl
theorem Kn (hc:C6 X (.type T) r) (hg:Gl X x) (hm:X.mg x=none) (hv:bootBuiltins x=some (.type T)) (ha:PA X (e :: es) t) (hn:x ≠ "__name__" := by decide) (hdb:(x==("__debug__" : Str))=false:=by decide)
  (he:starEach (e :: es) X.env=(false,eval e X.env) :: starEach es X.env:=by rfl) (hpl:(backTo pos (starEach es X.env)).any (·.1)=false:=by rfl):PE X (.Call (.Name x p) (e :: es) [] pos) (tCB r t):=by
 intro pins s σ H Q I h
 refine wpAny_Call_Name_kw (F0 I hg hm hv ?_ hn hdb)
 exact PyProof.Rows.callWith_type1 (thn (ha pos pins s σ H _ I h) fun us s1 ⟨vs,H1,I1,r1,q1⟩=>hc pins s1 σ H1 vs us Q I1 r1 q1) he hpl
end
end L2
namespace HT
open PySem PyProof.Rows
noncomputable def lexLt:List Int->List Int->Bool
 | [],[]=>false
 | [],_ :: _=>true
 | _ :: _,[]=>false
 | x :: xs,y :: ys=>if x=y then lexLt xs ys else decide (x < y)
theorem lexLt_cons (x y:Int) (xs ys:List Int):lexLt (x :: xs) (y :: ys)=if x=y then lexLt xs ys else decide (x < y):=rfl
theorem lexLt_nil_nil:lexLt [] []=false:=rfl
theorem JC (y:Int) (ys:List Int):lexLt [] (y :: ys)=true:=rfl
theorem JD (x:Int) (xs:List Int):lexLt (x :: xs) []=false:=rfl
theorem QN (A:Around) (s:Shared) (a:Int) (t:Tok) (c:Int) (u:Tok):∃ e,SeqAt.EqAt A s (.int a t) (.int c u) e/\(e=true ↔ a=c) :=
 ⟨(a==c),SeqAt.EqAt.int_int a t c u,by simp⟩
theorem QO (A:Around) (s:Shared) (a:Int) (t:Tok) (c:Int) (u:Tok) (prog:Program) (w:World) (E:Value->Shared->Prop) (Q:Value->Shared->Prop) (h:Q (.bool (decide (a < c))) s) :
  wpAny (model prog w) A (richCompare .Lt (.int a t) (.int c u)) Q E s :=
 (PyProof.Rows.lt_int h:wpAny (model prog w) A (compareOp .Lt (.int a t) (.int c u)) Q E s)
section
open PySem.SeqAt
open PySem.AutoSeq1 (wpAny_loadPart')
open PySem.MeetsSeq PySem.MeetsSeq2 PySem.MeetsSeq3
theorem KG (l b:Addr) (items items2:Array Value) (n n2:Nat) (dd dd2:Option Addr) (sl sl2:Array (Option Value)) (ns ms:List Int) (hi:IntsAre items.toList ns) (hj:IntsAre items2.toList ms) :
  Meets (Builtin.«tuple.__lt__» ⟨[.ref l,.ref b],[]⟩)
   (fun _ R s=>s.heap.get? l=some { cls:=.type "tuple",dict:=dd,data:=.seq items n,slots:=sl }/\s.heap.get? b=some { cls:=.type "tuple",dict:=dd2,data:=.seq items2 n2,slots:=sl2 } /\
    R (.ok (.ret (.bool (lexLt ns ms)))) s) :=
 .of_wp fun prog w A R s h=>by
  obtain ⟨hp,g,d,tk,os⟩:=s; obtain ⟨hl,hb,h⟩:=h
  have f2:=AutoSeq1.sub_tuple_tuple
  have z1:items.size=ns.length:=by rw [<- hi.length]; simp
  have z2:items2.size=ms.length:=by rw [<- hj.length]; simp
  wp_walk using wpAny_loadPart' hl,wpAny_loadPart' hb,wpAny_forIn_list _ (fun rest b s'=>b.1=none/\s'=⟨hp,g,d,tk,os⟩/\∃ (vs ws:List Value) (ns' ms':List Int),rest=vs.zip ws /\
   IntsAre vs ns'/\IntsAre ws ms'/\ns'.length + items2.size=ms'.length + items.size/\R (.ok (.ret (.bool (lexLt ns' ms')))) ⟨hp,g,d,tk,os⟩) _
  case turn =>
   rintro ⟨y,x⟩ rest b s' ⟨hb',rfl,vs,ws,ns',ms',hz,hvi,hwi,hlen,hR⟩
   cases hvi with
   | nil=>rw [List.zip_nil_left] at hz; cases hz
   | cons a t hvi' =>
    cases hwi with
    | nil=>rw [List.zip_nil_right] at hz; cases hz
    | cons c u hwi' =>
     rw [acR] at hz
     injection hz with hyx hrest
     injection hyx with hy hx
     subst hy hx
     rw [lexLt_cons] at hR
     simp only [aaJ] at hlen
     obtain ⟨e,he,hiff⟩:=QN A.in1 ⟨hp,g,d,tk,os⟩ a t c u
     refine wpAny_bind (he prog w _ _ ?_)
     cases e with
     | true =>
      rw [if_pos (hiff.mp rfl)] at hR
      wp_walk
      exact ⟨rfl,rfl,_,_,_,_,hrest,hvi',hwi',by omega,hR⟩
     | false =>
      rw [if_neg (fun q=>absurd (hiff.mpr q) aaU)] at hR
      have hri:=QO A.in1 ⟨hp,g,d,tk,os⟩ a t c u prog w
      wp_walk using hri
      exact ⟨_,rfl,by simpa using hR⟩
  case fin =>
   rintro ⟨b1,b2⟩ s' ⟨hb',rfl,vs,ws,ns',ms',hz,hvi,hwi,hlen,hR⟩
   simp only at hb'
   subst hb'
   have hv:lexLt ns' ms'=decide (items.size < items2.size):=by
    cases hvi with
    | nil =>
     cases hwi with
     | nil =>
      simp only [acd] at hlen
      rw [lexLt_nil_nil]
      exact (decide_eq_false (by omega)).symm
     | cons c u hw =>
      simp only [acd,aaJ] at hlen
      rw [JC]
      exact (decide_eq_true (by omega)).symm
    | cons a t hv =>
     cases hwi with
     | nil =>
      simp only [acd,aaJ] at hlen
      rw [JD]
      exact (decide_eq_false (by omega)).symm
     | cons c u hw =>
      rw [acR] at hz
      cases hz
   rw [hv] at hR
   wp_walk
   exact ⟨_,rfl,by simpa [Builtin.Tuple.tupleCompareSizes] using hR⟩
  case h =>
   exact ⟨rfl,rfl,items.toList,items2.toList,ns,ms,rfl,hi,hj,by omega,h⟩
end
section
variable {prog:Program} {w:World} {A:Around} {E:Value->Shared->Prop} {s:Shared}
theorem lt_tupInts {l b:Addr} {items items2:Array Value} {ns ms:List Int} {Q:Value->Shared->Prop} (hl:IsTup s.heap l items) (hb:IsTup s.heap b items2) (hi:IntsAre items.toList ns) (hj:IntsAre items2.toList ms)
  (hu:A.units < cLine) (h:Q (.bool (lexLt ns ms)) s):wpAny (model prog w) A (compareOp .Lt (.ref l) (.ref b)) Q E s:=by
 obtain ⟨⟨cls,dd,data,sl⟩,ho,hc,n,hd⟩:=id hl
 obtain ⟨⟨cls2,dd2,data2,sl2⟩,ho2,hc2,n2,hd2⟩:=id hb
 simp only at hc hd hc2 hd2
 subst hc hd hc2 hd2
 exact richCompare_meets_room (op:=.Lt) ⟨_,ho,rfl⟩ ⟨_,ho2,rfl⟩ PySem.F.slot_tuple_lt PySem.F.entry_tuple_lt (PySem.F.args_tuple_lt_2 _ _) (KG l b items items2 n n2 dd dd2 sl sl2 ns ms hi hj)
  ⟨ho,ho2,show Value.bool (lexLt ns ms) ≠ Value.notImplemented/\Q (.bool (lexLt ns ms)) s from ⟨(fun x=>nomatch x),h⟩⟩ hu
noncomputable def sIx (n d:Nat):Option Int->Nat
 | none=>d
 | some v=>if v < 0 then (v + (n:Int)).toNat else min v.toNat n
theorem UT (n d:Nat) (hd:d<=n) (o:Option Int):sIx n d o<=n:=by
 cases o with
 | none=>exact hd
 | some v =>
  show (if v < 0 then (v + (n:Int)).toNat else min v.toNat n)<=n
  by_cases hv:v < 0
  ·rw [if_pos hv]; omega
  ·rw [if_neg hv]; exact aaQ _ _
theorem clip_eq (v:Int) (n d:Nat):(if v < 0 then max (v + (n:Int)) 0 else min v (n:Int))=((sIx n d (some v):Nat):Int):=by
 show (if v < 0 then max (v + (n:Int)) 0 else min v (n:Int))=(((if v < 0 then (v + (n:Int)).toNat else min v.toNat n):Nat):Int)
 by_cases hv:v < 0
 ·simp only [if_pos hv]; omega
 ·simp only [if_neg hv]; omega
theorem NX (lo hi:Option Int) (n:Nat):Builtin.Slice.sliceAdjust lo hi 1 (n:Int)=(((sIx n 0 lo:Nat):Int),((sIx n n hi:Nat):Int)):=by
 have h1:¬ ((1:Int) < 0):=by omega
 unfold Builtin.Slice.sliceAdjust
 simp only [h1,if_false]
 refine Prod.ext ?_ ?_
 ·cases lo with
  | none=>rfl
  | some v=>exact clip_eq v n 0
 ·cases hi with
  | none=>rfl
  | some v=>exact clip_eq v n n
theorem NY (i j:Nat):Builtin.Slice.slicePlaces (i:Int) (j:Int) 1=j - i:=by
 unfold Builtin.Slice.slicePlaces
 have h1:(1:Int) > 0:=by omega
 simp only [h1,if_true,Int.ediv_one]
 split <;> omega
theorem IC {v:Value} {o:Option Int} {Q:Option Int->Shared->Prop} (p:IsPart v o) (h:Q o s):wpAny (model prog w) A (Builtin.Slice.slicePartIndex v) Q E s:=by
 cases p with
 | none=>exact slicePart_none h
 | int i t=>exact slicePart_int h
theorem HN {sl:Addr} {vl vu:Value} {lo hi:Option Int} {n:Nat} {Q:Int × Int × Nat->Shared->Prop} (hs:s.heap.IsSliceOf sl vl vu .none) (pl:IsPart vl lo) (pu:IsPart vu hi)
  (h:Q (((sIx n 0 lo:Nat):Int),1,sIx n n hi - sIx n 0 lo) s):wpAny (model prog w) A (Builtin.Slice.sliceApplied (.ref sl) (pure (n:Int))) Q E s:=by
 obtain ⟨os,hos,hcs,hds⟩:=id hs
 unfold Builtin.Slice.sliceApplied Builtin.Slice.sliceFields
 refine wpAny_bind (wpAny_bind (wpAny_field hos hds (x:=vl) rfl (wpAny_bind (wpAny_field hos hds (x:=vu) rfl (wpAny_bind (wpAny_field hos hds (x:=.none) rfl (wpAny_pure ?_)))))))
 refine wpAny_bind (slicePart_none ?_)
 show wpAny _ _ (if ((1:Int)==0)=true then _ else _) _ _ s
 rw [if_neg (by decide)]
 refine wpAny_bind (IC pl (wpAny_bind (IC pu (wpAny_bind (wpAny_pure ?_)))))
 show wpAny _ _ (match Builtin.Slice.sliceAdjust lo hi 1 (n:Int) with | (lo,hi)=>pure (lo,(1:Int),Builtin.Slice.slicePlaces lo hi 1)) _ _ s
 rw [NX lo hi n]
 show wpAny _ _ (pure (((sIx n 0 lo:Nat):Int),(1:Int),Builtin.Slice.slicePlaces ((sIx n 0 lo:Nat):Int) ((sIx n n hi:Nat):Int) 1)) _ _ s
 rw [NY]
 exact wpAny_pure h
theorem QP (xs:Array Value) (i k:Nat):((aar k).filterMap fun (m:Nat)=>xs[((i:Int) + (m:Int) * 1).toNat]?).toArray=((xs.toList.drop i).take k).toArray:=by
 have e:(fun (m:Nat)=>xs[((i:Int) + (m:Int) * 1).toNat]?)=fun m=>xs[i + m]?:=by
  funext m
  have:((i:Int) + (m:Int) * 1).toNat=i + m:=by omega
  rw [this]
 rw [e]
 have:=pick_run xs i k
 rw [List.filterMap_map] at this
 have e2:((fun x=>xs[x]?) ∘ fun x=>i + x)=fun m=>xs[i + m]?:=rfl
 rw [e2] at this
 rw [this]
theorem getItem_tuple_cut {t sl:Addr} {items:Array Value} {vl vu:Value} {lo hi:Option Int} {Q:Value->Shared->Prop} (ht:IsTup s.heap t items) (hs:s.heap.IsSliceOf sl vl vu .none) (pl:IsPart vl lo) (pu:IsPart vu hi)
  (hw:¬ (sIx items.size 0 lo=0/\sIx items.size items.size hi=items.size))
  (h:Q (.ref s.heap.objs.size) { s with heap:=s.heap.push { cls:=.type "tuple",data:=.seq ((items.toList.drop (sIx items.size 0 lo)).take (sIx items.size items.size hi - sIx items.size 0 lo)).toArray } })
  (hsz:items.size<=sizeLine):wpAny (model prog w) A (getItem (.ref t) (.ref sl)) Q E s:=by
 have htake:sizeOk (.seq ((items.toList.drop (sIx items.size 0 lo)).take (sIx items.size items.size hi - sIx items.size 0 lo)).toArray):=by
  show ((items.toList.drop (sIx items.size 0 lo)).take (sIx items.size items.size hi - sIx items.size 0 lo)).toArray.size<=sizeLine
  rw [aan,abt,abu,Array.length_toList]
  omega
 have hj:sIx items.size items.size hi<=items.size:=UT _ _ (aaj _) hi
 obtain ⟨os,hos,hcs,hds⟩:=id hs
 have hTs:s.TypeIs (.ref sl) "slice" := ⟨os,hos,hcs⟩
 unfold getItem
 try with_reducible refine wpAny_holding ?_
 first | refine wpAny_bind (wpAny_pure ?_) | skip
 refine wpAny_bind (wpAny_sequenceKey ht.typeIs (by decide) ?_)
 refine wpAny_bind (wpAny_callSpecial?_slot (name:=Str.ofString "__getitem__") ht.typeIs PyProof.Rows.slot_tuple_getitem
  (wpAny_call_entry PyProof.Rows.slot_tuple_getitem ht.typeIs entry_tuple_getitem ?_ (args_tuple_getitem _ _)))
 show wpAny _ _ (Builtin.Tuple.tupleItemsOf (.ref t) >>= _) _ _ s
 refine wpAny_bind (tupleItemsOf_ ht ?_)
 refine wpAny_bind (wpAny_typeOf hTs ?_)
 rw [if_pos (by decide)]
 refine wpAny_bind (HN hs pl pu ?_)
 have hno:¬ ((((sIx items.size 0 lo:Nat):Int)==0 && (1:Int)==1 && (sIx items.size items.size hi - sIx items.size 0 lo)==items.size)=true):=by
  intro q
  rw [aah,aah] at q
  have q1:((sIx items.size 0 lo:Nat):Int)=0:=eq_of_beq q.1.1
  have q2:sIx items.size items.size hi - sIx items.size 0 lo=items.size:=eq_of_beq q.2
  exact hw ⟨by omega,by omega⟩
 show wpAny _ _ (if (((sIx items.size 0 lo:Nat):Int)==0 && (1:Int)==1 && (sIx items.size items.size hi - sIx items.size 0 lo)==items.size)=true then _ else _) _ _ s
 rw [if_neg hno,QP]
 first
  | exact wpAny_bind (m:=Builtin.Tuple.tupleExact _) (wpAny_newObj_type (wpAny_pure ⟨_,rfl,wpAny_pure h⟩) htake)
  | exact wpAny_bind (m:=Builtin.Tuple.tupleExact _) (wpAny_newObj_type (wpAny_bind (wpAny_pure (wpAny_pure ⟨_,rfl,wpAny_pure h⟩))) htake)
  | exact wpAny_bind (wpAny_bind (m:=Builtin.Tuple.tupleExact _) (wpAny_newObj_type (wpAny_pure (wpAny_pure ⟨_,rfl,wpAny_pure h⟩)) htake))
  | exact wpAny_bind (wpAny_bind (m:=Builtin.Tuple.tupleExact _) (wpAny_newObj_type (wpAny_pure ⟨_,rfl,wpAny_pure h⟩) htake))
end
end HT
namespace L2
open PySem PySem.Spec PyProof.Rows
noncomputable abbrev TO:=St->Hp->(Option Int->Hp->Prop)->Prop
noncomputable def PO (X:Cx) (e:Option Expr) (t:TO):Prop :=
 ∀ (pins:List (Addr × Obj)) (s:Shared) (σ:St) (H:Hp) (Q:Option Int->Hp->Prop),Inv X pins σ H s->t σ H Q ->
  wpAny (model X.prog X.w) X.A (evalPart e X.env) (fun u s'=>∃ o H',Inv X pins σ H' s'/\IsPart u o/\Q o H') X.xe s
noncomputable def SN:TO:=fun _ H Q=>Q none H
noncomputable def Wk (t:TE):TO:=fun σ H Q=>t σ H fun x H1=>∃ i,x=.int i/\Q (some i) H1
theorem NZ {ns:List Int}:∀ {us:List Value},Vals (ns.map V.int) us->IntsAre us ns:=by
 induction ns with
 | nil=>intro us r; rw [abb] at r; cases r; exact .nil
 | cons n ns ih =>
  intro us r
  rw [aax] at r
  cases r with
  | cons r1 r2 =>
   obtain ⟨t,e⟩:=r1
   subst e
   exact .cons n t (ih r2)
section
variable {X:Cx} {e:Expr} {te:TE} {lo hi:Option Expr} {tl th:TO} {pos p2:Pos}
theorem SO:PO X none SN:=by
 intro pins s σ H Q I h
 rw [evalPart_none]
 exact wpAny_pure ⟨none,H,I,.none,h⟩
theorem SQ (h:PE X e te):PO X (some e) (Wk te):=by
 intro pins s σ H Q I hw
 rw [evalPart_some]
 refine thn (h pins s σ H _ I hw) fun u s1 ⟨x,H1,I1,r1,q1⟩=>?_
 obtain ⟨i,rfl,q⟩:=q1
 obtain ⟨t,rfl⟩:=r1
 exact ⟨some i,H1,I1,.int i t,q⟩
noncomputable def SlR (X:Cx) (r:V->Option Int->Option Int->Hp->VK->Prop):Prop :=
 ∀ (pins:List (Addr × Obj)) (s:Shared) (σ:St) (H:Hp) (x:V) (v vl vu:Value) (lo hi:Option Int) (sl:Addr) (Q:VK),Inv X pins σ H s->RelV x v->s.heap.IsSliceOf sl vl vu .none->IsPart vl lo->IsPart vu hi->r x lo hi H Q ->
  ∃ T id,typeLookup (.type T) "__getitem__" = pure (some (.builtin id))/\s.TypeIs v T/\wpAny (model X.prog X.w) X.A (getItem v (.ref sl)) (EP X pins σ Q) X.xe s
theorem SlR.or {r r':V->Option Int->Option Int->Hp->VK->Prop} (h:SlR X r) (h':SlR X r'):SlR X (fun x lo hi H Q=>r x lo hi H Q\/r' x lo hi H Q):=by
 intro pins s σ H x v vl vu lo hi sl Q I rx hs pl pu q
 rcases q with q | q
 ·exact h pins s σ H x v vl vu lo hi sl Q I rx hs pl pu q
 ·exact h' pins s σ H x v vl vu lo hi sl Q I rx hs pl pu q
noncomputable def tSl (r:V->Option Int->Option Int->Hp->VK->Prop) (te:TE) (tl th:TO):TE:=fun σ H Q=>te σ H fun x H1=>tl σ H1 fun l H2=>th σ H2 fun u H3=>r x l u H3 Q
theorem QQ {r:V->Option Int->Option Int->Hp->VK->Prop} (hr:SlR X r) (he:PE X e te) (hl:PO X lo tl) (hu:PO X hi th):PE X (.Subscript e (.Slice lo hi none p2) pos) (tSl r te tl th):=by
 intro pins s σ H Q I h
 refine Subscript_ (thn (he pins s σ H _ I h) fun v s1 ⟨x,H1,I1,r1,q1⟩=>?_)
 refine wpAny_Slice (thn (hl pins s1 σ H1 _ I1 q1) fun vl s2 ⟨l,H2,I2,pl,q2⟩=>thn (hu pins s2 σ H2 _ I2 q2) fun vu s3 ⟨u,H3,I3,pu,q3⟩=>?_)
 rw [evalPart_none]
 refine wpAny_pure ?_
 have I4:Inv X pins σ H3 { s3 with heap:=s3.heap.push { cls:=.type "slice",data:=.fields #[vl,vu,.none] } }:=I3.kept (t':=s3.toks) fun b ob q=>Heap.get?_push_of_some _ q
 obtain ⟨T,id,hT,ht,hg⟩:=hr pins { s3 with heap:=s3.heap.push { cls:=.type "slice",data:=.fields #[vl,vu,.none] } } σ H3 x v vl vu l u s3.heap.objs.size Q I4 r1 (Heap.IsSliceOf.new ..) pl pu q3
 show wpAny (model X.prog X.w) X.A (subscriptTail e (.Slice lo hi none p2) v (.ref s3.heap.objs.size)) (EP X pins σ Q) X.xe { s3 with heap:=s3.heap.push { cls:=.type "slice",data:=.fields #[vl,vu,.none] } }
 exact tail_any (ops:=[.ref s3.heap.objs.size,v]) ht hT hg (by with_unfolding_all rfl)
noncomputable def GH (xs:List V) (lo hi:Option Int):List V:=(xs.drop (HT.sIx xs.length 0 lo)).take (HT.sIx xs.length xs.length hi - HT.sIx xs.length 0 lo)
theorem HH (xs:List V) (lo hi:Option Int):(GH xs lo hi).length<=xs.length:=by
 unfold GH
 rw [abt,abu]
 omega
noncomputable def WY (K:PySem.W.Frag):V->Option Int->Option Int->Hp->VK->Prop:=fun x lo hi H Q=>∃ a xs,x=.ref a/\SqT K H a xs /\
 ¬ (HT.sIx xs.length 0 lo=0/\HT.sIx xs.length xs.length hi=xs.length)/\∀ p,H p=none->Q (.ref p) (upd H p (.tup (GH xs lo hi)))
theorem UU:SlR X (WY X.K):=by
 intro pins s σ H x v vl vu lo hi sl Q I rx hs pl pu h
 obtain ⟨a,xs,rfl,hx,hw,q⟩:=h
 cases rx
 obtain ⟨its,r,ht,hz⟩:=I.tuple hx
 have hlen:its.toArray.size=xs.length:=by rw [aan]; exact r.length.symm
 refine ⟨"tuple",_,PyProof.Rows.slot_tuple_getitem.lookup,ht.typeIs,?_⟩
 refine HT.getItem_tuple_cut ht hs pl pu (by rw [hlen]; exact hw) ?_ (by rw [hlen]; exact hz)
 rw [hlen]
 refine ⟨.ref s.heap.objs.size,_,I.laid (t':=s.toks) (o:=.tup (GH xs lo hi)) (fun b ob q=>Heap.get?_push_of_some _ q) (aaj _) ?_,rfl,q _ (I.hok.fresh (aaj _))⟩
 exact ⟨aaK (HH xs lo hi) hz,_,(r.drop (HT.sIx xs.length 0 lo)).take (HT.sIx xs.length xs.length hi - HT.sIx xs.length 0 lo),IsTup.new _ _⟩
end
noncomputable def ixN (n:Nat) (i:Int):Option Nat:=if 0<=i then (if i < n then some i.toNat else none) else if -(n:Int)<=i then some (i + n).toNat else none
noncomputable def atI {α:Type} (xs:List α) (i:Int):Option α:=(ixN xs.length i).bind fun j=>xs[j]?
theorem M2 {n:Nat} {i:Int} {j:Nat} (h:ixN n i=some j):seqIndex? i n=some j/\j < n/\-(n:Int)<=i/\i < n:=by
 unfold ixN at h
 by_cases h0:0<=i
 ·rw [if_pos h0] at h
  by_cases h1:i < n
  ·rw [if_pos h1] at h
   have e:i.toNat=j:=Option.some.inj h
   exact ⟨by rw [seqIndex_of h0 h1,e],by omega,by omega,h1⟩
  ·rw [if_neg h1] at h; cases h
 ·rw [if_neg h0] at h
  by_cases h1:-(n:Int)<=i
  ·rw [if_pos h1] at h
   have e:(i + n).toNat=j:=Option.some.inj h
   exact ⟨by rw [seqIndex_neg (by omega) h1,e],by omega,h1,by omega⟩
  ·rw [if_neg h1] at h; cases h
theorem M3 {α:Type} {xs:List α} {i:Int} {v:α} (h:atI xs i=some v):∃ j,seqIndex? i xs.length=some j/\xs[j]?=some v/\j < xs.length/\-(xs.length:Int)<=i/\i < xs.length:=by
 unfold atI at h
 cases e:ixN xs.length i with
 | none=>rw [e] at h; cases h
 | some j =>
  rw [e] at h
  obtain ⟨h1,h2,h3,h4⟩:=M2 e
  exact ⟨j,h1,h,h2,h3,h4⟩
noncomputable def M4 (b:Expr):Prop:=∀ o i,subscripted b false o i=operate [o,i] (getItem o i)
noncomputable def IxR (X:Cx) (r:R2):Prop :=
 ∀ (value slice:Expr) (pins:List (Addr × Obj)) (s:Shared) (σ:St) (H:Hp) (x y:V) (v u:Value) (Q:VK),Inv X pins σ H s->RelV x v->RelV y u->r x y H Q ->
  subscripted slice false v u=operate [v,u] (getItem v u)->wpAny (model X.prog X.w) X.A (subscriptTail value slice v u) (EP X pins σ Q) X.xe s
noncomputable def MtR (X:Cx) (id:String) (r:V->List V->Hp->VK->Prop):Prop :=
 ∀ (pins:List (Addr × Obj)) (s:Shared) (σ:St) (H:Hp) (x:V) (xs:List V) (v:Value) (us:List Value) (Q:VK),Inv X pins σ H s->RelV x v->Vals xs us->r x xs H Q ->
  wpAny (model X.prog X.w) X.A (call (.builtin id) (v :: us)) (EP X pins σ Q) X.xe s
section
variable {X:Cx} {a b:Expr} {ta tb:TE} {pos:Pos}
theorem IxR.or {r r':R2} (h:IxR X r) (h':IxR X r'):IxR X (fun x y H Q=>r x y H Q\/r' x y H Q):=by
 intro value slice pins s σ H x y v u Q I rx ry q hs
 rcases q with q | q
 ·exact h value slice pins s σ H x y v u Q I rx ry q hs
 ·exact h' value slice pins s σ H x y v u Q I rx ry q hs
theorem N0 {r:R2} (hr:IxR X r) (ha:PE X a ta) (hb:PE X b tb) (hs:M4 b):PE X (.Subscript a b pos) (tOp r ta tb):=by
 intro pins s σ H Q I h
 exact Subscript_ (QH ha hb I h fun v u s2 x y H2 I2 rx ry q=>hr a b pins s2 σ H2 x y v u Q I2 rx ry q (hs _ _))
noncomputable def UV (K:PySem.W.Frag):R2:=fun x y H Q=>∃ p xs i v,x=.ref p/\y=.int i/\SqL K H p xs/\atI xs i=some v/\Q v H
noncomputable def UW (K:PySem.W.Frag):R2:=fun x y H Q=>∃ p xs i v,x=.ref p/\y=.int i/\SqT K H p xs/\atI xs i=some v/\Q v H
theorem JE:IxR X (UV X.K):=by
 intro value slice pins s σ H x y v u Q I rx ry h hs
 obtain ⟨p,xs,i,z,rfl,rfl,hq,he,q⟩:=h
 cases rx
 obtain ⟨t,rfl⟩:=ry
 obtain ⟨its,r,pl,hz⟩:=I.list hq
 obtain ⟨j,h1,h2,h3,h4,h5⟩:=M3 he
 obtain ⟨w,ew,rw'⟩:=r.get h2
 have hl:=r.length
 have hn:=IB
 have fin:EP X pins σ Q w s:=⟨z,H,I,rw',q⟩
 by_cases h0:0<=i
 ·have hj:i.toNat=j:=by
   rw [seqIndex_of h0 h5] at h1
   exact Option.some.inj h1
  exact item_listR pl.isList h0 (by omega) (by rw [hj]; simpa using ew) fin hs
 ·have hj:(i + (its.toArray.size:Int)).toNat=j:=by
   rw [seqIndex_neg (by omega) h4] at h1
   rw [aan,<- hl]
   exact Option.some.inj h1
  exact subscriptTail_builtinR (x:=w) pl.isList.typeIs slot_list_getitem.lookup
   (wpAny_getItem_list_neg (Q:=fun r s'=>r=w/\EP X pins σ Q r s') pl.isList (by omega) (by rw [aan] <;> omega) (by omega) (by rw [hj]; simpa using ew) ⟨rfl,fin⟩) hs
theorem O9:IxR X (UW X.K):=by
 intro value slice pins s σ H x y v u Q I rx ry h hs
 obtain ⟨p,xs,i,z,rfl,rfl,hq,he,q⟩:=h
 cases rx
 obtain ⟨t,rfl⟩:=ry
 obtain ⟨its,r,pl,hz⟩:=I.tuple hq
 obtain ⟨j,h1,h2,h3,h4,h5⟩:=M3 he
 obtain ⟨w,ew,rw'⟩:=r.get h2
 have hl:=r.length
 have hn:=IB
 have fin:EP X pins σ Q w s:=⟨z,H,I,rw',q⟩
 exact subscriptTail_builtinR (x:=w) pl.typeIs slot_tuple_getitem.lookup
  (getItem_tuple (j:=j) (Q:=fun r s'=>r=w/\EP X pins σ Q r s') pl (by omega) (by omega) (by rw [aan,<- hl]; exact h1) (by simpa using ew) ⟨rfl,fin⟩) hs
theorem Lq (lo hi:Option Int) (n:Nat):(sliceBounds lo hi none n).1=((HT.sIx n 0 lo:Nat):Int)/\(sliceBounds lo hi none n).2.1=((HT.sIx n n hi:Nat):Int)/\(sliceBounds lo hi none n).2.2=1:=by
 refine ⟨?_,?_,rfl⟩
 ·cases lo with
  | none=>simp [sliceBounds,HT.sIx]
  | some i =>
   simp only [sliceBounds,HT.sIx,ac2,show (1:Int) > 0 by decide,if_true]
   by_cases h:i < 0
   ·simp only [h,if_true] <;> omega
   ·simp only [h,if_false] <;> omega
 ·cases hi with
  | none=>simp [sliceBounds,HT.sIx]
  | some i =>
   simp only [sliceBounds,HT.sIx,ac2,show (1:Int) > 0 by decide,if_true]
   by_cases h:i < 0
   ·simp only [h,if_true] <;> omega
   ·simp only [h,if_false] <;> omega
theorem KH (its:List Value) (lo hi:Option Int):slicePick its.toArray lo hi none=((its.drop (HT.sIx its.length 0 lo)).take (HT.sIx its.length its.length hi - HT.sIx its.length 0 lo)).toArray:=by
 obtain ⟨h1,h2,h3⟩:=Lq lo hi its.toArray.size
 unfold slicePick
 rw [h1,h2,h3]
 simp only [sliceRange_one,pick_run,aan] <;> rfl
noncomputable def WZ (K:PySem.W.Frag):V->Option Int->Option Int->Hp->VK->Prop:=fun x lo hi H Q=>∃ a xs,x=.ref a/\SqL K H a xs/\∀ p,H p=none->Q (.ref p) (upd H p (.lst (GH xs lo hi)))
theorem SR:SlR X (WZ X.K):=by
 intro pins s σ H x v vl vu lo hi sl Q I rx hs pl pu h
 obtain ⟨a,xs,rfl,hx,q⟩:=h
 cases rx
 obtain ⟨its,r,ht,hz⟩:=I.list hx
 have hlen:=r.length
 refine ⟨"list",_,slot_list_getitem.lookup,ht.isList.typeIs,?_⟩
 refine wpAny_getItem_list_slice ht.isList hs pl pu .none (by simp) ?_ (by rw [aan] <;> omega)
 rw [KH,<- hlen]
 refine ⟨.ref s.heap.objs.size,_,I.laid (t':=s.toks) (o:=.lst (GH xs lo hi)) (fun b ob q=>Heap.get?_push_of_some _ q) (aaj _) ?_,rfl,q _ (I.hok.fresh (aaj _))⟩
 exact ⟨aaK (HH xs lo hi) hz,_,0,(r.drop (HT.sIx xs.length 0 lo)).take (HT.sIx xs.length xs.length hi - HT.sIx xs.length 0 lo),Heap.get?_push_size _ rfl⟩
theorem Lr:C6 X (.builtin "len") (fun xs H Q=>∃ p ys,xs=[.ref p]/\(SqL X.K H p ys\/SqT X.K H p ys)/\Q (.int ys.length) H):=by
 intro pins s σ H xs us Q I r h
 obtain ⟨p,ys,rfl,hq,q⟩:=h
 obtain ⟨u,rfl,rx⟩:=EN r
 cases rx
 have hn:=IB
 rcases hq with hq | hq
 ·obtain ⟨its,r',pl,hz⟩:=I.list hq
  have hlen:=r'.length
  exact Calls.call_len_list pl.isList (by simp only [aan] <;> omega) ⟨.int ys.length,H,I.tok _,⟨s.toks + 1,by rw [aan,hlen]⟩,q⟩
 ·obtain ⟨its,r',pl,hz⟩:=I.tuple hq
  have hlen:=r'.length
  exact len_tuple pl (by simp only [aan] <;> omega) ⟨.int ys.length,H,I.tok _,⟨s.toks + 1,by rw [aan,hlen]⟩,q⟩
theorem Ls:C6 X (.type "list") (fun xs H Q=>∃ p ys,xs=[.ref p]/\(SqL X.K H p ys\/SqT X.K H p ys)/\∀ l,H l=none->Q (.ref l) (upd H l (.lst ys))):=by
 intro pins s σ H xs us Q I r h
 obtain ⟨p,ys,rfl,hq,q⟩:=h
 obtain ⟨u,rfl,rx⟩:=EN r
 cases rx
 have fin:∀ (its:List Value),Vals ys its->ys.length<=sizeLine->∀ (h':Heap) (c':Nat),(∀ b o',s.heap.get? b=some o'->h'.get? b=some o') ->
   h'.get? s.heap.objs.size=some { cls:=.type "list",dict:=none,data:=.seq its.toArray c',slots:=#[] }->EP X pins σ Q (.ref s.heap.objs.size) { s with heap:=h' }:=fun its r' hz h' c' kp e =>
  ⟨.ref s.heap.objs.size,_,I.laid (t':=s.toks) kp (aaj _) (show ObjOk X.prog X.w _ h' _ (.lst ys) from ⟨hz,its,c',r',e⟩),rfl,q _ (I.hok.fresh (aaj _))⟩
 rcases hq with hq | hq
 ·obtain ⟨its,r',pl,hz⟩:=I.list hq
  have hlen:=r'.length
  obtain ⟨o,ho,hc,n,hd⟩:=pl.isList
  exact call_list_seq p (.inl rfl) ho hc hd (fun h' c' kp e=>fin its r' hz h' c' kp e) (by simp only [aan] <;> omega)
 ·obtain ⟨its,r',pl,hz⟩:=I.tuple hq
  have hlen:=r'.length
  obtain ⟨o,ho,hc,n,hd⟩:=pl
  exact call_list_seq p (.inr rfl) ho hc hd (fun h' c' kp e=>fin its r' hz h' c' kp e) (by simp only [aan] <;> omega)
noncomputable def tyV (K:PySem.W.Frag) (T:String) (x:V) (H:Hp):Prop:=match x with
 | .str _=>T = "str"
 | .int _=>T = "int"
 | .ref p=>(T = "list" /\ ∃ xs,SqL K H p xs)\/(T = "tuple" /\ ∃ o,K.lookup p=some o/\o.cls=.type "tuple" /\ o.dict=none) \/
   (T = "dict" /\ ((∃ kvs,H p=some (.dK kvs))\/∃ kvs,H p=some (.dT kvs)))\/(T = "set" /\ ∃ S n,H p=some (.set S n))
 | _=>False
theorem Pa {pins:List (Addr × Obj)} {σ:St} {H:Hp} {s:Shared} {T:String} {x:V} {v:Value} (I:Inv X pins σ H s) (r:RelV x v) (ty:tyV X.K T x H) :
  s.TypeIs v T/\∀ a,v=.ref a->∃ ob,s.heap.get? a=some ob/\ob.dict=none:=by
 cases x with
 | str z =>
  obtain ⟨t,rfl⟩:=r
  cases (show T = "str" from ty)
  exact ⟨typeIs_str s z t,fun _ e=>nomatch e⟩
 | int i =>
  obtain ⟨t,rfl⟩:=r
  cases (show T = "int" from ty)
  exact ⟨typeIs_int s i t,fun _ e=>nomatch e⟩
 | ref p =>
  cases r
  rcases ty with ⟨rfl,xs,hq⟩ | ⟨rfl,o,hk,hc,hd⟩ | ⟨rfl,hk⟩ | ⟨rfl,S,n,hk⟩
  ·obtain ⟨its,_,pl,_⟩:=I.list hq
   refine ⟨pl.isList.typeIs,fun a e=>?_⟩
   cases e
   obtain ⟨o,n,e,c,hd,_⟩:=pl
   exact ⟨o,e,hd⟩
  ·refine ⟨⟨o,I.kIn p o hk,hc⟩,fun a e=>?_⟩
   cases e
   exact ⟨o,I.kIn _ o hk,hd⟩
  ·have z:∃ o,s.heap.get? p=some o/\o.ExactDict:=by
    rcases hk with ⟨kvs,hk⟩ | ⟨kvs,hk⟩
    ·obtain ⟨_,_,_,_,o,_,_,e,ex,_⟩:=I.hok p _ hk
     exact ⟨o,e,ex⟩
    ·obtain ⟨_,_,_,_,o,_,_,e,ex,_⟩:=I.hok p _ hk
     exact ⟨o,e,ex⟩
   obtain ⟨o,e,ex⟩:=z
   refine ⟨⟨o,e,ex.1⟩,fun a e2=>?_⟩
   cases e2
   exact ⟨o,e,ex.2.1⟩
  ·obtain ⟨o,_,_,_,e,ex,_⟩:=I.hok p _ hk
   refine ⟨⟨o,e,ex.1⟩,fun a e2=>?_⟩
   cases e2
   exact ⟨o,e,ex.2.1⟩
 | _=>exact False.elim ty
noncomputable def W0 (K:PySem.W.Frag) (T:String) (r:V->List V->Hp->VK->Prop) (to:TE):TE:=fun σ H Q=>to σ H fun x H1=>tyV K T x H1/\r x [] H1 Q
noncomputable def tBM (K:PySem.W.Frag) (T:String) (r:V->List V->Hp->VK->Prop) (to:TE) (t:TA):TE:=fun σ H Q=>to σ H fun x H1=>tyV K T x H1/\t σ H1 fun xs H2=>r x xs H2 Q
variable {o e:Expr} {es:List Expr} {to:TE} {t:TA} {name:Str} {apos cpos:Pos} {T id:String} {r:V->List V->Hp->VK->Prop}
theorem Lu (pa:PlainAttrs T) (slot:Slot T name id) (hty:typeOf (.builtin id)=pure (.type "method_descriptor")) (hm:MtR X id r) (ho:PE X o to)
  (hbase:attributeBase o name X.env (eval o X.env)=eval o X.env:=by rfl) (hline:(apos.endLine==cpos.line)=true:=by rfl):PE X (.Call (.Attribute o name apos) [] [] cpos) (W0 X.K T r to):=by
 intro pins s σ H Q I h
 refine wpAny_Call_method0_late hbase hline (thn (ho pins s σ H _ I h) fun v s1 ⟨x,H1,I1,r1,ty,q1⟩=>?_)
 obtain ⟨h1,h2⟩:=Pa I1 r1 ty
 exact ⟨T,id,pa,slot,hty,h1,h2,Calls.callWith_builtin rfl (PySem.evalArgs_none (hm pins s1 σ H1 x [] v [] Q I1 r1 .nil q1))⟩
theorem Go (pa:PlainAttrs T) (slot:Slot T name id) (hty:typeOf (.builtin id)=pure (.type "method_descriptor")) (hm:MtR X id r) (ho:PE X o to) (ha:PA X (e :: es) t)
  (hbase:attributeBase o name X.env (eval o X.env)=eval o X.env:=by rfl)
  (hfew:((backTo cpos (starEach (e :: es) X.env)).all (fun x=>!x.1) && (backToKw cpos (keywordEach [] X.env)).all (fun x=>x.1.isSome)
   && decide ((e :: es).length + ([]:List Keyword).length + (if ([]:List Keyword).isEmpty then 0 else 1) < 30))=true:=by rfl)
  (hline:(apos.endLine==cpos.line)=true:=by rfl) (hs:starEach (e :: es) X.env=(false,eval e X.env) :: starEach es X.env:=by rfl) (hplain:(backTo cpos (starEach es X.env)).any (·.1)=false:=by rfl) :
  PE X (.Call (.Attribute o name apos) (e :: es) [] cpos) (tBM X.K T r to t):=by
 intro pins s σ H Q I h
 refine wpAny_Call_method_late hbase hfew hline rfl (thn (ho pins s σ H _ I h) fun v s1 ⟨x,H1,I1,r1,ty,q1⟩=>?_)
 obtain ⟨h1,h2⟩:=Pa I1 r1 ty
 refine ⟨T,id,pa,slot,hty,h1,h2,?_⟩
 have hA:=ha cpos pins s1 σ H1 _ I1 q1
 rw [hs] at hA ⊢
 refine Calls.callWith_builtin (by show (false || (backTo cpos (starEach es X.env)).any (·.1))=false; rw [hplain] <;> rfl) (Calls.evalArgs_plain ?_)
 exact thn hA fun us s2 ⟨vs,H2,I2,r2,q2⟩=>hm pins s2 σ H2 x vs v us Q I2 r1 r2 q2
/- xs.append(e),list.index on a module's tuple .. are MtR facts of 06m -/
end
noncomputable def MtM (X:Cx) (id:String) (r:V->List V->Hp->VK->Prop):Prop :=
 ∀ (pins:List (Addr × Obj)) (s:Shared) (σ:St) (H:Hp) (x:V) (xs:List V) (v:Value) (us:List Value) (Q:VK),Inv X pins σ H s->RelV x v->Vals xs us->r x xs H Q ->
  wpAny (model X.prog X.w) X.A (call (.builtin id) (v :: us)) (EP X pins σ Q) X.xe s
theorem Vals.one:∀ {x:V} {us:List Value},Vals [x] us->∃ u,us=[u]/\RelV x u
 | _,_,.cons r .nil=>⟨_,rfl,r⟩
theorem Vals.zero:∀ {us:List Value},Vals [] us->us=[]
 | _,.nil=>rfl
theorem Vals.dropLast {xs:List V} {us:List Value} (h:Vals xs us):Vals xs.dropLast us.dropLast:=by
 induction h with
 | nil=>exact .nil
 | cons r t ih =>
  cases t with
  | nil=>exact .nil
  | cons q t'=>exact .cons r ih
theorem Vals.eraseIdx:∀ {xs:List V} {us:List Value} (i:Nat),Vals xs us->Vals (xs.eraseIdx i) (us.eraseIdx i)
 | _,_,_,.nil=>.nil
 | _,_,0,.cons _ t=>t
 | _,_,i + 1,.cons r t=>.cons r (Vals.eraseIdx i t)
theorem Vals.reverse {xs:List V} {us:List Value} (h:Vals xs us):Vals xs.reverse us.reverse:=by
 induction h with
 | nil=>exact .nil
 | cons r t ih=>rw [ab2,ab2]; exact Vals.append ih (.cons r .nil)
theorem Vals.rep {xs:List V} {us:List Value} (h:Vals xs us):∀ k:Nat,Vals (aam k xs).flatten (aam k us).flatten
 | 0=>.nil
 | k + 1=>by
  rw [abh,abh,abG,abG]
  exact Vals.append h (Vals.rep h k)
theorem N1 {α:Type} (l:List α):l.eraseIdx (l.length - 1)=l.dropLast:=by
 induction l with
 | nil=>rfl
 | cons a r ih =>
  cases r with
  | nil=>rfl
  | cons b r =>
   have e:(a :: b :: r).length - 1=((b :: r).length - 1) + 1:=by
    have h1:(a :: b :: r).length=r.length + 2:=rfl
    have h2:(b :: r).length=r.length + 1:=rfl
    omega
   rw [e,List.eraseIdx_cons_succ,ih]
   all_goals rfl
theorem Ko {α:Type}:∀ (l:List α) (i:Nat),(l.eraseIdx i).length<=l.length
 | [],_=>aaj _
 | _ :: _,0=>ack _
 | _ :: r,i + 1=>Nat.succ_le_succ (Ko r i)
theorem Kp (its:List Value):∀ (k:Nat) (acc:List Value),
  ac3 (fun x1 x2=>x1 ++ x2) acc.toArray (aam k its.toArray)=(acc ++ (aam k its).flatten).toArray
 | 0,acc=>by simp
 | k + 1,acc=>by
  have e:acc.toArray ++ its.toArray=(acc ++ its).toArray:=by simp
  have e2:(acc ++ its) ++ (aam k its).flatten=acc ++ (aam (k + 1) its).flatten:=by
   rw [abh,abG,aba]
  rw [<- e2,<- Kp its k (acc ++ its),<- e,abh,abB]
section
variable {X:Cx} {pins:List (Addr × Obj)} {σ:St} {H:Hp} {s:Shared} {l b:Addr} {xs ys zs:List V}
theorem Inv.lset {its its':List Value} {n:Nat} {f:Array Value->Array Value} {t':Nat} (I:Inv X pins σ H s) (hH:H l=some (.lst xs))
  (e:s.heap.get? l=some { cls:=.type "list",data:=.seq its.toArray n }) (hf:f its.toArray=its'.toArray) (hv:Vals ys its') (hz:ys.length<=sizeLine) :
  Inv X pins σ (upd H l (.lst ys)) { s with heap:=s.heap.update l (Obj.mapSeq f),toks:=t' }:=by
 have q:=PySem.IsL.update e f
 rw [hf] at q
 refine I.write (x:=l) (e:=l) (by rw [hH]; exact trivial) (.inl rfl) (fun b' u hb hu=>(Heap.get?_update_other s.heap (Obj.mapSeq f) (Ne.symm hb)).trans hu) ⟨_,q⟩ ?_
 exact ⟨hz,its',_,hv,q⟩
theorem Inv.lnew {its:List Value} {t':Nat} (I:Inv X pins σ H s) (hv:Vals ys its) (hz:ys.length<=sizeLine) :
  Inv X pins σ (upd H s.heap.objs.size (.lst ys)) { s with heap:=s.heap.push { cls:=.type "list",data:=.seq its.toArray },toks:=t' } :=
 I.laid (fun _ _ q=>Heap.get?_push_of_some _ q) (aaj _) ⟨hz,its,0,hv,Heap.get?_push_size _ rfl⟩
theorem Inv.fresh (I:Inv X pins σ H s):H s.heap.objs.size=none:=I.hok.fresh (aaj _)
theorem Inv.lstM (I:Inv X pins σ H s) (hH:H l=some (.lst xs)):xs.length<=sizeLine/\∃ (its:List Value) (n:Nat),Vals xs its/\xs.length=its.length/\s.heap.get? l=some { cls:=.type "list",data:=.seq its.toArray n }:=by
 obtain ⟨z,its,n,r,e⟩:=I.hok l _ hH
 exact ⟨z,its,n,r,r.length,e⟩
theorem Lv {n:Nat} (h:n<=sizeLine):Builtin.List.listTooLong n=false:=by
 unfold Builtin.List.listTooLong
 exact decide_eq_false (by omega)
end
section
variable {X:Cx}
noncomputable def Hh:V->List V->Hp->VK->Prop:=fun x vs H Q=>∃ l xs y,x=.ref l/\vs=[y]/\H l=some (.lst xs)/\xs.length < sizeLine/\Q .non (upd H l (.lst (xs ++ [y])))
theorem Fz:MtM X "list.append" Hh:=by
 intro pins s σ H x vs v us Q I rx rv h
 obtain ⟨l,xs,y,rfl,rfl,hH,hz,q⟩:=h
 cases rx
 obtain ⟨u,rfl,ru⟩:=rv.one
 obtain ⟨z,its,n,r,hl,e⟩:=I.lstM hH
 refine call_meets F.slot_list_append ⟨_,e,rfl⟩ F.entry_list_append (F.args_list_append_2 _ _) (PySem.list_append l its.toArray n u (by rw [aan]; omega)) ⟨e,?_⟩
 refine ⟨.non,_,I.lset (its':=its ++ [u]) hH e (by simp) (r.append (.cons ru .nil)) ?_,rfl,q⟩
 rw [aaE,abL]
 omega
noncomputable def UX:V->List V->Hp->VK->Prop:=fun x vs H Q=>∃ l xs y,x=.ref l/\vs=[]/\H l=some (.lst xs)/\xs[xs.length - 1]?=some y/\Q y (upd H l (.lst xs.dropLast))
theorem UY:MtM X "list.pop" UX:=by
 intro pins s σ H x vs v us Q I rx rv h
 obtain ⟨l,xs,y,rfl,rfl,hH,hy,q⟩:=h
 cases rx
 have hus:=rv.zero
 subst hus
 obtain ⟨z,its,n,r,hl,e⟩:=I.lstM hH
 obtain ⟨u,hu,ru⟩:=r.get hy
 have hy':its.toArray[its.toArray.size - 1]?=some u:=by
  show its.toArray[its.length - 1]?=some u
  rw [<- Array.getElem?_toList,<- hl]
  exact hu
 refine call_meets F.slot_list_pop ⟨_,e,rfl⟩ F.entry_list_pop (F.args_list_pop_1 _) (MeetsSeq.list_pop_last l its.toArray n u hy' (by rw [aan]; omega)) ⟨e,?_⟩
 refine ⟨y,_,I.lset (its':=its.dropLast) hH e ?_ r.dropLast ?_,ru,q⟩
 ·show its.toArray.eraseIdxIfInBounds (its.toArray.size - 1)=its.dropLast.toArray
  rw [aan,acb,N1]
 ·rw [List.length_dropLast]
  omega
noncomputable def Pb:V->List V->Hp->VK->Prop:=fun x vs H Q=>∃ l xs i k y,x=.ref l/\vs=[.int i]/\H l=some (.lst xs)/\-(2 ^ 63)<=i/\i < 2 ^ 63/\seqIndex? i xs.length=some k/\xs[k]?=some y/\Q y (upd H l (.lst (xs.eraseIdx k)))
theorem QR:MtM X "list.pop" Pb:=by
 intro pins s σ H x vs v us Q I rx rv h
 obtain ⟨l,xs,i,k,y,rfl,rfl,hH,h1,h2,hk,hy,q⟩:=h
 cases rx
 obtain ⟨u,rfl,ru⟩:=rv.one
 obtain ⟨t,rfl⟩:=ru
 obtain ⟨z,its,n,r,hl,e⟩:=I.lstM hH
 obtain ⟨w,hw,rw'⟩:=r.get hy
 refine call_meets F.slot_list_pop ⟨_,e,rfl⟩ F.entry_list_pop (F.args_list_pop_2 _ _)
  (MeetsSeq.list_pop_at l its.toArray n i t k w (fitsIndex_both h1 h2) (by rw [aan,<- hl]; exact hk) (by rw [<- Array.getElem?_toList]; exact hw) (by rw [aan]; omega)) ⟨e,?_⟩
 refine ⟨y,_,I.lset (its':=its.eraseIdx k) hH e ?_ (r.eraseIdx k) ?_,rw',q⟩
 ·show its.toArray.eraseIdxIfInBounds k=(its.eraseIdx k).toArray
  rw [acb]
 ·have:=Ko xs k
  omega
noncomputable def Lx:V->List V->Hp->VK->Prop:=fun x vs H Q=>∃ l xs,x=.ref l/\vs=[]/\H l=some (.lst xs)/\Q .non (upd H l (.lst xs.reverse))
theorem N2:MtM X "list.reverse" Lx:=by
 intro pins s σ H x vs v us Q I rx rv h
 obtain ⟨l,xs,rfl,rfl,hH,q⟩:=h
 cases rx
 have hus:=rv.zero
 subst hus
 obtain ⟨z,its,n,r,hl,e⟩:=I.lstM hH
 refine call_meets F.slot_list_reverse ⟨_,e,rfl⟩ F.entry_list_reverse (F.args_list_reverse_1 _) (AutoSeq1.list_reverse_list_0 l its.toArray n (by rw [aan]; omega)) ⟨e,?_⟩
 refine ⟨.non,_,I.lset (its':=its.reverse) hH e (by simp) r.reverse ?_,rfl,q⟩
 rw [abU]
 omega
noncomputable def Pc:V->List V->Hp->VK->Prop:=fun x vs H Q=>∃ l xs,x=.ref l/\vs=[]/\H l=some (.lst xs)/\Q .non (upd H l (.lst []))
theorem QS:MtM X "list.clear" Pc:=by
 intro pins s σ H x vs v us Q I rx rv h
 obtain ⟨l,xs,rfl,rfl,hH,q⟩:=h
 cases rx
 have hus:=rv.zero
 subst hus
 obtain ⟨z,its,n,r,hl,e⟩:=I.lstM hH
 refine call_meets F.slot_list_clear ⟨_,e,rfl⟩ F.entry_list_clear (F.args_list_clear_1 _) (AutoSeq1.list_clear_list_0 l its.toArray n (by rw [aan]; omega)) ⟨e,?_⟩
 exact ⟨.non,_,I.lset (its':=[]) (ys:=[]) hH e rfl .nil (aat _),rfl,q⟩
theorem SS {α:Type} (xs:List α) (k:Nat):(aam k xs).flatten.length=k * xs.length:=by
 induction k with
 | zero=>simp
 | succ k ih=>rw [abh,abG,aaE,ih,ace,Nat.add_comm]
end
end L2
namespace Att
open PySem PySem.W PySem.Calls PyProof.Rows
theorem ID {P:Params} {h:Heap}:∀ (ns:List Int) (vs:List Value),WellAll P h vs (ns.map WData.int)->IntsAre vs ns:=by
 intro ns
 induction ns with
 | nil =>
  intro vs w
  rw [abb] at w
  cases w
  exact .nil
 | cons n ns ih =>
  intro vs w
  rw [aax] at w
  cases w with
  | cons a b =>
   cases a
   exact .cons _ _ (ih _ b)
theorem Pd {l:OpenLaw} {n:Nat} (hn:l.most=some n) {P:Params} {h:Heap} {args:List WData} {vals:List Value}
  (hpre:l.row.toRowW.claim.pre args=true) (hwl:WellAll P h vals args) :
  ∃ a vs ns,vals=[Value.ref a]/\args=[WData.list (ns.map WData.int)]/\h.get? a=some { cls:=.type "list",data:=.seq vs.toArray }/\IntsAre vs ns/\ns.length<=n:=by
 have hsh:WShape.hasAll [] args [.list .int]=true:=(pre_splitW hpre).1
 have hc:l.pre.holds [] { args:=args }=true:=(pre_splitW hpre).2
 obtain ⟨d,r,rfl,h1,h2⟩:=hasAllW_cons hsh
 obtain rfl:=hasAllW_nil h2
 obtain ⟨xs,rfl,h3⟩:=hasW_list h1
 obtain ⟨ns,rfl⟩:=items_int h3
 have hlen:ns.length<=n:=by
  unfold OpenLaw.pre at hc
  have h4:(WTm.not (.lt (.lit (.int (n:Int))) (.len (.arg 0)))).holds [] { args:=[.list (ns.map .int)] }=true:=by
   have h4:=(holds_andW hc).1
   rw [hn] at h4
   exact h4
  have h5:=condW_of h4 (w_not (w_lt w_lit (w_len_list (w_arg rfl))))
  rw [aac] at h5
  refine abc fun q=>?_
  have q':(n:Int) < ((ns.length:Nat):Int):=by omega
  first
   | (rw [decide_eq_true q'] at h5; exact absurd h5 (by decide))
   | (simp at h5; omega)
 cases hwl with
 | cons w1 w2 =>
  cases w2
  cases w1 with
  | list ho hall=>exact ⟨_,_,ns,rfl,rfl,ho,ID ns _ hall,hlen⟩
theorem Pe (l:OpenLaw) (args:List WData):l.row.toRowW.claim.post args (.bool true) args=true :=
 postW_of (r:=l.row.toRowW) (X:=(true==true))
  (show WShape.has [] (.bool true) .bool=true by first | rfl | decide | simp [WShape.has,WShape.arms,WShape.armsAll])
  (show (WTm.eq .res (.lit (.bool true))).value [] { args:=args,res:=some (.bool true),after:=args }=some (.bool (true==true)) from w_eq_bool (w_res rfl) w_lit) rfl
theorem attach_call {l:OpenLaw} {n:Nat} {q:Program} {loose:List Str} {XP:(Str->Option Value)->Heap->Prop} {YP:World->Heap->Prop} {d:DefRec}
  (hn:l.most=some n) (hdf:d.params.defaults=[])
  (call:∀ (w:World) (s₀ s₁:Shared) (mg mb:Str->Option Value) (fa:Addr) (o:Obj) (pm cd doc:Value) (a:Addr) (vs:List Value) (ns:List Int),
   Ground q loose [] XP w s₀ mg mb s₁.heap->YP w s₁.heap ->
   s₁.heap.get? fa=some o->o.data=.func (docDef d.name d.params d.body d.scope pm cd doc)->s₁.heap.CodeRec cd d.name->mg d.name=some (.ref fa) ->
   s₁.heap.get? a=some { cls:=.type "list",data:=.seq vs.toArray }->IntsAre vs ns->ns.length<=n->s₁.gens=#[] ->
   codeAny (model l.prog w) callerA (.call (.ref fa) ⟨[.ref a],[]⟩) (fun r s'=>r=.ok (.ret (.bool true))/\OldK s₁.heap s'.heap/\s'.os=s₁.os/\AllBare s'.gens) s₁) :
  WalkO q loose XP YP l.row.toRowW d [] (fun f vs=>PySem.call f vs):=by
 intro w s₀ s₁ mg mb G Y fa o pm cd doc dV kV ho hd hcd hD hmg hg args vals as hpre hlay hrd hwl hlo
 obtain rfl:dV=.none:=Dflts.none hD hdf
 obtain rfl:kV=.none:=Dflts.noKw hD
 obtain ⟨a,vs,ns,rfl,rfl,hobj,hints,hlen⟩:=Pd hn hpre hwl
 refine enter_call (codeAny_mono (call w s₀ s₁ mg mb fa o pm cd doc a vs ns G Y ho (fd_plain hd) hcd hmg hobj hints hlen hg) fun r s' hq=>?_)
 obtain ⟨rfl,h2,h3,h4⟩:=hq
 exact ⟨.inl ⟨.bool true,.bool true,[],rfl,fun _=>rfl,.bool true,Pe l _,fun _=>⟨List.Pairwise.nil,fun _ hm=>(nomatch hm)⟩⟩,h2,h3,h4⟩
end Att
namespace L2
open PySem PySem.Spec PyProof.Rows
theorem Kq:∀ {vs:List Value} {ns:List Int},IntsAre vs ns->Vals (ns.map V.int) vs
 | _,_,.nil=>.nil
 | _,_,.cons n t h=>.cons ⟨t,rfl⟩ (Kq h)
noncomputable def QT (H:Hp):Prop:=∀ b,H b=none\/∃ o xs,H b=some (.frz o (.lst xs))
theorem QU {P:Program} {w:World} {K:PySem.W.Frag} {mg mb:Str->Option Value} {CX:CXT} {k:Nat} {fa a:Addr} {fd:FuncData} {x:Str} {sp:Sp} {s₁:Shared} {vs:List Value} {ns:List Int}
  (KX:K.In s₁.heap) (hns:s₁.heap.Ns mainGlobals mg) (hb:s₁.heap.Ns builtinsNs mb) (hbb:∀ x:Str,x ≠ "__name__" -> mb x=bootBuiltins x) (hlim:s₁.heap.NoLimit) (hg:s₁.gens=#[])
  (ha:s₁.heap.get? a=some { cls:=.type "list",data:=.seq vs.toArray }) (hi:IntsAre vs ns) (hl:ns.length<=sizeLine) (hr:Room k callerA)
  (F:∀ base:Heap,K.In base->base.Ns mainGlobals mg->FnOk P w K mg base CX k fa fd [x] sp) (hbind:∀ (s:Shared) (u:Value),BindsTo s fd ⟨[u],[]⟩ [(x,u)])
  (hsp:∀ H:Hp,QT H->SqL K H a (ns.map V.int)->sp [.ref a] H (fun v _=>v=.bl true) fun _ _ _=>False)
  (hCX:∀ H e s',CX [] H s₁ (fun _ _ _=>False) e s'->False) :
  codeAny (model P w) callerA (.call (.ref fa) ⟨[.ref a],[]⟩) (fun r s'=>r=.ok (.ret (.bool true))/\OldK s₁.heap s'.heap/\s'.os=s₁.os/\AllBare s'.gens) s₁:=by
 have rv:=Kq hi
 have lenV:=hi.length
 have core:∀ H:Hp,QT H->SqL K H a (ns.map V.int)->HOk P w H s₁.heap->(∀ b,H b ≠ none->b=a)->(H a ≠ none->K.lookup a=none) ->
   codeAny (model P w) callerA (.call (.ref fa) ⟨[.ref a],[]⟩) (fun r s'=>r=.ok (.ret (.bool true))/\OldK s₁.heap s'.heap/\s'.os=s₁.os/\AllBare s'.gens) s₁:=by
  intro H hO hS hok hA hK
  have base_of:∀ {b:Addr} {o:Obj},s₁.heap.get? b=some o->H b=none->(Gn s₁.heap H).get? b=some o:=fun e n=>QC e n
  have noA:∀ {b:Addr} {o:Obj} {es:Array DictEntry} {ep:Nat},s₁.heap.get? b=some o->o.data=.dict es ep->H b=none:=fun {b o es ep} e d=>by
   cases q:H b with
   | none=>rfl
   | some u =>
    have e':b=a:=hA b (by rw [q]; simp)
    subst e'
    rw [ha] at e; cases e
    have d':Data.seq vs.toArray _=Data.dict es ep:=d
    cases d'
  have nsK:∀ {b:Addr} {m:Str->Option Value},s₁.heap.Ns b m->(Gn s₁.heap H).Ns b m:=fun {b m} ⟨o,es,ep,e,d,r⟩=>⟨o,es,ep,base_of e (noA e d),d,r⟩
  have hKb:K.In (Gn s₁.heap H):=fun b o e=>base_of (KX b o e) (by
   cases q:H b with
   | none=>rfl
   | some u =>
    have e':b=a:=hA b (by rw [q]; simp)
    subst e'
    rw [hK (by rw [q]; simp)] at e; cases e)
  have hM:Mod K mg (Gn s₁.heap H):=⟨hKb,nsK hns,⟨mb,nsK hb,hbb⟩,let ⟨mc,h1,h2⟩:=hlim; ⟨mc,nsK h1,h2⟩⟩
  have e0:Env0 P w K mg (Gn s₁.heap H) callerA [] s₁ H:=⟨rfl,hM,fun b o e=>SF e,aco (ON _ _),trivial,fun b hb=>absurd (show b ∈ ([]:List Addr) from hb) (by simp),hok,.of_eq hg⟩
  refine codeAny_mono ((F _ hKb (nsK hns)).run callerA [] s₁ H ⟨[.ref a],[]⟩ [.ref a] [.ref a] _ _ hr e0 (hbind s₁ (.ref a)) (.cons rfl .nil) (hsp H hO hS)) fun r s' h=>?_
  cases r with
  | error e=>exact (hCX H e s' h).elim
  | ok fl =>
   cases fl with
   | next=>exact False.elim h
   | brk=>exact False.elim h
   | cont=>exact False.elim h
   | ret u =>
    obtain ⟨v,H',os,bare,un,hok',r',q⟩:=h
    have q':v=.bl true:=q
    subst q'
    obtain rfl:u=Value.bool true:=r'
    refine ⟨rfl,OldK.of_keep fun b o e=>?_,os,bare⟩
    cases q:H b with
    | none=>exact un.keep b o e q (by intro z; exact absurd (show b ∈ ([]:List Addr) from z) (by simp)) (by simp)
    | some u =>
     rcases hO b with z | ⟨ob,xs,z⟩
     ·rw [q] at z; cases z
     ·have z2:=un.frzs b ob _ z
      obtain ⟨e1,_⟩:=hok b _ z
      obtain ⟨e2,_⟩:=hok' b _ z2
      rw [e] at e1; cases e1
      exact e2
 cases hk:K.lookup a with
 | some o =>
  have e:=KX a o hk
  rw [ha] at e
  cases e
  refine core (fun _=>none) (fun _=>.inl rfl) (.inr ⟨_,vs.toArray,_,hk,rfl,rfl,rfl,by rw [aan,lenV]; exact hl,by simpa using rv⟩) (fun b u z=>by have z':(none:Option HO)=some u:=z; cases z') (fun b z=>absurd rfl z) fun z=>absurd rfl z
 | none =>
  refine core (fun b=>if b=a then some (.frz { cls:=.type "list",data:=.seq vs.toArray } (.lst (ns.map V.int))) else none) (fun b=>?_) (.inl (.inr ⟨{ cls:=.type "list",data:=.seq vs.toArray },if_pos rfl⟩)) (fun b u z=>?_) (fun b z=>?_) fun _=>hk
  ·by_cases hb:b=a
   ·exact .inr ⟨_,_,if_pos hb⟩
   ·exact .inl (if_neg hb)
  ·by_cases hb:b=a
   ·have z':=(if_pos hb).symm.trans z
    cases z'
    subst hb
    exact ⟨ha,by rw [aac]; exact hl,vs,_,rv,ha⟩
   ·have z':=(if_neg hb).symm.trans z
    cases z'
  ·by_cases hb:b=a
   ·exact hb
   ·exact absurd (if_neg hb) z
theorem ST {l:PySem.W.OpenLaw} {n k:Nat} {q:Program} {loose:List Str} {XP:(Str->Option Value)->Heap->Prop} {YP:World->Heap->Prop} {d:DefRec} {K:Params->PySem.W.Frag} {CX:World->CXT} {sp:World->Sp} {x:Str}
  (hn:l.most=some n) (hn2:n<=sizeLine) (hdf:d.params.defaults=[]) (hr:Room k callerA)
  (hY:∀ (w:World) (h:Heap),YP w h->(K w.params).In h)
  (F:∀ (w:World) (mg:Str->Option Value) (fa:Addr) (h:Heap),(K w.params).In h->h.Ns mainGlobals mg->mg d.name=some (.ref fa) ->
   ∃ fd:FuncData,(∀ (s:Shared) (u:Value),BindsTo s fd ⟨[u],[]⟩ [(x,u)]) /\
    ∀ base:Heap,(K w.params).In base->base.Ns mainGlobals mg->FnOk l.prog w (K w.params) mg base (CX w) k fa fd [x] (sp w))
  (hsp:∀ (w:World) (H:Hp) (a:Addr) (ns:List Int),ns.length<=n->QT H->SqL (K w.params) H a (ns.map V.int)->sp w [.ref a] H (fun v _=>v=.bl true) fun _ _ _=>False)
  (hCX:∀ (w:World) (H:Hp) (s:Shared) (e:Value) (s':Shared),CX w [] H s (fun _ _ _=>False) e s'->False) :
  PySem.W.WalkO q loose XP YP l.row.toRowW d [] (fun f vs=>PySem.call f vs):=by
 refine Att.attach_call hn hdf fun w s₀ s₁ mg mb fa o pm cd doc a vs ns G Y ho hd hcd hmg hobj hints hlen hg=>?_
 have KX:=hY w _ Y
 obtain ⟨fd,hb,hF⟩:=F w mg fa _ KX G.T.g hmg
 exact QU KX G.T.g G.T.b G.T.builtins G.T.nolimit hg hobj hints (aaK hlen hn2) hr hF hb (fun H hO hS=>hsp w H a ns hlen hO hS) fun H e s'=>hCX w H s₁ e s'
noncomputable def Co (s:Stmt):Arguments:=match s with
 | .FunctionDef _ a _ _ _ _ _ _ _ _=>a
 | _=>{ posonlyargs:=[],args:=[],vararg:=none,kwonlyargs:=[],kw_defaults:=[],kwarg:=none,defaults:=[] }
noncomputable def AY (s:Stmt):List Stmt:=match s with
 | .FunctionDef _ _ b _ _ _ _ _ _ _=>b
 | _=>[]
noncomputable def Au (s:Stmt):Scope:=match s with
 | .FunctionDef _ _ _ _ _ _ sc _ _ _=>sc
 | _=>{ kind:=.function,names:=[],isGenerator:=false,isCoroutine:=false }
structure Fun (K:PySem.W.Frag) (x qual:Str) (st:Stmt) (f:Addr) (fd:FuncData):Prop where
 ex:∃ (oc:Value) (od:Option Addr) (kV doc pm:Value) (an:Option Addr) (cdv ct:Value) (osl:Array (Option Value)),
  fd=PySem.W.fnOf x qual (Co st) (AY st) (Au st) .none kV doc pm an cdv ct/\K.lookup f=some ⟨oc,od,.func fd,osl⟩/\PySem.W.codeIn K cdv qual=true
 kp:PySem.W.keepIn K (.ref f)=true
section
variable {P:Program} {w:World} {K:PySem.W.Frag} {mg:Str->Option Value} {base:Heap}
theorem Fun.binds {x qual:Str} {st:Stmt} {f:Addr} {fd:FuncData} {ps:List Str} (F:Fun K x qual st f fd)
  (h:∀ (kV doc pm:Value) (an:Option Addr) (cdv ct:Value) (us:List Value),us.length=ps.length->bindArgs (PySem.W.fnOf x qual (Co st) (AY st) (Au st) .none kV doc pm an cdv ct) ⟨us,[]⟩=pure (ps.zip us)):Binds K fd ps []:=by
 obtain ⟨oc,od,kV,doc,pm,an,cdv,ct,osl,rfl,lk,hcd⟩:=F.ex
 exact .all (h kV doc pm an cdv ct)
theorem Pf {x qual:Str} {st:Stmt} {f:Addr} {oc:Value} {od an:Option Addr} {osl:Array (Option Value)} {kV doc pm cdv ct:Value} (l:K.lookup f=some ⟨oc,od,.func (PySem.W.fnOf x qual (Co st) (AY st) (Au st) .none kV doc pm an cdv ct),osl⟩)
  (c:PySem.W.codeIn K cdv qual=true) (k:PySem.W.keepIn K (.ref f)=true):Fun K x qual st f (PySem.W.fnOf x qual (Co st) (AY st) (Au st) .none kV doc pm an cdv ct):=⟨⟨oc,od,kV,doc,pm,an,cdv,ct,osl,rfl,l,c⟩,k⟩
end
noncomputable def Same (H H':Hp):Prop:=∀ b o,H b=some o->H' b=some o
theorem Same.refl (H:Hp):Same H H:=fun _ _ h=>h
theorem Same.trans {H H1 H2:Hp} (a:Same H H1) (b:Same H1 H2):Same H H2:=fun c o h=>b c o (a c o h)
theorem Same.free {H H':Hp} (e:Same H H') {l:Addr} (h:H' l=Option.none):H l=Option.none:=by
 cases q:H l with
 | none=>rfl
 | some o =>
  rw [e l o q] at h
  cases h
theorem Same.seq {K:PySem.W.Frag} {H H':Hp} {a:Addr} {xs:List V} (e:Same H H') (h:SqL K H a xs):SqL K H' a xs:=by
 rcases h with (h | ⟨o,h⟩) | h
 ·exact .inl (.inl (e _ _ h))
 ·exact .inl (.inr ⟨o,e _ _ h⟩)
 ·exact .inr h
end L2
end
section
set_option maxHeartbeats 1000000
namespace L2
open PySem PySem.Spec PyProof.Rows PySem.W
section
variable {prog:Program} {w:World} {A:Around} {E:Value->Shared->Prop} {s:Shared} {K:Frag} {e C:Addr} {ox:Obj}
structure XCls (K:Frag) (C:Addr):Prop where
 ga:findIn K (.ref C) "__getattribute__" = some (some (.builtin "BaseException.__getattribute__"))
 gn:findIn K (.ref C) "__getattr__" = some none
 sb:subIn K (.ref C) (.type "BaseException")=some true
 cl:findIn K (.ref C) "__class__" = some (some (.builtin "object.__class__"))
 mo:mroIn K C (.type "object")=some true
 ty:typeIn K (.ref C)=some (.type "type")
 cc:(clsIn K C).isSome=true
noncomputable def XAt (e C:Addr) (h:Heap):Prop:=∃ oe,h.get? e=some oe/\oe.cls=.ref C
theorem XAt.type {M:Model} {h:Heap} (I:XAt e C h):Looks M h (typeOf (.ref e)) (.ref C):=by
 obtain ⟨oe,h1,h2⟩:=I
 exact h2 ▸ (Looks.ld h1).andThen .now
theorem UZ {R:Result->Shared->Prop} (X:K.In s.heap) (I:XAt e C s.heap) (c:XCls K C) (h:R (.ok (.ret (.ref C))) s) :
  codeAny (model prog w) A (.call (.builtin "getset_descriptor.__get__") ⟨[.builtin "object.__class__",.ref e,.ref C],[]⟩) R s:=by
 obtain ⟨hh,g,d,t,os⟩:=s
 have hT5:(⟨hh,g,d,t,os⟩:Shared).TypeIs (.builtin "object.__class__") "getset_descriptor" := F.typeOf_object_class
 have L0:=I.type (M:=model prog w)
 have L1:=looks_mroIn (M:=model prog w) X c.mo
 refine codeAny_call_builtin F.slot_gs_get.plain F.entry_gs_get (F.slot_gs_get.check _ _ _ _ _ _ _ _ hT5 (F.args_gs_get _ _ _) ?_)
 repeat (any_goals (first | assumption | refine L0.at ?_ | refine L1.at ?_ | refine wpAny_bind (L0.at ?_) | refine wpAny_bind (L1.at ?_) | wp_step))
 refine ⟨Code.quiet_builtin _ (by decide +kernel),codeAny_builtin KF.entry_class ?_⟩
 unfold Builtin.«object.__class__» shownTypeOf
 repeat (any_goals (first | assumption | refine L0.at ?_ | refine wpAny_bind (L0.at ?_) | wp_step))
theorem SU {tk:Tok} {R:Result->Shared->Prop} (X:K.In s.heap) (I:XAt e C s.heap) (c:XCls K C) (h:R (.ok (.ret (.ref C))) s) :
  codeAny (model prog w) A (.call (.builtin "BaseException.__getattribute__") ⟨[.ref e,.str "__class__" tk],[]⟩) R s:=by
 obtain ⟨hh,g,d,t,os⟩:=s
 have L0:=I.type (M:=model prog w)
 have LS:=looks_subIn (M:=model prog w) X c.sb
 have LI:Looks (model prog w) hh (isInstance (.ref e) (.type "BaseException")) true:=L0.andThen LS
 have LC:=looks_findIn (M:=model prog w) X c.cl
 refine codeAny_call_builtin (by decide +kernel) F.entry_bexc_ga ?_
 have hk:builtinKind "BaseException.__getattribute__" = some .slot:=by decide +kernel
 have hsplit:splitId "BaseException.__getattribute__" = some ("BaseException", "__getattribute__"):=by decide +kernel
 have ha:=F.args_bexc_ga (.ref e) (.str "__class__" tk)
 simp only [checkBuiltinCall,hk,hsplit]
 refine wpAny_bind (LI.at ?_)
 unfold argsOk at ha
 simp only [abz,aaO,if_false]
 refine wpAny_of_eq ha ?_
 have hT5:(⟨hh,g,d,t,os⟩:Shared).TypeIs (.builtin "object.__class__") "getset_descriptor" := F.typeOf_object_class
 have f5:=F.typeOf_object_class
 have f6:=F.slot_gs_get.lookup
 have f7:=F.slot_gs_set.lookup
 repeat (any_goals (first | assumption | refine L0.at ?_ | refine wpAny_bind (L0.at ?_) | refine LC.at ?_ | refine wpAny_bind (LC.at ?_) | wp_step))
 exact UZ X I c (wpAny_pure h)
theorem SV {Q:Option Value->Shared->Prop} (X:K.In s.heap) (I:XAt e C s.heap) (c:XCls K C) (h:Q (some (.ref C)) { s with toks:=s.toks + 1 }) :
  wpAny (model prog w) A (getAttr? (.ref e) "__class__") Q E s:=by
 obtain ⟨hh,g,d,t,os⟩:=s
 have L0:=I.type (M:=model prog w)
 have LG:=looks_findIn (M:=model prog w) X c.ga
 have LN:=looks_findIn (M:=model prog w) X c.gn
 have fb1:=F.excAttr_ValueError.ga.bind (.ref e)
 unfold getAttr? getAttrBy? getAttrBy
 repeat (first | refine wpAny_bind (L0.at ?_) | refine wpAny_bind (LG.at ?_) | refine wpAny_bind (LN.at ?_) | refine LN.at ?_ | wp_step)
 exact SU (s:=⟨hh,g,d,t + 1,os⟩) X I c (handed_on rfl (wpAny_pure h))
theorem QV (c:XCls K C):KitX K (.ref e) (.ref C) (XAt e C) where
 ty:=fun _ _ _ I=>I.type
 it:=fun M h X _=>by
  have hc:=c.cc
  unfold clsIn at hc
  split at hc
  ·rename_i ho
   intro A' Q' E' s' k q
   unfold isType loadHead
   exact wpAny_bind (wpAny_loadPart (k _ _ (X _ _ ho)) (wpAny_pure q))
  ·cases hc
 ne:=fun h tp dd its n sl X htp=>by
  refine Bool.eq_false_iff.mpr fun q=>?_
  have e:C=tp:=Value.ref.inj (beq_iff_eq.mp q)
  subst e
  have hc:=c.cc
  unfold clsIn at hc
  split at hc
  ·rename_i ho
   have z:=(X _ _ ho).symm.trans htp
   cases z
  ·cases hc
 ca:=fun X I k=>SV X I c k
end
noncomputable def xO (a C:Addr):HO:=.ext (XAt a C)
noncomputable def dO (a:Addr):HO:=.ext (KitAt a "dict")
inductive TyX (K:Frag) (H:Hp):V->Value->Prop where
 | dct {a:Addr} (y:H a=some (dO a)):TyX K H (.ref a) (.type "dict")
 | of {x:V} {t:Value} (y:TyOf K H x t):TyX K H x t
 | exc {a C:Addr} (y:H a=some (xO a C)) (c:XCls K C):TyX K H (.ref a) (.ref C)
noncomputable def clV:V->Option Value
 | .ty n=>some (.type n)
 | .ref C=>some (.ref C)
 | _=>none
noncomputable def W1 (K:Frag):List V->Hp->VK->Prop:=fun xs H Q=>∃ x c cv t b,xs=[x,c]/\clV c=some cv/\TyX K H x t/\kitOne K t cv=some b/\Q (.bl b) H
theorem QW {X:Cx}:C6 X (.builtin "isinstance") (W1 X.K):=by
 intro pins s σ H xs us Q I r h
 obtain ⟨x,c,cv,t,b,rfl,hc,ty,e,q⟩:=h
 obtain ⟨u,w',rfl,ru,rw'⟩:=La r
 have ec:w'=cv:=by
  cases c with
  | ty n=>cases hc; exact rw'
  | ref C=>cases hc; exact rw'
  | _=>cases hc
 subst ec
 have fin:∀ tk,EP X pins σ Q (.bool b) { s with toks:=tk }:=fun tk=>⟨.bl b,H,I.tok tk,rfl,q⟩
 cases ty with
 | @dct a y =>
  cases (show u=Value.ref a from ru)
  exact kia_one kitx_dict I.kIn (I.hok a _ y).1 e (fun z=>nomatch z) fin
 | of y=>exact O6 I ru y e fin
 | @exc a C y c =>
  cases (show u=Value.ref a from ru)
  exact kia_one (QV c) I.kIn (I.hok a _ y).1 e (fun z=>nomatch z) fin
noncomputable def U0:V->List V->Hp->VK->Prop:=fun x xs H Q=>∃ (a:Addr) (bs:List Bool) (k:Bool),x=.ref a/\xs=[.bl k]/\Rd H a (.lst (bs.map V.bl))/\Q (.int ((bs.filter (·==k)).length:Nat)) H
theorem IF:∀ {bs:List Bool} {its:List Value},Vals (bs.map V.bl) its->its=bs.map Value.bool
 | [],its,h=>by cases h; rfl
 | C :: r,its,h=>by
  cases h with
  | cons h1 h2 =>
   rw [IF (bs:=r) h2]
   cases (show _=Value.bool C from h1)
   rfl
theorem GI (k:Bool):∀ bs:List Bool,(bs.map Value.bool).countP (isBoolOf k)=(bs.filter (·==k)).length
 | []=>rfl
 | b :: r=>by
  rw [aax,List.countP_cons,GI k r,abP]
  show _ + (if (b==k)=true then 1 else 0)=_
  cases b==k <;> simp
theorem QX {X:Cx}:MtR X "list.count" U0:=by
 intro pins s σ H x xs v us Q I rx rv h
 obtain ⟨a,bs,k,rfl,rfl,hR,q⟩:=h
 cases rx
 obtain ⟨u,rfl,ru⟩:=rv.one
 cases (show u=Value.bool k from ru)
 obtain ⟨its,n,rel,dd,sl,ho⟩:∃ (its:List Value) (n:Nat),Vals (bs.map V.bl) its/\∃ dd sl,s.heap.get? a=some { cls:=.type "list",dict:=dd,data:=.seq its.toArray n,slots:=sl }:=by
  rcases hR with e | ⟨o,e⟩
  ·obtain ⟨_,its,n,r,e⟩:=I.hok a _ e
   exact ⟨its,n,r,_,_,e⟩
  ·obtain ⟨_,_,its,n,r,e⟩:=I.hok a _ e
   exact ⟨its,n,r,_,_,e⟩
 cases IF rel
 refine call_meets PySem.F.slot_list_count ⟨_,ho,rfl⟩ PySem.F.entry_list_count (PySem.F.args_list_count_2 _ _) (PySem.SeqAt.list_countAt a _ n dd sl (.bool k) (isBoolOf k)) ⟨ho,fun y hy=>?_,?_⟩
 ·have:y ∈ bs.map Value.bool:=by simpa using hy
  obtain ⟨b,_,rfl⟩:=aav.mp this
  exact PySem.SeqAt.EqAt.bool_bool b k
 ·show EP X pins σ Q (.int (((bs.map Value.bool).countP (isBoolOf k):Nat):Int) s.toks) _
  rw [GI]
  exact ⟨.int _,H,I.tok _,⟨_,rfl⟩,q⟩
theorem ObjOk.there {P:Program} {w:World} {H:Hp} {h:Heap} {a:Addr} {o:HO} (x:ObjOk P w H h a o):∃ ob,h.get? a=some ob:=by
 induction o with
 | lst xs=>obtain ⟨_,_,_,_,e⟩:=x; exact ⟨_,e⟩
 | tup xs=>obtain ⟨_,_,_,ob,e,_⟩:=x; exact ⟨_,e⟩
 | dK kvs=>obtain ⟨_,_,_,_,ob,_,_,e,_⟩:=x; exact ⟨_,e⟩
 | dT kvs=>obtain ⟨_,_,_,_,ob,_,_,e,_⟩:=x; exact ⟨_,e⟩
 | set S n=>obtain ⟨ob,_,_,_,e,_⟩:=x; exact ⟨_,e⟩
 | ins C dx fs=>obtain ⟨_,_,_,e,_⟩:=x; exact ⟨_,e⟩
 | own y=>exact x
 | xd fs=>obtain ⟨_,⟨od,_,_,e,_⟩,_⟩:=x; exact ⟨_,e⟩
 | rng lo hi=>obtain ⟨_,_,_,e⟩:=x; exact ⟨_,e⟩
 | frz ob u _=>exact ⟨_,x.1⟩
 | tbl ps=>exact ⟨_,x⟩
 | met f y=>exact ⟨_,x⟩
 | ext φ=>exact x.2.1
theorem HOk.hide {P:Program} {w:World} {H:Hp} {h:Heap} (x:HOk P w H h) {fs:List Addr} (hf:∀ b ∈ fs,H b=none):HOk P w H (hideAll h fs):=fun a o e =>
 (x a o e).stay (fun b u hb q=>hideAll_get _ q fun z=>by
  have n:=hf b z
  rcases hb with rfl | hb
  ·rw [n] at e; cases e
  ·rw [n] at hb; cases hb) (fun _ q=>q) fun _ _ q=>q
noncomputable def CXe (P:Program) (w:World):CXT:=fun outer H s E ev s'=>∃ (e:Addr) (cls a0:Value) (H':Hp) (B:Heap),ev=.ref e/\s'.os=s.os/\AllBare s'.gens/\Heap.FlyingW B outer e cls a0 s'.heap/\HOk P w H' B/\H' e=none /\
 (∀ b o,s.heap.get? b=some o->H b=none->b ∉ frs outer->B.get? b=some o)/\(∀ b o,s.heap.get? b=some o->H b=none->b ∈ frs outer->∃ sl,s'.heap.get? b=some { o with slots:=sl }) /\
 (∀ b o,s.heap.get? b=some o->H b=none->H' b=none)/\(∀ b o,s.heap.get? b=some o->b ∉ frs outer->∃ o',B.get? b=some o') /\
 (∀ b xs,H b=some (.tup xs)->H' b=some (.tup xs))/\(∀ b o u,H b=some (.frz o u)->H' b=some (.frz o u))/\(∀ b ps,H b=some (.tbl ps)->∃ more,H' b=some (.tbl (ps ++ more)))/\E cls none H'
noncomputable def N3 (X:Cx) (E:XK):Prop:=∀ (pins:List (Addr × Obj)) (σ:St) (H:Hp) (s:Shared) (h':Heap) (e C:Addr) (vs:List Value),Inv X pins σ H s->Heap.MadeExcOf s.heap h' e (.ref C) vs->E (.ref C) none H->X.xe (.ref e) { s with heap:=h' }
section
variable {P:Program} {w:World} {K:Frag} {mg:Str->Option Value} {base:Heap} {N:List Str} {qual:Str} {scope:Scope} {f:Addr} {cd:Value} {A:Around} {outer:List Env} {s₀:Shared} {H₀:Hp} {E E':XK}
theorem QY (hE:∀ c d H,E c d H->E' c d H):N3 (B6 (CXe P w) P w K mg base N qual scope f cd A outer s₀ H₀ E') E:=by
 intro pins σ H s h' e C vs I hx he
 show wpAny _ _ (leaving _ (.ref e)) _ _ _
 have hfr:∀ env ∈ (B6 (CXe P w) P w K mg base N qual scope f cd A outer s₀ H₀ E').stack,∀ b,env.frame=some b->b ∈ frs (B6 (CXe P w) P w K mg base N qual scope f cd A outer s₀ H₀ E').stack:=fun env h b hb=>aaL.mpr ⟨env,h,hb⟩
 have hB:=I.hok.hide I.stkFree
 have hff:=funFrames_hide I.stack hfr
 have en:H e=none:=by
  cases q:H e with
  | none=>rfl
  | some o=>obtain ⟨ob,z⟩:=(I.hok e o q).there; rw [hx.new] at z; cases z
 refine wpAny_leaves_madeW (base:=hideAll s.heap (frs (B6 (CXe P w) P w K mg base N qual scope f cd A outer s₀ H₀ E').stack)) I.ok.frames rfl (fun b o q=>of_hideAll _ q) hff hx fun h2 t fl _ _ up=>?_
 have sub:∀ b ∈ frs outer,b ∈ frs (B6 (CXe P w) P w K mg base N qual scope f cd A outer s₀ H₀ E').stack:=fun b hb=>by
  obtain ⟨env,h1,h2⟩:=aaL.mp hb
  exact aaL.mpr ⟨env,aaa _ h1,h2⟩
 have nloc:∀ b o,s₀.heap.get? b=some o->b ≠ s₀.heap.objs.size:=fun b o q z=>by
  have:=Heap.lt_size q
  exact aaT _ (z ▸ this)
 have nfr:∀ b o,s₀.heap.get? b=some o->b ∉ frs outer->b ∉ frs (B6 (CXe P w) P w K mg base N qual scope f cd A outer s₀ H₀ E').stack:=fun b o q hb z=>by
  obtain ⟨env,h1,h2⟩:=aaL.mp z
  rcases aai.mp h1 with rfl | h1
  ·exact nloc b o q (Option.some.inj h2).symm
  ·exact hb (aaL.mpr ⟨env,h1,h2⟩)
 have nx:∀ b:Addr,b ∉ (B6 (CXe P w) P w K mg base N qual scope f cd A outer s₀ H₀ E').ex:=fun b z=>absurd (show b ∈ ([]:List Addr) from z) (by simp)
 refine ⟨e,.ref C,.ref t,H,_,rfl,I.os,I.bare,fl,hB,en,fun b o q n hb=>hideAll_get _ (I.base.keep b o q n hb (nx b)) (nfr b o q hb),fun b o q n hb=>?_,fun b o q n=>I.base.free b o q n (nx b),fun b o q hb=>?_,I.base.tups,I.base.frzs,I.base.tbls,hE _ _ _ he⟩
 ·obtain ⟨sl,e1⟩:=I.base.slot b o q n hb (nx b)
  obtain ⟨⟨hn,o2,ho2,hnf⟩⟩:=And.intro (I.stack.mem (sub b hb)) trivial
  rw [e1] at ho2
  cases ho2
  obtain ⟨sl2,e2⟩:=up b _ (hx.keeps b _ e1) hnf
  exact ⟨sl2,e2⟩
 ·obtain ⟨o',e1⟩:=I.base.there b o q (nx b)
  exact ⟨o',hideAll_get _ e1 (nfr b o q hb)⟩
theorem Wl (hE:∀ c d H,E c d H->E' c d H):US (CXe P w) (B6 (CXe P w) P w K mg base N qual scope f cd A outer s₀ H₀ E') E:=by
 intro pins σ H s ev s' I h
 obtain ⟨e,cls,a0,H',B,rfl,ho,hg,fl,hok,en,keep,slot,free,there,tups,frzs,tbls,he⟩:=h
 show wpAny _ _ (leaving _ (.ref e)) _ _ _
 refine wpAny_leaves_onW (base:=B) I.ok.frames rfl fl fun h2 fl2 up=>?_
 have sub:∀ b ∈ frs outer,b ∈ frs (B6 (CXe P w) P w K mg base N qual scope f cd A outer s₀ H₀ E').stack:=fun b hb=>by
  obtain ⟨env,h1,h2⟩:=aaL.mp hb
  exact aaL.mpr ⟨env,aaa _ h1,h2⟩
 have nfr:∀ b o,s₀.heap.get? b=some o->b ∉ frs outer->b ∉ frs (B6 (CXe P w) P w K mg base N qual scope f cd A outer s₀ H₀ E').stack:=fun b o q hb z=>by
  obtain ⟨env,h1,h2⟩:=aaL.mp z
  rcases aai.mp h1 with rfl | h1
  ·exact aaT _ ((Option.some.inj h2).symm ▸ Heap.lt_size q)
  ·exact hb (aaL.mpr ⟨env,h1,h2⟩)
 have nx:∀ b:Addr,b ∉ (B6 (CXe P w) P w K mg base N qual scope f cd A outer s₀ H₀ E').ex:=fun b z=>absurd (show b ∈ ([]:List Addr) from z) (by simp)
 have frNF:∀ b o,s'.heap.get? b=some o->b ∈ frs (B6 (CXe P w) P w K mg base N qual scope f cd A outer s₀ H₀ E').stack->∃ sl,h2.get? b=some { o with slots:=sl }:=fun b o q hb=>by
  obtain ⟨hn,o2,ho2,hnf⟩:=fl.2.2.1.mem hb
  rw [q] at ho2
  cases ho2
  exact up b _ q hnf
 refine ⟨e,cls,a0,H',B,rfl,ho.trans I.os,hg,fl2,hok,en,fun b o q n hb=>keep b o (I.base.keep b o q n hb (nx b)) (I.base.free b o q n (nx b)) (nfr b o q hb),fun b o q n hb=>?_,
  fun b o q n=>?_,fun b o q hb=>?_,fun b xs q=>tups b xs (I.base.tups b xs q),fun b o u q=>frzs b o u (I.base.frzs b o u q),fun b ps q=>?_,hE _ _ _ he⟩
 ·obtain ⟨sl,e1⟩:=I.base.slot b o q n hb (nx b)
  obtain ⟨sl1,e2⟩:=slot b _ e1 (I.base.free b o q n (nx b)) (sub b hb)
  obtain ⟨sl2,e3⟩:=frNF b _ e2 (sub b hb)
  exact ⟨sl2,e3⟩
 ·obtain ⟨o',e1⟩:=I.base.there b o q (nx b)
  exact free b o' e1 (I.base.free b o q n (nx b))
 ·obtain ⟨o',e1⟩:=I.base.there b o q (nx b)
  exact there b o' e1 (nfr b o q hb)
 ·obtain ⟨m1,e1⟩:=I.base.tbls b ps q
  obtain ⟨m2,e2⟩:=tbls b _ e1
  exact ⟨m1 ++ m2,by rw [e2,Array.append_assoc]⟩
end
section
variable {X:Cx} {C:Addr} {x:Str} {e:Expr} {es:List Expr} {t:TA} {E:XK} {np cpos pos:Pos}
abbrev HP:List Value:=[.type "ValueError",.type "Exception",.type "BaseException",.type "object"]
theorem U1 {h:Heap} (KX:X.K.In h) (G:h.Ns mainGlobals X.mg) (B:∃ mb,h.Ns builtinsNs mb/\∀ x:Str,x ≠ "__name__" -> mb x=bootBuiltins x) (L:h.NoLimit) (hm:nsIn X.K mainGlobals x=some (some (.ref C))) (hC:excIn X.K C HP "ValueError.__new__" = true) :
  OwnCls x C HP "ValueError.__new__" X.mg h:=by
 obtain ⟨mb,Bn,hb⟩:=B
 obtain ⟨o,es,ep,ho,hd,hs,hf⟩:=id G
 have T:TopRead default (es.toList.filterMap fun d=>match d.key with | .str n _=>some n | _=>none) X.mg mb h:=⟨G,Bn,L,hb,fun y _ hy _ _ _=>by
  rw [<- hf y]
  unfold nsFind findBy
  rw [Option.map_eq_none_iff,Array.find?_eq_none]
  intro d hm hy2
  obtain ⟨n,tk,ek⟩:=hs d hm
  rw [ek] at hy2
  have en:n=y:=by simpa [Value.isStr] using hy2
  exact hy (aaL.mpr ⟨d,by simpa using hm,by rw [ek,en]⟩)⟩
 exact own_of_in KX T hm hC
theorem QZ (hw:N3 X E) (hc:X.calm=true) (hg:Gl X x) (hn:nsIn X.K mainGlobals x=some (some (.ref C))) (hC:excIn X.K C HP "ValueError.__new__" = true) (ha:PA X (e :: es) t) (hd:(x==("__debug__" : Str))=false:=by decide)
  (he:starEach (e :: es) X.env=(false,eval e X.env) :: starEach es X.env:=by rfl) (hpl:(backTo cpos (starEach es X.env)).any (·.1)=false:=by rfl) :
  PS X (.Raise (some (.Call (.Name x np) (e :: es) [] cpos)) none pos) (fun D σ H=>t σ H fun vs H1=>vs.length<=sizeLine/\E (.ref C) none H1):=by
 intro pins s σ H D I h
 have O:=U1 (X:=X) I.mod.kin I.mod.glob I.mod.blt I.mod.nolimit hn hC
 obtain ⟨bm,N',nm,q,bs,hdct,sn,sub,ab,col,dd,k0,k1,k2,k3,k5,mN,hCo,hN,hni,T⟩:=O.obj
 refine wpAny_Raise_call_subT (nm:=nm) (q:=q) (N:=N') (bs:=bs) (bm:=bm) (hdct:=hdct) (sn:=sn) (sub:=sub) (ab:=ab) (col:=col) (dd:=dd) (k0:=k0) (k1:=k1) (k2:=k2) (k3:=k3) (k5:=k5) PySem.F.excBase_ValueError (mN:=mN) (T.hasType rfl) (I.ok.hd hc) (by rw [he]; exact hpl) hni (JB I hg O.bound ⟨rfl,?_⟩ hd)
 have h2:=ha cpos pins s σ H _ I h
 rw [he] at h2 ⊢
 exact Calls.evalArgs_plain (thn h2 fun us s1 ⟨vs,H1,I1,r,q⟩=>⟨rfl,r.length ▸ q.1,I1.bk _ _ hCo,hN.keeps I1.bk,T.keeps I1.bk,fun h' ex hx=>hw pins σ H1 s1 h' ex C us I1 hx q.2⟩)
end
noncomputable abbrev EXT:=St->XK
noncomputable def GJ (CX:CXT) (X:Cx) (E:EXT):Prop:=∀ (pins:List (Addr × Obj)) (σ:St) (H:Hp) (s:Shared) (e:Value) (s':Shared),Inv X pins σ H s->CX X.stack H s (E σ) e s'->X.xe e s'
noncomputable def Pg (sp:Sp) (dvs:List V) (E:EXT) (t:TA):TE:=fun σ H Q=>t σ H fun vs H1=>sp (vs ++ dvs) H1 Q (E σ)
section
variable {X:Cx} {CX:CXT} {k:Nat} {f:Addr} {fd:FuncData} {ps:List Str} {sp:Sp} {dvs:List V} {ds:List Value} {E:EXT} {x:Str} {p pos:Pos} {e:Expr} {es:List Expr} {t:TA}
theorem Q0 (F:FnOk X.prog X.w X.K X.mg X.base CX k f fd ps sp) (hr:Room k X.A) (hg:Gl X x) (hm:X.mg x=some (.ref f)) (hk:PySem.W.keepIn X.K (.ref f)=true) (hb:Binds X.K fd ps ds) (hd:Vals dvs ds) (hx:GJ CX X E)
  (ha:PA X (e :: es) t) (hdb:(x==("__debug__" : Str))=false:=by decide) (he:starEach (e :: es) X.env=(false,eval e X.env) :: starEach es X.env:=by rfl) (hpl:(backTo pos (starEach es X.env)).any (·.1)=false:=by rfl) :
  PE X (.Call (.Name x p) (e :: es) [] pos) (Pg sp dvs E t):=by
 intro pins s σ H Q I h
 refine wpAny_Call_Name_kw (JB I hg hm ?_ hdb)
 refine PySem.W.callWith_K (h₀:=X.base) I.ok.mod.kin hk (thn (ha pos pins s σ H _ I h) fun us s1 ⟨vs,H1,I1,r,q⟩=>⟨I1.kIn,?_⟩) he hpl
 have r2:Vals (vs ++ dvs) (us ++ ds):=r.append hd
 have hl:(us ++ ds).length=ps.length:=r2.length ▸ F.len _ _ _ _ q
 refine wpAny_call (codeAny_mono (F.run X.A X.stack s1 H1 ⟨us,[]⟩ (us ++ ds) (vs ++ dvs) Q (E σ) hr I1.env0 (hb s1 us I1.kIn hl) r2 q) fun rr s' hq=>?_)
 rcases rr with ev | fl
 ·exact hx pins σ H1 s1 ev s' I1 hq
 ·cases fl with
  | ret u=>exact I1.after hq
  | next=>exact False.elim hq
  | brk=>exact False.elim hq
  | cont=>exact False.elim hq
end
noncomputable abbrev M5 (ifs:List Expr) (env:Env):Sem Bool:=forIn ifs true fun c r=>if r=true then do let ok <- isTrue c env (eval c env); pure (ForInStep.yield ok) else pure (ForInStep.yield r)
section
variable {prog:Program} {w:World} {A:Around} {R:Result->Shared->Prop} {s:Shared} {elt tg iter:Expr} {ifs:List Expr} {scope:Scope} {pos:Pos} {it acc:Value} {env:Env}
theorem GK (I:Nat->Shared->Prop)
  (turn:∀ n s,I n s->wpAny (model prog w) A (pyNext it) (fun r s1=>match r with
   | none=>R (.ok .next) s1
   | some v=>wpAny (model prog w) A (letOwnedTupleGo tg it v) (fun _ s2=>wpAny (model prog w) A (assign tg env v) (fun _ s3=>wpAny (model prog w) A (M5 ifs env) (fun ok s4 =>
     if ok=true then wpAny (model prog w) A (eval elt env) (fun x s5=>wpAny (model prog w) A (call (.builtin "list.append") [acc,x]) (fun _ s6=>∃ m,m < n/\I m s6) (fun _ _=>False) s5) (fun _ _=>False) s4
     else ∃ m,m < n/\I m s4) (fun _ _=>False) s3) (fun _ _=>False) s2) (fun _ _=>False) s1) (fun _ _=>False) s) (n:Nat) (h:I n s) :
  codeAny (model prog w) A (.compLoop (.ListComp elt [⟨tg,iter,ifs,0⟩] scope pos) 0 it acc env) R s:=by
 refine codeAny_loop rfl I (fun k s' hk=>?_) n h
 show wpAny _ A ((compTurn (.ListComp elt [⟨tg,iter,ifs,0⟩] scope pos) 0 it acc env).onRaise (fun z=>do noteFrame z env; theTreesLotGoes z)) _ _ s'
 refine wpAny_noted ?_
 rw [compTurn_list]
 have no:∀ {Z:Value->Shared->Prop} (x:Value) (t:Shared),False->Z x t:=fun _ _ z=>z.elim
 refine wpAny_bind (wpAny_standAt ?_)
 refine wpAny_bind (wpAny_mono (turn k s' hk) (fun r s1 h1=>?_) no)
 rcases r with _ | v
 ·exact wpAny_pure h1
 ·refine wpAny_bind (wpAny_mono h1 (fun _ s2 h2=>?_) no)
  refine wpAny_bind (wpAny_mono h2 (fun _ s3 h3=>?_) no)
  refine wpAny_bind (wpAny_mono h3 (fun ok s4 h4=>?_) no)
  cases ok with
  | false=>exact wpAny_pure ⟨rfl,h4⟩
  | true =>
   refine wpAny_bind ?_
   refine wpAny_bind (wpAny_mono h4 (fun x s5 h5=>?_) no)
   exact wpAny_bind (wpAny_mono h5 (fun _ s6 h6=>wpAny_pure (wpAny_pure ⟨rfl,h6⟩)) no)
noncomputable def Ch (env:Env) (names:List (Str × NameKind)) (cs:List (Str × Addr)):List (Str × Addr):=names.foldl (fun cs x=>if (x.2==NameKind.free)=true then (x.1,(env.cells.lookup x.1).getD 0) :: cs else cs) cs
theorem IG {α β:Type} (f:α->β->Sem (ForInStep β)) (g:β->α->β):∀ (l:List α) (b:β),(∀ x ∈ l,∀ b,f x b=pure (ForInStep.yield (g b x)))->forIn l b f=pure (l.foldl g b)
 | [],b,_=>rfl
 | x :: l,b,h=>by
  rw [List.forIn_cons,h x (aab ..) b,abB]
  exact IG f g l (g b x) fun y hy=>h y (aaa _ hy)
theorem IH (h:∀ x ∈ scope.names,x.2=.free->(env.cells.lookup x.1).isSome=true):closureFor scope env=pure (Ch env scope.names []):=by
 unfold closureFor Ch
 dsimp only
 rw [IG _ (fun cs x=>if (x.2==NameKind.free)=true then (x.1,(env.cells.lookup x.1).getD 0) :: cs else cs)]
 ·rfl
 ·rintro ⟨n,k⟩ hx cs
  by_cases hk:(k==NameKind.free)=true
  ·obtain ⟨c,hc⟩:=aaD.mp (h (n,k) hx (beq_iff_eq.mp hk))
   have hc':List.lookup n env.cells=some c:=hc
   dsimp only
   rw [if_pos hk,if_pos hk]
   unfold cellOf
   rw [hc']
   rfl
  ·dsimp only
   rw [if_neg hk,if_neg hk]
theorem Bd (h:∀ x ∈ scope.names,x.2=.free->(env.cells.lookup x.1).isSome=true) {x:Str} {c:Addr} (e:(Ch env scope.names []).lookup x=some c):env.cells.lookup x=some c:=by
 have gen:∀ (l:List (Str × NameKind)) (cs:List (Str × Addr)),(∀ y ∈ l,y.2=.free->(env.cells.lookup y.1).isSome=true)->(∀ p ∈ cs,env.cells.lookup p.1=some p.2)->∀ p ∈ Ch env l cs,env.cells.lookup p.1=some p.2:=by
  intro l
  induction l with
  | nil=>intro cs _ hc; exact hc
  | cons y l ih =>
   intro cs hl hc
   unfold Ch
   rw [abB]
   refine ih _ (fun z hz=>hl z (aaa _ hz)) fun p hp=>?_
   split at hp
   ·rename_i hk
    rcases aai.mp hp with rfl | hp
    ·obtain ⟨c',hc'⟩:=aaD.mp (hl y (aab ..) (beq_iff_eq.mp hk))
     show env.cells.lookup y.1=some ((env.cells.lookup y.1).getD 0)
     rw [hc']; rfl
    ·exact hc p hp
   ·exact hc p hp
 exact gen scope.names [] h (fun p hp=>nomatch hp) (x,c) (PySem.mem_of_lookup e)
theorem EO {x:Str} {c:Addr} (hm:(x,NameKind.free) ∈ scope.names) (h:∀ x ∈ scope.names,x.2=.free->(env.cells.lookup x.1).isSome=true) (e:env.cells.lookup x=some c):(Ch env scope.names []).lookup x=some c:=by
 have gen:∀ (l:List (Str × NameKind)) (cs:List (Str × Addr)),((x,NameKind.free) ∈ l\/∃ d,(x,d) ∈ cs)->∃ d,(x,d) ∈ Ch env l cs:=by
  intro l
  induction l with
  | nil=>intro cs hc; rcases hc with z | z; cases z; exact z
  | cons y l ih =>
   intro cs hc
   unfold Ch
   rw [abB]
   refine ih _ ?_
   rcases hc with hc | ⟨d,hc⟩
   ·rcases aai.mp hc with rfl | hc
    ·exact .inr ⟨_,by rw [if_pos (by rfl)]; exact aab ..⟩
    ·exact .inl hc
   ·refine .inr ⟨d,?_⟩
    split
    ·exact aaa _ hc
    ·exact hc
 obtain ⟨d,hd⟩:=gen scope.names [] (.inl hm)
 cases q:(Ch env scope.names []).lookup x with
 | none =>
  rw [List.lookup_eq_none_iff] at q
  have:=q _ hd
  simp at this
 | some c'=>exact (Bd h q).symm.trans e ▸ rfl
end
structure Bk where
 (C:Addr)
 (fp:List Addr)
 (s:Shared)
 (H:Hp)
noncomputable abbrev Cx.blk (X:Cx) (scope:Scope) (C:Addr) (fp:List Addr) (N:List Str) (s:Shared) (H:Hp):Cx :=
 { X with N:=N,s₀:=s,H₀:=H,env:=compEnvC scope (Ch X.env scope.names []) C X.env,outer:=X.stack,ex:=fp,fn:=fun _=>false,pn:=[],xe:=fun _ _=>False }
noncomputable def PTs (X:Cx) (ifs:List Expr) (t:TT):Prop :=
 ∀ (pins:List (Addr × Obj)) (s:Shared) (σ:St) (H:Hp) (Q:Bool->Hp->Prop),Inv X pins σ H s->t σ H Q->wpAny (model X.prog X.w) X.A (M5 ifs X.env) (TP X pins σ Q) X.xe s
noncomputable def Sm:TT:=fun _ H Q=>Q true H
theorem M6 {X:Cx}:PTs X [] Sm:=fun _ _ _ H _ I h=>wpAny_tests_nil ⟨H,I,h⟩
theorem M7 {X:Cx} {c:Expr} {t:TT} (h:PT X c t):PTs X [c] t:=fun pins s σ H Q I q=>wpAny_tests_one (h pins s σ H Q I q)
noncomputable def Bs (nl:Nat) (fr:List Nat) (σ:St):St:=aam nl none ++ fr.map fun j=>(σ[j]?).join
noncomputable def Hi (nl:Nat) (fr:List Nat) (wi:TI) (gz:Bk->TG) (tcz:Bk->TT) (tez:Bk->TE):TE:=fun σ H Q=>wi σ H fun J H1=>∀ (z:Bk) (D:Addr),H1 D=none->∃ W:Nat->Nat->List V->Hp->Prop,(∃ m,W 0 m [] (upd H1 D (.lst [])))/\∀ i m acc H2,W i m acc H2 ->
 H2 D=some (.lst acc)/\((J.stop i H2/\Q (.ref D) H2)\/(J.go i H2/\∀ x H3,J.yld i H2 x H3->gz z x (Bs nl fr σ) H3 fun σ4 H4=>tcz z σ4 H4 fun b H5 =>
  if b=true then tez z σ4 H5 fun v H6=>H6 D=some (.lst acc)/\acc.length < sizeLine/\∃ m',m' < m/\W (i + 1) m' (acc ++ [v]) (upd H6 D (.lst (acc ++ [v]))) else ∃ m',m' < m/\W (i + 1) m' acc H5))
theorem M8 {X:Cx} {elt tg iter:Expr} {ifs:List Expr} {scope:Scope} {pos:Pos} {wi:TI} {gz:Bk->TG} {tcz:Bk->TT} {tez:Bk->TE} (loc:List Str) (fr:List Nat) (frn:List Str) (hc:X.calm=true) (hi:PI X tg iter wi)
  (hfr:∀ (j:Nat) (k:Nat) (x:Str),fr[j]?=some k->frn[j]?=some x->X.N[k]?=some x/\X.env.kindOf x=some .cell/\(x,NameKind.free) ∈ scope.names) (hln:frn.length=fr.length)
  (hcell:∀ y ∈ scope.names,y.2 ≠ .cell) (hkind:scope.kind=.function) (hnames:∀ y ∈ scope.names,y.2=.local->scope.names.lookup y.1=some .local) (hfree:∀ y ∈ scope.names,y.2=.free->X.env.kindOf y.1=some .cell)
  (hkin:∀ (x:Str),x ∈ frn->(relabel scope X.env).names.lookup x=some .cell) (hsc:X.env.scope.kind=.function)
  (hgk:∀ (z:Bk) (v:V) (σ:St) (H:Hp) (Q:St->Hp->Prop),gz z v σ H Q->gz z v σ H fun σ' H'=>Q σ' H'/\σ'.length=σ.length/\∀ i,loc.length<=i->σ'[i]?=σ[i]?)
  (hblk:∀ (z:Bk),PG (X.blk scope z.C z.fp (loc ++ frn) z.s z.H) tg (gz z)/\PTs (X.blk scope z.C z.fp (loc ++ frn) z.s z.H) ifs (tcz z)/\PE (X.blk scope z.C z.fp (loc ++ frn) z.s z.H) elt (tez z))
  (hs:∀ x,foldedSetIterable iter X.env x=pure x:=by intro _; rfl):PE X (.ListComp elt [⟨tg,iter,ifs,0⟩] scope pos) (Hi loc.length fr wi gz tcz tez):=by
 intro pins s σ H Q I h
 have hcs:∀ x ∈ scope.names,x.2=.free->(X.env.cells.lookup x.1).isSome=true:=fun x hx hf=>by
  obtain ⟨c,e⟩:=I.ok.has x.1 (.inl (hfree x hx hf))
  rw [e]; rfl
 rw [eval_ListComp]
 refine wpAny_comprehension_free (use:=none) rfl hs (IH hcs) hkind hnames (thn (hi pins s σ H _ I h) fun v s1 h1=>thn h1 fun itv s2 h2=>?_)
 obtain ⟨it,fp,tn,J,H2,rfl,I2,T,st2,f2,q2⟩:=h2
 refine wpAny_newList (items:=[]) ?_ (by simp)
 have eD:H2 s2.heap.objs.size=none:=I2.hok.fresh (aaj _)
 have pk:∀ (o:Obj) b u,s2.heap.get? b=some u->(s2.heap.push o).get? b=some u:=fun o b u e=>Heap.get?_push_of_some _ e
 have I3:=I2.laid (a:=s2.heap.objs.size) (o:=.lst []) (t':=s2.toks) (h':=s2.heap.push { cls:=.type "list",data:=.seq ([]:List Value).toArray }) (pk _) (aaj _)
  ⟨aat _,[],0,.nil,Heap.get?_push_size _ rfl⟩
 generalize hs3:(⟨s2.heap.push { cls:=.type "list",data:=.seq ([]:List Value).toArray },s2.gens,s2.drawn,s2.toks,s2.os⟩:Shared)=s3 at I3 ⊢
 have k3:∀ b u,s2.heap.get? b=some u->s3.heap.get? b=some u:=fun b u e=>by rw [<- hs3]; exact pk _ b u e
 have tk3:s3.os=s2.os/\s3.gens=s2.gens:=by rw [<- hs3]; exact ⟨rfl,rfl⟩
 have z3:s3.heap.objs.size=s2.heap.objs.size + 1:=by rw [<- hs3]; exact Heap.size_push ..
 refine wpAny_newFunctionEnv hcell (by intro y hy; simp at hy) (fun h4 hns hsb=>?_) hkind
 have k4:∀ b u,s3.heap.get? b=some u->h4.get? b=some u:=fun b u e=>hsb.extBut b u (aaC (Heap.lt_size e)) (Heap.get?_push_of_some _ e)
 have fpl:∀ b ∈ fp,b < s2.heap.objs.size:=fun b hb=>by
  obtain ⟨o,e,_⟩:=T.obj 0 _ st2 b hb
  exact Heap.lt_size e
 obtain ⟨W,⟨m0,w0⟩,turn⟩:=q2 ⟨s3.heap.objs.size,fp,s3,upd H2 s2.heap.objs.size (.lst [])⟩ _ eD
 have ok4:(X.blk scope s3.heap.objs.size fp (loc ++ frn) s3 (upd H2 s2.heap.objs.size (.lst []))).Ok:=by
  refine ⟨I.ok.mod,hkind,I.ok.glob,I.ok.blt,aaj _,fun x y c e1 e2=>I.ok.inj x y c (Bd hcs e1) (Bd hcs e2),fun x hx=>?_,fun x c z=>(nomatch z),I.ok.hd,I.ok.frames,.inl rfl,fun b hb=>⟨?_,fun x c e=>(f2 b hb).2.2.2.2.1 x c (Bd hcs e)⟩,I3.bs,aaK I.ok.bsz I3.sz,
   fun b o e hb=>?_,fun b hb z=>?_,I3.stack,I3.stkFree⟩
  ·have hm:(x,NameKind.free) ∈ scope.names:=by
    have:∃ k',(k'=NameKind.cell\/k'=NameKind.free)/\(relabel scope X.env).names.lookup x=some k':=by
     rcases hx with z | z
     ·exact ⟨_,.inl rfl,z⟩
     ·exact ⟨_,.inr rfl,z⟩
    obtain ⟨k',hk',z⟩:=this
    have zm:=PySem.mem_of_lookup z
    unfold relabel at zm
    obtain ⟨⟨n,k⟩,hn,e⟩:=aav.mp zm
    dsimp only at e
    split at e
    ·rename_i hk
     cases e
     have:k=NameKind.free:=by
      cases k <;> first | rfl | (simp at hk)
     rw [<- this]; exact hn
    ·cases e
     rcases hk' with rfl | rfl
     ·exact absurd rfl (hcell _ hn)
     ·exact hn
   obtain ⟨c,e⟩:=I.ok.has x (.inl (hfree _ hm rfl))
   exact ⟨c,EO hm hcs e⟩
  ·have:=fpl b hb
   exact aaC (by rw [z3]; exact ab3 this)
  ·rcases (f2 b hb).2.2.2.1 with z | z
   ·exact I.ok.noex b o e z
   ·exact absurd (aay (Heap.lt_size (I.ok.bs b o e).1) z) (aaT _)
  ·have:=I2.stkSub b z
   rcases aai.mp this with rfl | y
   ·exact (f2 _ hb).2.1 rfl
   ·exact (f2 b hb).2.2.1 y
 have I4:Inv (X.blk scope s3.heap.objs.size fp (loc ++ frn) s3 (upd H2 s2.heap.objs.size (.lst []))) [] (Bs loc.length fr σ) (upd H2 s2.heap.objs.size (.lst [])) { s3 with heap:=h4,toks:=s3.toks + ([]:List (Str × Value)).length }:=by
  refine ⟨ok4,rfl,I3.bare,Un.kept k4,⟨_,hns,fun i x v e1 e2 e3=>?_⟩,fun x c e=>?_,I3.hok.fresh (aaj _),fun x c e=>I3.freeC x c (Bd hcs e),fun p hp=>(nomatch hp),I3.hok.kept k4,?_⟩
  ·unfold Bs at e2
   by_cases hi:i < loc.length
   ·rw [aaN (by simpa using hi),aaS] at e2
    split at e2 <;> cases e2
   ·rw [aaH (by simpa using hi),aa5,aaq] at e2
    have e1':frn[i - loc.length]?=some x:=by
     have:(loc ++ frn)[i]?=some x:=e1
     rw [aaH (abc hi)] at this
     exact this
    cases ek:fr[i - loc.length]? with
    | none=>rw [ek] at e2; cases e2
    | some k =>
     rw [ek] at e2
     have e2':(σ[k]?).join=some v:=Option.some.inj e2
     have e2'':σ[k]?=some (some v):=by
      cases q:σ[k]? with
      | none=>rw [q] at e2'; cases e2'
      | some y=>rw [q] at e2'; exact congrArg some e2'
     obtain ⟨n1,n2,n3⟩:=hfr _ k x ek e1'
     obtain ⟨m,_,hl⟩:=I3.loc
     obtain ⟨u,ru,lk⟩:=hl k x v n1 e2'' (.inr (.inl n2))
     refine ⟨u,ru,.inr ⟨.inl (hkin x (aaf e1')),?_⟩⟩
     rcases lk with ⟨z,_⟩ | ⟨_,c,ec,ic⟩
     ·rw [n2] at z; cases z
     ·obtain ⟨o,ho,hd⟩:=ic
      exact ⟨c,EO n3 hcs ec,o,k4 _ _ ho,hd⟩
  ·obtain ⟨v,o,ho,hd⟩:=I3.cell x c (Bd hcs e)
   exact ⟨v,o,k4 _ _ ho,hd⟩
  ·unfold Bs
   show _=(loc ++ frn).length
   rw [aaE,aaE,aa5,aac,hln]
 have stat:∀ {H':Hp},(∀ b ∈ fp,H' b=none)->∀ b ∈ fp,GG (X.blk scope s3.heap.objs.size fp (loc ++ frn) s3 (upd H2 s2.heap.objs.size (.lst []))) [] H' b:=fun hn b hb =>
  ⟨hn b hb,(ok4.exf b hb).1,ok4.exfs b hb,.inl hb,(ok4.exf b hb).2,fun p hp=>(nomatch hp)⟩
 have fp3:∀ b ∈ fp,(upd H2 s2.heap.objs.size (.lst [])) b=none:=fun b hb=>by
  rw [Aw (aaC (fpl b hb))]; exact (f2 b hb).1
 obtain ⟨pg,pt,pe⟩:=hblk ⟨s3.heap.objs.size,fp,s3,upd H2 s2.heap.objs.size (.lst [])⟩
 have st4:tn 0 h4:=T.keep 0 _ _ st2 fun b _ o e=>k4 b o (k3 b o e)
 have after:∀ {i:Nat} {H':Hp} {s':Shared} {acc:List V} {σ':St},Inv (X.blk scope s3.heap.objs.size fp (loc ++ frn) s3 (upd H2 s2.heap.objs.size (.lst []))) [] σ' H' s'->Q (.ref s2.heap.objs.size) H' ->
   compPost (model X.prog X.w) X.A X.xe none (EP X pins σ Q) (.ref s2.heap.objs.size) s3.heap.objs.size (.ok .next) s':=by
  intro i H' s' acc σ' I5 q
  obtain ⟨m,hn,_⟩:=I5.loc
  refine ⟨m,hn,fun h' hb=>?_⟩
  have same:∀ b o,s3.heap.get? b=some o->h'.get? b=s'.heap.get? b:=fun b o e=>hb.2 b (aaC (Heap.lt_size e))
  have u:=I5.base
  have un:Un (frs X.stack) fp (upd H2 s2.heap.objs.size (.lst [])) H' s3.heap h':=⟨fun b o e n h1 h2=>(same b o e).trans (u.keep b o e n h1 h2),fun b o e n h1 h2=>by
    obtain ⟨sl,z⟩:=u.slot b o e n h1 h2
    exact ⟨sl,(same b o e).trans z⟩,u.free,fun b o e h1=>by
    obtain ⟨o',z⟩:=u.there b o e h1
    exact ⟨o',(same b o e).trans z⟩,u.tups,u.frzs,u.tbls⟩
  have hok:HOk X.prog X.w H' h':=fun b o e=>by
   have fC:H' s3.heap.objs.size=none:=I5.free
   refine (I5.hok b o e).stay (fun c w' hc z=>(hb.2 c ?_).trans z) (fun _ z=>z) fun _ _ z=>z
   rintro rfl
   rcases hc with rfl | hc
   ·rw [fC] at e; cases e
   ·rw [fC] at hc; cases hc
  exact ⟨.ref s2.heap.objs.size,H',I3.call' (s':={ s' with heap:=h' }) (ch:=fp) I5.os un hok I5.bare (fun b hb=>⟨(f2 b hb).2.2.2.1,(f2 b hb).2.1,(f2 b hb).2.2.2.2.1,(f2 b hb).2.2.2.2.2⟩),rfl,q⟩
 have loop:∀ s5:Shared,s5={ s3 with heap:=h4,toks:=s3.toks + ([]:List (Str × Value)).length } ->
   codeAny (model X.prog X.w) X.A (.compLoop (.ListComp elt [⟨tg,iter,ifs,0⟩] scope pos) 0 (.ref it) (.ref s2.heap.objs.size) (compEnvC scope (Ch X.env scope.names []) s3.heap.objs.size X.env))
    (compPost (model X.prog X.w) X.A X.xe none (EP X pins σ Q) (.ref s2.heap.objs.size) s3.heap.objs.size) s5:=by
  rintro s5 rfl
  refine GK (fun n s'=>∃ i acc H',Inv (X.blk scope s3.heap.objs.size fp (loc ++ frn) s3 (upd H2 s2.heap.objs.size (.lst []))) [] (Bs loc.length fr σ) H' s'/\tn i s'.heap/\(∀ b ∈ fp,H' b=none)/\W i n acc H') ?_ m0
   ⟨0,[],_,I4,st4,fp3,w0⟩
  rintro n s6 ⟨i,acc,H6,I6,st6,fr6,w6⟩
  obtain ⟨hD,alt⟩:=turn i n acc H6 w6
  rcases alt with ⟨stop,q⟩ | ⟨go,step⟩
  ·refine thn (T.done (X.blk scope s3.heap.objs.size fp (loc ++ frn) s3 (upd H2 s2.heap.objs.size (.lst []))) rfl rfl rfl hc i [] s6 _ H6 (fun _ _=>False) I6 (stat fr6) st6 stop) fun r s7 ⟨hr,I7⟩=>?_
   subst hr
   exact after (i:=i) (acc:=acc) I7 q
  ·refine thn (T.item (X.blk scope s3.heap.objs.size fp (loc ++ frn) s3 (upd H2 s2.heap.objs.size (.lst []))) rfl rfl rfl hc i [] s6 _ H6 (fun _ _=>False) I6 (stat fr6) st6 go) fun r s7 ⟨u,hr,h7⟩=>?_
   subst hr
   refine thn h7 fun _ s8 ⟨x,H8,I8,r8,y8,st8,fr8⟩=>?_
   have I8':=I8.pinned (stat fr8) (T.obj _ _ st8)
   have back:∀ {σ9:St} {H9:Hp} {s9:Shared},Inv (X.blk scope s3.heap.objs.size fp (loc ++ frn) s3 (upd H2 s2.heap.objs.size (.lst []))) ([] ++ F5 fp s8.heap) σ9 H9 s9->σ9.length=(Bs loc.length fr σ).length->(∀ i,loc.length<=i->σ9[i]?=(Bs loc.length fr σ)[i]?) ->
     Inv (X.blk scope s3.heap.objs.size fp (loc ++ frn) s3 (upd H2 s2.heap.objs.size (.lst []))) [] (Bs loc.length fr σ) H9 s9/\tn (i + 1) s9.heap/\(∀ b ∈ fp,H9 b=none):=by
    intro σ9 H9 s9 I9 hl hk
    refine ⟨(I9.unpinned).weak hl.symm fun j v ej=>?_,T.keep _ _ _ st8 fun b hb o e=>(I9.pin (b,o) (aal _ (aal _ (C5 hb e)))).1,fun b hb=>?_⟩
    ·by_cases hj:j < loc.length
     ·unfold Bs at ej
      rw [aaN (by simpa using hj),aaS] at ej
      split at ej <;> cases ej
     ·rw [hk j (abc hj)]; exact ej
    ·obtain ⟨o,e,d⟩:=T.obj _ _ st8 b hb
     exact (I9.pin (b,o) (aal _ (aal _ (C5 hb e)))).2.1
   refine thn (pg _ s8 _ H8 x u _ I8' r8 (hgk _ _ _ _ _ (step x H8 y8))) fun _ s9 ⟨σ9,H9,I9,q9,l9,k9⟩=>?_
   refine thn (pt _ s9 σ9 H9 _ I9 q9) fun ok s10 ⟨H10,I10,q10⟩=>?_
   cases ok with
   | false =>
    rw [if_neg (by decide)] at q10 ⊢
    obtain ⟨m',hm,w'⟩:=q10
    obtain ⟨b1,b2,b3⟩:=back I10 l9 k9
    exact ⟨m',hm,i + 1,acc,H10,b1,b2,b3,w'⟩
   | true =>
    rw [if_pos rfl] at q10 ⊢
    refine thn (pe _ s10 σ9 H10 _ I10 q10) fun y s11 ⟨v,H11,I11,r11,hD11,hz,m',hm,w'⟩=>?_
    refine thn (Fz _ s11 σ9 H11 (.ref s2.heap.objs.size) [v] (.ref s2.heap.objs.size) [y] (fun _ H12=>W (i + 1) m' (acc ++ [v]) H12) I11 rfl (.cons r11 .nil) ⟨_,acc,v,rfl,rfl,hD11,hz,w'⟩) fun _ s12 ⟨_,H12,I12,_,w12⟩=>?_
    obtain ⟨b1,b2,b3⟩:=back I12 l9 k9
    exact ⟨m',hm,i + 1,_,H12,b1,b2,b3,w12⟩
 exact codeAny_compStart_list (loop _ rfl) (T.self X.A 0 _ _ _ st4 (loop _ rfl))
mutual
inductive RD (K:Frag) (H:Hp):V->PyData->Prop where
 | non:RD K H .non .none
 | bl (b:Bool):RD K H (.bl b) (.bool b)
 | int (i:Int):RD K H (.int i) (.int i)
 | str (x:Str):RD K H (.str x) (.str x)
 | lst {a:Addr} {xs:List V} {ds:List PyData} (h:SqL K H a xs) (r:RDs K H xs ds):RD K H (.ref a) (.list ds)
 | tup {a:Addr} {xs:List V} {ds:List PyData} (h:SqT K H a xs) (r:RDs K H xs ds):RD K H (.ref a) (.tuple ds)
inductive RDs (K:Frag) (H:Hp):List V->List PyData->Prop where
 | nil:RDs K H [] []
 | cons {x:V} {xs:List V} {d:PyData} {ds:List PyData} (h:RD K H x d) (r:RDs K H xs ds):RDs K H (x :: xs) (d :: ds)
end
section
variable {X:Cx} {pins:List (Addr × Obj)} {σ:St} {H:Hp} {s:Shared}
mutual
theorem RD.reads (I:Inv X pins σ H s):∀ {v:V} {d:PyData} {u:Value},RD X.K H v d->RelV v u->∃ as,Reads s.heap u d as
 | _,_,_,.non,r=>by cases (show _=Value.none from r); exact ⟨_,.none⟩
 | _,_,_,.bl b,r=>by cases (show _=Value.bool b from r); exact ⟨_,.bool b⟩
 | _,_,_,.int i,r=>by obtain ⟨t,q⟩:=(show ∃ t,_=Value.int i t from r); cases q; exact ⟨_,.int i t⟩
 | _,_,_,.str x,r=>by obtain ⟨t,q⟩:=(show ∃ t,_=Value.str x t from r); cases q; exact ⟨_,.str x t⟩
 | _,_,_,.lst (a:=a) h rs,r=>by
  cases (show _=Value.ref a from r)
  obtain ⟨its,rv,⟨o,n,hp,hc,_,hd⟩,_⟩:=I.list h
  obtain ⟨as,ra⟩:=RDs.reads I rs rv
  exact ⟨_,reads_list_at hp hc hd (by simpa using ra)⟩
 | _,_,_,.tup (a:=a) h rs,r=>by
  cases (show _=Value.ref a from r)
  obtain ⟨its,rv,⟨o,h1,h2,n,h3⟩,_⟩:=I.tuple h
  obtain ⟨as,ra⟩:=RDs.reads I rs rv
  exact ⟨_,reads_tuple_at h1 h2 h3 (by simpa using ra)⟩
theorem RDs.reads (I:Inv X pins σ H s):∀ {xs:List V} {ds:List PyData} {us:List Value},RDs X.K H xs ds->Vals xs us->∃ as,ReadsAll s.heap us ds as
 | _,_,_,.nil,.nil=>⟨_,.nil⟩
 | _,_,_,.cons h r,.cons q t=>by
  obtain ⟨as,e1⟩:=RD.reads I h q
  obtain ⟨bs,e2⟩:=RDs.reads I r t
  exact ⟨_,.cons e1 e2⟩
end
noncomputable def U2 (K:Frag) (neg:Bool):R2:=fun x y H Q=>∃ d e,RD K H x d/\RD K H y e/\SeqAt.shaped d=true/\SeqAt.shaped e=true/\Q (.bl (if neg then !d.eqv e else d.eqv e)) H
theorem U3 (hu:X.A.units + 64 < cLine):OpR X (compareOp .Eq) (U2 X.K false):=by
 intro pins s σ H x y u w' Q I rx ry h
 obtain ⟨d,e,h1,h2,s1,s2,q⟩:=h
 obtain ⟨_,r1⟩:=h1.reads I rx
 obtain ⟨_,r2⟩:=h2.reads I ry
 exact eq_dataH r1 r2 s1 s2 hu ⟨.bl (d.eqv e),H,I,rfl,q⟩
theorem U4 (hu:X.A.units + 64 < cLine):OpR X (compareOp .NotEq) (U2 X.K true):=by
 intro pins s σ H x y u w' Q I rx ry h
 obtain ⟨d,e,h1,h2,s1,s2,q⟩:=h
 obtain ⟨_,r1⟩:=h1.reads I rx
 obtain ⟨_,r2⟩:=h2.reads I ry
 exact ne_dataH r1 r2 s1 s2 hu ⟨.bl (!d.eqv e),H,I,rfl,q⟩
noncomputable def Wm (K:Frag):List V->Hp->VK->Prop:=fun xs H Q=>∃ (l:Addr) (bs:List Bool),xs=[.ref l]/\SqL K H l (bs.map V.bl)/\Q (.bl (bs.all id)) H
theorem JF (bs:List Bool):(aar bs.length).all (fun i=>bs.getD i false)=bs.all id:=by
 induction bs with
 | nil=>rfl
 | cons b r ih =>
  rw [aaJ,abE,aaG,aaG,acS,<- ih]
  rfl
theorem Ph (hc:X.calm=true):C6 X (.builtin "all") (Wm X.K):=by
 intro pins s σ H xs us Q I r h
 obtain ⟨l,bs,rfl,hS,q⟩:=h
 obtain ⟨u,rfl,ru⟩:=EN r
 cases (show u=Value.ref l from ru)
 obtain ⟨its,rr,p,_⟩:=I.list hS
 have hl:its.length=bs.length:=by rw [<- rr.length,aac]
 refine call_all_walk (wpAny_pyIter_list p.isList ?_)
 have hne:l ≠ s.heap.objs.size:=(by obtain ⟨_,e,_⟩:=p.isList; exact aaC (Heap.lt_size e))
 refine ⟨_,_,_,_,_,_,fun i=>bs.getD i false,rfl,Walks.list (A:=X.A.in1) (I.ok.hd hc) s.heap.objs.size l hne its.toArray,?_,?_,?_⟩
 ·exact ⟨⟨_,Heap.get?_push_size _ rfl,rfl,rfl⟩,p.isList.push _⟩
 ·intro i v s' Q' E' hP hQ'
  have hv:v=Value.bool (bs.getD i false):=by
   have hP':its[i]?=some v:=by simpa using hP
   have hi:i < its.length:=(aak.mp hP').1
   have hx:(bs.map V.bl)[i]?=some (V.bl (bs.getD i false)):=by
    rw [aaq,aap,aae (by omega)]
    rfl
   obtain ⟨u,e1,e2⟩:=rr.get hx
   rw [hP'] at e1
   cases e1
   exact e2
  subst hv
  exact wpAny_pure hQ'
 ·intro h' tk hk
  have e:(aar its.toArray.size).all (fun i=>bs.getD i false)=bs.all id:=by rw [aan,hl,JF]
  rw [e]
  exact ⟨.bl _,H,I.kept (h':=h') (t':=tk) (fun b o e=>hk b o (fun hm=>by
   have hm':b=s.heap.objs.size:=by simpa using hm
   exact aaT _ (hm' ▸ Heap.lt_size e)) (Heap.get?_push_of_some _ e)),rfl,q⟩
end
section
variable {P:Program} {w:World} {K:Frag} {mg:Str->Option Value} {base:Heap}
theorem Fun.okX {x qual:Str} {st:Stmt} {f:Addr} {fd:FuncData} {N ps:List Str} {k:Nat} {sp:Sp} (F:Fun K x qual st f fd) (S:FnScope N ps (Au st)) (len:∀ vs H Q E,sp vs H Q E->vs.length=ps.length)
  (hbody:∀ (f:Addr) (cdv:Value) (A:Around) (outer:List Env) (s:Shared) (H:Hp) (vs:List V) (Q:VK) (E:XK),Room k (A.deeper (envOfC qual (Au st) s.heap.objs.size f cdv))->sp vs H Q E ->
   ∃ t,PSs (B6 (CXe P w) P w K mg base N qual (Au st) f cdv A outer s H E) (AY st) t/\t { nx:=fun _ H'=>Q .non H',rt:=Q } (AR N vs) H):FnOk P w K mg base (CXe P w) (k + 1) f fd ps sp:=by
 obtain ⟨oc,od,kV,doc,pm,an,cdv,ct,osl,rfl,lk,hcd⟩:=F.ex
 exact Wj lk hcd S len fun A outer s H vs Q E hr hsp=>hbody f cdv A outer s H vs Q E hr hsp
noncomputable def Df (K:Frag) (mg:Str->Option Value) (x:Str) (st:Stmt) (ps:List Str):Prop:=∃ f fd,Fun K x x st f fd/\mg x=some (.ref f)/\Binds K fd ps []
noncomputable def Has (P:Program) (w:World) (K:Frag) (mg:Str->Option Value) (base:Heap) (x:Str) (k:Nat) (ps:List Str) (sp:Sp):Prop :=
 ∃ f fd,FnOk P w K mg base (CXe P w) k f fd ps sp/\mg x=some (.ref f)/\PySem.W.keepIn K (.ref f)=true/\Binds K fd ps []
theorem Wn {h:Heap} {x:Str} {st:Stmt} {ps:List Str} {f:Addr} {oc:Value} {od an:Option Addr} {osl:Array (Option Value)} {kV doc pm cdv ct:Value} (X:K.In h) (G:h.Ns mainGlobals mg) (a:nsIn K mainGlobals x=some (some (.ref f)))
  (l:K.lookup f=some ⟨oc,od,.func (PySem.W.fnOf x x (Co st) (AY st) (Au st) .none kV doc pm an cdv ct),osl⟩) (c:PySem.W.codeIn K cdv x=true) (k:PySem.W.keepIn K (.ref f)=true)
  (hb:∀ (kV doc pm:Value) (an:Option Addr) (cdv ct:Value) (us:List Value),us.length=ps.length->bindArgs (PySem.W.fnOf x x (Co st) (AY st) (Au st) .none kV doc pm an cdv ct) ⟨us,[]⟩=pure (ps.zip us)):Df K mg x st ps:=by
 have F:=Pf (st:=st) l c k
 exact ⟨f,_,F,mg_of X G a,F.binds hb⟩
end
section
variable {X:Cx} {k:Nat} {ps:List Str} {sp:Sp} {E:XK} {EX:EXT} {x:Str} {p pos:Pos} {e:Expr} {es:List Expr} {t:TA}
theorem Sn (F:Has X.prog X.w X.K X.mg X.base x k ps sp) (hr:Room k X.A) (hg:Gl X x) (hx:GJ (CXe X.prog X.w) X EX) (ha:PA X (e :: es) t) (hdb:(x==("__debug__" : Str))=false:=by decide)
  (he:starEach (e :: es) X.env=(false,eval e X.env) :: starEach es X.env:=by rfl) (hpl:(backTo pos (starEach es X.env)).any (·.1)=false:=by rfl):PE X (.Call (.Name x p) (e :: es) [] pos) (Pg sp [] EX t):=by
 obtain ⟨f,fd,F,m,kp,b⟩:=F
 exact Q0 F hr hg m kp b .nil hx ha hdb he hpl
end
theorem Same.new {H:Hp} {p:Addr} {o:HO} (h:H p=none):Same H (upd H p o):=fun b u e=>by rw [Aw (C0 e h)]; exact e
theorem Same.tup {K:Frag} {H H':Hp} {a:Addr} {xs:List V} (e:Same H H') (h:SqT K H a xs):SqT K H' a xs:=by
 rcases h with (h | ⟨o,h⟩) | h
 ·exact .inl (.inl (e _ _ h))
 ·exact .inl (.inr ⟨o,e _ _ h⟩)
 ·exact .inr h
mutual
theorem Same.rd {K:Frag} {H H':Hp} (e:Same H H'):∀ {x:V} {d:PyData},RD K H x d->RD K H' x d
 | _,_,.non=>.non
 | _,_,.bl b=>.bl b
 | _,_,.int i=>.int i
 | _,_,.str x=>.str x
 | _,_,.lst h r=>.lst (e.seq h) (Same.rds e r)
 | _,_,.tup h r=>.tup (e.tup h) (Same.rds e r)
theorem Same.rds {K:Frag} {H H':Hp} (e:Same H H'):∀ {xs:List V} {ds:List PyData},RDs K H xs ds->RDs K H' xs ds
 | _,_,.nil=>.nil
 | _,_,.cons h r=>.cons (Same.rd e h) (Same.rds e r)
end
theorem Q1 {X:Cx} {use:Option (Value->Sem Unit)} {R:Value->Shared->Prop} {ipos:Pos} {pins:List (Addr × Obj)} {s:Shared} {σ:St} {H:Hp} {Q:VK} {elt tg iter:Expr} {ifs:List Expr} {scope:Scope} {pos:Pos} {wi:TI} {gz:Bk->TG} {tcz:Bk->TT} {tez:Bk->TE} (loc:List Str) (fr:List Nat) (frn:List Str) (hc:X.calm=true) (hi:PI X tg iter wi)
  (hfr:∀ (j:Nat) (k:Nat) (x:Str),fr[j]?=some k->frn[j]?=some x->X.N[k]?=some x/\X.env.kindOf x=some .cell/\(x,NameKind.free) ∈ scope.names) (hln:frn.length=fr.length)
  (hcell:∀ y ∈ scope.names,y.2 ≠ .cell) (hkind:scope.kind=.function) (hnames:∀ y ∈ scope.names,y.2=.local->scope.names.lookup y.1=some .local) (hfree:∀ y ∈ scope.names,y.2=.free->X.env.kindOf y.1=some .cell)
  (hkin:∀ (x:Str),x ∈ frn->(relabel scope X.env).names.lookup x=some .cell) (hsc:X.env.scope.kind=.function)
  (hgk:∀ (z:Bk) (v:V) (σ:St) (H:Hp) (Q:St->Hp->Prop),gz z v σ H Q->gz z v σ H fun σ' H'=>Q σ' H'/\σ'.length=σ.length/\∀ i,loc.length<=i->σ'[i]?=σ[i]?)
  (hblk:∀ (z:Bk),PG (X.blk scope z.C z.fp (loc ++ frn) z.s z.H) tg (gz z)/\PTs (X.blk scope z.C z.fp (loc ++ frn) z.s z.H) ifs (tcz z)/\PE (X.blk scope z.C z.fp (loc ++ frn) z.s z.H) elt (tez z))
  (I:Inv X pins σ H s) (h:Hi loc.length fr wi gz tcz tez σ H Q)
  (haf:∀ (D C:Addr) (H':Hp) (s':Shared) (m:Str->Option Value),s'.heap.Ns C m->(∀ h',Heap.SameBut C s'.heap h'->Inv X pins σ H' { s' with heap:=h' }) ->
   (X.s₀.heap.objs.size<=C/\C ≠ X.env.locals/\(∀ x c,X.env.cells.lookup x=some c->c ≠ C)/\(∀ p ∈ X.pn ++ pins,p.1 ≠ C)/\H' C=none/\C ∉ frs X.stack)->Q (.ref D) H'->compPost (model X.prog X.w) X.A X.xe use R (.ref D) C (.ok .next) s')
  (hs:∀ x,foldedSetIterable iter X.env x=pure x):wpAny (model X.prog X.w) X.A (comprehension (.ListComp elt [⟨tg,iter,ifs,0⟩] scope pos) scope X.env ipos (newList []) false (eval iter X.env) use) R X.xe s:=by
 have hcs:∀ x ∈ scope.names,x.2=.free->(X.env.cells.lookup x.1).isSome=true:=fun x hx hf=>by
  obtain ⟨c,e⟩:=I.ok.has x.1 (.inl (hfree x hx hf))
  rw [e]; rfl
 refine wpAny_comprehension_free rfl hs (IH hcs) hkind hnames (thn (hi pins s σ H _ I h) fun v s1 h1=>thn h1 fun itv s2 h2=>?_)
 obtain ⟨it,fp,tn,J,H2,rfl,I2,T,st2,f2,q2⟩:=h2
 refine wpAny_newList (items:=[]) ?_ (by simp)
 have eD:H2 s2.heap.objs.size=none:=I2.hok.fresh (aaj _)
 have pk:∀ (o:Obj) b u,s2.heap.get? b=some u->(s2.heap.push o).get? b=some u:=fun o b u e=>Heap.get?_push_of_some _ e
 have I3:=I2.laid (a:=s2.heap.objs.size) (o:=.lst []) (t':=s2.toks) (h':=s2.heap.push { cls:=.type "list",data:=.seq ([]:List Value).toArray }) (pk _) (aaj _)
  ⟨aat _,[],0,.nil,Heap.get?_push_size _ rfl⟩
 generalize hs3:(⟨s2.heap.push { cls:=.type "list",data:=.seq ([]:List Value).toArray },s2.gens,s2.drawn,s2.toks,s2.os⟩:Shared)=s3 at I3 ⊢
 have k3:∀ b u,s2.heap.get? b=some u->s3.heap.get? b=some u:=fun b u e=>by rw [<- hs3]; exact pk _ b u e
 have tk3:s3.os=s2.os/\s3.gens=s2.gens:=by rw [<- hs3]; exact ⟨rfl,rfl⟩
 have z3:s3.heap.objs.size=s2.heap.objs.size + 1:=by rw [<- hs3]; exact Heap.size_push ..
 refine wpAny_newFunctionEnv hcell (by intro y hy; simp at hy) (fun h4 hns hsb=>?_) hkind
 have k4:∀ b u,s3.heap.get? b=some u->h4.get? b=some u:=fun b u e=>hsb.extBut b u (aaC (Heap.lt_size e)) (Heap.get?_push_of_some _ e)
 have fpl:∀ b ∈ fp,b < s2.heap.objs.size:=fun b hb=>by
  obtain ⟨o,e,_⟩:=T.obj 0 _ st2 b hb
  exact Heap.lt_size e
 obtain ⟨W,⟨m0,w0⟩,turn⟩:=q2 ⟨s3.heap.objs.size,fp,s3,upd H2 s2.heap.objs.size (.lst [])⟩ _ eD
 have ok4:(X.blk scope s3.heap.objs.size fp (loc ++ frn) s3 (upd H2 s2.heap.objs.size (.lst []))).Ok:=by
  refine ⟨I.ok.mod,hkind,I.ok.glob,I.ok.blt,aaj _,fun x y c e1 e2=>I.ok.inj x y c (Bd hcs e1) (Bd hcs e2),fun x hx=>?_,fun x c z=>(nomatch z),I.ok.hd,I.ok.frames,.inl rfl,fun b hb=>⟨?_,fun x c e=>(f2 b hb).2.2.2.2.1 x c (Bd hcs e)⟩,I3.bs,aaK I.ok.bsz I3.sz,
   fun b o e hb=>?_,fun b hb z=>?_,I3.stack,I3.stkFree⟩
  ·have hm:(x,NameKind.free) ∈ scope.names:=by
    have:∃ k',(k'=NameKind.cell\/k'=NameKind.free)/\(relabel scope X.env).names.lookup x=some k':=by
     rcases hx with z | z
     ·exact ⟨_,.inl rfl,z⟩
     ·exact ⟨_,.inr rfl,z⟩
    obtain ⟨k',hk',z⟩:=this
    have zm:=PySem.mem_of_lookup z
    unfold relabel at zm
    obtain ⟨⟨n,k⟩,hn,e⟩:=aav.mp zm
    dsimp only at e
    split at e
    ·rename_i hk
     cases e
     have:k=NameKind.free:=by
      cases k <;> first | rfl | (simp at hk)
     rw [<- this]; exact hn
    ·cases e
     rcases hk' with rfl | rfl
     ·exact absurd rfl (hcell _ hn)
     ·exact hn
   obtain ⟨c,e⟩:=I.ok.has x (.inl (hfree _ hm rfl))
   exact ⟨c,EO hm hcs e⟩
  ·have:=fpl b hb
   exact aaC (by rw [z3]; exact ab3 this)
  ·rcases (f2 b hb).2.2.2.1 with z | z
   ·exact I.ok.noex b o e z
   ·exact absurd (aay (Heap.lt_size (I.ok.bs b o e).1) z) (aaT _)
  ·have:=I2.stkSub b z
   rcases aai.mp this with rfl | y
   ·exact (f2 _ hb).2.1 rfl
   ·exact (f2 b hb).2.2.1 y
 have I4:Inv (X.blk scope s3.heap.objs.size fp (loc ++ frn) s3 (upd H2 s2.heap.objs.size (.lst []))) [] (Bs loc.length fr σ) (upd H2 s2.heap.objs.size (.lst [])) { s3 with heap:=h4,toks:=s3.toks + ([]:List (Str × Value)).length }:=by
  refine ⟨ok4,rfl,I3.bare,Un.kept k4,⟨_,hns,fun i x v e1 e2 e3=>?_⟩,fun x c e=>?_,I3.hok.fresh (aaj _),fun x c e=>I3.freeC x c (Bd hcs e),fun p hp=>(nomatch hp),I3.hok.kept k4,?_⟩
  ·unfold Bs at e2
   by_cases hi:i < loc.length
   ·rw [aaN (by simpa using hi),aaS] at e2
    split at e2 <;> cases e2
   ·rw [aaH (by simpa using hi),aa5,aaq] at e2
    have e1':frn[i - loc.length]?=some x:=by
     have:(loc ++ frn)[i]?=some x:=e1
     rw [aaH (abc hi)] at this
     exact this
    cases ek:fr[i - loc.length]? with
    | none=>rw [ek] at e2; cases e2
    | some k =>
     rw [ek] at e2
     have e2':(σ[k]?).join=some v:=Option.some.inj e2
     have e2'':σ[k]?=some (some v):=by
      cases q:σ[k]? with
      | none=>rw [q] at e2'; cases e2'
      | some y=>rw [q] at e2'; exact congrArg some e2'
     obtain ⟨n1,n2,n3⟩:=hfr _ k x ek e1'
     obtain ⟨m,_,hl⟩:=I3.loc
     obtain ⟨u,ru,lk⟩:=hl k x v n1 e2'' (.inr (.inl n2))
     refine ⟨u,ru,.inr ⟨.inl (hkin x (aaf e1')),?_⟩⟩
     rcases lk with ⟨z,_⟩ | ⟨_,c,ec,ic⟩
     ·rw [n2] at z; cases z
     ·obtain ⟨o,ho,hd⟩:=ic
      exact ⟨c,EO n3 hcs ec,o,k4 _ _ ho,hd⟩
  ·obtain ⟨v,o,ho,hd⟩:=I3.cell x c (Bd hcs e)
   exact ⟨v,o,k4 _ _ ho,hd⟩
  ·unfold Bs
   show _=(loc ++ frn).length
   rw [aaE,aaE,aa5,aac,hln]
 have stat:∀ {H':Hp},(∀ b ∈ fp,H' b=none)->∀ b ∈ fp,GG (X.blk scope s3.heap.objs.size fp (loc ++ frn) s3 (upd H2 s2.heap.objs.size (.lst []))) [] H' b:=fun hn b hb =>
  ⟨hn b hb,(ok4.exf b hb).1,ok4.exfs b hb,.inl hb,(ok4.exf b hb).2,fun p hp=>(nomatch hp)⟩
 have fp3:∀ b ∈ fp,(upd H2 s2.heap.objs.size (.lst [])) b=none:=fun b hb=>by
  rw [Aw (aaC (fpl b hb))]; exact (f2 b hb).1
 obtain ⟨pg,pt,pe⟩:=hblk ⟨s3.heap.objs.size,fp,s3,upd H2 s2.heap.objs.size (.lst [])⟩
 have st4:tn 0 h4:=T.keep 0 _ _ st2 fun b _ o e=>k4 b o (k3 b o e)
 have after:∀ {i:Nat} {H':Hp} {s':Shared} {acc:List V} {σ':St},Inv (X.blk scope s3.heap.objs.size fp (loc ++ frn) s3 (upd H2 s2.heap.objs.size (.lst []))) [] σ' H' s'->Q (.ref s2.heap.objs.size) H' ->
   compPost (model X.prog X.w) X.A X.xe use R (.ref s2.heap.objs.size) s3.heap.objs.size (.ok .next) s':=by
  intro i H' s' acc σ' I5 q
  obtain ⟨m,hn,_⟩:=I5.loc
  refine haf s2.heap.objs.size s3.heap.objs.size H' s' m hn (fun h' hb=>?_) ⟨I3.sz,acQ I3.lt,fun x c e z=>?_,fun p hp z=>?_,I5.free,fun z=>?_⟩ q
  ·have same:∀ b o,s3.heap.get? b=some o->h'.get? b=s'.heap.get? b:=fun b o e=>hb.2 b (aaC (Heap.lt_size e))
   have u:=I5.base
   have un:Un (frs X.stack) fp (upd H2 s2.heap.objs.size (.lst [])) H' s3.heap h':=⟨fun b o e n h1 h2=>(same b o e).trans (u.keep b o e n h1 h2),fun b o e n h1 h2=>by
     obtain ⟨sl,z⟩:=u.slot b o e n h1 h2
     exact ⟨sl,(same b o e).trans z⟩,u.free,fun b o e h1=>by
     obtain ⟨o',z⟩:=u.there b o e h1
     exact ⟨o',(same b o e).trans z⟩,u.tups,u.frzs,u.tbls⟩
   have hok:HOk X.prog X.w H' h':=fun b o e=>by
    have fC:H' s3.heap.objs.size=none:=I5.free
    refine (I5.hok b o e).stay (fun c w' hc z=>(hb.2 c ?_).trans z) (fun _ z=>z) fun _ _ z=>z
    rintro rfl
    rcases hc with rfl | hc
    ·rw [fC] at e; cases e
    ·rw [fC] at hc; cases hc
   exact I3.call' (s':={ s' with heap:=h' }) (ch:=fp) I5.os un hok I5.bare (fun b hb=>⟨(f2 b hb).2.2.2.1,(f2 b hb).2.1,(f2 b hb).2.2.2.2.1,(f2 b hb).2.2.2.2.2⟩)
  ·obtain ⟨v,hcell⟩:=I3.cell x c e
   exact absurd (z ▸ hcell.lt) (aaT _)
  ·exact absurd (z ▸ Heap.lt_size (I3.pin p hp).1) (aaT _)
  ·rcases aai.mp (I3.stkSub _ z) with y | y
   ·exact absurd (y ▸ I3.lt) (aaT _)
   ·exact I3.nofs (aaj _) y
 have loop:∀ s5:Shared,s5={ s3 with heap:=h4,toks:=s3.toks + ([]:List (Str × Value)).length } ->
   codeAny (model X.prog X.w) X.A (.compLoop (.ListComp elt [⟨tg,iter,ifs,0⟩] scope pos) 0 (.ref it) (.ref s2.heap.objs.size) (compEnvC scope (Ch X.env scope.names []) s3.heap.objs.size X.env))
    (compPost (model X.prog X.w) X.A X.xe use R (.ref s2.heap.objs.size) s3.heap.objs.size) s5:=by
  rintro s5 rfl
  refine GK (fun n s'=>∃ i acc H',Inv (X.blk scope s3.heap.objs.size fp (loc ++ frn) s3 (upd H2 s2.heap.objs.size (.lst []))) [] (Bs loc.length fr σ) H' s'/\tn i s'.heap/\(∀ b ∈ fp,H' b=none)/\W i n acc H') ?_ m0
   ⟨0,[],_,I4,st4,fp3,w0⟩
  rintro n s6 ⟨i,acc,H6,I6,st6,fr6,w6⟩
  obtain ⟨hD,alt⟩:=turn i n acc H6 w6
  rcases alt with ⟨stop,q⟩ | ⟨go,step⟩
  ·refine thn (T.done (X.blk scope s3.heap.objs.size fp (loc ++ frn) s3 (upd H2 s2.heap.objs.size (.lst []))) rfl rfl rfl hc i [] s6 _ H6 (fun _ _=>False) I6 (stat fr6) st6 stop) fun r s7 ⟨hr,I7⟩=>?_
   subst hr
   exact after (i:=i) (acc:=acc) I7 q
  ·refine thn (T.item (X.blk scope s3.heap.objs.size fp (loc ++ frn) s3 (upd H2 s2.heap.objs.size (.lst []))) rfl rfl rfl hc i [] s6 _ H6 (fun _ _=>False) I6 (stat fr6) st6 go) fun r s7 ⟨u,hr,h7⟩=>?_
   subst hr
   refine thn h7 fun _ s8 ⟨x,H8,I8,r8,y8,st8,fr8⟩=>?_
   have I8':=I8.pinned (stat fr8) (T.obj _ _ st8)
   have back:∀ {σ9:St} {H9:Hp} {s9:Shared},Inv (X.blk scope s3.heap.objs.size fp (loc ++ frn) s3 (upd H2 s2.heap.objs.size (.lst []))) ([] ++ F5 fp s8.heap) σ9 H9 s9->σ9.length=(Bs loc.length fr σ).length->(∀ i,loc.length<=i->σ9[i]?=(Bs loc.length fr σ)[i]?) ->
     Inv (X.blk scope s3.heap.objs.size fp (loc ++ frn) s3 (upd H2 s2.heap.objs.size (.lst []))) [] (Bs loc.length fr σ) H9 s9/\tn (i + 1) s9.heap/\(∀ b ∈ fp,H9 b=none):=by
    intro σ9 H9 s9 I9 hl hk
    refine ⟨(I9.unpinned).weak hl.symm fun j v ej=>?_,T.keep _ _ _ st8 fun b hb o e=>(I9.pin (b,o) (aal _ (aal _ (C5 hb e)))).1,fun b hb=>?_⟩
    ·by_cases hj:j < loc.length
     ·unfold Bs at ej
      rw [aaN (by simpa using hj),aaS] at ej
      split at ej <;> cases ej
     ·rw [hk j (abc hj)]; exact ej
    ·obtain ⟨o,e,d⟩:=T.obj _ _ st8 b hb
     exact (I9.pin (b,o) (aal _ (aal _ (C5 hb e)))).2.1
   refine thn (pg _ s8 _ H8 x u _ I8' r8 (hgk _ _ _ _ _ (step x H8 y8))) fun _ s9 ⟨σ9,H9,I9,q9,l9,k9⟩=>?_
   refine thn (pt _ s9 σ9 H9 _ I9 q9) fun ok s10 ⟨H10,I10,q10⟩=>?_
   cases ok with
   | false =>
    rw [if_neg (by decide)] at q10 ⊢
    obtain ⟨m',hm,w'⟩:=q10
    obtain ⟨b1,b2,b3⟩:=back I10 l9 k9
    exact ⟨m',hm,i + 1,acc,H10,b1,b2,b3,w'⟩
   | true =>
    rw [if_pos rfl] at q10 ⊢
    refine thn (pe _ s10 σ9 H10 _ I10 q10) fun y s11 ⟨v,H11,I11,r11,hD11,hz,m',hm,w'⟩=>?_
    refine thn (Fz _ s11 σ9 H11 (.ref s2.heap.objs.size) [v] (.ref s2.heap.objs.size) [y] (fun _ H12=>W (i + 1) m' (acc ++ [v]) H12) I11 rfl (.cons r11 .nil) ⟨_,acc,v,rfl,rfl,hD11,hz,w'⟩) fun _ s12 ⟨_,H12,I12,_,w12⟩=>?_
    obtain ⟨b1,b2,b3⟩:=back I12 l9 k9
    exact ⟨m',hm,i + 1,_,H12,b1,b2,b3,w12⟩
 exact codeAny_compStart_list (loop _ rfl) (T.self X.A 0 _ _ _ st4 (loop _ rfl))
theorem Inv.but {X:Cx} {pins:List (Addr × Obj)} {s:Shared} {σ:St} {H:Hp} {C:Addr} {h':Heap} (I:Inv X pins σ H s) (hC:X.s₀.heap.objs.size<=C/\C ≠ X.env.locals/\(∀ x c,X.env.cells.lookup x=some c->c ≠ C)/\(∀ p ∈ X.pn ++ pins,p.1 ≠ C)/\H C=none/\C ∉ frs X.stack)
  (hb:Heap.SameBut C s.heap h'):Inv X pins σ H { s with heap:=h' }:=by
 obtain ⟨h1,h2,h3,h4,h5,h6⟩:=hC
 have same:∀ b,b ∉ [C]->h'.get? b=s.heap.get? b:=fun b z=>hb.2 b (fun e=>z (by simp [e]))
 refine I.call' (s':={ s with heap:=h' }) (ch:=[C]) rfl ⟨fun b o e _ _ z=>(same b z).trans e,fun b o e _ _ z=>⟨o.slots,(same b z).trans e⟩,fun b o e n z=>n,fun b o e z=>⟨o,(same b z).trans e⟩,fun _ _ e=>e,fun _ _ _ e=>e,fun _ ps e=>⟨#[],by simpa using e⟩⟩ ?_ I.bare
  (fun b z=>by
   have:b=C:=by simpa using z
   subst this
   exact ⟨.inr h1,h2,h3,h4⟩)
 intro b o e
 refine (I.hok b o e).stay (fun c w' hc z=>(hb.2 c ?_).trans z) (fun _ z=>z) fun _ _ z=>z
 rintro rfl
 rcases hc with rfl | hc
 ·rw [h5] at e; cases e
 ·rw [h5] at hc; cases hc
theorem II {X:Cx} {elt tg iter:Expr} {ifs:List Expr} {scope:Scope} {pos spos py:Pos} {y:Str} {k:Nat} {wi:TI} {gz:Bk->TG} {tcz:Bk->TT} {tez:Bk->TE} (loc:List Str) (fr:List Nat) (frn:List Str) (hc:X.calm=true) (hi:PI X tg iter wi)
  (hfr:∀ (j:Nat) (k:Nat) (x:Str),fr[j]?=some k->frn[j]?=some x->X.N[k]?=some x/\X.env.kindOf x=some .cell/\(x,NameKind.free) ∈ scope.names) (hln:frn.length=fr.length)
  (hcell:∀ y ∈ scope.names,y.2 ≠ .cell) (hkind:scope.kind=.function) (hnames:∀ y ∈ scope.names,y.2=.local->scope.names.lookup y.1=some .local) (hfree:∀ y ∈ scope.names,y.2=.free->X.env.kindOf y.1=some .cell)
  (hkin:∀ (x:Str),x ∈ frn->(relabel scope X.env).names.lookup x=some .cell) (hsc:X.env.scope.kind=.function)
  (hgk:∀ (z:Bk) (v:V) (σ:St) (H:Hp) (Q:St->Hp->Prop),gz z v σ H Q->gz z v σ H fun σ' H'=>Q σ' H'/\σ'.length=σ.length/\∀ i,loc.length<=i->σ'[i]?=σ[i]?)
  (hblk:∀ (z:Bk),PG (X.blk scope z.C z.fp (loc ++ frn) z.s z.H) tg (gz z)/\PTs (X.blk scope z.C z.fp (loc ++ frn) z.s z.H) ifs (tcz z)/\PE (X.blk scope z.C z.fp (loc ++ frn) z.s z.H) elt (tez z))
  (hs:∀ x,foldedSetIterable iter X.env x=pure x) (hN:X.N.Nodup) (hk:X.N[k]?=some y) (hx:Loc X.env.scope y) (hf:X.fn y=true\/X.env.scope.names.lookup y=some .local)
  (hsw:swapsWith (.ListComp elt [⟨tg,iter,ifs,0⟩] scope pos) (some (.Name y py)) spos.line X.env=pure true) :
  PS X (.Assign [.Name y py] (.ListComp elt [⟨tg,iter,ifs,0⟩] scope pos) spos) (HM (Hi loc.length fr wi gz tcz tez) (Fy k)):=by
 intro pins s σ H D I h
 rw [exec_Assign_Name_used _ _ _ _ hsw]
 refine wpAny_bind (wpAny_standAt (wpAny_bind ?_))
 show wpAny _ X.A (do let _ <- comprehension (.ListComp elt [⟨tg,iter,ifs,0⟩] scope pos) scope X.env _ (newList []) false (eval iter X.env) (some (assign (.Name y py) X.env))) _ _ s
 refine wpAny_bind (wpAny_mono (Q1 (R:=fun _ s'=>SP X pins D .next s') loc fr frn hc hi hfr hln hcell hkind hnames hfree hkin hsc hgk hblk I h (fun D' C H' s' m hn hI hC q=>?_) hs) (fun _ s' hq=>wpAny_pure (wpAny_pure hq)) fun _ _ e=>e)
 have I7:Inv X pins σ H' s':=hI s'.heap ⟨rfl,fun _ _=>rfl⟩
 refine wpAny_assign_Name (Ki (v:=.ref D') I7 hN hk hx rfl (fun s8 I8 ⟨a,sb,ha⟩=>?_) hf)
 refine ⟨m,hn.sameBut sb ?_,fun h9 sb9=>⟨_,H',I8.but hC sb9,q⟩⟩
 rcases ha with rfl | ha
 ·exact hC.2.1
 ·exact fun z=>hC.2.2.1 _ _ ha z.symm
end L2
end
section
namespace L2
open PySem PySem.Spec PyProof.Rows PySem.W
section
variable {X:Cx}
noncomputable def U5:V->List V->Hp->VK->Prop:=fun x xs H Q=>∃ (a:Addr) (ns:List Int) (v:Int) (j:Nat),x=.ref a/\xs=[.int v]/\Rd H a (.lst (ns.map V.int))/\(ns[j]?=some v/\∀ m,m < j->ns[m]? ≠ some v)/\Q (.int (j:Nat)) H
theorem FC:∀ {ns:List Int} {its:List Value},Vals (ns.map V.int) its->∀ (i:Nat) (y:Value),its[i]?=some y->∃ (x:Int) (t:Tok),ns[i]?=some x/\y=.int x t
 | [],its,h,i,y,e=>by cases h; simp at e
 | x :: r,its,h,i,y,e=>by
  cases h with
  | cons h1 h2 =>
   obtain ⟨t,rfl⟩:=h1
   cases i with
   | zero=>exact ⟨x,t,rfl,by simpa using e.symm⟩
   | succ i=>exact FC (ns:=r) h2 i y (by simpa using e)
theorem Ly:∀ {ns:List Int} {its:List Value},Vals (ns.map V.int) its->its.length=ns.length
 | [],its,h=>by cases h; rfl
 | x :: r,its,h=>by
  cases h with
  | cons h1 h2=>rw [aaJ,aaJ,Ly (ns:=r) h2]
noncomputable def SW (k:Int):Value->Bool
 | .int a _=>a==k
 | _=>false
theorem Q2:MtR X "list.index" U5:=by
 intro pins s σ H x xs v us Q I rx rv h
 obtain ⟨a,ns,k,j,rfl,rfl,hR,⟨hj,hno⟩,q⟩:=h
 cases rx
 obtain ⟨u,rfl,ru⟩:=rv.one
 obtain ⟨tu,rfl⟩:=ru
 obtain ⟨its,n,hz,rel,dd,sl,ho⟩:∃ (its:List Value) (n:Nat),(ns.map V.int).length<=sizeLine/\Vals (ns.map V.int) its/\∃ dd sl,s.heap.get? a=some { cls:=.type "list",dict:=dd,data:=.seq its.toArray n,slots:=sl }:=by
  rcases hR with e | ⟨o,e⟩
  ·obtain ⟨hz,its,n,r,e⟩:=I.hok a _ e
   exact ⟨its,n,hz,r,_,_,e⟩
  ·obtain ⟨_,hz,its,n,r,e⟩:=I.hok a _ e
   exact ⟨its,n,hz,r,_,_,e⟩
 have hl:=Ly rel
 have hjl:j < its.length:=by rw [hl]; exact (aak.mp hj).1
 have hz:ns.length<=sizeLine:=by rwa [aac] at hz
 have hs:sizeLine=16777216:=rfl
 refine call_meets PySem.F.slot_list_index ⟨_,ho,rfl⟩ PySem.F.entry_list_index (PySem.F.args_list_index_2 _ _) (PySem.SeqAt.list_indexAt a _ n dd sl (.int k tu) (SW k) j (by simpa using hjl) (by omega) ?_ ?_) ⟨ho,fun y hy=>?_,?_⟩
 ·obtain ⟨x,t,h1,h2⟩:=FC rel j its[j] (aae hjl)
  rw [hj] at h1
  cases h1
  rw [acI,h2]
  exact beq_self_eq_true k
 ·intro m hm hmj
  have hm:m < its.length:=by simpa using hm
  obtain ⟨x,t,h1,h2⟩:=FC rel m its[m] (aae hm)
  rw [acI,h2]
  show (x==k)=false
  rw [beq_eq_false_iff_ne]
  rintro rfl
  exact hno m hmj h1
 ·have:y ∈ its:=by simpa using hy
  obtain ⟨i,hi⟩:=acf this
  obtain ⟨x,t,_,rfl⟩:=FC rel i y hi
  exact PySem.SeqAt.EqAt.int_int x t k tu
 ·exact ⟨.int _,H,I.tok _,⟨_,rfl⟩,q⟩
noncomputable def HQ (n:Nat) (i:Int):Nat:=if i < 0 then (i + (n:Int)).toNat else min i.toNat n
noncomputable def M9:V->List V->Hp->VK->Prop:=fun x vs H Q=>∃ l xs i y,x=.ref l/\vs=[.int i,y]/\H l=some (.lst xs)/\-(2 ^ 63)<=i/\i < 2 ^ 63/\xs.length < sizeLine/\Q .non (upd H l (.lst (xs.take (HQ xs.length i) ++ y :: xs.drop (HQ xs.length i))))
theorem Vals.tk {xs:List V} {us:List Value} (h:Vals xs us):∀ n,Vals (xs.take n) (us.take n)/\Vals (xs.drop n) (us.drop n):=by
 induction h with
 | nil=>intro n; cases n <;> exact ⟨.nil,.nil⟩
 | cons h1 h2 ih =>
  intro n
  cases n with
  | zero=>exact ⟨.nil,.cons h1 h2⟩
  | succ n=>exact ⟨.cons h1 (ih n).1,(ih n).2⟩
theorem Pi:MtM X "list.insert" M9:=by
 intro pins s σ H x vs v us Q I rx rv h
 obtain ⟨l,xs,i,y,rfl,rfl,hH,h1,h2,hz,q⟩:=h
 cases rx
 cases rv with
 | cons ra rb =>
  cases rb with
  | cons ru rc =>
   cases rc
   obtain ⟨t,rfl⟩:=ra
   rename_i u
   obtain ⟨z,its,n,r,hl,e⟩:=I.lstM hH
   refine call_meets PySem.F.slot_list_insert ⟨_,e,rfl⟩ PySem.F.entry_list_insert (PySem.F.args_list_insert_3 _ _ _) (PySem.AutoListH.list_insert_list_int_val_1 l its.toArray n i t u (by rw [fitsIndex_both h1 h2]; decide) (by rw [aan]; omega)) ⟨e,?_⟩
   refine ⟨.non,_,I.lset (its':=its.take (HQ xs.length i) ++ u :: its.drop (HQ xs.length i)) hH e ?_ ((r.tk _).1.append (.cons ru (r.tk _).2)) ?_,rfl,q⟩
   ·rw [hl]
    unfold HQ
    simp
    generalize (if i < 0 then (i + (its.length:Int)).toNat else min i.toNat its.length)=k
    exact ab5 (by rw [abu]; exact aaj _)
   ·rw [aaE,aaJ,abt,abu]
    omega
end
theorem Lz:Manifest.owners.lookup (String.ofList ['r','o','t','a','r','e','t','i','e','s','r','e','v','e','r','_','t','s','i','l'].reverse)=some Manifest.sig_list_reverseiterator:=by kernel_rfl
theorem F6:Slot "list_reverseiterator" "__next__" "list_reverseiterator.__next__" := Slot.of (owner := "list_reverseiterator") (n := "__next__") (by rw [typeLookup_type,builtinLookup_eq_fast]; kernel_rfl) (by decide +kernel) (by decide +kernel) (by decide +kernel) (by first | exact .inl (by decide +kernel) | exact .inr (by decide +kernel)) (by rw [isSubtype_type]; kernel_rfl)
theorem LA:entryFor table "list_reverseiterator.__next__" = some Builtin.«list_reverseiterator.__next__»:=entryFor_of_tree (by kernel_rfl)
theorem Na:Slot "list_reverseiterator" "__iter__" "list_reverseiterator.__iter__" := Slot.of (owner := "list_reverseiterator") (n := "__iter__") (by rw [typeLookup_type,builtinLookup_eq_fast]; kernel_rfl) (by decide +kernel) (by decide +kernel) (by decide +kernel) (by first | exact .inl (by decide +kernel) | exact .inr (by decide +kernel)) (by rw [isSubtype_type]; kernel_rfl)
theorem Q4:entryFor table "list_reverseiterator.__iter__" = some Builtin.«dict_keyiterator.__iter__»:=entryFor_alias (id' := "dict_keyiterator.__iter__") (by kernel_rfl) (by first | rfl | decide +kernel | (unfold String.splitOn; simp +decide [String.splitOnAux])) (by decide +kernel) (by kernel_rfl)
theorem LB:mroOf (.type "reversed")=pure [.type "reversed",.type "object"]:=by rw [mroOf_type]; kernel_rfl
theorem U6:typeLookup (.type "reversed") "__new__" = pure (some (.builtin "reversed.__new__")):=by rw [typeLookup_type,builtinLookup_eq_fast]; kernel_rfl
theorem SX:Slot "reversed" "__init__" "object.__init__" := Slot.of (owner := "object") (n := "__init__") (by rw [typeLookup_type,builtinLookup_eq_fast]; kernel_rfl) (by decide +kernel) (by decide +kernel) (by decide +kernel) (by first | exact .inl (by decide +kernel) | exact .inr (by decide +kernel)) (by rw [isSubtype_type]; kernel_rfl)
theorem Ez:TypeCalled "reversed" "reversed.__new__" "object.__init__" := ⟨by decide +kernel,by decide +kernel,⟨_,_,LB⟩,madeBy_type LB U6 (by decide +kernel),by decide +kernel,by rw [isSubtype_type]; kernel_rfl,SX⟩
theorem Wo (a:Value):checkTypeCall "reversed" ⟨[a],[]⟩=pure ():=by kernel_rfl
theorem Wp (a:Value):checkBuiltinCall "reversed.__new__" ⟨[.type "reversed",a],[]⟩=pure ():=by kernel_rfl
theorem SY:entryFor table "reversed.__new__" = some Builtin.«reversed.__new__»:=entryFor_of_tree (by kernel_rfl)
theorem U7:isSubtype (.type "reversed") (.type "reversed")=pure true:=by rw [isSubtype_type]; kernel_rfl
theorem LD (a:Value):argsOk "list_reverseiterator.__next__" ⟨[a],[]⟩:=by unfold argsOk; rw [signature?_of (id := "list_reverseiterator.__next__") (n:=['_','_','t','x','e','n','_','_']) (o:=['r','o','t','a','r','e','t','i','e','s','r','e','v','e','r','_','t','s','i','l']) (by kernel_rfl) Lz]; kernel_rfl
theorem Q5 (a:Value):argsOk "list_reverseiterator.__iter__" ⟨[a],[]⟩:=by unfold argsOk; rw [signature?_of (id := "list_reverseiterator.__iter__") (n:=['_','_','r','e','t','i','_','_']) (o:=['r','o','t','a','r','e','t','i','e','s','r','e','v','e','r','_','t','s','i','l']) (by kernel_rfl) Lz]; kernel_rfl
noncomputable def FD (h:Heap) (it l:Addr) (k:Int):Prop:=∃ o,h.get? it=some o/\o.cls=.type "list_reverseiterator" /\ o.data=.fields #[.ref l,rawInt k]
section
variable {prog:Program} {w:World} {A:Around} {E:Value->Shared->Prop} {s:Shared}
theorem Q6 {it l:Addr} {i:Nat} {items:Array Value} {x:Value} {Q:Option Value->Shared->Prop} (hit:FD s.heap it l i) (hl:s.heap.IsList l items) (hx:items[i]?=some x)
  (hQ:∀ h',FD h' it l ((i:Int) - 1)->Heap.SameBut it s.heap h'->Q (some x) { s with heap:=h' }):wpAny (model prog w) A (pyNext (.ref it)) Q E s:=by
 obtain ⟨o,ho,hc,hd⟩:=id hit; obtain ⟨ol,hol,_,nl,hdl⟩:=hl; have hT:s.TypeIs (.ref it) "list_reverseiterator" := ⟨o,ho,hc⟩
 unfold pyNext; refine wpAny_bind (wpAny_attempt (wpAny_callSpecial?_slot (name:=Str.ofString "__next__") hT F6 (wpAny_call_entry F6 hT LA ?_ (LD _)))); show wpAny _ _ (field (.ref it) 1 >>= _) _ _ s
 refine wpAny_bind (wpAny_field ho hd (x:=rawInt i) rfl ?_); show wpAny _ _ (if (i:Int) < 0 then _ else _) _ _ s; rw [if_neg (by omega)]
 show wpAny _ _ (field (.ref it) 0 >>= _) _ _ s; refine wpAny_bind (wpAny_field ho hd (x:=.ref l) rfl ?_); show wpAny _ _ (seqItems? (.ref l) >>= _) _ _ s
 refine wpAny_bind (wpAny_seqItems hol hdl ?_); simp only [aau,hx]; refine wpAny_bind (wpAny_setField ho hd (by simp) (wpAny_pure ⟨x,rfl,wpAny_pure (hQ _ ?_ (Heap.SameBut.update ..))⟩))
 exact ⟨_,Heap.get?_update_self _ ho (Obj.isFreed_of_fields (Obj.data_mapFields hd _)),(Obj.cls_mapFields ..).trans hc,by rw [Obj.data_mapFields hd]; simp [rawInt]⟩
theorem SZ {it l:Addr} {k:Int} {Q:Option Value->Shared->Prop} (hh:A.handled=none) (hk:k < 0) (hit:FD s.heap it l k) (hQ:∀ h',Heap.ExtBut it s.heap h'->Q none { s with heap:=h' }):wpAny (model prog w) A (pyNext (.ref it)) Q E s:=by
 obtain ⟨o,ho,hc,hd⟩:=id hit; have hT:s.TypeIs (.ref it) "list_reverseiterator" := ⟨o,ho,hc⟩; unfold pyNext
 refine wpAny_bind (wpAny_attempt (wpAny_callSpecial?_slot (name:=Str.ofString "__next__") hT F6 (wpAny_call_entry F6 hT LA ?_ (LD _)))); show wpAny _ _ (field (.ref it) 1 >>= _) _ _ s; refine wpAny_bind (wpAny_field ho hd (x:=rawInt k) rfl ?_)
 show wpAny _ _ (if k < 0 then _ else _) _ _ s; rw [if_pos hk]; refine wpAny_bind (wpAny_rule ?_)
 refine wpAny_bind ?_; unfold Builtin.SmallTypes.stopIteration; show wpAny _ _ (newExc (.type "StopIteration") [] >>= _) _ _ _
 refine wpAny_bind ?_; simp only [newExc,newTuple]; refine wpAny_bind (wpAny_newObj_type ?_ (by size_fits))
 refine wpAny_bind (m:=firstArgMember _ _) (wpAny_of_eq (a:=Value.none) (by first | rfl | (simp only [firstArgMember]; rfl)) ?_); refine wpAny_newObj_type ?_ (by size_fits); simp only [raiseNew]
 refine wpAny_bind (wpAny_handled ?_); rw [show A.in1.handled=none from hh]; refine wpAny_bind (wpAny_pure (wpAny_throw ?_))
 refine wpAny_bind (wpAny_isInstance (T := "StopIteration") (b:=true) ⟨_,Heap.get?_push_size _ rfl,rfl⟩ isSubtype_stop ?_); exact wpAny_pure (hQ _ fun c o' hc' e=>Heap.get?_push_of_some _ (Heap.get?_push_of_some _ e))
theorem LE {it l:Addr} {k:Int} {Q:Value->Shared->Prop} (hit:FD s.heap it l k) (h:Q (.ref it) s):wpAny (model prog w) A (pyIter (.ref it)) Q E s:=by
 obtain ⟨o,ho,hc,hd⟩:=hit
 have hT:s.TypeIs (.ref it) "list_reverseiterator" := ⟨o,ho,hc⟩
 refine wpAny_pyIter_slot hT Na (wpAny_call_entry Na hT Q4 ?_ (Q5 _))
 show wpAny _ _ (ret (.ref it)) _ _ s
 exact wpAny_pure ⟨_,rfl, "list_reverseiterator",_,hT,F6.lookup,h⟩
end
theorem N4 (l:Addr) (items:Array Value) (n:Nat) (dd:Option Addr) (sl:Array (Option Value)):Meets (Builtin.«list.__reversed__» ⟨[.ref l],[]⟩) (fun _ R s=>s.heap.get? l=some { cls:=.type "list",dict:=dd,data:=.seq items n,slots:=sl }/\R (.ok (.ret (.ref s.heap.objs.size))) { s with heap:=s.heap.push { cls:=.type "list_reverseiterator",data:=.fields #[.ref l,rawInt (((items.size:Nat):Int) - 1)] } }) :=
 .of_wp fun prog w A R s h=>by
  obtain ⟨hp,g,d,tk,os⟩:=s; obtain ⟨hl,h⟩:=h; wp_walk; exact ⟨_,rfl,h⟩
theorem Pj (l:Addr) (items:Array Value) (n:Nat) (dd:Option Addr) (sl:Array (Option Value)):Meets (Builtin.«reversed.__new__» ⟨[.type "reversed",.ref l],[]⟩) (fun _ R s=>s.heap.get? l=some { cls:=.type "list",dict:=dd,data:=.seq items n,slots:=sl }/\R (.ok (.ret (.ref s.heap.objs.size))) { s with heap:=s.heap.push { cls:=.type "list_reverseiterator",data:=.fields #[.ref l,rawInt (((items.size:Nat):Int) - 1)] } }) :=
 .of_wp fun prog w A R s h=>by
  obtain ⟨hp,g,d,tk,os⟩:=s; obtain ⟨hl,h⟩:=h; have hsub:=U7
  wp_walk
  have hlk:typeLookup (.type "list") (Str.ofString "__reversed__")=pure (some (.builtin "list.__reversed__")):=PySem.F.slot_list_reversed.lookup
  show wpAny (model prog w) A.in1 (typeLookup (.type "list") (Str.ofString "__reversed__")) _ _ _
  rw [hlk]
  refine wpAny_pure ?_
  wp_walk
  rw [PySem.F.slot_list_reversed.bind]
  refine wpAny_pure ?_
  show wpAny (model prog w) A.in1 (do rule "reversed.__new__.own-method"; let v <- runValue (Code.call (.builtin "list.__reversed__") { pos:=[.ref l] }); ret v) _ _ _
  refine wpAny_bind (wpAny_rule ?_)
  refine wpAny_bind ?_
  show wpAny (model prog w) A.in1 (call (.builtin "list.__reversed__") [.ref l]) _ _ _
  refine call_meets PySem.F.slot_list_reversed ⟨_,hl,rfl⟩ PySem.F.entry_list_reversed (PySem.F.args_list_reversed_1 _) (N4 l items n dd sl) ⟨hl,?_⟩
  exact wpAny_pure ⟨_,rfl,h⟩
theorem S0:isSubtype (.type "list_reverseiterator") (.type "reversed")=pure false:=by rw [isSubtype_type]; kernel_rfl
section
variable {prog:Program} {w:World} {A:Around} {E:Value->Shared->Prop} {s:Shared}
theorem Q7 {l:Addr} {items:Array Value} {n:Nat} {dd:Option Addr} {sl:Array (Option Value)} {Q:Value->Shared->Prop} (hl:s.heap.get? l=some { cls:=.type "list",dict:=dd,data:=.seq items n,slots:=sl })
  (h:Q (.ref s.heap.objs.size) { s with heap:=s.heap.push { cls:=.type "list_reverseiterator",data:=.fields #[.ref l,rawInt (((items.size:Nat):Int) - 1)] } }) :
  wpAny (model prog w) A (call (.type "reversed") [.ref l]) Q E s:=by
 have hmro:=LB
 have hmade:=Ez.made; have hsub:=Ez.sub; have h1:=Ez.notType; have h2:=Ez.canCreate; have hct:=Wo (.ref l)
 refine wpAny_call (codeAny_of_tree ?_); show wpAny _ _ (callAny (.type "reversed") _) _ _ _
 refine wpAny_pure ⟨Code.quiet_builtin _ (by decide +kernel),codeAny_builtin PySem.F.entry_type_call ?_⟩; rw [Around.under_plain (weight_type_call_type "reversed" [.ref l] []) (units_type_call_type "reversed" [.ref l] [])]
 (repeat (any_goals (first | assumption | wp_step)))
 refine codeAny_mono (codeAny_call_builtin Ez.plain SY (wpAny_of_eq (Wp _) (Pj l items n dd sl prog w A.in1 (wants (fun obj s₁=>s₁.TypeIs obj "list_reverseiterator" /\ Q obj s₁) E) s ⟨hl,⟨⟨_,Heap.get?_push_size _ rfl,rfl⟩,h⟩⟩))) fun r s₁ hr=>?_
 cases r with
 | error e=>exact hr
 | ok fl =>
  cases fl with
  | ret obj =>
   obtain ⟨hT,hq⟩:s₁.TypeIs obj "list_reverseiterator" /\ Q obj s₁:=hr
   have hns:=S0; (repeat (any_goals (first | assumption | wp_step)))
  | _=>exact hr.elim
end
end L2
namespace L2
open PySem PySem.Spec PyProof.Rows PySem.W
noncomputable def Itb (K:PySem.W.Frag) (a:Addr) (n:Nat):It :=
 ⟨fun i H=>∃ xs x,SqL K H a xs/\i < n/\xs[n - 1 - i]?=some x,fun i H x H'=>H'=H/\∀ xs,SqL K H a xs->xs[n - 1 - i]?=some x,fun i _=>n<=i⟩
theorem Q8 {P:Program} {w:World} {K:PySem.W.Frag} {tg:Expr} (a it:Addr) (n:Nat):Turn P w K tg (Itb K a n) [it] it (fun i h=>FD h it a ((n:Int) - 1 - i)) where
 mem:=by simp
 obj:=fun i h st b hb=>by
  have e:b=it:=by simpa using hb
  subst e; obtain ⟨o,e,c,d⟩:=st; exact ⟨o,e,fun v z=>by rw [d] at z; cases z⟩
 keep:=fun i h h' st k=>by obtain ⟨o,e,c,d⟩:=st; exact ⟨o,k it (by simp) o e,c,d⟩
 item:=by
  intro X hP hw hK hc i pins s σ H E I hf st hg; subst hP hw hK
  obtain ⟨xs,x,hq,hi,hx⟩:=hg
  obtain ⟨its,rv,p,hz⟩:=I.list hq; obtain ⟨u,hu,ru⟩:=rv.get hx; obtain ⟨f0,f1,f2,f3,f4,f5⟩:=hf it (by simp)
  have st1:FD s.heap it a ((n - 1 - i:Nat):Int):=by rw [show ((n - 1 - i:Nat):Int)=(n:Int) - 1 - i by omega]; exact st
  refine Q6 st1 p.isList (x:=u) (by simpa using hu) fun h' st' sb=>?_
  have I1:Inv X pins σ H { s with heap:=h' }:=I.turned (t':=s.toks) (fun b o hb e=>(sb.2 b hb).trans e) f0 f1 f3 f4 f5
  obtain ⟨o,e,c,d⟩:=id st'
  refine ⟨u,rfl,K9 (s:={ s with heap:=h' }) e c d (by decide) ⟨x,H,I1,ru,⟨rfl,fun ys hy=>by rw [I.list_inj hy hq]; exact hx⟩,?_,fun b hb=>(hf b hb).1⟩⟩
  show FD h' it a ((n:Int) - 1 - ((i + 1:Nat):Int))
  rw [show (n:Int) - 1 - ((i + 1:Nat):Int)=((n - 1 - i:Nat):Int) - 1 by omega]; exact st'
 done:=by
  intro X hP hw hK hc i pins s σ H E I hf st hg; subst hP hw hK
  have hg:n<=i:=hg
  obtain ⟨f0,f1,f2,f3,f4,f5⟩:=hf it (by simp)
  exact SZ (I.ok.hd hc) (show (n:Int) - 1 - i < 0 by omega) st fun h' eb=>⟨rfl,I.turned (t':=s.toks) (fun b o hb e=>eb b o hb e) f0 f1 f3 f4 f5⟩
 self:=fun _ _ _ _ _ st h=>LE st h
section
variable {X:Cx} {tg:Expr}
noncomputable def W2 (K:PySem.W.Frag) (ta:TA):TI:=fun σ H R=>ta σ H fun vs H1=>∃ a xs,vs=[.ref a]/\SqL K H1 a xs/\(xs.length<=sizeLine->R (Itb K a xs.length) H1)
theorem U8 {e:Expr} {ta:TA} {p pos:Pos} (hg:Gl X "reversed") (hm:X.mg "reversed" = none) (ha:PA X [e] ta) (hs:starEach [e] X.env=[(false,eval e X.env)]):PI X tg (.Call (.Name "reversed" p) [e] [] pos) (W2 X.K ta):=by
 intro pins s σ H R I h
 refine Call_ (F0 I hg hm (show bootBuiltins "reversed" = some (.type "reversed") by decide +kernel) (PyProof.Rows.callWith_type1 (thn (ha pos pins s σ H _ I h) fun us s1 ⟨vs,H1,I1,r1,q1⟩=>?_) hs rfl))
 obtain ⟨a,xs,e,hq,q⟩:=q1
 subst e
 cases r1 with
 | cons r rr =>
  cases rr
  cases r
  obtain ⟨its,rv,pp,hz⟩:=I1.list hq
  have hl:=rv.length
  obtain ⟨⟨c,dd,da,sl⟩,ho,hc,n,hd⟩:=pp.isList
  subst hc hd
  refine Q7 ho ?_
  have st:FD (s1.heap.push { cls:=.type "list_reverseiterator",data:=.fields #[.ref a,rawInt (((its.toArray.size:Nat):Int) - 1)] }) s1.heap.objs.size a ((xs.length:Int) - 1 - (0:Nat)):=⟨_,Heap.get?_push_size _ rfl,rfl,by rw [aan]; simp [hl]⟩
  refine LE st ?_
  refine ⟨s1.heap.objs.size,[s1.heap.objs.size],_,_,H1,rfl,I1.kept (t':=s1.toks) fun b o e=>Heap.get?_push_of_some _ e,Q8 a _ xs.length,st,fun b hb=>?_,q hz⟩
  have e:b=s1.heap.objs.size:=by simpa using hb
  subst e; exact I1.fpOk (aaj _) (I1.hok.fresh (aaj _))
end
end L2
end
section
namespace L2
open PySem PySem.Spec PyProof PyProof.Rows PySem.W
section
variable {prog:Program} {w:World} {A:Around} {E:Value->Shared->Prop}
theorem Pk {it l:Addr} {items:Array Value} (hne:l ≠ it):∀ (n i:Nat) (s:Shared) (Q:List Value->Shared->Prop),s.heap.IsListIter it l i->s.heap.IsList l items->i + n<=items.size->(∀ h',h'.IsListIter it l (i + n)->Heap.SameBut it s.heap h'->Q ((items.toList.drop i).take n) { s with heap:=h' })->wpAny (model prog w) A (draw (.ref it) n) Q E s
 | 0,i,s,Q,hit,_,_,hQ=>wpAny_pure (by simpa using hQ s.heap hit (Heap.SameBut.refl ..))
 | n + 1,i,s,Q,hit,hl,hle,hQ=>by
  have hz:i < items.size:=by omega
  show wpAny _ _ (pyNext (.ref it) >>= _) Q E s; refine wpAny_bind (wpAny_pyNext_list_item hit hl (x:=items[i]) (by simp [hz]) fun h1 hit1 hs1=>?_)
  have hl1:h1.IsList l items:=by
   obtain ⟨o,e,c⟩:=hl
   exact ⟨o,(hs1.2 l hne).trans e,c⟩
  refine wpAny_bind (wpAny_holding (Pk hne n (i + 1) _ _ hit1 hl1 (by omega) fun h2 hit2 hs2=>wpAny_pure ?_))
  have hd:items.toList.drop i=items[i] :: items.toList.drop (i + 1):=by simp [abW,hz]
  have:=hQ h2 (by rw [show i + (n + 1)=i + 1 + n by omega]; exact hit2) ⟨hs2.1.trans hs1.1,fun b hb=>(hs2.2 b hb).trans (hs1.2 b hb)⟩
  rw [hd,List.take_succ_cons] at this; exact this
theorem S5 {s:Shared} {l:Addr} {items:Array Value} {Q:List Value->Shared->Prop} (hh:A.handled=none) (hl:s.heap.IsList l items) (hQ:∀ h',Heap.ExtBut s.heap.objs.size s.heap h'->Q items.toList { s with heap:=h' }):wpAny (model prog w) A (unpackItems (.ref l) items.size none) Q E s:=by
 have hlt:l ≠ s.heap.objs.size:=by obtain ⟨o,ho,_⟩:=hl; exact aaC (Heap.lt_size ho)
 unfold unpackItems notIterableAtAll
 refine wpAny_bind (wpAny_bind (wpAny_specialOf hl.typeIs slot_list_iter.lookup (wpAny_pure ?_)))
 simp only [aaO,if_false]; refine wpAny_bind (wpAny_holding (wpAny_pyIter_list hl ?_))
 have hl0:(s.heap.push { cls:=.type "list_iterator",data:=.fields #[.ref l,.int 0 0] }).IsList l items:=by
  obtain ⟨o,e,c⟩:=hl
  exact ⟨o,Heap.get?_push_of_some _ e,c⟩
 refine wpAny_bind (wpAny_holding (Pk hlt items.size 0 _ _ ⟨_,Heap.get?_push_size _ rfl,rfl,rfl⟩ hl0 (by omega) fun h1 hit1 hs1=>?_))
 have hall:List.take items.size (List.drop 0 items.toList)=items.toList:=by
  rw [List.drop_zero]; exact ab5 (by simp)
 rw [hall,if_neg (by simp)]
 have hl1:h1.IsList l items:=by
  obtain ⟨o,e,c⟩:=hl0
  exact ⟨o,(hs1.2 l hlt).trans e,c⟩
 refine wpAny_bind (wpAny_holding (wpAny_pyNext_list_end hh hit1 hl1 (by simp) fun h2 he2=>?_))
 simp only [Option.isSome_none,aaO,if_false]
 exact wpAny_pure (hQ h2 fun b o hb e=>he2 b o hb ((hs1.2 b hb).trans (Heap.get?_push_of_some _ e)))
end
section
variable {X:Cx} {pos:Pos}
noncomputable def U9 (K:PySem.W.Frag) (n:Nat) (t:TGs):TG:=fun v σ H Q=>∃ a xs,v=.ref a/\SqL K H a xs/\xs.length=n/\t xs σ H Q
theorem Va {es:List Expr} {k:Nat} {t:TGs} {n:Nat} (hc:X.calm=true) (h:PGs X es t) (hn:(assignEach es X.env).length=n) (hst:(assignEach es X.env).findIdx? (·.1)=none):PG X (.Tuple es k pos) (U9 X.K n t):=by
 intro pins s σ H v u Q I r hw
 obtain ⟨a,xs,rfl,hq,hl,hw⟩:=hw
 cases r
 obtain ⟨its,rv,pl,hz⟩:=I.list hq
 rw [assign_Tuple]
 refine wpAny_bind (wpAny_standAt ?_)
 unfold unpack
 rw [hst,hn,<- hl,rv.length,show its.length=its.toArray.size by simp]
 refine wpAny_bind (wpAny_holding (S5 (I.ok.hd hc) pl.isList fun h' hx=>?_))
 have I1:Inv X pins σ H { s with heap:=h' }:=I.kept (t':=s.toks) fun b o e=>hx b o (aaC (Heap.lt_size e)) e
 exact h pins _ σ H xs _ Q I1 (by simpa using rv) hw
end
section
variable {prog:Program} {w:World} {A:Around} {R:Result->Shared->Prop} {I:Addr} {fp wr:List Addr} {n:Nat} {P:Nat->Value->Prop} {St:Nat->Heap->Prop}
theorem S6 (W:Walks prog w A.in1 I fp wr n P St) (bt:Nat->Nat->Bool) (TU:Heap->Prop) (S:Addr) (hSf:S ∉ fp) (hTU:∀ h h',TU h->(∀ b o,b ∉ wr->b ≠ S->h.get? b=some o->h'.get? b=some o)->TU h') (hcmp:∀ i j vi vj (s:Shared) (Q E:Value->Shared->Prop),TU s.heap->P i vi->P j vj->Q (.bool (bt i j)) s->wpAny (model prog w) A.in1 (richCompare .Lt vi vj) Q E s) :
  ∀ (k j:Nat) (s:Shared) (vb:Value) (c:Nat),TU s.heap->n - (j + 1)=k->j + 1<=n->St (j + 1) s.heap->P (argBest bt j) vb->s.heap.get? S=some { cls:=.type "list",dict:=none,data:=.seq #[vb,vb] c,slots:=#[] } ->
  (∀ v h' tk,P (argBest bt (n - 1)) v->(∀ b o,b ∉ wr->b ≠ S->s.heap.get? b=some o->h'.get? b=some o)->R (.ok (.ret v)) { s with heap:=h',toks:=tk })->codeAny (model prog w) A (.builtin "min.loop" ⟨[.ref I,.none,.ref S],[]⟩) R s:=by
 have hSw:S ∉ wr:=fun h=>hSf (W.sub _ h)
 have hnm:(toString "min" ++ toString ".loop" : String) = "min.loop" := by decide
 intro k; induction k with
 | zero =>
  intro j s vb c tu hk hj hst hPb hS hR
  have hin:j + 1=n:=by omega
  refine codeAny_builtin F.entry_min_loop ?_; rw [Around.under_plainId F.plain_min_loop _]; show wpAny _ A.in1 (seqItems? (.ref S) >>= _) _ _ s
  refine wpAny_bind (wpAny_seqItems hS rfl ?_); show wpAny _ A.in1 (tryCatch (pyNext (.ref I)) _ >>= _) _ _ s
  refine wpAny_bind (wpAny_tryCatch (W.done s _ _ (hin ▸ hst) fun h1 tk hk1=>?_))
  have hS1:=hk1 S _ hSw hS
  show wpAny _ A.in1 (updateSeq S (fun _=>#[]) >>= _) _ _ _; refine wpAny_bind (wpAny_updateSeq hS1 rfl (wpAny_bind (wpAny_letGo (wpAny_pure ?_))))
  exact hR vb _ tk (by rw [<- hin]; exact hPb) fun b o hbw hbS e=>(Heap.get?_update_other _ _ (Ne.symm hbS)).trans (hk1 b o hbw e)
 | succ k ih =>
  intro j s vb c tu hk hj hst hPb hS hR
  have hlt:j + 1 < n:=by omega
  refine codeAny_builtin F.entry_min_loop ?_; rw [Around.under_plainId F.plain_min_loop _]; show wpAny _ A.in1 (seqItems? (.ref S) >>= _) _ _ s
  refine wpAny_bind (wpAny_seqItems hS rfl ?_); show wpAny _ A.in1 (tryCatch (pyNext (.ref I)) _ >>= _) _ _ s
  refine wpAny_bind (wpAny_tryCatch (W.item (j + 1) s _ _ hlt hst fun v h1 tk hP hst1 hk1=>?_))
  have hS1:=hk1 S _ hSw hS
  have tu1:TU h1:=hTU _ _ tu fun b o hb _ e=>hk1 b o hb e
  show wpAny _ A.in1 (tryCatch (holding [v,v] (richCompare .Lt v vb >>= _)) _ >>= _) _ _ _
  refine wpAny_bind (wpAny_tryCatch (wpAny_holding (wpAny_bind (hcmp (j + 1) (argBest bt j) v vb _ _ _ tu1 hP hPb ?_))))
  refine wpAny_bind (wpAny_holding (wpAny_truthy_bool ?_)); refine wpAny_bind (wpAny_letGo (wpAny_pure ?_))
  cases hb:bt (j + 1) (argBest bt j) with
  | true =>
   simp only [if_true]; refine wpAny_bind (wpAny_updateSeq hS1 rfl (wpAny_bind (wpAny_letGo ?_))); rw [hnm]
   have up:∀ b o,b ≠ S->h1.get? b=some o->(h1.update S (Obj.mapSeq fun _=>#[v,v])).get? b=some o:=fun b o hbS e=>(Heap.get?_update_other _ _ (Ne.symm hbS)).trans e
   refine wpAny_pure ⟨plainId_quiet F.plain_min_loop _,ih (j + 1) _ v _ (hTU _ _ tu1 fun b o _ hbS e=>up b o hbS e) (by omega) hlt (W.frame _ _ _ hst1 fun b hbf o e=>up b o (fun z=>hSf (z ▸ hbf)) e) (by simp only [argBest,hb,if_true]; exact hP) (Heap.get?_update_self _ hS1 rfl) fun v2 h2 tk2 hP2 hk2=>?_⟩
   exact hR v2 h2 tk2 hP2 fun b o hbw hbS e=>hk2 b o hbw hbS (up b o hbS (hk1 b o hbw e))
  | false =>
   simp only [aaO,if_false]; refine wpAny_bind (wpAny_letGo ?_); rw [hnm]
   refine wpAny_pure ⟨plainId_quiet F.plain_min_loop _,ih (j + 1) _ vb c tu1 (by omega) hlt hst1 (by simp only [argBest,hb,aaO,if_false]; exact hPb) hS1 fun v2 h2 tk2 hP2 hk2=>?_⟩
   exact hR v2 h2 tk2 hP2 fun b o hbw hbS e=>hk2 b o hbw hbS (hk1 b o hbw e)
theorem Q9 (W:Walks prog w A.in1 I fp wr n P St) (bt:Nat->Nat->Bool) (TU:Heap->Prop) (S:Addr) (hSf:S ∉ fp) (hTU:∀ h h',TU h->(∀ b o,b ∉ wr->b ≠ S->h.get? b=some o->h'.get? b=some o)->TU h') (hcmp:∀ i j vi vj (s:Shared) (Q E:Value->Shared->Prop),TU s.heap->P i vi->P j vj->Q (.bool (bt i j)) s->wpAny (model prog w) A.in1 (richCompare .Lt vi vj) Q E s) (hn:0 < n) {s:Shared} {c:Nat} (tu:TU s.heap) (hst:St 0 s.heap) (hS:s.heap.get? S=some { cls:=.type "list",dict:=none,data:=.seq #[] c,slots:=#[] })
  (hR:∀ v h' tk,P (argBest bt (n - 1)) v->(∀ b o,b ∉ wr->b ≠ S->s.heap.get? b=some o->h'.get? b=some o)->R (.ok (.ret v)) { s with heap:=h',toks:=tk }):codeAny (model prog w) A (.builtin "min.loop" ⟨[.ref I,.none,.ref S],[]⟩) R s:=by
 have hSw:S ∉ wr:=fun h=>hSf (W.sub _ h)
 have hnm:(toString "min" ++ toString ".loop" : String) = "min.loop" := by decide
 refine codeAny_builtin F.entry_min_loop ?_; rw [Around.under_plainId F.plain_min_loop _]; show wpAny _ A.in1 (seqItems? (.ref S) >>= _) _ _ s
 refine wpAny_bind (wpAny_seqItems hS rfl ?_); show wpAny _ A.in1 (tryCatch (pyNext (.ref I)) _ >>= _) _ _ s
 refine wpAny_bind (wpAny_tryCatch (W.item 0 s _ _ hn hst fun v h1 tk hP hst1 hk1=>?_))
 have hS1:=hk1 S _ hSw hS
 have tu1:TU h1:=hTU _ _ tu fun b o hb _ e=>hk1 b o hb e
 have up:∀ b o,b ≠ S->h1.get? b=some o->(h1.update S (Obj.mapSeq fun _=>#[v,v])).get? b=some o:=fun b o hbS e=>(Heap.get?_update_other _ _ (Ne.symm hbS)).trans e
 show wpAny _ A.in1 (updateSeq S (fun _=>#[v,v]) >>= _) _ _ _; refine wpAny_bind (wpAny_updateSeq hS1 rfl ?_); rw [hnm]
 refine wpAny_pure ⟨plainId_quiet F.plain_min_loop _,S6 W bt TU S hSf hTU hcmp _ 0 _ v _ (hTU _ _ tu1 fun b o _ hbS e=>up b o hbS e) rfl hn (W.frame _ _ _ hst1 fun b hbf o e=>up b o (fun z=>hSf (z ▸ hbf)) e) hP (Heap.get?_update_self _ hS1 rfl) fun v2 h2 tk2 hP2 hk2=>?_⟩
 exact hR v2 h2 tk2 hP2 fun b o hbw hbS e=>hk2 b o hbw hbS (up b o hbS (hk1 b o hbw e))
end
section
variable {prog:Program} {w:World} {A:Around} {E:Value->Shared->Prop} {s:Shared}
theorem S7 {l:Addr} {its:List Value} {ps:List (Addr × Int × Int)} {Q:Value->Shared->Prop} (hh:A.handled=none) (hu:A.units + 60 < cLine) (hl:s.heap.IsList l its.toArray) (hi:its=ps.map fun q=>Value.ref q.1) (ht:∀ q ∈ ps,∃ (a b:Tok),IsTup s.heap q.1 #[.int q.2.1 a,.int q.2.2 b]) (hn:0 < ps.length)
  (hQ:∀ h' tk,(∀ b o,s.heap.get? b=some o->h'.get? b=some o)->Q (.ref (ps.getD (argBest (fun i j=>HT.lexLt [(ps.getD i (0,0,0)).2.1,(ps.getD i (0,0,0)).2.2] [(ps.getD j (0,0,0)).2.1,(ps.getD j (0,0,0)).2.2]) (ps.length - 1)) (0,0,0)).1) { s with heap:=h',toks:=tk }):wpAny (model prog w) A (call (.builtin "min") [.ref l]) Q E s:=by
 have hnm:(toString "min" ++ toString ".loop" : String) = "min.loop" := by decide
 have hlt:l < s.heap.objs.size:=by obtain ⟨_,e,_⟩:=hl; exact Heap.lt_size e
 have hql:∀ q ∈ ps,q.1 < s.heap.objs.size:=fun q hq=>by obtain ⟨a,b,o,e,_⟩:=ht q hq; exact Heap.lt_size e
 refine call_function_tree F.kind_min F.plain_min F.entry_min (F.args_min1 _) ?_; show wpAny _ A.in1 (Builtin.Builtins.bindParams "min" ["key", "default"] 0 ⟨[],[]⟩ >>= _) _ _ s
 refine wpAny_bind (wpAny_of_eq (show Builtin.Builtins.bindParams "min" ["key", "default"] 0 ⟨[],[]⟩=pure [none,none] from rfl) (wpAny_bind (wpAny_pure (wpAny_bind (wpAny_pyIter_list hl (wpAny_bind (wpAny_newObj_type ?_)))))))
 rw [hnm]
 obtain ⟨s2,hs2⟩:∃ s2:Shared,s2={ s with heap:=s.heap.push { cls:=.type "list_iterator",data:=.fields #[.ref l,.int 0 0] } }:=⟨_,rfl⟩
 have z2:s2.heap.objs.size=s.heap.objs.size + 1:=by rw [hs2]; exact Heap.size_push ..
 have k2:∀ b o,s.heap.get? b=some o->s2.heap.get? b=some o:=fun b o e=>by rw [hs2]; exact Heap.get?_push_of_some _ e
 have k3:∀ (ob:Obj) b o,s.heap.get? b=some o->(s2.heap.push ob).get? b=some o:=fun ob b o e=>Heap.get?_push_of_some _ (k2 b o e)
 have hat:∀ i v,its.toArray[i]?=some v->∃ q,q ∈ ps/\v=.ref q.1/\ps.getD i (0,0,0)=q:=fun i v e=>by
  have e:its[i]?=some v:=by simpa using e
  rw [hi,aaq] at e
  obtain ⟨q,e1,e2⟩:=aas.mp e
  exact ⟨q,aaf e1,e2.symm,by rw [aap,e1]; rfl⟩
 have hps:its.toArray.size=ps.length:=by rw [aan,hi,aac]
 refine wpAny_pure ⟨plainId_quiet F.plain_min_loop _,?_⟩
 rw [<- hs2]
 refine Q9 (Walks.list (A:=A.in1) hh s.heap.objs.size l (aaC hlt) its.toArray) (fun i j=>HT.lexLt [(ps.getD i (0,0,0)).2.1,(ps.getD i (0,0,0)).2.2] [(ps.getD j (0,0,0)).2.1,(ps.getD j (0,0,0)).2.2]) (fun h=>∀ q ∈ ps,∃ (a b:Tok),IsTup h q.1 #[.int q.2.1 a,.int q.2.2 b]) s2.heap.objs.size (fun z=>?_) (fun h h' tu k q hq=>?_) (fun i j vi vj s3 Q3 E3 tu hi' hj' q3=>?_) (by rw [hps]; exact hn) (fun q hq=>?_) ⟨⟨_,by rw [hs2]; exact Heap.get?_push_of_some _ (Heap.get?_push_size _ rfl),rfl,rfl⟩,hl.at (k3 _ l)⟩ (Heap.get?_push_size _ rfl) fun v h' tk hP hk=>?_
 ·simp only [aai,abv,or_false] at z
  rcases z with z | z
  ·exact absurd z (by rw [z2]; exact Nat.succ_ne_self _)
  ·rw [z2] at z; exact absurd hlt (by rw [<- z]; exact Nat.not_lt.mpr (ack _))
 ·obtain ⟨a,b,o,e,c⟩:=tu q hq
  have:=hql q hq
  exact ⟨a,b,o,k q.1 o (by simpa using aaC this) (by rw [z2]; exact aaC (ab3 this)) e,c⟩
 ·obtain ⟨q1,m1,rfl,g1⟩:=hat i vi hi'
  obtain ⟨q2,m2,rfl,g2⟩:=hat j vj hj'
  obtain ⟨a1,b1,t1⟩:=tu q1 m1
  obtain ⟨a2,b2,t2⟩:=tu q2 m2
  simp only [g1,g2] at q3
  exact HT.lt_tupInts t1 t2 (.cons _ a1 (.cons _ b1 .nil)) (.cons _ a2 (.cons _ b2 .nil)) (by show A.units + 1 < cLine; omega) q3
 ·obtain ⟨a,b,o,e,c⟩:=ht q hq
  exact ⟨a,b,o,k3 _ _ _ e,c⟩
 ·obtain ⟨q,m,rfl,g⟩:=hat _ v hP
  rw [hps] at g
  have:=hQ h' tk fun b o e=>hk b o (by simpa using aaC (Heap.lt_size e)) (by rw [z2]; exact aaC (ab3 (Heap.lt_size e))) (k3 _ b o e)
  rw [g] at this
  rw [hs2]
  exact this
end
theorem Kr:∀ {ps:List (Addr × Int × Int)} {its:List Value},Vals (ps.map fun q=>V.ref q.1) its->its=ps.map fun q=>Value.ref q.1
 | [],its,h=>by cases h; rfl
 | q :: r,its,h=>by
  cases h with
  | cons h1 h2 =>
   cases (show _=Value.ref q.1 from h1)
   rw [Kr h2]; rfl
noncomputable def Wq (K:PySem.W.Frag):List V->Hp->VK->Prop:=fun xs H Q=>∃ (l:Addr) (ps:List (Addr × Int × Int)),xs=[.ref l]/\Rd H l (.lst (ps.map fun q=>V.ref q.1))/\(∀ q ∈ ps,SqT K H q.1 [.int q.2.1,.int q.2.2])/\0 < ps.length/\Q (.ref (ps.getD (argBest (fun i j=>HT.lexLt [(ps.getD i (0,0,0)).2.1,(ps.getD i (0,0,0)).2.2] [(ps.getD j (0,0,0)).2.1,(ps.getD j (0,0,0)).2.2]) (ps.length - 1)) (0,0,0)).1) H
theorem Pl {X:Cx} (hc:X.calm=true) (hu:X.A.units + 64 < cLine):C6 X (.builtin "min") (Wq X.K):=by
 intro pins s σ H xs us Q I r h
 obtain ⟨l,ps,rfl,hS,hT,hn,q⟩:=h
 obtain ⟨u,rfl,ru⟩:=EN r
 cases (show u=Value.ref l from ru)
 obtain ⟨its,rr,pl,_⟩:=I.list (.inl hS)
 refine S7 (its:=its) (ps:=ps) (I.ok.hd hc) (acT (Nat.add_le_add_left (by decide:60<=64) _) hu) pl.isList (Kr rr) (fun p hp=>?_) hn fun h' tk hk=>?_
 ·obtain ⟨it2,r2,t2,_⟩:=I.tuple (hT p hp)
  obtain ⟨x,y,rfl,⟨a,rfl⟩,⟨b,rfl⟩⟩:=La r2
  exact ⟨a,b,t2⟩
 ·exact ⟨.ref _,H,I.kept (t':=tk) hk,rfl,q⟩
end L2
end
section
namespace Pu
open PySem (Str)
inductive D where
 | non
 | bl (b:Bool)
 | int (i:Int)
 | str (x:Str)
 | tup (ds:List D)
 | lst (ds:List D)
 | exn (c:Nat)
inductive Res (α:Type) where
 | ok (a:α)
 | exc (c:Nat)
 | bad
namespace Res
noncomputable def bind {α β:Type}:Res α->(α->Res β)->Res β
 | .ok a,f=>f a
 | .exc c,_=>.exc c
 | .bad,_=>.bad
@[simp] theorem bind_ok {α β:Type} (a:α) (f:α->Res β):(Res.ok a).bind f=f a:=rfl
@[simp] theorem bind_exc {α β:Type} (c:Nat) (f:α->Res β):(Res.exc c:Res α).bind f=.exc c:=rfl
@[simp] theorem bind_bad {α β:Type} (f:α->Res β):(Res.bad:Res α).bind f=.bad:=rfl
theorem bind_eq_ok {α β:Type} {r:Res α} {f:α->Res β} {b:β} (h:r.bind f=.ok b):∃ a,r=.ok a/\f a=.ok b:=by
 cases r <;> simp_all
end Res
mutual
noncomputable def D.eqv:D->D->Bool
 | .non,.non=>true
 | .bl a,.bl b=>a==b
 | .bl a,.int j=>(if a then 1 else 0)==j
 | .int i,.bl b=>i==(if b then 1 else 0)
 | .int i,.int j=>i==j
 | .str x,.str y=>x==y
 | .lst xs,.lst ys=>D.eqvs xs ys
 | .tup xs,.tup ys=>D.eqvs xs ys
 | _,_=>false
noncomputable def D.eqvs:List D->List D->Bool
 | [],[]=>true
 | x :: xs,y :: ys=>D.eqv x y && D.eqvs xs ys
 | _,_=>false
end
noncomputable def D.shp:Nat->D->Bool
 | _,.non=>true
 | _,.bl _=>true
 | _,.int _=>true
 | _,.str x=>x.cps.all (· < 0x110000)
 | 0,.tup _=>false
 | 0,.lst _=>false
 | n + 1,.tup ds=>ds.all (D.shp n)
 | n + 1,.lst ds=>ds.all (D.shp n)
 | _,.exn _=>false
noncomputable def D.flat:Nat->Nat->D->Bool
 | 0,_,_=>false
 | _ + 1,_,.non=>true
 | _ + 1,_,.bl _=>true
 | _ + 1,_,.int _=>true
 | _ + 1,_,.str _=>true
 | _ + 1,_,.exn _=>true
 | m + 1,k,.tup ds=>ds.all (D.flat m k)
 | _ + 1,0,.lst _=>false
 | m + 1,k + 1,.lst ds=>ds.all (D.flat m k)
noncomputable abbrev LIM:Nat:=16777216
noncomputable abbrev Fr:=List (Option D)
structure Fn where
 name:Str
 ar:Nat
 lv:Nat
 dep:Nat
 den:List D->Res D
set_option genSizeOf false
set_option genSizeOfSpec false
set_option genInjectivity false
inductive B2 where
 | add | sub | mul | fdiv | mod | pow
 deriving DecidableEq
inductive C2 where
 | lt | le | gt | ge | eq | ne | inn | nin
 deriving DecidableEq
inductive Kd where
 | int | bool | str | list | tuple | dict | verr | cls (n:Nat)
 deriving DecidableEq
inductive Bi where
 | len | min | max | maxL | minL | minP | abs | int | list | all
 deriving DecidableEq
inductive Mt where
 | count | index
 deriving DecidableEq
inductive Tg where
 | nm (i:Nat)
 | tp (is:List Nat)
 deriving DecidableEq
mutual
inductive E where
 | nm (i:Nat)
 | cN
 | cB (b:Bool)
 | cI (i:Int)
 | cS (x:Str)
 | gl (x:Str) (d:D)
 | tup (es:Es)
 | lst (es:Es)
 | bin (o:B2) (a b:E)
 | neg (a:E)
 | not (a:E)
 | cmp (o:C2) (a b:E)
 | chain (o o':C2) (a b c:E)
 | isN (n:Bool) (a:E)
 | bo (and:Bool) (es:Es)
 | ix (a i:E)
 | ixL (a i:E)
 | slc (a lo hi:E)
 | call (f:Fn) (es:Es)
 | callB (f:Fn) (es:Es)
 | bi (b:Bi) (es:Es)
 | isi (a:E) (k:Kd)
 | mt (m:Mt) (a:E) (es:Es)
 | comp0 (nl:Nat) (fr:List Nat) (tg:Tg) (it:It) (elt:E)
 | comp1 (nl:Nat) (fr:List Nat) (tg:Tg) (it:It) (cond elt:E)
inductive Es where
 | nil
 | cons (e:E) (r:Es)
inductive It where
 | seq (e:E)
 | seqL (e:E)
 | r1 (a:E)
 | r2 (a b:E)
 | rv (e:E)
end
noncomputable def get (δ:Fr) (i:Nat):Res D:=match δ[i]? with
 | some (some d)=>.ok d
 | _=>.bad
noncomputable def on1:List D->(D->Res D)->Res D
 | [a],f=>f a
 | _,_=>.bad
noncomputable def on2:List D->(D->D->Res D)->Res D
 | [a,b],f=>f a b
 | _,_=>.bad
noncomputable def on3:List D->(D->D->D->Res D)->Res D
 | [a,b,c],f=>f a b c
 | _,_=>.bad
noncomputable def Ed:D->(Int->Res D)->Res D
 | .int i,f=>f i
 | _,_=>.bad
noncomputable def BS (a b:D) (f:Int->Int->Res D):Res D:=Ed a fun i=>Ed b fun j=>f i j
noncomputable def Ee:D->(List D->Res D)->Res D
 | .lst ds,f=>f ds
 | .tup ds,f=>f ds
 | _,_=>.bad
noncomputable def N5:D->D->Res D
 | .int i,.int j=>.ok (.int (i + j))
 | .lst a,.lst b=>if a.length + b.length<=LIM then .ok (.lst (a ++ b)) else .bad
 | .str a,.str b=>if a.length + b.length<=LIM then .ok (.str (a ++ b)) else .bad
 | _,_=>.bad
noncomputable def LF:D->D->Res D
 | .int i,.int j=>if (-(2 ^ 64) < i/\i < 2 ^ 64)\/(-(2 ^ 64) < j/\j < 2 ^ 64) then .ok (.int (i * j)) else if i.natAbs < 2 ^ 400/\j.natAbs < 2 ^ 400 then .ok (.int (i * j)) else .bad
 | .lst a,.int k=>if -(2 ^ 63)<=k/\k < 2 ^ 63/\a.length * k.toNat<=LIM then .ok (.lst (aam k.toNat a).flatten) else .bad
 | _,_=>.bad
noncomputable def b2:B2->D->D->Res D
 | .add,a,b=>N5 a b
 | .sub,a,b=>BS a b fun i j=>.ok (.int (i - j))
 | .mul,a,b=>LF a b
 | .fdiv,a,b=>BS a b fun i j=>if 0 < j/\j < 2 ^ 200 then .ok (.int (i / j)) else .bad
 | .mod,a,b=>BS a b fun i j=>if 0 < j then .ok (.int (i % j)) else .bad
 | .pow,a,b=>BS a b fun i j=>if 0<=j/\j<=1000000/\i.natAbs < 2 ^ 64 then .ok (.int (i ^ j.toNat)) else .bad
noncomputable def D.scal:D->Bool
 | .non | .bl _ | .int _ | .str _=>true
 | _=>false
noncomputable def inD (x:D) (ys:List D):Res Bool:=if D.shp 8 x && ys.all (D.shp 8) then .ok (ys.any fun y=>D.eqv y x) else .bad
noncomputable def c2:C2->D->D->Res D
 | .lt,a,b=>BS a b fun i j=>.ok (.bl (decide (i < j)))
 | .le,a,b=>BS a b fun i j=>.ok (.bl (decide (i<=j)))
 | .gt,a,b=>BS a b fun i j=>.ok (.bl (decide (j < i)))
 | .ge,a,b=>BS a b fun i j=>.ok (.bl (decide (j<=i)))
 | .eq,x,y=>if D.shp 8 x && D.shp 8 y then .ok (.bl (D.eqv x y)) else .bad
 | .ne,x,y=>if D.shp 8 x && D.shp 8 y then .ok (.bl (!D.eqv x y)) else .bad
 | .inn,x,y=>Ee y fun ys=>(inD x ys).bind fun b=>.ok (.bl b)
 | .nin,x,y=>Ee y fun ys=>(inD x ys).bind fun b=>.ok (.bl !b)
noncomputable def ixN (n:Nat) (i:Int):Option Nat:=if 0<=i then (if i < n then some i.toNat else none) else if -(n:Int)<=i then some (i + n).toNat else none
noncomputable def atD (ds:List D) (i:Int):Res D:=match (ixN ds.length i).bind (fun j=>ds[j]?) with
 | some d=>.ok d
 | none=>.bad
noncomputable def ixD:D->D->Res D
 | .lst ds,.int i=>atD ds i
 | .tup ds,.int i=>atD ds i
 | _,_=>.bad
noncomputable def Fg:D->D->Res D
 | .lst ds,.int i=>atD ds i
 | _,_=>.bad
noncomputable def Gp:D->D->Res D
 | .tup ds,.int i=>atD ds i
 | _,_=>.bad
noncomputable def sIx (n d:Nat):Option Int->Nat
 | none=>d
 | some v=>(if v < 0 then max (v + (n:Int)) 0 else min v (n:Int)).toNat
noncomputable def cut {α:Type} (xs:List α) (lo hi:Option Int):List α:=(xs.drop (sIx xs.length 0 lo)).take (sIx xs.length xs.length hi - sIx xs.length 0 lo)
noncomputable def DN:D->Res (Option Int)
 | .int i=>.ok (some i)
 | _=>.bad
noncomputable def C7 (n:Bool) (r:Res D):Res (Option Int):=if n then .ok none else r.bind DN
noncomputable def E.isCN:E->Bool
 | .cN=>true
 | _=>false
noncomputable def DO:D->Option Int->Option Int->Res D
 | .lst ds,lo,hi=>.ok (.lst (cut ds lo hi))
 | .tup ds,lo,hi=>if ds.all D.scal=true/\¬ (sIx ds.length 0 lo=0/\sIx ds.length ds.length hi=ds.length) then .ok (.tup (cut ds lo hi)) else .bad
 | _,_,_=>.bad
noncomputable def BP:D->Res Bool
 | .non=>.ok false
 | .bl b=>.ok b
 | .int i=>.ok (i != 0)
 | .lst ds=>.ok (!ds.isEmpty)
 | .tup ds=>.ok (!ds.isEmpty)
 | _=>.bad
noncomputable def isa (c d:Nat):Bool:=c==d || d==0
noncomputable def dI:D->Bool
 | .int _=>true
 | .bl _=>true
 | _=>false
noncomputable def dB:D->Bool
 | .bl _=>true
 | _=>false
noncomputable def dS:D->Bool
 | .str _=>true
 | _=>false
noncomputable def dL:D->Bool
 | .lst _=>true
 | _=>false
noncomputable def dT':D->Bool
 | .tup _=>true
 | _=>false
noncomputable def dD:D->Bool
 | .exn c=>c==999
 | _=>false
noncomputable def dX:D->(Nat->Bool)->Res Bool
 | .exn c,f=>if c==999 then .bad else .ok (f c)
 | _,_=>.bad
noncomputable def DG (d:D):Kd->Res Bool
 | .int=>.ok (dI d)
 | .bool=>.ok (dB d)
 | .str=>.ok (dS d)
 | .list=>.ok (dL d)
 | .tuple=>.ok (dT' d)
 | .dict=>.ok (dD d)
 | .verr=>dX d fun _=>true
 | .cls n=>dX d fun c=>isa c n
noncomputable def Be:List D->Option (List Int)
 | []=>some []
 | .int i :: r=>(Be r).map (i :: ·)
 | _=>none
noncomputable def Bj:List D->Option (List Bool)
 | []=>some []
 | .bl i :: r=>(Bj r).map (i :: ·)
 | _=>none
noncomputable def AA {α:Type}:Option α->Res α
 | some a=>.ok a
 | none=>.bad
noncomputable def DP:D->(List Int->Res D)->Res D
 | .lst ds,f=>(AA (Be ds)).bind f
 | _,_=>.bad
noncomputable def Dm:D->(List Bool->Res D)->Res D
 | .lst ds,f=>(AA (Bj ds)).bind f
 | _,_=>.bad
noncomputable def Gq:D->(List D->Res D)->Res D
 | .lst ds,f=>f ds
 | _,_=>.bad
noncomputable def FS:D->Res D
 | .int i=>.ok (.int i)
 | .bl b=>.ok (.int (if b then 1 else 0))
 | _=>.bad
noncomputable def EQ:List D->Option (List (Int × Int))
 | []=>some []
 | .tup [.int a,.int b] :: r=>(EQ r).map ((a,b) :: ·)
 | _=>none
noncomputable def BD (x y:Int × Int):Bool:=if x.1=y.1 then decide (x.2 < y.2) else decide (x.1 < y.1)
noncomputable def IJ:List (Int × Int)->Option (Int × Int)
 | []=>none
 | x :: r=>some (r.foldl (fun b y=>if BD y b then y else b) x)
noncomputable def So:D->Res D
 | .lst ds=>(AA (EQ ds)).bind fun ps=>(AA (IJ ps)).bind fun q=>.ok (.tup [.int q.1,.int q.2])
 | _=>.bad
noncomputable def biD:Bi->List D->Res D
 | .len,ds=>on1 ds fun d=>Ee d fun ds=>.ok (.int ds.length)
 | .min,ds=>on2 ds fun a b=>BS a b fun i j=>.ok (.int (min i j))
 | .max,ds=>on2 ds fun a b=>BS a b fun i j=>.ok (.int (max i j))
 | .maxL,ds=>on1 ds fun d=>DP d fun ns=>(AA ns.max?).bind fun n=>.ok (.int n)
 | .minL,ds=>on1 ds fun d=>DP d fun ns=>(AA ns.min?).bind fun n=>.ok (.int n)
 | .minP,ds=>on1 ds So
 | .abs,ds=>on1 ds fun d=>Ed d fun i=>.ok (.int (if i < 0 then -i else i))
 | .int,ds=>on1 ds FS
 | .list,ds=>on1 ds fun d=>Ee d fun ds=>.ok (.lst ds)
 | .all,ds=>on1 ds fun d=>Dm d fun bs=>.ok (.bl (bs.all id))
noncomputable def Ef (v:Int):List Int->Option Nat
 | []=>none
 | x :: r=>if x=v then some 0 else (Ef v r).map (· + 1)
noncomputable def mtD:Mt->D->List D->Res D
 | .count,.lst ds,[.bl k]=>(AA (Bj ds)).bind fun bs=>.ok (.int ((bs.filter (·==k)).length:Int))
 | .index,.lst ds,[.int v]=>(AA (Be ds)).bind fun ns=>(AA (Ef v ns)).bind fun j=>.ok (.int (j:Nat))
 | _,_,_=>.bad
noncomputable def F7:List Nat->List D->Fr->Option Fr
 | [],[],δ=>some δ
 | i :: is,d :: ds,δ=>F7 is ds (δ.set i (some d))
 | _,_,_=>none
noncomputable def Dz:Tg->D->Fr->Option Fr
 | .nm i,d,δ=>some (δ.set i (some d))
 | .tp is,.tup ds,δ=>F7 is ds δ
 | .tp is,.lst ds,δ=>F7 is ds δ
 | _,_,_=>none
noncomputable def Bq (f:D->Res (Option D)):List D->Res (List D)
 | []=>.ok []
 | d :: ds=>match f d with
  | .ok o=>(Bq f ds).bind fun r=>.ok (match o with | some x=>x :: r | none=>r)
  | _=>.bad
noncomputable def blk (nl:Nat) (fr:List Nat) (δ:Fr):Fr:=aam nl none ++ fr.map fun j=>(δ[j]?).join
noncomputable def Ar (a b:Int):List D:=(aar (b - a).toNat).map fun (i:Nat)=>D.int (a + i)
noncomputable def Eu:D->Res (List D)
 | .lst ds=>.ok ds
 | .tup ds=>.ok ds
 | _=>.bad
noncomputable def Dn:D->Res (List D)
 | .lst ds=>.ok ds
 | _=>.bad
noncomputable def GL (i:Int):Bool:=decide (-(2 ^ 62)<=i) && decide (i < 2 ^ 62)
noncomputable def Ra:D->D->Res (List D)
 | .int a,.int b=>if GL a && GL b && decide ((b - a).toNat<=LIM) then .ok (Ar a b) else .bad
 | _,_=>.bad
noncomputable def Vb:D->Res (List D)
 | .lst ds=>.ok ds.reverse
 | _=>.bad
mutual
noncomputable def ev:E->Fr->Res D
 | .nm i,δ=>get δ i
 | .cN,_=>.ok .non
 | .cB b,_=>.ok (.bl b)
 | .cI i,_=>.ok (.int i)
 | .cS x,_=>.ok (.str x)
 | .gl _ d,_=>.ok d
 | .tup es,δ=>(evs es δ).bind fun ds=>.ok (.tup ds)
 | .lst es,δ=>(evs es δ).bind fun ds=>.ok (.lst ds)
 | .bin o a b,δ=>(ev a δ).bind fun x=>(ev b δ).bind fun y=>b2 o x y
 | .neg a,δ=>(ev a δ).bind fun x=>match x with | .int i=>.ok (.int (-i)) | _=>.bad
 | .not a,δ=>(ev a δ).bind fun x=>match x with | .bl b=>.ok (.bl !b) | _=>.bad
 | .cmp o a b,δ=>(ev a δ).bind fun x=>(ev b δ).bind fun y=>c2 o x y
 | .chain o o' a b c,δ=>(ev a δ).bind fun x=>(ev b δ).bind fun y=>(c2 o x y).bind fun r=>match r with
  | .bl true=>(ev c δ).bind fun z=>c2 o' y z
  | .bl false=>.ok (.bl false)
  | _=>.bad
 | .isN n a,δ=>(ev a δ).bind fun x=>.ok (.bl (match x with | .non=>!n | _=>n))
 | .bo k es,δ=>evBo k es δ
 | .ix a i,δ=>(ev a δ).bind fun x=>(ev i δ).bind fun y=>ixD x y
 | .ixL a i,δ=>(ev a δ).bind fun x=>(ev i δ).bind fun y=>Fg x y
 | .slc a lo hi,δ=>(ev a δ).bind fun x=>(C7 lo.isCN (ev lo δ)).bind fun l=>(C7 hi.isCN (ev hi δ)).bind fun h=>DO x l h
 | .call f es,δ=>(evs es δ).bind fun ds=>f.den ds
 | .callB f es,δ=>(evs es δ).bind fun ds=>(f.den ds).bind fun d=>if D.flat 9 f.dep d then .ok d else .bad
 | .bi b es,δ=>(evs es δ).bind fun ds=>biD b ds
 | .isi a k,δ=>(ev a δ).bind fun x=>(DG x k).bind fun b=>.ok (.bl b)
 | .mt m a es,δ=>(ev a δ).bind fun x=>if dL x=true then (evs es δ).bind fun ds=>mtD m x ds else .bad
 | .comp0 nl fr tg it elt,δ=>(evI it δ).bind fun ds=>(Bq (fun d=>match Dz tg d (blk nl fr δ) with
   | some δ'=>(ev elt δ').bind fun x=>.ok (some x)
   | none=>.bad) ds).bind fun r=>.ok (.lst r)
 | .comp1 nl fr tg it cond elt,δ=>(evI it δ).bind fun ds=>(Bq (fun d=>match Dz tg d (blk nl fr δ) with
   | some δ'=>((ev cond δ').bind BP).bind fun t=>if t then (ev elt δ').bind fun x=>.ok (some x) else .ok none
   | none=>.bad) ds).bind fun r=>.ok (.lst r)
noncomputable def evs:Es->Fr->Res (List D)
 | .nil,_=>.ok []
 | .cons e r,δ=>(ev e δ).bind fun x=>(evs r δ).bind fun xs=>.ok (x :: xs)
noncomputable def evBo (k:Bool):Es->Fr->Res D
 | .nil,_=>.bad
 | .cons e .nil,δ=>ev e δ
 | .cons e (.cons e' r),δ=>(ev e δ).bind fun x=>match x with
  | .bl c=>if c=k then evBo k (.cons e' r) δ else .ok (.bl c)
  | _=>.bad
noncomputable def evI:It->Fr->Res (List D)
 | .seq e,δ=>(ev e δ).bind Eu
 | .seqL e,δ=>(ev e δ).bind Dn
 | .r1 a,δ=>(ev a δ).bind fun x=>Ra (.int 0) x
 | .r2 a b,δ=>(ev a δ).bind fun x=>(ev b δ).bind fun y=>Ra x y
 | .rv e,δ=>(ev e δ).bind Vb
end
noncomputable def tv (e:E) (δ:Fr):Res Bool:=(ev e δ).bind BP
inductive Um where
 | append | extend | insert | pop | popAt | clear | reverse
 deriving DecidableEq
mutual
inductive S where
 | asg (x:Nat) (k:Nat) (e:E)
 | dem (x:Nat) (k:Nat)
 | dead (x:Nat)
 | asgT (xs:List Nat) (e:E)
 | mut (x:Nat) (path:List (Bool × E)) (m:Um) (es:Es)
 | expr (e:E)
 | iff (c:E) (a b:Ss)
 | wh (c:E) (b:Ss)
 | for_ (tg:Tg) (it:It) (b:Ss)
 | ret (e:E)
 | retT (es:Es)
 | raise (c:Nat) (es:Es)
inductive Ss where
 | nil
 | cons (s:S) (r:Ss)
end
inductive Out where
 | nxt (δ:Fr)
 | ret (d:D)
 | exc (c:Nat) (δ:Fr)
 | bad
noncomputable def evP:List (Bool × E)->Fr->Res (List (Bool × Int))
 | [],_=>.ok []
 | (t,e) :: r,δ=>match ev e δ with
  | .ok (.int i)=>(evP r δ).bind fun is=>.ok ((t,i) :: is)
  | _=>.bad
noncomputable def Di (f:List D->Option (List D)):List (Bool × Int)->D->Option D
 | [],.lst ds=>(f ds).map D.lst
 | (false,i) :: r,.lst ds=>(ixN ds.length i).bind fun j=>(ds[j]?).bind fun d=>(Di f r d).map fun d'=>.lst (ds.set j d')
 | (true,i) :: r,.tup ds=>(ixN ds.length i).bind fun j=>(ds[j]?).bind fun d=>(Di f r d).map fun d'=>.tup (ds.set j d')
 | _,_=>none
noncomputable def GM (n:Nat) (i:Int):Nat:=(if i < 0 then max (i + (n:Int)) 0 else min i (n:Int)).toNat
noncomputable def un1 {α:Type}:List D->(D->Option α)->Option α
 | [d],f=>f d
 | _,_=>none
noncomputable def un0 {α:Type}:List D->Option α->Option α
 | [],r=>r
 | _,_=>none
noncomputable def Wr (ds:List D):D->Option (List D)
 | .lst es=>if ds.length + es.length<=LIM then some (ds ++ es) else none
 | _=>none
noncomputable def Sq (ds:List D):List D->Option (List D)
 | [.int i,d]=>if ds.length < LIM/\-(2 ^ 63)<=i/\i < 2 ^ 63 then some (ds.take (GM ds.length i) ++ d :: ds.drop (GM ds.length i)) else none
 | _=>none
noncomputable def Nb (ds:List D):D->Option (List D)
 | .int i=>if -(2 ^ 63)<=i/\i < 2 ^ 63 then (ixN ds.length i).map fun j=>ds.eraseIdx j else none
 | _=>none
noncomputable def umD:Um->List D->List D->Option (List D)
 | .append,es,ds=>un1 es fun d=>if ds.length < LIM then some (ds ++ [d]) else none
 | .extend,es,ds=>un1 es (Wr ds)
 | .insert,es,ds=>Sq ds es
 | .pop,es,ds=>un0 es (if ds=[] then none else some ds.dropLast)
 | .popAt,es,ds=>un1 es (Nb ds)
 | .clear,es,_=>un0 es (some [])
 | .reverse,es,ds=>un0 es (some ds.reverse)
noncomputable def upd (δ:Fr) (x:Nat) (f:D->Option D):Out:=match δ[x]? with
 | some (some d)=>match f d with
  | some d'=>.nxt (δ.set x (some d'))
  | none=>.bad
 | _=>.bad
noncomputable def Res.out {α:Type} (r:Res α) (δ:Fr) (f:α->Out):Out:=match r with
 | .ok a=>f a
 | .exc c=>.exc c δ
 | .bad=>.bad
@[simp] theorem Res.out_ok {α:Type} (a:α) (δ:Fr) (f:α->Out):(Res.ok a).out δ f=f a:=rfl
@[simp] theorem Res.out_exc {α:Type} (c:Nat) (δ:Fr) (f:α->Out):(Res.exc c:Res α).out δ f=.exc c δ:=rfl
@[simp] theorem Res.out_bad {α:Type} (δ:Fr) (f:α->Out):(Res.bad:Res α).out δ f=.bad:=rfl
noncomputable def Out.then (o:Out) (f:Fr->Out):Out:=match o with
 | .nxt δ=>f δ
 | .ret d=>.ret d
 | .exc c δ=>.exc c δ
 | .bad=>.bad
@[simp] theorem Out.then_nxt (δ:Fr) (f:Fr->Out):(Out.nxt δ).then f=f δ:=rfl
@[simp] theorem Out.then_ret (d:D) (f:Fr->Out):(Out.ret d).then f=.ret d:=rfl
@[simp] theorem Out.then_exc (c:Nat) (δ:Fr) (f:Fr->Out):(Out.exc c δ).then f=.exc c δ:=rfl
@[simp] theorem Out.then_bad (f:Fr->Out):Out.bad.then f=.bad:=rfl
noncomputable def AI (c:Fr->Res Bool) (b:Fr->Out):Nat->Fr->Out
 | 0,_=>.bad
 | n + 1,δ=>(c δ).out δ fun t=>if t then (b δ).then (AI c b n) else .nxt δ
noncomputable def AU (tg:Tg) (b:Fr->Out):List D->Fr->Out
 | [],δ=>.nxt δ
 | d :: ds,δ=>match Dz tg d δ with
  | some δ'=>(b δ').then (AU tg b ds)
  | none=>.bad
noncomputable def FU:Nat:=1073741824
mutual
noncomputable def ex:S->Fr->Out
 | .dem _ _,δ=>.nxt δ
 | .dead _,δ=>.nxt δ
 | .asg x _ e,δ=>(ev e δ).out δ fun d=>.nxt (δ.set x (some d))
 | .asgT xs e,δ=>(ev e δ).out δ fun d=>match Dz (.tp xs) d δ with
  | some δ'=>.nxt δ'
  | none=>.bad
 | .mut x p m es,δ=>match evP p δ,evs es δ with
  | .ok q,.ok ds=>upd δ x (Di (umD m ds) q)
  | _,_=>.bad
 | .expr e,δ=>(ev e δ).out δ fun _=>.nxt δ
 | .iff c a b,δ=>(tv c δ).out δ fun t=>if t then exs a δ else exs b δ
 | .wh c b,δ=>AI (tv c) (exs b) FU δ
 | .for_ tg it b,δ=>(evI it δ).out δ fun ds=>AU tg (exs b) ds δ
 | .ret e,δ=>(ev e δ).out δ fun d=>.ret d
 | .retT es,δ=>(evs es δ).out δ fun ds=>.ret (.tup ds)
 | .raise c es,δ=>(evs es δ).out δ fun _=>.exc c δ
noncomputable def exs:Ss->Fr->Out
 | .nil,δ=>.nxt δ
 | .cons s r,δ=>(ex s δ).then (exs r)
end
noncomputable def AR (n:Nat) (ds:List D):Fr:=ds.map some ++ aam (n - ds.length) none
noncomputable def run (n:Nat) (b:Ss) (ds:List D):Res D:=match exs b (AR n ds) with
 | .nxt _=>.ok .non
 | .ret d=>.ok d
 | .exc c _=>.exc c
 | .bad=>.bad
end Pu
end
section
namespace Pu
open PySem PySem.W L2
inductive T where
 | non
 | bl (b:Bool)
 | int (i:Int)
 | str (x:Str)
 | tup (a:Addr) (ts:List T)
 | lst (a:Addr) (ts:List T)
 | exn (a:Addr) (c:Nat)
noncomputable def T.val:T->V
 | .non=>.non
 | .bl b=>.bl b
 | .int i=>.int i
 | .str x=>.str x
 | .tup a _=>.ref a
 | .lst a _=>.ref a
 | .exn a _=>.ref a
mutual
noncomputable def T.dat:T->D
 | .non=>.non
 | .bl b=>.bl b
 | .int i=>.int i
 | .str x=>.str x
 | .tup _ ts=>.tup (T.dats ts)
 | .lst _ ts=>.lst (T.dats ts)
 | .exn _ c=>.exn c
noncomputable def T.dats:List T->List D
 | []=>[]
 | t :: r=>t.dat :: T.dats r
end
theorem T.dats_map:∀ ts:List T,T.dats ts=ts.map T.dat
 | []=>rfl
 | t :: r=>by simp [T.dats,T.dats_map r]
structure Px where
 K:Frag
 cl:Nat->Addr
 has:Nat->Bool
noncomputable def exO (p:Px) (a:Addr) (c:Nat):HO:=if c=999 then dO a else xO a (p.cl c)
theorem Vc {p:Px} {a:Addr} {c:Nat} (vs:List V):exO p a c ≠ .lst vs:=by
 unfold exO
 split
 ·intro e; cases e
 ·intro e; cases e
mutual
noncomputable def T.Ok (p:Px) (H:Hp):T->Prop
 | .tup a ts=>H a=some (.tup (ts.map T.val))/\T.Oks p H ts
 | .lst a ts=>Rd H a (.lst (ts.map T.val))/\T.Oks p H ts
 | .exn a c=>H a=some (exO p a c)/\(c=999\/p.has c=true)
 | .non=>True
 | .bl _=>True
 | .int _=>True
 | .str _=>True
noncomputable def T.Oks (p:Px) (H:Hp):List T->Prop
 | []=>True
 | t :: r=>t.Ok p H/\T.Oks p H r
noncomputable def T.adr:T->Nat->List Addr
 | .tup _ ts,k=>T.adrs ts k
 | .lst _ _,0=>[]
 | .lst a ts,k + 1=>a :: T.adrs ts k
 | .non,_=>[]
 | .bl _,_=>[]
 | .int _,_=>[]
 | .str _,_=>[]
 | .exn _ _,_=>[]
noncomputable def T.adrs:List T->Nat->List Addr
 | [],_=>[]
 | t :: r,k=>t.adr k ++ T.adrs r k
noncomputable def T.rest:T->Nat->List Addr
 | .tup _ ts,k=>T.rests ts k
 | .lst a ts,0=>a :: T.rests ts 0
 | .lst _ ts,k + 1=>T.rests ts k
 | .non,_=>[]
 | .bl _,_=>[]
 | .int _,_=>[]
 | .str _,_=>[]
 | .exn _ _,_=>[]
noncomputable def T.rests:List T->Nat->List Addr
 | [],_=>[]
 | t :: r,k=>t.rest k ++ T.rests r k
end
theorem T.ind {P:T->Prop} (h0:P .non) (h1:∀ b,P (.bl b)) (h2:∀ i,P (.int i)) (h3:∀ x,P (.str x)) (h4:∀ a ts,(∀ t ∈ ts,P t)->P (.tup a ts)) (h5:∀ a ts,(∀ t ∈ ts,P t)->P (.lst a ts)) (h6:∀ a c,P (.exn a c)):∀ t,P t
 | .non=>h0
 | .bl b=>h1 b
 | .int i=>h2 i
 | .str x=>h3 x
 | .tup a ts=>h4 a ts fun t h=>T.ind h0 h1 h2 h3 h4 h5 h6 t
 | .lst a ts=>h5 a ts fun t h=>T.ind h0 h1 h2 h3 h4 h5 h6 t
 | .exn a c=>h6 a c
termination_by t=>t
theorem T.oks_iff {p:Px} {H:Hp}:∀ {ts:List T},T.Oks p H ts ↔ ∀ t ∈ ts,t.Ok p H
 | []=>by simp [T.Oks]
 | t :: r=>by simp [T.Oks,T.oks_iff (ts:=r)]
theorem T.mem_adrs {a:Addr} {k:Nat}:∀ {ts:List T},a ∈ T.adrs ts k ↔ ∃ t ∈ ts,a ∈ t.adr k
 | []=>by simp [T.adrs]
 | t :: r=>by simp [T.adrs,T.mem_adrs (ts:=r)]
theorem T.mem_rests {a:Addr} {k:Nat}:∀ {ts:List T},a ∈ T.rests ts k ↔ ∃ t ∈ ts,a ∈ t.rest k
 | []=>by simp [T.rests]
 | t :: r=>by simp [T.rests,T.mem_rests (ts:=r)]
theorem T.adrs_append {k:Nat}:∀ {ts us:List T},T.adrs (ts ++ us) k=T.adrs ts k ++ T.adrs us k
 | [],us=>by simp [T.adrs]
 | t :: r,us=>by simp [T.adrs,T.adrs_append (ts:=r)]
theorem T.rests_append {k:Nat}:∀ {ts us:List T},T.rests (ts ++ us) k=T.rests ts k ++ T.rests us k
 | [],us=>by simp [T.rests]
 | t :: r,us=>by simp [T.rests,T.rests_append (ts:=r)]
theorem T.adr_zero:∀ t:T,t.adr 0=[]:=by
 refine T.ind rfl (fun _=>rfl) (fun _=>rfl) (fun _=>rfl) (fun a ts ih=>?_) (fun _ _ _=>by simp [T.adr]) (fun _ _=>rfl)
 simp only [T.adr]
 refine aaV.mpr fun b hb=>?_
 obtain ⟨t,ht,h⟩:=T.mem_adrs.mp hb
 rw [ih t ht] at h; cases h
theorem T.adrs_zero (ts:List T):T.adrs ts 0=[]:=by
 refine aaV.mpr fun b hb=>?_
 obtain ⟨t,ht,h⟩:=T.mem_adrs.mp hb
 rw [T.adr_zero] at h; cases h
theorem T.all_iff {a:Addr}:∀ (t:T) (k:Nat),a ∈ t.rest 0 ↔ a ∈ t.adr k\/a ∈ t.rest k:=by
 refine T.ind (by simp [T.rest,T.adr]) (by simp [T.rest,T.adr]) (by simp [T.rest,T.adr]) (by simp [T.rest,T.adr]) (fun b ts ih k=>?_) (fun b ts ih k=>?_) (by simp [T.rest,T.adr])
 ·simp only [T.rest,T.adr,T.mem_rests,T.mem_adrs]
  constructor
  ·rintro ⟨t,ht,h⟩
   rcases (ih t ht k).mp h with h | h
   ·exact .inl ⟨t,ht,h⟩
   ·exact .inr ⟨t,ht,h⟩
  ·rintro (⟨t,ht,h⟩ | ⟨t,ht,h⟩)
   ·exact ⟨t,ht,(ih t ht k).mpr (.inl h)⟩
   ·exact ⟨t,ht,(ih t ht k).mpr (.inr h)⟩
 ·cases k with
  | zero=>simp [T.adr]
  | succ k =>
   simp only [T.rest,T.adr,T.mem_rests,T.mem_adrs,aai]
   constructor
   ·rintro (h | ⟨t,ht,h⟩)
    ·exact .inl (.inl h)
    rcases (ih t ht k).mp h with h | h
    ·exact .inl (.inr ⟨t,ht,h⟩)
    ·exact .inr ⟨t,ht,h⟩
   ·rintro ((h | ⟨t,ht,h⟩) | ⟨t,ht,h⟩)
    ·exact .inl h
    ·exact .inr ⟨t,ht,(ih t ht k).mpr (.inl h)⟩
    ·exact .inr ⟨t,ht,(ih t ht k).mpr (.inr h)⟩
theorem T.alls_iff {a:Addr} (ts:List T) (k:Nat):a ∈ T.rests ts 0 ↔ a ∈ T.adrs ts k\/a ∈ T.rests ts k:=by
 simp only [T.mem_rests,T.mem_adrs]
 constructor
 ·rintro ⟨t,ht,h⟩
  rcases (T.all_iff t k).mp h with h | h
  ·exact .inl ⟨t,ht,h⟩
  ·exact .inr ⟨t,ht,h⟩
 ·rintro (⟨t,ht,h⟩ | ⟨t,ht,h⟩)
  ·exact ⟨t,ht,(T.all_iff t k).mpr (.inl h)⟩
  ·exact ⟨t,ht,(T.all_iff t k).mpr (.inr h)⟩
theorem T.rest_le {a:Addr}:∀ (t:T) {j j':Nat},j<=j'->a ∈ t.rest j'->a ∈ t.rest j:=by
 refine T.ind (by simp [T.rest]) (by simp [T.rest]) (by simp [T.rest]) (by simp [T.rest]) (fun b ts ih j j' hj h=>?_) (fun b ts ih j j' hj h=>?_) (by simp [T.rest])
 ·simp only [T.rest,T.mem_rests] at h ⊢
  obtain ⟨t,ht,h⟩:=h
  exact ⟨t,ht,ih t ht hj h⟩
 ·cases j' with
  | zero=>cases Nat.le_zero.mp hj; exact h
  | succ j' =>
   simp only [T.rest,T.mem_rests] at h
   obtain ⟨t,ht,h⟩:=h
   cases j with
   | zero=>exact aaa _ (T.mem_rests.mpr ⟨t,ht,ih t ht (aat _) h⟩)
   | succ j=>exact T.mem_rests.mpr ⟨t,ht,ih t ht (ab6 hj) h⟩
theorem T.adr_le {a:Addr}:∀ (t:T) {j j':Nat},j<=j'->a ∈ t.adr j->a ∈ t.adr j':=by
 refine T.ind (by simp [T.adr]) (by simp [T.adr]) (by simp [T.adr]) (by simp [T.adr]) (fun b ts ih j j' hj h=>?_) (fun b ts ih j j' hj h=>?_) (by simp [T.adr])
 ·simp only [T.adr,T.mem_adrs] at h ⊢
  obtain ⟨t,ht,h⟩:=h
  exact ⟨t,ht,ih t ht hj h⟩
 ·cases j with
  | zero=>simp [T.adr] at h
  | succ j =>
   cases j' with
   | zero=>omega
   | succ j' =>
    simp only [T.adr,aai,T.mem_adrs] at h ⊢
    rcases h with h | ⟨t,ht,h⟩
    ·exact .inl h
    ·exact .inr ⟨t,ht,ih t ht (ab6 hj) h⟩
noncomputable def T.Nd (t:T) (k:Nat):Prop:=(t.adr k).Nodup/\∀ a ∈ t.rest k,a ∉ t.adr k
noncomputable def T.Nds (ts:List T) (k:Nat):Prop:=(T.adrs ts k).Nodup/\∀ a ∈ T.rests ts k,a ∉ T.adrs ts k
theorem T.nd_zero (t:T):t.Nd 0:=by unfold T.Nd; rw [T.adr_zero]; exact ⟨List.nodup_nil,fun _ _ h=>nomatch h⟩
theorem T.nds_zero (ts:List T):T.Nds ts 0:=by unfold T.Nds; rw [T.adrs_zero]; exact ⟨List.nodup_nil,fun _ _ h=>nomatch h⟩
theorem T.nds_cons {t:T} {r:List T} {k:Nat}:T.Nds (t :: r) k ↔ t.Nd k/\T.Nds r k/\(∀ a ∈ t.adr k,a ∉ T.rests r 0)/\(∀ a ∈ T.adrs r k,a ∉ t.rest 0):=by
 unfold T.Nds T.Nd
 simp only [T.adrs,T.rests,ac0,aag]
 constructor
 ·rintro ⟨⟨n1,n2,n3⟩,h⟩
  refine ⟨⟨n1,fun a ha hb=>h a (.inl ha) (.inl hb)⟩,⟨n2,fun a ha hb=>h a (.inr ha) (.inr hb)⟩,fun a ha hb=>?_,fun a ha hb=>?_⟩
  ·rcases (T.alls_iff r k).mp hb with q | q
   ·exact n3 a ha a q rfl
   ·exact h a (.inr q) (.inl ha)
  ·rcases (T.all_iff t k).mp hb with q | q
   ·exact n3 a q a ha rfl
   ·exact h a (.inl q) (.inr ha)
 ·rintro ⟨⟨n1,h1⟩,⟨n2,h2⟩,c1,c2⟩
  refine ⟨⟨n1,n2,fun a ha b hb e=>?_⟩,fun a ha hb=>?_⟩
  ·subst e
   exact c1 a ha ((T.alls_iff r k).mpr (.inl hb))
  ·rcases ha with ha | ha <;> rcases hb with hb | hb
   ·exact h1 a ha hb
   ·exact c2 a hb ((T.all_iff t k).mpr (.inr ha))
   ·exact c1 a hb ((T.alls_iff r k).mpr (.inr ha))
   ·exact h2 a ha hb
theorem T.nd_down:∀ (t:T) {k:Nat},t.Nd (k + 1)->t.Nd k:=by
 have lists:∀ (ts:List T),(∀ t ∈ ts,∀ {k:Nat},t.Nd (k + 1)->t.Nd k)->∀ {k:Nat},T.Nds ts (k + 1)->T.Nds ts k:=by
  intro ts
  induction ts with
  | nil=>intro _ k _; exact ⟨by simp [T.adrs],by simp [T.rests]⟩
  | cons t r ih =>
   intro h k n
   obtain ⟨n1,n2,c1,c2⟩:=T.nds_cons.mp n
   exact T.nds_cons.mpr ⟨h t (aab ..) n1,ih (fun u hu=>h u (aaa _ hu)) n2,fun a ha=>c1 a (T.adr_le t (ack k) ha),fun a ha=>c2 a (by
    obtain ⟨u,hu,hq⟩:=T.mem_adrs.mp ha
    exact T.mem_adrs.mpr ⟨u,hu,T.adr_le u (ack k) hq⟩)⟩
 refine T.ind (fun _=>by simp [T.Nd,T.adr]) (fun _ _=>by simp [T.Nd,T.adr]) (fun _ _=>by simp [T.Nd,T.adr]) (fun _ _=>by simp [T.Nd,T.adr]) (fun a ts ih k n=>?_) (fun a ts ih k n=>?_) (fun _ _ _=>by simp [T.Nd,T.adr])
 ·exact lists ts ih n
 ·cases k with
  | zero=>exact T.nd_zero _
  | succ k =>
   obtain ⟨n1,n2⟩:=n
   simp only [T.adr,T.rest,aaI] at n1 n2
   have:=lists ts ih (k:=k) ⟨n1.2,fun b hb hc=>n2 b hb (aaa _ hc)⟩
   refine ⟨?_,?_⟩
   ·simp only [T.adr,aaI]
    refine ⟨fun h=>n1.1 ?_,this.1⟩
    obtain ⟨u,hu,hq⟩:=T.mem_adrs.mp h
    exact T.mem_adrs.mpr ⟨u,hu,T.adr_le u (ack k) hq⟩
   ·intro b hb hc
    simp only [T.adr,T.rest,aai] at hb hc
    rcases hc with rfl | hc
    ·have h0:=(T.alls_iff ts (k + 1)).mp ((T.alls_iff ts k).mpr (.inr hb))
     rcases h0 with h0 | h0
     ·exact n1.1 h0
     ·exact n2 b h0 (aab ..)
    ·exact this.2 b hb hc
theorem T.nd_le (t:T) {k k':Nat} (h:k<=k') (n:t.Nd k'):t.Nd k:=by
 induction k' with
 | zero=>cases Nat.le_zero.mp h; exact n
 | succ k' ih =>
  rcases acp k (k' + 1) with q | q
  ·exact ih (Nat.le_of_lt_succ q) (T.nd_down t n)
  ·cases acA h q; exact n
theorem T.nds_le {ts:List T} {k k':Nat} (h:k<=k') (n:T.Nds ts k'):T.Nds ts k:=by
 have:=T.nd_le (.tup 0 ts) h (k':=k') n
 exact this
theorem T.Ok.keep' {p:Px} {H H':Hp}:∀ (t:T),(∀ a u,H a=some u->(a ∈ t.rest 0\/∀ vs,u ≠ .lst vs)->H' a=some u)->t.Ok p H->t.Ok p H':=by
 refine T.ind (P:=fun t=>(∀ a u,H a=some u->(a ∈ t.rest 0\/∀ vs,u ≠ .lst vs)->H' a=some u)->t.Ok p H->t.Ok p H') (fun _ h=>h) (fun _ _ h=>h) (fun _ _ h=>h) (fun _ _ h=>h) (fun a ts ih k h=>?_) (fun a ts ih k h=>?_) (fun a c k h=>?_)
 ·obtain ⟨h1,h2⟩:=h
  refine ⟨k _ _ h1 (.inr fun vs e=>nomatch e),T.oks_iff.mpr fun t ht=>ih t ht (fun b u e q=>k b u e ?_) (T.oks_iff.mp h2 t ht)⟩
  rcases q with q | q
  ·exact .inl (T.mem_rests.mpr ⟨t,ht,q⟩)
  ·exact .inr q
 ·obtain ⟨h1,h2⟩:=h
  refine ⟨?_,T.oks_iff.mpr fun t ht=>ih t ht (fun b u e q=>k b u e ?_) (T.oks_iff.mp h2 t ht)⟩
  ·rcases h1 with h1 | ⟨o,h1⟩
   ·exact .inl (k _ _ h1 (.inl (aab ..)))
   ·exact .inr ⟨o,k _ _ h1 (.inl (aab ..))⟩
  ·rcases q with q | q
   ·exact .inl (aaa _ (T.mem_rests.mpr ⟨t,ht,q⟩))
   ·exact .inr q
 ·exact ⟨k _ _ h.1 (.inr Vc),h.2⟩
theorem T.Ok.keep {p:Px} {H H':Hp} {t:T} (k:∀ a u,H a=some u->(a ∈ t.rest 0\/∀ vs,u ≠ .lst vs)->H' a=some u) (h:t.Ok p H):t.Ok p H':=T.Ok.keep' t k h
theorem T.Ok.same {p:Px} {H H':Hp} {t:T} (s:Same H H') (h:t.Ok p H):t.Ok p H':=h.keep fun a u e _=>s a u e
theorem T.Oks.same {p:Px} {H H':Hp} {ts:List T} (s:Same H H') (h:T.Oks p H ts):T.Oks p H' ts:=T.oks_iff.mpr fun t ht=>(T.oks_iff.mp h t ht).same s
theorem T.Ok.at' {p:Px} {H:Hp} {a:Addr}:∀ (t:T),t.Ok p H->a ∈ t.rest 0->∃ vs,Rd H a (.lst vs):=by
 refine T.ind (P:=fun t=>t.Ok p H->a ∈ t.rest 0->∃ vs,Rd H a (.lst vs)) (fun _ h=>nomatch h) (fun _ _ h=>nomatch h) (fun _ _ h=>nomatch h) (fun _ _ h=>nomatch h) (fun b ts ih k h=>?_) (fun b ts ih k h=>?_) (fun _ _ _ h=>nomatch h)
 ·obtain ⟨t,ht,q⟩:=T.mem_rests.mp h
  exact ih t ht (T.oks_iff.mp k.2 t ht) q
 ·rcases aai.mp h with rfl | h
  ·exact ⟨_,k.1⟩
  ·obtain ⟨t,ht,q⟩:=T.mem_rests.mp h
   exact ih t ht (T.oks_iff.mp k.2 t ht) q
theorem T.Ok.at {p:Px} {H:Hp} {a:Addr} {t:T} (h:t.Ok p H) (m:a ∈ t.rest 0):∃ vs,Rd H a (.lst vs):=T.Ok.at' t h m
theorem S8 {H:Hp} {a:Addr} {u:HO} (h:Rd H a u):H a ≠ none:=by
 rcases h with h | ⟨o,h⟩ <;> rw [h] <;> simp
theorem T.Ok.dom {p:Px} {H:Hp} {a:Addr} {t:T} (h:t.Ok p H) (m:a ∈ t.rest 0):H a ≠ none:=by
 obtain ⟨vs,r⟩:=h.at m
 exact S8 r
theorem T.Ok.domk {p:Px} {H:Hp} {a:Addr} {t:T} {k:Nat} (h:t.Ok p H) (m:a ∈ t.adr k):H a ≠ none:=h.dom ((T.all_iff t k).mpr (.inl m))
end Pu
end
section
namespace Pu
open PySem PySem.Spec PyProof.Rows PySem.W L2
noncomputable def gj (c:Bool) (x:Nat × Nat):Option (Nat × Nat):=if c then some x else none
mutual
noncomputable def jk (tn:List Nat):E->Option (Nat × Nat)
 | .nm i=>match tn[i]? with
  | some j=>gj (decide (j < 90)) (j,0)
  | none=>none
 | .cN=>some (0,9)
 | .cB _=>some (0,9)
 | .cI _=>some (0,9)
 | .cS _=>some (0,9)
 | .gl _ d=>gj (D.scal d) (0,9)
 | .tup es=>jks tn es
 | .lst es=>(jks tn es).bind fun x=>some (if x.1=0 then (0,x.2 + 1) else (x.1 + 1,0))
 | .bin _ a b=>(jk tn a).bind fun x=>(jk tn b).bind fun y=>gj (decide (x.1<=1) && decide (y.1<=1)) (0,1)
 | .neg a=>(jk tn a).bind fun _=>some (0,9)
 | .not a=>(jk tn a).bind fun _=>some (0,9)
 | .cmp _ a b=>(jk tn a).bind fun _=>(jk tn b).bind fun _=>some (0,9)
 | .chain _ _ a b c=>(jk tn a).bind fun _=>(jk tn b).bind fun _=>(jk tn c).bind fun _=>some (0,9)
 | .isN _ a=>(jk tn a).bind fun _=>some (0,9)
 | .bo _ es=>jks tn es
 | .ix a i=>(jk tn a).bind fun x=>(jk tn i).bind fun _=>gj (decide (x.1=0)) (0,0)
 | .ixL a i=>(jk tn a).bind fun x=>(jk tn i).bind fun _=>some (x.1 - 1,0)
 | .slc a lo hi=>(jk tn a).bind fun x=>(jk tn lo).bind fun _=>(jk tn hi).bind fun _=>gj (decide (x.1<=1)) (0,1)
 | .call f es=>(jks tn es).bind fun x=>gj (decide (x.1=0)) (0,f.dep)
 | .callB f es=>(jks tn es).bind fun _=>some (0,9)
 | .bi b es=>(jks tn es).bind fun x=>match b with
  | .list=>gj (decide (x.1=0)) (0,1)
  | _=>some (0,9)
 | .isi a _=>(jk tn a).bind fun _=>some (0,9)
 | .mt _ a es=>(jk tn a).bind fun _=>(jks tn es).bind fun _=>some (0,9)
 | .comp0 nl fr _ it elt=>(jkI tn it).bind fun _=>(jk (aam nl 0 ++ fr.map fun j=>tn.getD j 99) elt).bind fun x=>gj (decide (x.1=0)) (0,x.2 + 1)
 | .comp1 nl fr _ it cond elt=>(jkI tn it).bind fun _=>(jk (aam nl 0 ++ fr.map fun j=>tn.getD j 99) cond).bind fun _ =>
   (jk (aam nl 0 ++ fr.map fun j=>tn.getD j 99) elt).bind fun x=>gj (decide (x.1=0)) (0,x.2 + 1)
noncomputable def jks (tn:List Nat):Es->Option (Nat × Nat)
 | .nil=>some (0,9)
 | .cons e r=>(jk tn e).bind fun x=>(jks tn r).bind fun y=>some (max x.1 y.1,if max x.1 y.1=0 then min x.2 y.2 else 0)
noncomputable def jkI (tn:List Nat):It->Option Nat
 | .seq e=>(jk tn e).bind fun x=>if x.1=0 then some 0 else none
 | .seqL e=>(jk tn e).bind fun x=>if x.1<=1 then some x.1 else none
 | .r1 a=>(jk tn a).bind fun _=>some 0
 | .r2 a b=>(jk tn a).bind fun _=>(jk tn b).bind fun _=>some 0
 | .rv e=>(jk tn e).bind fun x=>if x.1<=1 then some x.1 else none
end
noncomputable abbrev St:=L2.St
noncomputable abbrev Ft:=List (Option T)
noncomputable def vτ (τ:Ft):St:=τ.map (Option.map T.val)
noncomputable def dτ (τ:Ft):Fr:=τ.map (Option.map T.dat)
noncomputable def Fok (p:Px) (tn:List Nat) (τ:Ft) (H:Hp):Prop:=∀ (i:Nat) (t:T) (j:Nat),τ[i]?=some (some t)->tn[i]?=some j->j < 90->t.Ok p H
noncomputable def Sh (tn:List Nat) (τ:Ft) (a:Addr):Prop:=∃ (i:Nat) (t:T) (j:Nat),τ[i]?=some (some t)/\tn[i]?=some j/\j < 90/\a ∈ t.rest j
theorem Fok.same {p:Px} {tn:List Nat} {τ:Ft} {H H':Hp} (h:Fok p tn τ H) (s:Same H H'):Fok p tn τ H':=fun i t j e e' l=>(h i t j e e' l).same s
theorem Fok.dom {p:Px} {tn:List Nat} {τ:Ft} {H:Hp} (h:Fok p tn τ H) {a:Addr} (s:Sh tn τ a):H a ≠ none:=by
 obtain ⟨i,t,j,e,e',l,m⟩:=s
 exact (h i t j e e' l).dom (T.rest_le t (aat j) m)
theorem Eg {τ:Ft} {i:Nat} {t:T} (h:τ[i]?=some (some t)):(vτ τ)[i]?=some (some t.val):=by simp [vτ,h]
theorem E9 {τ:Ft} {i:Nat} {d:D} (h:get (dτ τ) i=.ok d):∃ t,τ[i]?=some (some t)/\t.dat=d:=by
 unfold get dτ at h
 rw [aaq] at h
 cases q:τ[i]? with
 | none=>rw [q] at h; cases h
 | some o =>
  rw [q] at h
  cases o with
  | none=>cases h
  | some t=>exact ⟨t,rfl,by simpa using h⟩
structure Rs (p:Px) (B:Addr->Prop) (H H':Hp) (j k:Nat) (t:T):Prop where
 same:Same H H'
 ok:t.Ok p H'
 src:∀ a ∈ t.rest j,H a=none\/B a
 new:∀ a ∈ t.adr k,H a=none/\∃ vs,H' a=some (.lst vs)
 nd:t.Nd k
structure RsL (p:Px) (B:Addr->Prop) (H H':Hp) (j k:Nat) (ts:List T):Prop where
 same:Same H H'
 ok:T.Oks p H' ts
 src:∀ a ∈ T.rests ts j,H a=none\/B a
 new:∀ a ∈ T.adrs ts k,H a=none/\∃ vs,H' a=some (.lst vs)
 nd:T.Nds ts k
theorem Rs.back {p:Px} {B:Addr->Prop} {H H1 H2:Hp} {j k:Nat} {t:T} (r:Rs p B H1 H2 j k t) (s:Same H H1):Rs p B H H2 j k t :=
 ⟨s.trans r.same,r.ok,fun a m=>(r.src a m).imp s.free id,fun a m=>⟨s.free (r.new a m).1,(r.new a m).2⟩,r.nd⟩
theorem Rs.fwd {p:Px} {B:Addr->Prop} {H H1 H2:Hp} {j k:Nat} {t:T} (r:Rs p B H H1 j k t) (s:Same H1 H2):Rs p B H H2 j k t :=
 ⟨r.same.trans s,r.ok.same s,r.src,fun a m=>⟨(r.new a m).1,let ⟨vs,e⟩:=(r.new a m).2; ⟨vs,s _ _ e⟩⟩,r.nd⟩
theorem Rs.le {p:Px} {B:Addr->Prop} {H H1:Hp} {j k j' k':Nat} {t:T} (r:Rs p B H H1 j k t) (hj:j<=j') (hk:k'<=k):Rs p B H H1 j' k' t :=
 ⟨r.same,r.ok,fun a m=>r.src a (T.rest_le t hj m),fun a m=>r.new a (T.adr_le t hk m),T.nd_le t hk r.nd⟩
theorem RsL.back {p:Px} {B:Addr->Prop} {H H1 H2:Hp} {j k:Nat} {t:List T} (r:RsL p B H1 H2 j k t) (s:Same H H1):RsL p B H H2 j k t :=
 ⟨s.trans r.same,r.ok,fun a m=>(r.src a m).imp s.free id,fun a m=>⟨s.free (r.new a m).1,(r.new a m).2⟩,r.nd⟩
noncomputable def T.sc:T->Bool
 | .non=>true
 | .bl _=>true
 | .int _=>true
 | .str _=>true
 | _=>false
theorem Rs.scal {p:Px} {B:Addr->Prop} {H H':Hp} {j k:Nat} {t:T} (s:Same H H') (h:t.sc=true):Rs p B H H' j k t:=by
 cases t <;> first | exact ⟨s,trivial,by simp [T.rest],by simp [T.adr],by simp [T.Nd,T.adr]⟩ | cases h
noncomputable def Lg {α:Type} (p:Px) (EX:EXT) (σ:St) (r:Res α) (H:Hp) (Kc:α->Prop):Prop:=match r with
 | .ok a=>Kc a
 | .exc c=>p.has c=true->∀ H',Same H H'->EX σ (.ref (p.cl c)) none H'
 | .bad=>False
theorem Lg.bind {α β:Type} {p:Px} {EX:EXT} {σ:St} {r:Res α} {f:α->Res β} {H:Hp} {Kc:β->Prop} (h:Lg p EX σ (r.bind f) H Kc):Lg p EX σ r H fun a=>Lg p EX σ (f a) H Kc:=by
 cases r <;> exact h
theorem Lg.mono {α:Type} {p:Px} {EX:EXT} {σ:St} {r:Res α} {H H1:Hp} {Kc Kc':α->Prop} (h:Lg p EX σ r H Kc) (s:Same H H1) (m:∀ a,r=.ok a->Kc a->Kc' a):Lg p EX σ r H1 Kc':=by
 cases r with
 | ok a=>exact m a rfl h
 | exc c=>exact fun hc H' s'=>h hc H' (s.trans s')
 | bad=>exact h
theorem Lg.guard {α:Type} {p:Px} {EX:EXT} {σ:St} {c:Prop} [Decidable c] {r:Res α} {H:Hp} {Kc:α->Prop} (h:Lg p EX σ (if c then r else .bad) H Kc):c/\Lg p EX σ r H Kc:=by
 split at h
 ·exact ⟨‹_›,h⟩
 ·exact nE h
noncomputable abbrev KE (p:Px) (B:Addr->Prop) (H:Hp) (j k:Nat) (Q:VK):D->Prop:=fun d=>∀ t H',t.dat=d->Rs p B H H' j k t->Q t.val H'
noncomputable abbrev KL (p:Px) (B:Addr->Prop) (H:Hp) (j k:Nat) (Q:List V->Hp->Prop):List D->Prop:=fun ds=>∀ ts H',T.dats ts=ds->RsL p B H H' j k ts->Q (ts.map T.val) H'
noncomputable def lE (p:Px) (EX:EXT) (tn:List Nat) (e:E):TE:=fun σ H Q=>∃ τ,σ=vτ τ/\Fok p tn τ H/\∃ j k,jk tn e=some (j,k)/\Lg p EX σ (ev e (dτ τ)) H (KE p (Sh tn τ) H j k Q)
noncomputable def lEs (p:Px) (EX:EXT) (tn:List Nat) (es:Es):TA:=fun σ H Q=>∃ τ,σ=vτ τ/\Fok p tn τ H/\∃ j k,jks tn es=some (j,k)/\Lg p EX σ (evs es (dτ τ)) H (KL p (Sh tn τ) H j k Q)
noncomputable def lT (p:Px) (EX:EXT) (tn:List Nat) (e:E):TT:=fun σ H Q=>∃ τ,σ=vτ τ/\Fok p tn τ H/\(jk tn e).isSome=true/\Lg p EX σ (tv e (dτ τ)) H fun b=>∀ H',Same H H'->Q b H'
theorem PE.mono {X:Cx} {e:Expr} {t t':TE} (h:PE X e t) (m:∀ σ H Q,t' σ H Q->t σ H Q):PE X e t':=fun pins s σ H Q I q=>h pins s σ H Q I (m _ _ _ q)
theorem PT.mono {X:Cx} {e:Expr} {t t':TT} (h:PT X e t) (m:∀ σ H Q,t' σ H Q->t σ H Q):PT X e t':=fun pins s σ H Q I q=>h pins s σ H Q I (m _ _ _ q)
theorem PA.mono {X:Cx} {e:List Expr} {t t':TA} (h:PA X e t) (m:∀ σ H Q,t' σ H Q->t σ H Q):PA X e t':=fun pos pins s σ H Q I q=>h pos pins s σ H Q I (m _ _ _ q)
section
variable {p:Px} {EX:EXT} {tn:List Nat} {X:Cx} {pos:Pos}
theorem ER {c:Bool} {x:Nat × Nat} {j k:Nat} (h:gj c x=some (j,k)):c=true/\x=(j,k):=by
 unfold gj at h
 split at h
 ·exact ⟨‹_›,Option.some.inj h⟩
 ·cases h
theorem l1 {x:E} {β:Type} {f:D->Res β} {τ:Ft} {H:Hp} {Kc:β->Prop} {Q:VK} {ja ka:Nat} (hF:Fok p tn τ H) (hj:jk tn x=some (ja,ka)) (h:Lg p EX (vτ τ) ((ev x (dτ τ)).bind f) H Kc)
  (m:∀ d t H1,t.dat=d->Rs p (Sh tn τ) H H1 ja ka t->Lg p EX (vτ τ) (f d) H Kc->Q t.val H1):lE p EX tn x (vτ τ) H Q :=
 ⟨τ,rfl,hF,ja,ka,hj,h.bind.mono (Same.refl _) fun d _ hd t H1 ht R=>m d t H1 ht R hd⟩
theorem l2 {x:E} {β:Type} {f:D->Res β} {τ:Ft} {H H1:Hp} {Kc:β->Prop} {Q:VK} {ja ka:Nat} (hF:Fok p tn τ H) (s:Same H H1) (hj:jk tn x=some (ja,ka)) (h:Lg p EX (vτ τ) ((ev x (dτ τ)).bind f) H Kc)
  (m:∀ d t H2,t.dat=d->Rs p (Sh tn τ) H1 H2 ja ka t->Lg p EX (vτ τ) (f d) H Kc->Q t.val H2):lE p EX tn x (vτ τ) H1 Q :=
 ⟨τ,rfl,hF.same s,ja,ka,hj,h.bind.mono s fun d _ hd t H2 ht R=>m d t H2 ht R hd⟩
theorem Vd {i:Nat} {x:Str} (hN:X.N[i]?=some x) (hv:Vis X.env.scope x) (hd:(x==("__debug__" : Str))=false) (hcd:(x==("__classdict__" : Str))=false):PE X (.Name x pos) (lE p EX tn (.nm i)):=by
 refine PE.mono (FZ hN hv hd hcd) fun σ H Q h=>?_
 obtain ⟨τ,rfl,hF,j,k,hj,h⟩:=h
 simp only [jk] at hj
 split at hj
 ·rename_i j' hj'
  obtain ⟨hlt,e⟩:=ER hj
  cases e
  simp only [ev] at h
  cases q:get (dτ τ) i with
  | ok d =>
   rw [q] at h
   obtain ⟨t,ht,e⟩:=E9 q
   exact ⟨t.val,Eg ht,h t H e ⟨Same.refl _,hF i t j ht hj' (of_decide_eq_true hlt),fun a m=>.inr ⟨i,t,j,ht,hj',of_decide_eq_true hlt,m⟩,by rw [T.adr_zero]; simp,T.nd_zero t⟩⟩
  | exc c=>rw [q] at h; unfold get at q; split at q <;> cases q
  | bad=>rw [q] at h; exact h.elim
 ·cases hj
theorem IK {e:Expr} {x:E} {t:T} (hp:PE X e (tC t.val)) (hs:t.sc=true) (he:∀ δ,ev x δ=.ok t.dat):PE X e (lE p EX tn x):=by
 refine PE.mono hp fun σ H Q h=>?_
 obtain ⟨τ,rfl,hF,j,k,hj,h⟩:=h
 rw [he] at h
 exact h t H rfl (Rs.scal (Same.refl _) hs)
theorem S9 {B:Addr->Prop} {H H1 H2:Hp} {j1 k1 j2 k2:Nat} {t:T} {ts:List T} (hB:∀ a,B a->H a ≠ none) (r:Rs p B H H1 j1 k1 t) (q:RsL p B H1 H2 j2 k2 ts):RsL p B H H2 (max j1 j2) (if max j1 j2=0 then min k1 k2 else 0) (t :: ts):=by
 have r2:=r.fwd q.same
 refine ⟨r2.same,⟨r2.ok,q.ok⟩,fun a m=>?_,fun a m=>?_,?_⟩
 ·simp only [T.rests,aag] at m
  rcases m with m | m
  ·exact r.src a (T.rest_le t (Nat.le_max_left ..) m)
  ·obtain ⟨u,hu,m⟩:=T.mem_rests.mp m
   exact (q.src a (T.mem_rests.mpr ⟨u,hu,T.rest_le u (Nat.le_max_right ..) m⟩)).imp r.same.free id
 ·split at m
  ·simp only [T.adrs,aag] at m
   rcases m with m | m
   ·exact r2.new a (T.adr_le t (aa1 ..) m)
   ·obtain ⟨u,hu,m⟩:=T.mem_adrs.mp m
    have z:=q.new a (T.mem_adrs.mpr ⟨u,hu,T.adr_le u (aaQ ..) m⟩)
    exact ⟨r.same.free z.1,z.2⟩
  ·rw [T.adrs_zero] at m; cases m
 ·split
  ·rename_i hz
   have h1:j1=0:=by omega
   have h2:j2=0:=by omega
   subst h1 h2
   refine T.nds_cons.mpr ⟨T.nd_le t (aa1 ..) r.nd,T.nds_le (aaQ ..) q.nd,fun a m m'=>?_,fun a m m'=>?_⟩
   ·have m1:=T.adr_le t (aa1 k1 k2) m
    rcases q.src a m' with z | z
    ·exact r.ok.domk m1 z
    ·exact hB a z (r.new a m1).1
   ·obtain ⟨u,hu,m⟩:=T.mem_adrs.mp m
    exact r.ok.dom m' (q.new a (T.mem_adrs.mpr ⟨u,hu,T.adr_le u (aaQ ..) m⟩)).1
  ·exact T.nds_zero _
theorem Rb:PA X [] (lEs p EX tn .nil):=by
 refine PA.mono DM fun σ H Q h=>?_
 obtain ⟨τ,rfl,hF,j,k,hj,h⟩:=h
 exact h [] H rfl ⟨Same.refl _,trivial,by simp [T.rests],by simp [T.adrs],by simp [T.Nds,T.adrs]⟩
theorem Pm {e:Expr} {es:List Expr} {x:E} {xs:Es} (he:PE X e (lE p EX tn x)) (hes:PA X es (lEs p EX tn xs)) (hs:starEach (e :: es) X.env=(false,eval e X.env) :: starEach es X.env):PA X (e :: es) (lEs p EX tn (.cons x xs)):=by
 refine PA.mono (BE he hes hs) fun σ H Q h=>?_
 obtain ⟨τ,rfl,hF,j,k,hj,h⟩:=h
 simp only [jks] at hj
 obtain ⟨⟨j1,k1⟩,h1,hj⟩:=bS hj
 obtain ⟨⟨j2,k2⟩,h2,hj⟩:=bS hj
 cases hj
 simp only [evs] at h
 refine l1 hF h1 h fun d t H1 ht R h=>?_
 refine ⟨τ,rfl,hF.same R.same,j2,k2,h2,h.bind.mono R.same fun ds _ hd ts H2 hts R2=>?_⟩
 exact hd (t :: ts) H2 (by simp [T.dats,ht,hts]) (S9 (fun a=>hF.dom) R R2)
end
section
variable {p:Px} {EX:EXT} {tn:List Nat} {X:Cx} {pos:Pos}
theorem Ve {B:Addr->Prop} {H H1:Hp} {j k:Nat} {a:Addr} {ts:List T} (r:RsL p B H H1 j k ts) (hn:H1 a=none):Rs p B H (L2.upd H1 a (.tup (ts.map T.val))) j k (.tup a ts):=by
 have s:=Same.new (o:=.tup (ts.map T.val)) hn
 exact ⟨r.same.trans s,⟨Bp,r.ok.same s⟩,r.src,fun b m=>⟨(r.new b m).1,let ⟨vs,e⟩:=(r.new b m).2; ⟨vs,s _ _ e⟩⟩,r.nd⟩
theorem Pn {B:Addr->Prop} {H H1:Hp} {j k:Nat} {a:Addr} {ts:List T} (r:RsL p B H H1 j k ts) (hn:H1 a=none) :
  Rs p B H (L2.upd H1 a (.lst (ts.map T.val))) (if j=0 then 0 else j + 1) (if j=0 then k + 1 else 0) (.lst a ts):=by
 have s:=Same.new (o:=.lst (ts.map T.val)) hn
 have ha:H a=none:=r.same.free hn
 refine ⟨r.same.trans s,⟨.inl Bp,r.ok.same s⟩,fun b m=>?_,fun b m=>?_,?_⟩
 ·split at m
  ·rename_i e
   subst e
   simp only [T.rest,aai] at m
   rcases m with rfl | m
   ·exact .inl ha
   ·exact r.src b m
  ·exact r.src b m
 ·split at m
  ·simp only [T.adr,aai] at m
   rcases m with rfl | m
   ·exact ⟨ha,_,Bp⟩
   ·exact ⟨(r.new b m).1,let ⟨vs,e⟩:=(r.new b m).2; ⟨vs,s _ _ e⟩⟩
  ·rw [T.adr_zero] at m; cases m
 ·split
  ·rename_i e
   subst e
   have out:a ∉ T.rests ts 0:=fun m=>by
    obtain ⟨t,ht,m⟩:=T.mem_rests.mp m
    exact (T.oks_iff.mp r.ok t ht).dom m hn
   refine ⟨?_,fun b m m'=>?_⟩
   ·simp only [T.adr,aaI]
    exact ⟨fun m=>out ((T.alls_iff ts k).mpr (.inl m)),r.nd.1⟩
   ·simp only [T.adr,T.rest,aai] at m m'
    rcases m' with rfl | m'
    ·exact out ((T.alls_iff ts k).mpr (.inr m))
    ·exact r.nd.2 b m m'
  ·exact T.nd_zero _
theorem Aj:∀ ts:List T,(T.dats ts).length=ts.length:=fun ts=>by rw [T.dats_map,aac]
noncomputable def Es.len:Es->Nat
 | .nil=>0
 | .cons _ r=>r.len + 1
theorem B8:∀ (es:Es) (δ:Fr) (ds:List D),evs es δ=.ok ds->ds.length=es.len
 | .nil,δ,ds,h=>by simp only [evs] at h; cases h; rfl
 | .cons e r,δ,ds,h=>by
  simp only [evs] at h
  obtain ⟨x,_,h⟩:=Res.bind_eq_ok h
  obtain ⟨xs,h2,h⟩:=Res.bind_eq_ok h
  cases h
  rw [aaJ,B8 r δ xs h2,Es.len]
theorem Ta {es:List Expr} {xs:Es} {k1:Nat} (h:PA X es (lEs p EX tn xs)) (hl:xs.len<=1000):PE X (.Tuple es k1 pos) (lE p EX tn (.tup xs)):=by
 refine PE.mono (O7 h) fun σ H Q h=>?_
 obtain ⟨τ,rfl,hF,j,k,hj,h⟩:=h
 simp only [ev] at h
 refine ⟨τ,rfl,hF,j,k,hj,h.bind.mono (Same.refl _) fun ds e hd ts H1 hts R=>⟨?_,fun a ha=>hd (.tup a ts) _ (by simp [T.dat,hts]) (Ve R ha)⟩⟩
 have:=B8 _ _ _ e
 rw [aac,<- Aj,hts,this]
 exact aaK hl (by decide)
theorem Tb {es:List Expr} {xs:Es} (h:PA X es (lEs p EX tn xs)) (hl:xs.len<=1000):PE X (.List es pos) (lE p EX tn (.lst xs)):=by
 refine PE.mono (UR h) fun σ H Q h=>?_
 obtain ⟨τ,rfl,hF,j,k,hj,h⟩:=h
 simp only [jk] at hj
 obtain ⟨⟨j1,k1⟩,h1,hj⟩:=bS hj
 simp only [ev] at h
 refine ⟨τ,rfl,hF,j1,k1,h1,h.bind.mono (Same.refl _) fun ds e hd ts H1 hts R=>⟨?_,fun a ha=>hd (.lst a ts) _ (by simp [T.dat,hts]) ?_⟩⟩
 ·have:=B8 _ _ _ e
  rw [aac,<- Aj,hts,this]
  exact aaK hl (by decide)
 ·have q:=Pn R ha
  have hj:=Option.some.inj hj
  by_cases z:j1=0
  ·subst z; simp only [if_true] at q; simp at hj; obtain ⟨rfl,rfl⟩:=hj; exact q
  ·simp only [if_neg z] at q; simp [z] at hj; obtain ⟨rfl,rfl⟩:=hj; exact q
noncomputable def N6:B2->Operator
 | .add=>.Add
 | .sub=>.Sub
 | .mul=>.Mult
 | .fdiv=>.FloorDiv
 | .mod=>.Mod
 | .pow=>.Pow
theorem Inv.lstR {pins:List (Addr × Obj)} {σ:St} {H:Hp} {s:Shared} {l:Addr} {xs:List V} (I:Inv X pins σ H s) (hH:Rd H l (.lst xs)):xs.length<=sizeLine/\∃ (its:List Value) (n:Nat),Vals xs its/\xs.length=its.length/\s.heap.get? l=some { cls:=.type "list",data:=.seq its.toArray n }:=by
 obtain ⟨z,its,n,r,e⟩:=hH.ok I.hok
 exact ⟨z,its,n,r,r.length,e⟩
noncomputable def Sr:R2:=fun x y H Q=>∃ l b xs zs,x=.ref l/\y=.ref b/\Rd H l (.lst xs)/\Rd H b (.lst zs)/\xs.length + zs.length<=sizeLine/\∀ q,H q=none->Q (.ref q) (L2.upd H q (.lst (xs ++ zs)))
theorem Tc:OpR X (binaryOp .Add) Sr:=by
 intro pins s σ H x y v u Q I rx ry h
 obtain ⟨l,b,xs,zs,rfl,rfl,hH,hB,hz,q⟩:=h
 cases rx
 cases ry
 obtain ⟨z,its,n,r,hl,e⟩:=Inv.lstR I hH
 obtain ⟨z2,its2,n2,r2,hl2,e2⟩:=Inv.lstR I hB
 refine PySem.P.add_list e e2 ?_ (by rw [aan,aan]; omega)
 have ea:its.toArray ++ its2.toArray=(its ++ its2).toArray:=by simp
 rw [ea]
 exact ⟨.ref _,_,I.lnew (t':=s.toks) (r.append r2) (by rw [aaE]; omega),rfl,q _ I.fresh⟩
noncomputable def Su:R2:=fun x y H Q=>∃ l k xs,x=.ref l/\y=.int k/\Rd H l (.lst xs)/\-(2 ^ 63)<=k/\k < 2 ^ 63/\xs.length * k.toNat<=sizeLine /\
 ∀ q,H q=none->Q (.ref q) (L2.upd H q (.lst (aam k.toNat xs).flatten))
noncomputable def Sv (_ j:Int):Prop:=0 < j/\j < 2 ^ 200
theorem Rc:OpR X (binaryOp .FloorDiv) (rI Sv fun i j=>.int (i / j)):=opI fun i j _ _ _ _ _ hc q=>by
 have e:i / j=i.fdiv j:=(Int.fdiv_eq_ediv_of_nonneg _ (Int.le_of_lt hc.1)).symm
 rw [e] at q
 refine floordiv_int (by have:=hc.1; omega) q (.inl (PyProof.noPylong_of_log2 ?_))
 have h1:j.natAbs < 2 ^ 200:=by
  have e1:(j.natAbs:Int)=j:=Int.natAbs_of_nonneg (Int.le_of_lt hc.1)
  have e2:(j.natAbs:Int) < ((2 ^ 200:Nat):Int):=by rw [e1]; exact hc.2
  exact acU.mp e2
 have:j.natAbs.log2 < 200:=by
  refine (Nat.log2_lt (by have:=hc.1; omega)).mpr h1
 omega
theorem Td:OpR X (binaryOp .Mult) Su:=by
 intro pins s σ H x y v u Q I rx ry h
 obtain ⟨l,k,xs,rfl,rfl,hH,h1,h2,hz,q⟩:=h
 cases rx
 obtain ⟨t,rfl⟩:=ry
 obtain ⟨z,its,n,r,hl,e⟩:=Inv.lstR I hH
 have hlen:its.toArray.size * k.toNat<=sizeLine:=by rw [aan,<- hl]; exact hz
 have hcap:¬ its.toArray.size * k.toNat > (2 ^ 63 - 1) / 8:=by
  have:(sizeLine:Nat)<=(2 ^ 63 - 1) / 8:=by decide
  omega
 have hfit:¬ (!Builtin.List.listFitsIndex k)=true:=by
  rw [fitsIndex_both h1 h2]
  exact aaU
 have hlong:¬ Builtin.List.listTooLong (its.toArray.size * k.toNat)=true:=by
  rw [Lv hlen]
  exact aaU
 have hnew:ac3 (fun x1 x2=>x1 ++ x2) #[] (aam (if its.toArray.isEmpty=true then 0 else k.toNat) its.toArray)=(aam k.toNat its).flatten.toArray:=by
  have f0:∀ m:Nat,ac3 (fun x1 x2=>x1 ++ x2) #[] (aam m its.toArray)=(aam m its).flatten.toArray:=fun m=>by
   have:=Kp its m []
   rw [aaW] at this
   exact this
  rw [f0]
  cases its with
  | nil=>simp
  | cons a r'=>rw [if_neg (by simp)]
 refine wpAny_binaryOp_repeat_ref (T := "list") (U := "int") (by decide) ⟨_,e,rfl⟩ (fun s'=>typeIs_int s' k t) noFill_list_mul F.fills_int_mul F.slot_int_rmul repeat_list F.slot_int_index.lookup
  (call_meets F.slot_int_rmul (typeIs_int s k t) F.entry_int_rmul (F.args_int_rmul_2 _ _) (int___rmul___int_list k t l its.toArray n)
   ⟨e,rfl,⟨_,e,rfl⟩,call_meets F.slot_list_mul ⟨_,e,rfl⟩ F.entry_list_mul (F.args_list_mul_2 _ _) (AutoListH.list___mul___list_int_3 l its.toArray n k t hfit hcap hlong) ⟨e,?_⟩⟩)
 rw [hnew]
 exact ⟨.ref _,_,I.lnew (t':=s.toks) (r.rep k.toNat) (by rw [SS,abM]; exact hz),rfl,q _ I.fresh⟩
noncomputable def CMulB (i j:Int):Prop:=CMul i j\/(i.natAbs < 2 ^ 400/\j.natAbs < 2 ^ 400)
theorem Nc {k:Int} (h:k.natAbs < 2 ^ 400):Builtin.Int.intBits k<=400:=by
 unfold Builtin.Int.intBits
 split
 ·exact aat _
 ·have:k.natAbs.log2 < 400:=by
   rcases abX k.natAbs with h0 | hp
   ·rw [h0]; decide
   ·exact (Nat.log2_lt (acQ hp)).mpr h
  omega
theorem CMulB.ok {i j:Int} (h:CMulB i j):IntMulOk i j:=by
 rcases h with h | ⟨h1,h2⟩
 ·exact h.ok
 ·have b1:=Nc h1
  have b2:=Nc h2
  have:Builtin.Int.intTooBig (Builtin.Int.intBits i + Builtin.Int.intBits j)=false:=by
   unfold Builtin.Int.intTooBig bitsLine
   exact decide_eq_false (by omega)
  unfold IntMulOk
  rw [this]
  simp
theorem Te:OpR X (binaryOp .Mult) (rI CMulB fun i j=>.int (i * j)):=opI fun _ _ _ _ _ _ _ hc q=>mul_int q hc.ok
noncomputable def Vf:B2->R2
 | .add=>fun x y H Q=>rI0 (fun i j=>.int (i + j)) x y H Q\/(Sr x y H Q\/∃ i j,x=.str i/\y=.str j/\i.length + j.length<=sizeLine/\Q (.str (i ++ j)) H)
 | .sub=>rI0 fun i j=>.int (i - j)
 | .mul=>fun x y H Q=>rI CMulB (fun i j=>.int (i * j)) x y H Q\/Su x y H Q
 | .fdiv=>rI Sv fun i j=>.int (i / j)
 | .mod=>rI (fun _ j=>0 < j) fun i j=>.int (i % j)
 | .pow=>rI UI fun i j=>.int (i ^ j.toNat)
theorem Tf:∀ o:B2,OpR X (binaryOp (N6 o)) (Vf o)
 | .add=>UJ.or (Tc.or NW)
 | .sub=>UK
 | .mul=>Te.or Td
 | .fdiv=>Rc
 | .mod=>UL
 | .pow=>UM
theorem Rs.elems {B:Addr->Prop} {H H1:Hp} {j k:Nat} {a:Addr} {ts:List T} (r:Rs p B H H1 j k (.lst a ts)) (hj:j<=1):∀ b ∈ T.rests ts 0,H b=none\/B b:=fun b m=>by
 refine r.src b (T.rest_le _ hj (j':=1) ?_)
 exact m
theorem GN {B:Addr->Prop} {H H1:Hp} {a:Addr} {ts:List T} (s:Same H H1) (ok:T.Oks p H1 ts) (src:∀ b ∈ T.rests ts 0,H b=none\/B b) (hn:H1 a=none):Rs p B H (L2.upd H1 a (.lst (ts.map T.val))) 0 1 (.lst a ts):=by
 have:=Pn (j:=0) (k:=0) (p:=p) (B:=B) (H:=H) (a:=a) (ts:=ts) ⟨s,ok,src,by rw [T.adrs_zero]; simp,T.nds_zero ts⟩ hn
 exact this
theorem Nf {t:T} {f:Int->Res D} {Q:Res D->Prop} (hb:¬ Q .bad) (h:Q (Ed t.dat f)):∃ i,t=.int i/\Q (f i):=by
 cases t with
 | int i=>exact ⟨i,rfl,h⟩
 | _=>exact absurd h hb
theorem Cp {t u:T} {f:Int->Int->Res D} {Q:Res D->Prop} (hb:¬ Q .bad) (h:Q (BS t.dat u.dat f)):∃ i j,t=.int i/\u=.int j/\Q (f i j):=by
 obtain ⟨i,rfl,h⟩:=Nf (t:=t) hb h
 obtain ⟨j,rfl,h⟩:=Nf (t:=u) hb h
 exact ⟨i,j,rfl,rfl,h⟩
theorem Th {t u:T} {Q:Res D->Prop} (hb:¬ Q .bad) (h:Q (N5 t.dat u.dat)):(∃ i j,t=.int i/\u=.int j/\Q (.ok (.int (i + j))))\/(∃ x y,t=.str x/\u=.str y/\Q (N5 (.str x) (.str y)))\/∃ a ts b us,t=.lst a ts/\u=.lst b us/\Q (N5 (.lst (T.dats ts)) (.lst (T.dats us))):=by
 cases t with
 | int i =>
  cases u with
  | int j=>exact .inl ⟨i,j,rfl,rfl,h⟩
  | _=>exact absurd h hb
 | str x =>
  cases u with
  | str y=>exact .inr (.inl ⟨x,y,rfl,rfl,h⟩)
  | _=>exact absurd h hb
 | lst a ts =>
  cases u with
  | lst b us=>exact .inr (.inr ⟨a,ts,b,us,rfl,rfl,h⟩)
  | _=>exact absurd h hb
 | _=>exact absurd h hb
theorem Ti {t u:T} {Q:Res D->Prop} (hb:¬ Q .bad) (h:Q (LF t.dat u.dat)):(∃ i j,t=.int i/\u=.int j/\Q (LF (.int i) (.int j)))\/∃ a ts k,t=.lst a ts/\u=.int k/\Q (LF (.lst (T.dats ts)) (.int k)):=by
 cases t with
 | int i =>
  cases u with
  | int j=>exact .inl ⟨i,j,rfl,rfl,h⟩
  | _=>exact absurd h hb
 | lst a ts =>
  cases u with
  | int k=>exact .inr ⟨a,ts,k,rfl,rfl,h⟩
  | _=>exact absurd h hb
 | _=>exact absurd h hb
theorem Ws {B:Addr->Prop} {H H2:Hp} {ja jb ka kb:Nat} {t u:T} {o:B2} {σ:St} {Q:VK} (r:Rs p B H H2 ja ka t) (r':Rs p B H H2 jb kb u) (ha:ja<=1) (hb:jb<=1) (h:Lg p EX σ (b2 o t.dat u.dat) H (KE p B H 0 1 Q)):Vf o t.val u.val H2 Q:=by
 have sc:∀ w:T,w.sc=true->Rs p B H H2 0 1 w:=fun w hw=>Rs.scal r.same hw
 cases o with
 | add =>
  rcases Th (Q:=fun r=>Lg p EX σ r H _) id h with ⟨i,j,rfl,rfl,h⟩ | ⟨x,y,rfl,rfl,h⟩ | ⟨a,ts,b,us,rfl,rfl,h⟩
  ·exact .inl ⟨_,_,rfl,rfl,h (.int _) H2 rfl (sc _ rfl)⟩
  ·obtain ⟨hl,h⟩:=h.guard
   exact .inr (.inr ⟨_,_,rfl,rfl,hl,h (.str _) H2 rfl (sc _ rfl)⟩)
  ·skip
   obtain ⟨hl,h⟩:=h.guard
   ·refine .inr (.inl ⟨a,b,_,_,rfl,rfl,r.ok.1,r'.ok.1,?_,fun q hq=>?_⟩)
    ·rw [aac,aac,<- Aj,<- Aj]; exact hl
    ·rw [<- aao]
     refine h (.lst q (ts ++ us)) _ (by simp [T.dat,T.dats_map]) (GN r.same (T.oks_iff.mpr fun w hw=>?_) (fun c m=>?_) hq)
     ·rcases aag.mp hw with hw | hw
      ·exact T.oks_iff.mp r.ok.2 w hw
      ·exact T.oks_iff.mp r'.ok.2 w hw
     ·rw [T.rests_append,aag] at m
      rcases m with m | m
      ·exact r.elems ha c m
      ·exact r'.elems hb c m
 | sub =>
  obtain ⟨i,j,rfl,rfl,h⟩:=Cp (Q:=fun r=>Lg p EX σ r H _) id h
  exact ⟨_,_,rfl,rfl,h (.int _) H2 rfl (sc _ rfl)⟩
 | mul =>
  rcases Ti (Q:=fun r=>Lg p EX σ r H _) id h with ⟨i,j,rfl,rfl,h⟩ | ⟨a,ts,k,rfl,rfl,h⟩
  ·by_cases c:(-(2 ^ 64) < i/\i < 2 ^ 64)\/(-(2 ^ 64) < j/\j < 2 ^ 64)
   ·have h:Lg p EX σ (if (-(2 ^ 64) < i/\i < 2 ^ 64)\/(-(2 ^ 64) < j/\j < 2 ^ 64) then Res.ok (D.int (i * j)) else if i.natAbs < 2 ^ 400/\j.natAbs < 2 ^ 400 then .ok (.int (i * j)) else .bad) H _:=h
    rw [if_pos c] at h
    exact .inl ⟨_,_,rfl,rfl,.inl c,h (.int _) H2 rfl (sc _ rfl)⟩
   ·have h:Lg p EX σ (if (-(2 ^ 64) < i/\i < 2 ^ 64)\/(-(2 ^ 64) < j/\j < 2 ^ 64) then Res.ok (D.int (i * j)) else if i.natAbs < 2 ^ 400/\j.natAbs < 2 ^ 400 then .ok (.int (i * j)) else .bad) H _:=h
    rw [if_neg c] at h
    obtain ⟨hl,h⟩:=h.guard
    exact .inl ⟨_,_,rfl,rfl,.inr hl,h (.int _) H2 rfl (sc _ rfl)⟩
  ·skip
   obtain ⟨⟨h1,h2,h3⟩,h⟩:=h.guard
   ·refine .inr ⟨a,k,_,rfl,rfl,r.ok.1,h1,h2,?_,fun q hq=>?_⟩
    ·rw [aac,<- Aj]; exact h3
    ·have e:(aam k.toNat (ts.map T.val)).flatten=(aam k.toNat ts).flatten.map T.val:=by
      rw [List.map_flatten,abe]
     rw [e]
     refine h (.lst q (aam k.toNat ts).flatten) _ ?_ (GN r.same (T.oks_iff.mpr fun w hw=>?_) (fun c m=>?_) hq)
     ·rw [T.dat,T.dats_map,T.dats_map,List.map_flatten,abe]
     ·obtain ⟨l,hl,hw⟩:=List.mem_flatten.mp hw
      rw [(abY.mp hl).2] at hw
      exact T.oks_iff.mp r.ok.2 w hw
     ·obtain ⟨w,hw,m⟩:=T.mem_rests.mp m
      obtain ⟨l,hl,hw⟩:=List.mem_flatten.mp hw
      rw [(abY.mp hl).2] at hw
      exact r.elems ha c (T.mem_rests.mpr ⟨w,hw,m⟩)
 | fdiv =>
  obtain ⟨i,j,rfl,rfl,h⟩:=Cp (Q:=fun r=>Lg p EX σ r H _) id h
  obtain ⟨hl,h⟩:=h.guard
  exact ⟨_,_,rfl,rfl,hl,h (.int _) H2 rfl (sc _ rfl)⟩
 | mod =>
  obtain ⟨i,j,rfl,rfl,h⟩:=Cp (Q:=fun r=>Lg p EX σ r H _) id h
  obtain ⟨hl,h⟩:=h.guard
  exact ⟨_,_,rfl,rfl,hl,h (.int _) H2 rfl (sc _ rfl)⟩
 | pow =>
  obtain ⟨i,j,rfl,rfl,h⟩:=Cp (Q:=fun r=>Lg p EX σ r H _) id h
  obtain ⟨hl,h⟩:=h.guard
  exact ⟨_,_,rfl,rfl,hl,h (.int _) H2 rfl (sc _ rfl)⟩
theorem Tj {a b:Expr} {x y:E} {o:B2} (ha:PE X a (lE p EX tn x)) (hb:PE X b (lE p EX tn y)):PE X (.BinOp a (N6 o) b pos) (lE p EX tn (.bin o x y)):=by
 refine PE.mono (Wd (Tf o) ha hb) fun σ H Q h=>?_
 obtain ⟨τ,rfl,hF,j,k,hj,h⟩:=h
 simp only [jk] at hj
 obtain ⟨⟨j1,k1⟩,h1,hj⟩:=bS hj
 obtain ⟨⟨j2,k2⟩,h2,hj⟩:=bS hj
 obtain ⟨hc,e⟩:=ER hj
 cases e
 simp only [aah,decide_eq_true_eq] at hc
 simp only [ev] at h
 refine l1 hF h1 h fun d t H1 ht R h=>l2 hF R.same h2 h fun d' t' H2 ht' R' h=>?_
 subst ht ht'
 exact Ws (R.fwd R'.same) (R'.back R.same) hc.1 hc.2 h
end
mutual
noncomputable def D.py:D->PyData
 | .non=>.none
 | .bl b=>.bool b
 | .int i=>.int i
 | .str x=>.str x
 | .tup ds=>.tuple (D.pys ds)
 | .lst ds=>.list (D.pys ds)
 | .exn _=>.none
noncomputable def D.pys:List D->List PyData
 | []=>[]
 | d :: r=>d.py :: D.pys r
end
theorem D.ind {P:D->Prop} (h0:P .non) (h1:∀ b,P (.bl b)) (h2:∀ i,P (.int i)) (h3:∀ x,P (.str x)) (h4:∀ ts,(∀ t ∈ ts,P t)->P (.tup ts)) (h5:∀ ts,(∀ t ∈ ts,P t)->P (.lst ts)) (h6:∀ c,P (.exn c)):∀ t,P t
 | .non=>h0
 | .bl b=>h1 b
 | .int i=>h2 i
 | .str x=>h3 x
 | .tup ts=>h4 ts fun t h=>D.ind h0 h1 h2 h3 h4 h5 h6 t
 | .lst ts=>h5 ts fun t h=>D.ind h0 h1 h2 h3 h4 h5 h6 t
 | .exn c=>h6 c
termination_by t=>t
theorem BF {n c:Nat}:D.shp n (.exn c)=false:=by cases n <;> rfl
theorem Fa {n:Nat} {ds:List D} (h:D.shp n (.tup ds)=true):∃ m,n=m + 1/\∀ d ∈ ds,D.shp m d=true:=by
 cases n with
 | zero=>cases h
 | succ m=>exact ⟨m,rfl,by simpa [D.shp] using h⟩
theorem Fb {n:Nat} {ds:List D} (h:D.shp n (.lst ds)=true):∃ m,n=m + 1/\∀ d ∈ ds,D.shp m d=true:=by
 cases n with
 | zero=>cases h
 | succ m=>exact ⟨m,rfl,by simpa [D.shp] using h⟩
theorem LH:∀ (d e:D) (n m:Nat),d.shp n=true->e.shp m=true->d.eqv e=d.py.eqv e.py:=by
 have lists:∀ (ds:List D),(∀ d ∈ ds,∀ (e:D) (n m:Nat),d.shp n=true->e.shp m=true->d.eqv e=d.py.eqv e.py)->∀ (es:List D) (n m:Nat),(∀ d ∈ ds,d.shp n=true)->(∀ e ∈ es,e.shp m=true)->D.eqvs ds es=PyData.eqvAll (D.pys ds) (D.pys es):=by
  intro ds
  induction ds with
  | nil=>intro _ es n m _ _; cases es <;> simp [D.eqvs,D.pys,PyData.eqvAll]
  | cons d r ih =>
   intro h es n m h1 h2
   cases es with
   | nil=>simp [D.eqvs,D.pys,PyData.eqvAll]
   | cons e s =>
    simp only [D.eqvs,D.pys,PyData.eqvAll]
    rw [h d (aab ..) e n m (h1 d (aab ..)) (h2 e (aab ..)),ih (fun x hx=>h x (aaa _ hx)) s n m (fun x hx=>h1 x (aaa _ hx)) (fun x hx=>h2 x (aaa _ hx))]
 refine D.ind ?_ ?_ ?_ ?_ ?_ ?_ ?_
 ·intro e n m _ h; cases e <;> simp [D.eqv,D.py,PyData.eqv,BF] at h ⊢
 ·intro b e n m _ h; cases e <;> simp [D.eqv,D.py,PyData.eqv,BF] at h ⊢
 ·intro b e n m _ h; cases e <;> simp [D.eqv,D.py,PyData.eqv,BF] at h ⊢
 ·intro b e n m _ h; cases e <;> simp [D.eqv,D.py,PyData.eqv,BF] at h ⊢
 ·intro ds ih e n m h1 h2
  cases e with
  | tup es =>
   obtain ⟨n',_,h1⟩:=Fa h1
   obtain ⟨m',_,h2⟩:=Fa h2
   simp only [D.eqv,D.py,PyData.eqv]
   exact lists ds ih es n' m' h1 h2
  | exn c=>rw [BF] at h2; cases h2
  | _=>simp [D.eqv,D.py,PyData.eqv]
 ·intro ds ih e n m h1 h2
  cases e with
  | lst es =>
   obtain ⟨n',_,h1⟩:=Fb h1
   obtain ⟨m',_,h2⟩:=Fb h2
   simp only [D.eqv,D.py,PyData.eqv]
   exact lists ds ih es n' m' h1 h2
  | exn c=>rw [BF] at h2; cases h2
  | _=>simp [D.eqv,D.py,PyData.eqv]
 ·intro c e n m h; rw [BF] at h; cases h
theorem JG:∀ (d:D) (n:Nat),d.shp n=true->d.py.canLay0=true/\d.py.depth<=n:=by
 have lists:∀ (ds:List D),(∀ d ∈ ds,∀ (n:Nat),d.shp n=true->d.py.canLay0=true/\d.py.depth<=n)->∀ n,(∀ d ∈ ds,d.shp n=true)->PyData.canLayAll0 (D.pys ds)=true/\PyData.depthAll (D.pys ds)<=n:=by
  intro ds
  induction ds with
  | nil=>intro _ n _; simp [D.pys,PyData.canLayAll0,PyData.depthAll]
  | cons d r ih =>
   intro h n h1
   obtain ⟨a1,a2⟩:=h d (aab ..) n (h1 d (aab ..))
   obtain ⟨b1,b2⟩:=ih (fun x hx=>h x (aaa _ hx)) n (fun x hx=>h1 x (aaa _ hx))
   simp only [D.pys,PyData.canLayAll0,PyData.depthAll,a1,b1,acJ,true_and]
   omega
 refine D.ind ?_ ?_ ?_ ?_ ?_ ?_ ?_
 ·intro n h; simp [D.py,PyData.canLay0,PyData.depth]
 ·intro b n h; simp [D.py,PyData.canLay0,PyData.depth]
 ·intro b n h; simp [D.py,PyData.canLay0,PyData.depth]
 ·intro x n h
  simp only [D.py,PyData.canLay0,PyData.depth,aat,and_true]
  cases n <;> exact h
 ·intro ds ih n h
  obtain ⟨m,rfl,h'⟩:=Fa h
  have:=lists ds ih m h'
  simp only [D.py,PyData.canLay0,PyData.depth]
  exact ⟨this.1,by omega⟩
 ·intro ds ih n h
  obtain ⟨m,rfl,h'⟩:=Fb h
  have:=lists ds ih m h'
  simp only [D.py,PyData.canLay0,PyData.depth]
  exact ⟨this.1,by omega⟩
 ·intro c n h; rw [BF] at h; cases h
theorem FG {d:D} (h:d.shp 8=true):SeqAt.shaped d.py=true:=by
 obtain ⟨h1,h2⟩:=JG d 8 h
 unfold SeqAt.shaped
 rw [h1,abA]
 exact decide_eq_true (by omega)
theorem Hj {p:Px} {H:Hp}:∀ (t:T) (n:Nat),t.Ok p H->t.dat.shp n=true->RD p.K H t.val t.dat.py:=by
 have lists:∀ (ts:List T),(∀ t ∈ ts,∀ n,t.Ok p H->t.dat.shp n=true->RD p.K H t.val t.dat.py)->∀ n,T.Oks p H ts->(∀ d ∈ T.dats ts,d.shp n=true)->RDs p.K H (ts.map T.val) (D.pys (T.dats ts)):=by
  intro ts
  induction ts with
  | nil=>intro _ _ _ _; exact .nil
  | cons t r ih =>
   intro h n ok hs
   exact .cons (h t (aab ..) n ok.1 (hs _ (by simp [T.dats]))) (ih (fun u hu=>h u (aaa _ hu)) n ok.2 (fun d hd=>hs d (by simp [T.dats,hd])))
 refine T.ind (fun _ _ _=>.non) (fun b _ _ _=>.bl b) (fun i _ _ _=>.int i) (fun x _ _ _=>.str x) (fun a ts ih n ok h=>?_) (fun a ts ih n ok h=>?_) (fun a c n ok h=>?_)
 ·obtain ⟨m,rfl,h'⟩:=Fa h
  exact .tup (SqT.of ok.1) (lists ts ih m ok.2 h')
 ·obtain ⟨m,rfl,h'⟩:=Fb h
  exact .lst (.inl ok.1) (lists ts ih m ok.2 h')
 ·rw [T.dat,BF] at h; cases h
theorem IL {H:Hp} {a:Addr} {xs ys:List V} (h:Rd H a (.lst xs)) (h':Rd H a (.lst ys)):xs=ys:=by
 rcases h with h | ⟨o,h⟩ <;> rcases h' with h' | ⟨o',h'⟩ <;> rw [h] at h' <;> cases h' <;> rfl
theorem T.det {p:Px} {H:Hp}:∀ (t u:T) (n m:Nat),t.Ok p H->u.Ok p H->t.dat.shp n=true->u.dat.shp m=true->t.val=u.val->t.dat=u.dat:=by
 have lists:∀ (ts:List T),(∀ t ∈ ts,∀ (u:T) (n m:Nat),t.Ok p H->u.Ok p H->t.dat.shp n=true->u.dat.shp m=true->t.val=u.val->t.dat=u.dat)->∀ (us:List T) (n m:Nat),T.Oks p H ts->T.Oks p H us ->
   (∀ d ∈ T.dats ts,d.shp n=true)->(∀ d ∈ T.dats us,d.shp m=true)->ts.map T.val=us.map T.val->T.dats ts=T.dats us:=by
  intro ts
  induction ts with
  | nil=>intro _ us n m _ _ _ _ e; cases us with | nil=>rfl | cons u r=>simp at e
  | cons t r ih =>
   intro h us n m o1 o2 s1 s2 e
   cases us with
   | nil=>simp at e
   | cons u q =>
    simp only [aax,List.cons.injEq] at e
    simp only [T.dats,List.cons.injEq]
    exact ⟨h t (aab ..) u n m o1.1 o2.1 (s1 _ (by simp [T.dats])) (s2 _ (by simp [T.dats])) e.1,ih (fun x hx=>h x (aaa _ hx)) q n m o1.2 o2.2 (fun d hd=>s1 d (by simp [T.dats,hd])) (fun d hd=>s2 d (by simp [T.dats,hd])) e.2⟩
 refine T.ind ?_ ?_ ?_ ?_ ?_ ?_ ?_
 ·intro u n m _ _ _ _ e; cases u <;> first | rfl | cases e
 ·intro b u n m _ _ _ _ e; cases u <;> first | (cases e; rfl) | cases e
 ·intro b u n m _ _ _ _ e; cases u <;> first | (cases e; rfl) | cases e
 ·intro b u n m _ _ _ _ e; cases u <;> first | (cases e; rfl) | cases e
 ·intro a ts ih u n m o1 o2 s1 s2 e
  cases u with
  | tup b us =>
   cases e
   obtain ⟨n',_,s1⟩:=Fa s1
   obtain ⟨m',_,s2⟩:=Fa s2
   have q:=o1.1.symm.trans o2.1
   simp only [Option.some.injEq,HO.tup.injEq] at q
   simp only [T.dat,lists ts ih us n' m' o1.2 o2.2 s1 s2 q]
  | lst b us =>
   cases e
   have h1:=o1.1
   rcases o2.1 with h | ⟨_,h⟩ <;> rw [h] at h1 <;> cases h1
  | exn b c=>rw [T.dat,BF] at s2; cases s2
  | _=>cases e
 ·intro a ts ih u n m o1 o2 s1 s2 e
  cases u with
  | tup b us =>
   cases e
   have h1:=o2.1
   rcases o1.1 with h | ⟨_,h⟩ <;> rw [h] at h1 <;> cases h1
  | lst b us =>
   cases e
   obtain ⟨n',_,s1⟩:=Fb s1
   obtain ⟨m',_,s2⟩:=Fb s2
   have q:=IL o1.1 o2.1
   simp only [T.dat,lists ts ih us n' m' o1.2 o2.2 s1 s2 q]
  | exn b c=>rw [T.dat,BF] at s2; cases s2
  | _=>cases e
 ·intro a c u n m _ _ h; rw [T.dat,BF] at h; cases h
section
variable {p:Px} {EX:EXT} {tn:List Nat} {X:Cx} {pos:Pos}
theorem Hk (hK:X.K=p.K) {pins:List (Addr × Obj)} {σ:St} {H:Hp} {s:Shared} {A:Around} (I:Inv X pins σ H s) {t u:T} {x y:Value} (hu:A.units + 60 < cLine) (o1:t.Ok p H) (o2:u.Ok p H) (s1:t.dat.shp 8=true) (s2:u.dat.shp 8=true) (r1:RelV t.val x) (r2:RelV u.val y) :
  SeqAt.EqAt A s x y (t.dat.eqv u.dat):=by
 intro prog w E Q hQ
 obtain ⟨as,q1⟩:=RD.reads (X:=X) I (hK ▸ Hj t 8 o1 s1) r1
 obtain ⟨bs,q2⟩:=RD.reads (X:=X) I (hK ▸ Hj u 8 o2 s2) r2
 obtain ⟨c1,d1⟩:=JG _ 8 s1
 obtain ⟨c2,d2⟩:=JG _ 8 s2
 refine PySem.SeqAt.eqBoolOverData prog w A E s x y _ _ as bs Q q1 q2 c1 c2 (by omega) ?_
 rw [<- LH _ _ 8 8 s1 s2]
 exact hQ
noncomputable def eqS (us:List T) (t:T) (y:Value):Bool:=@decide (∃ u ∈ us,RelV u.val y/\u.dat.eqv t.dat=true) (Classical.propDecidable _)
theorem GO {H:Hp} {us:List T} {t u:T} {y:Value} (ok:T.Oks p H us) (sh:∀ w ∈ us,w.dat.shp 8=true) (hu:u ∈ us) (r:RelV u.val y):eqS us t y=u.dat.eqv t.dat:=by
 unfold eqS
 cases e:u.dat.eqv t.dat with
 | true=>exact @decide_eq_true _ (Classical.propDecidable _) ⟨u,hu,r,e⟩
 | false =>
  refine @decide_eq_false _ (Classical.propDecidable _) ?_
  rintro ⟨w,hw,r',e'⟩
  rw [T.det w u 8 8 (T.oks_iff.mp ok w hw) (T.oks_iff.mp ok u hu) (sh w hw) (sh u hu) (RelV.inj r' r)] at e'
  rw [e] at e'; cases e'
theorem F8 {H:Hp} {us:List T} {t:T} (ok:T.Oks p H us) (sh:∀ w ∈ us,w.dat.shp 8=true):∀ (ws:List T) (ys:List Value),(∀ w ∈ ws,w ∈ us)->Vals (ws.map T.val) ys->ys.any (eqS us t)=ws.any fun w=>w.dat.eqv t.dat
 | [],_,_,.nil=>rfl
 | w :: ws,_,h,.cons r q=>by
  rw [acK,acK,GO ok sh (h w (aab ..)) r,F8 ok sh ws _ (fun x hx=>h x (aaa _ hx)) q]
theorem Fh:∀ {ws:List T} {ys:List Value} {y:Value},Vals (ws.map T.val) ys->y ∈ ys->∃ w ∈ ws,RelV w.val y
 | [],_,y,.nil,h=>nomatch h
 | w :: ws,_,y,.cons r q,h=>by
  rcases aai.mp h with rfl | h
  ·exact ⟨w,aab ..,r⟩
  ·obtain ⟨w',hw,r'⟩:=Fh q h
   exact ⟨w',aaa _ hw,r'⟩
noncomputable def N7 (p:Px) (neg:Bool):R2:=fun x y H Q=>∃ (t:T) (a:Addr) (us:List T),x=t.val/\y=.ref a/\(Rd H a (.lst (us.map T.val))\/H a=some (.tup (us.map T.val)))/\T.Oks p H us/\t.Ok p H/\t.dat.shp 8=true/\(∀ w ∈ us,w.dat.shp 8=true) /\
 Q (.bl (if neg then !(us.any fun w=>w.dat.eqv t.dat) else us.any fun w=>w.dat.eqv t.dat)) H
theorem Vg (hK:X.K=p.K) (hu:X.A.units + 64 < cLine):OpR X (compareOp .In) (N7 p false):=by
 intro pins s σ H x y v u Q I rx ry h
 obtain ⟨t,a,us,rfl,rfl,hq,ok,o1,s1,s2,q⟩:=h
 cases ry
 rcases hq with hq | hq
 ·obtain ⟨its,r,pl,hz⟩:=I.list (.inl hq)
  refine SeqAt.in_listAt (eqS us t) pl.isList (fun w hw=>?_) ⟨.bl _,H,I,rfl,?_⟩
  ·obtain ⟨w',hw',r'⟩:=Fh r (by simpa using hw)
   rw [GO ok s2 hw' r']
   exact Hk hK I (by show X.A.units + 1 + 60 < cLine; omega) (T.oks_iff.mp ok w' hw') o1 (s2 w' hw') s1 r' rx
  ·rw [show its.toArray.any (eqS us t)=its.any (eqS us t) by simp,F8 ok s2 us its (fun _ h=>h) r]
   exact q
 ·obtain ⟨its,r,pl,hz⟩:=I.tuple (SqT.of hq)
  refine SeqAt.in_tupleAt (eqS us t) pl (fun w hw=>?_) ⟨.bl _,H,I,rfl,?_⟩
  ·obtain ⟨w',hw',r'⟩:=Fh r (by simpa using hw)
   rw [GO ok s2 hw' r']
   exact Hk hK I (by show X.A.units + 1 + 60 < cLine; omega) (T.oks_iff.mp ok w' hw') o1 (s2 w' hw') s1 r' rx
  ·rw [show its.toArray.any (eqS us t)=its.any (eqS us t) by simp,F8 ok s2 us its (fun _ h=>h) r]
   exact q
theorem Po (hK:X.K=p.K) (hu:X.A.units + 64 < cLine):OpR X (compareOp .NotIn) (N7 p true):=by
 intro pins s σ H x y v u Q I rx ry h
 obtain ⟨t,a,us,rfl,rfl,hq,ok,o1,s1,s2,q⟩:=h
 cases ry
 rcases hq with hq | hq
 ·obtain ⟨its,r,pl,hz⟩:=I.list (.inl hq)
  refine SeqAt.notIn_listAt (eqS us t) pl.isList (fun w hw=>?_) ⟨.bl _,H,I,rfl,?_⟩
  ·obtain ⟨w',hw',r'⟩:=Fh r (by simpa using hw)
   rw [GO ok s2 hw' r']
   exact Hk hK I (by show X.A.units + 1 + 60 < cLine; omega) (T.oks_iff.mp ok w' hw') o1 (s2 w' hw') s1 r' rx
  ·rw [show its.toArray.any (eqS us t)=its.any (eqS us t) by simp,F8 ok s2 us its (fun _ h=>h) r]
   exact q
 ·obtain ⟨its,r,pl,hz⟩:=I.tuple (SqT.of hq)
  refine SeqAt.notIn_tupleAt (eqS us t) pl (fun w hw=>?_) ⟨.bl _,H,I,rfl,?_⟩
  ·obtain ⟨w',hw',r'⟩:=Fh r (by simpa using hw)
   rw [GO ok s2 hw' r']
   exact Hk hK I (by show X.A.units + 1 + 60 < cLine; omega) (T.oks_iff.mp ok w' hw') o1 (s2 w' hw') s1 r' rx
  ·rw [show its.toArray.any (eqS us t)=its.any (eqS us t) by simp,F8 ok s2 us its (fun _ h=>h) r]
   exact q
end
section
variable {p:Px} {EX:EXT} {tn:List Nat} {X:Cx} {pos:Pos}
noncomputable def Bt:C2->CmpOp
 | .lt=>.Lt
 | .le=>.LtE
 | .gt=>.Gt
 | .ge=>.GtE
 | .eq=>.Eq
 | .ne=>.NotEq
 | .inn=>.In
 | .nin=>.NotIn
noncomputable def Vh (p:Px) (neg:Bool):R2:=fun x y H Q=>∃ t u:T,x=t.val/\y=u.val/\t.Ok p H/\u.Ok p H/\t.dat.shp 8=true/\u.dat.shp 8=true/\Q (.bl (if neg then !t.dat.eqv u.dat else t.dat.eqv u.dat)) H
noncomputable def LJ (p:Px):C2->R2
 | .lt=>rI0 fun i j=>.bl (decide (i < j))
 | .le=>rI0 fun i j=>.bl (decide (i<=j))
 | .gt=>rI0 fun i j=>.bl (decide (j < i))
 | .ge=>rI0 fun i j=>.bl (decide (j<=i))
 | .eq=>Vh p false
 | .ne=>Vh p true
 | .inn=>N7 p false
 | .nin=>N7 p true
theorem Fc (hK:X.K=p.K) (hu:X.A.units + 64 < cLine):∀ o:C2,OpR X (compareOp (Bt o)) (LJ p o)
 | .lt=>Wf
 | .le=>Wg
 | .gt=>Wh
 | .ge=>Wi
 | .eq=>by
  intro pins s σ H x y v u Q I rx ry h
  obtain ⟨t,w,rfl,rfl,o1,o2,s1,s2,q⟩:=h
  refine U3 hu pins s σ H _ _ v u Q I rx ry ⟨_,_,hK ▸ Hj t 8 o1 s1,hK ▸ Hj w 8 o2 s2,FG s1,FG s2,?_⟩
  rw [<- LH _ _ 8 8 s1 s2]; exact q
 | .ne=>by
  intro pins s σ H x y v u Q I rx ry h
  obtain ⟨t,w,rfl,rfl,o1,o2,s1,s2,q⟩:=h
  refine U4 hu pins s σ H _ _ v u Q I rx ry ⟨_,_,hK ▸ Hj t 8 o1 s1,hK ▸ Hj w 8 o2 s2,FG s1,FG s2,?_⟩
  rw [<- LH _ _ 8 8 s1 s2]; exact q
 | .inn=>Vg hK hu
 | .nin=>Po hK hu
theorem LK {t:T}:∀ us:List T,((T.dats us).any fun y=>D.eqv y t.dat)=us.any fun w=>w.dat.eqv t.dat
 | []=>rfl
 | u :: r=>by simp [T.dats,LK r]
theorem Gr {f:D->Bool}:∀ {us:List T},(T.dats us).all f=true->∀ w ∈ us,f w.dat=true
 | [],_,w,h=>nomatch h
 | u :: r,h,w,hw=>by
  simp only [T.dats,aaG,aah] at h
  rcases aai.mp hw with rfl | hw
  ·exact h.1
  ·exact Gr h.2 w hw
theorem Lb {β:Type} {t:T} {us:List T} {σ:St} {H:Hp} {f:Bool->Res β} {Kc:β->Prop} (h:Lg p EX σ ((inD t.dat (T.dats us)).bind f) H Kc):t.dat.shp 8=true/\(∀ w ∈ us,w.dat.shp 8=true)/\Lg p EX σ (f (us.any fun w=>w.dat.eqv t.dat)) H Kc:=by
 have h:=h.bind
 unfold inD at h
 obtain ⟨hc,h⟩:=h.guard
 rw [aah] at hc
 rw [LK] at h
 exact ⟨hc.1,fun w hw=>Gr hc.2 w hw,h⟩
theorem N8 {B:Addr->Prop} {H H2:Hp} {ja jb ka kb:Nat} {t u:T} {o:C2} {σ:St} {Kc:D->Prop} {Q:VK} (r:Rs p B H H2 ja ka t) (r':Rs p B H H2 jb kb u) (h:Lg p EX σ (c2 o t.dat u.dat) H Kc) (hQ:∀ b,Kc (.bl b)->Q (.bl b) H2):LJ p o t.val u.val H2 Q:=by
 cases o with
 | lt =>
  obtain ⟨i,j,rfl,rfl,h⟩:=Cp (Q:=fun r=>Lg p EX σ r H Kc) id h
  exact ⟨_,_,rfl,rfl,hQ _ h⟩
 | le =>
  obtain ⟨i,j,rfl,rfl,h⟩:=Cp (Q:=fun r=>Lg p EX σ r H Kc) id h
  exact ⟨_,_,rfl,rfl,hQ _ h⟩
 | gt =>
  obtain ⟨i,j,rfl,rfl,h⟩:=Cp (Q:=fun r=>Lg p EX σ r H Kc) id h
  exact ⟨_,_,rfl,rfl,hQ _ h⟩
 | ge =>
  obtain ⟨i,j,rfl,rfl,h⟩:=Cp (Q:=fun r=>Lg p EX σ r H Kc) id h
  exact ⟨_,_,rfl,rfl,hQ _ h⟩
 | eq =>
  simp only [c2] at h
  obtain ⟨hc,h⟩:=h.guard
  rw [aah] at hc
  exact ⟨t,u,rfl,rfl,r.ok,r'.ok,hc.1,hc.2,hQ _ h⟩
 | ne =>
  simp only [c2] at h
  obtain ⟨hc,h⟩:=h.guard
  rw [aah] at hc
  exact ⟨t,u,rfl,rfl,r.ok,r'.ok,hc.1,hc.2,hQ _ h⟩
 | inn =>
  cases u <;> first | exact nE h | skip
  ·obtain ⟨s1,s2,h⟩:=Lb h
   exact ⟨t,_,_,rfl,rfl,.inr r'.ok.1,r'.ok.2,r.ok,s1,s2,hQ _ h⟩
  ·obtain ⟨s1,s2,h⟩:=Lb h
   exact ⟨t,_,_,rfl,rfl,.inl r'.ok.1,r'.ok.2,r.ok,s1,s2,hQ _ h⟩
 | nin =>
  cases u <;> first | exact nE h | skip
  ·obtain ⟨s1,s2,h⟩:=Lb h
   exact ⟨t,_,_,rfl,rfl,.inr r'.ok.1,r'.ok.2,r.ok,s1,s2,hQ _ h⟩
  ·obtain ⟨s1,s2,h⟩:=Lb h
   exact ⟨t,_,_,rfl,rfl,.inl r'.ok.1,r'.ok.2,r.ok,s1,s2,hQ _ h⟩
theorem KE.bl {B:Addr->Prop} {H H2:Hp} {j k:Nat} {Q:VK} {b:Bool} (s:Same H H2) (h:KE p B H j k Q (.bl b)):Q (.bl b) H2:=h (.bl b) H2 rfl (Rs.scal s rfl)
theorem Vi {x y:E} {o:C2} {τ:Ft} {H:Hp} {Kc:D->Prop} {Q:VK} {j1 k1 j2 k2:Nat} (hF:Fok p tn τ H) (h1:jk tn x=some (j1,k1)) (h2:jk tn y=some (j2,k2))
  (h:Lg p EX (vτ τ) ((ev x (dτ τ)).bind fun a=>(ev y (dτ τ)).bind fun b=>c2 o a b) H Kc) (hQ:∀ b H2,Same H H2->Kc (.bl b)->Q (.bl b) H2):tOp (LJ p o) (lE p EX tn x) (lE p EX tn y) (vτ τ) H Q:=by
 refine l1 hF h1 h fun d t H1 ht R h=>l2 hF R.same h2 h fun d' t' H2 ht' R' h=>?_
 subst ht ht'
 exact N8 (R.fwd R'.same) (R'.back R.same) h fun b hb=>hQ b H2 (R.same.trans R'.same) hb
theorem Tk (hK:X.K=p.K) (hu:X.A.units + 64 < cLine) {a b:Expr} {x y:E} {o:C2} (ha:PE X a (lE p EX tn x)) (hb:PE X b (lE p EX tn y)) (hm:behindInMarks (Bt o) b=false):PE X (.Compare a [Bt o] [b] pos) (lE p EX tn (.cmp o x y)):=by
 refine PE.mono (SK (Fc hK hu o) ha hb hm) fun σ H Q h=>?_
 obtain ⟨τ,rfl,hF,j,k,hj,h⟩:=h
 simp only [jk] at hj
 obtain ⟨⟨j1,k1⟩,h1,hj⟩:=bS hj
 obtain ⟨⟨j2,k2⟩,h2,hj⟩:=bS hj
 simp only [ev] at h
 exact Vi hF h1 h2 h fun b H2 s hb=>KE.bl s hb
theorem Re (hK:X.K=p.K) (hu:X.A.units + 64 < cLine) {a b:Expr} {x y:E} {o:C2} (ha:PE X a (lE p EX tn x)) (hb:PE X b (lE p EX tn y)) (hm:behindInMarks (Bt o) b=false):PT X (.Compare a [Bt o] [b] pos) (lT p EX tn (.cmp o x y)):=by
 refine PT.mono (SL (Fc hK hu o) ha hb hm) fun σ H Q h=>?_
 obtain ⟨τ,rfl,hF,hj,h⟩:=h
 obtain ⟨q,hj⟩:=aaD.mp hj
 simp only [jk] at hj
 obtain ⟨⟨j1,k1⟩,h1,hj⟩:=bS hj
 obtain ⟨⟨j2,k2⟩,h2,hj⟩:=bS hj
 simp only [tv,ev] at h
 exact Vi hF h1 h2 h.bind fun b H2 s hb=>⟨b,rfl,hb H2 s⟩
theorem Pp {x y z:E} {o o':C2} {τ:Ft} {H:Hp} {Kc:D->Prop} {Q:VK} {j1 k1 j2 k2 j3 k3:Nat} (hF:Fok p tn τ H) (h1:jk tn x=some (j1,k1)) (h2:jk tn y=some (j2,k2)) (h3:jk tn z=some (j3,k3))
  (h:Lg p EX (vτ τ) (ev (.chain o o' x y z) (dτ τ)) H Kc) (hQ:∀ b H2,Same H H2->Kc (.bl b)->Q (.bl b) H2):Lo (LJ p o) (LJ p o') (lE p EX tn x) (lE p EX tn y) (lE p EX tn z) (vτ τ) H Q:=by
 simp only [ev] at h
 refine l1 hF h1 h fun d t H1 ht R h=>l2 hF R.same h2 h fun d' t' H2 ht' R' h=>?_
 subst ht ht'
 refine N8 (R.fwd R'.same) (R'.back R.same) h.bind fun b h=>⟨b,rfl,?_⟩
 have s2:=R.same.trans R'.same
 cases b with
 | false=>exact hQ false H2 s2 h
 | true =>
  refine l2 hF s2 h3 h fun d'' t'' H3 ht'' R'' h=>?_
  subst ht''
  exact N8 ((R'.back R.same).fwd R''.same) (R''.back s2) h fun b hb=>hQ b H3 (s2.trans R''.same) hb
theorem Pq (hK:X.K=p.K) (hu:X.A.units + 64 < cLine) {a b c:Expr} {x y z:E} {o o':C2} (ha:PE X a (lE p EX tn x)) (hb:PE X b (lE p EX tn y)) (hc:PE X c (lE p EX tn z)) (hm:lastMarks [Bt o,Bt o'] [b,c]=false):PE X (.Compare a [Bt o,Bt o'] [b,c] pos) (lE p EX tn (.chain o o' x y z)):=by
 refine PE.mono (QI (Fc hK hu o) (Fc hK hu o') ha hb hc hm) fun σ H Q h=>?_
 obtain ⟨τ,rfl,hF,j,k,hj,h⟩:=h
 simp only [jk] at hj
 obtain ⟨⟨j1,k1⟩,h1,hj⟩:=bS hj
 obtain ⟨⟨j2,k2⟩,h2,hj⟩:=bS hj
 obtain ⟨⟨j3,k3⟩,h3,hj⟩:=bS hj
 exact Pp hF h1 h2 h3 h fun b H2 s hb=>KE.bl s hb
theorem N9 (hK:X.K=p.K) (hu:X.A.units + 64 < cLine) {a b c:Expr} {x y z:E} {o o':C2} (ha:PE X a (lE p EX tn x)) (hb:PE X b (lE p EX tn y)) (hc:PE X c (lE p EX tn z)) (hm:lastMarks [Bt o,Bt o'] [b,c]=false):PT X (.Compare a [Bt o,Bt o'] [b,c] pos) (lT p EX tn (.chain o o' x y z)):=by
 refine PT.mono (QJ (Fc hK hu o) (Fc hK hu o') ha hb hc hm) fun σ H Q h=>?_
 obtain ⟨τ,rfl,hF,hj,h⟩:=h
 obtain ⟨q,hj⟩:=aaD.mp hj
 simp only [jk] at hj
 obtain ⟨⟨j1,k1⟩,h1,hj⟩:=bS hj
 obtain ⟨⟨j2,k2⟩,h2,hj⟩:=bS hj
 obtain ⟨⟨j3,k3⟩,h3,hj⟩:=bS hj
 unfold tv at h
 exact Pp hF h1 h2 h3 h.bind fun b H2 s hb=>⟨b,rfl,hb H2 s⟩
theorem Tl {t:T}:decide (t.val=V.non)=(match t.dat with | .non=>true | _=>false):=by
 cases t <;> rfl
theorem Vj {x:E} {n:Bool} {τ:Ft} {H:Hp} {Kc:D->Prop} {Q:VK} {j1 k1:Nat} (hF:Fok p tn τ H) (h1:jk tn x=some (j1,k1)) (h:Lg p EX (vτ τ) (ev (.isN n x) (dτ τ)) H Kc) (hQ:∀ b H2,Same H H2->Kc (.bl b)->Q (.bl b) H2) :
  lE p EX tn x (vτ τ) H fun v H1=>Q (.bl (if n then !decide (v=.non) else decide (v=.non))) H1:=by
 simp only [ev] at h
 refine l1 hF h1 h fun d t H1 ht R h=>?_
 subst ht
 refine hQ _ H1 R.same ?_
 have h:Kc (.bl (match t.dat with | .non=>!n | _=>n)):=h
 rw [Tl]
 cases n <;> cases t <;> exact h
theorem Tm {a:Expr} {x:E} {n:Bool} {j pos'} (ha:PE X a (lE p EX tn x)):PE X (.Compare a [if n then .IsNot else .Is] [.Constant .none j pos'] pos) (lE p EX tn (.isN n x)):=by
 have key:∀ σ H Q,lE p EX tn (.isN n x) σ H Q->lE p EX tn x σ H fun v H1=>Q (.bl (if n then !decide (v=.non) else decide (v=.non))) H1:=by
  intro σ H Q h
  obtain ⟨τ,rfl,hF,j,k,hj,h⟩:=h
  simp only [jk] at hj
  obtain ⟨⟨j1,k1⟩,h1,hj⟩:=bS hj
  exact Vj hF h1 h fun b H2 s hb=>KE.bl s hb
 cases n with
 | true=>exact PE.mono (OP (M0 ha)) fun σ H Q h=>key σ H Q h
 | false=>exact PE.mono (OP (OO ha)) fun σ H Q h=>key σ H Q h
theorem Rf {a:Expr} {x:E} {n:Bool} {j pos'} (ha:PE X a (lE p EX tn x)):PT X (.Compare a [if n then .IsNot else .Is] [.Constant .none j pos'] pos) (lT p EX tn (.isN n x)):=by
 have key:∀ σ H Q,lT p EX tn (.isN n x) σ H Q->lE p EX tn x σ H fun v H1=>∃ c,V.bl (if n then !decide (v=.non) else decide (v=.non))=V.bl c/\Q c H1:=by
  intro σ H Q h
  obtain ⟨τ,rfl,hF,hj,h⟩:=h
  obtain ⟨q,hj⟩:=aaD.mp hj
  simp only [jk] at hj
  obtain ⟨⟨j1,k1⟩,h1,hj⟩:=bS hj
  unfold tv at h
  exact Vj (Q:=fun v H1=>∃ c,v=V.bl c/\Q c H1) hF h1 h.bind fun b H2 s hb=>⟨b,rfl,hb H2 s⟩
 cases n with
 | true=>exact PT.mono (OQ (M0 ha)) fun σ H Q h=>key σ H Q h
 | false=>exact PT.mono (OQ (OO ha)) fun σ H Q h=>key σ H Q h
end
section
variable {p:Px} {EX:EXT} {tn:List Nat} {X:Cx} {pos:Pos}
theorem Tn {a:Expr} {x:E} (ha:PE X a (lE p EX tn x)):PE X (.UnaryOp .USub a pos) (lE p EX tn (.neg x)):=by
 refine PE.mono (We UN ha) fun σ H Q h=>?_
 obtain ⟨τ,rfl,hF,j,k,hj,h⟩:=h
 simp only [jk] at hj
 obtain ⟨⟨j1,k1⟩,h1,hj⟩:=bS hj
 simp only [ev] at h
 refine l1 hF h1 h fun d t H1 ht R h=>?_
 subst ht
 cases t <;> simp only [T.dat] at h
 all_goals first | exact nE h | exact ⟨_,rfl,h (.int _) H1 rfl (Rs.scal R.same rfl)⟩
theorem To {a:Expr} {x:E} (ha:PE X a (lE p EX tn x)):PE X (.UnaryOp .Not a pos) (lE p EX tn (.not x)):=by
 refine PE.mono (UA ha) fun σ H Q h=>?_
 obtain ⟨τ,rfl,hF,j,k,hj,h⟩:=h
 simp only [jk] at hj
 obtain ⟨⟨j1,k1⟩,h1,hj⟩:=bS hj
 simp only [ev] at h
 refine l1 hF h1 h fun d t H1 ht R h=>?_
 subst ht
 cases t <;> simp only [T.dat] at h
 all_goals first | exact nE h | exact ⟨_,rfl,h (.bl _) H1 rfl (Rs.scal R.same rfl)⟩
theorem Rg {H:Hp} {t:T} {σ:St} {H0:Hp} {Kc:Bool->Prop} (hK:X.K=p.K) (ok:t.Ok p H) (h:Lg p EX σ (BP t.dat) H0 Kc):∃ b,QK X.K t.val H b/\Kc b:=by
 cases t <;> simp only [T.dat,BP] at h
 ·exact ⟨false,rfl,h⟩
 ·exact ⟨_,rfl,h⟩
 ·exact ⟨_,rfl,h⟩
 ·exact nE h
 ·rename_i a ts
  refine ⟨_,.inr (.inl ⟨_,SqT.of ok.1,rfl⟩),?_⟩
  have h:Kc (!(T.dats ts).isEmpty):=h
  cases ts <;> exact h
 ·rename_i a ts
  refine ⟨_,.inl ⟨_,.inl ok.1,rfl⟩,?_⟩
  have h:Kc (!(T.dats ts).isEmpty):=h
  cases ts <;> exact h
 ·exact nE h
noncomputable def LL:Expr->Bool
 | .UnaryOp .Not _ _=>false
 | .BoolOp _ _ _=>false
 | .IfExp _ _ _ _=>false
 | .Compare _ _ _ _=>false
 | _=>true
theorem Pr {a:Expr} {env:Env} (h:LL a=true):∀ whole,isTrue a env whole=(do let v <- whole; standAt a.pos; holding [v] (truthy v)):=by
 intro whole
 cases a with
 | UnaryOp o x q=>cases o <;> first | rfl | cases h
 | BoolOp _ _ _=>cases h
 | IfExp _ _ _ _=>cases h
 | Compare _ _ _ _=>cases h
 | _=>rfl
theorem Oa (hK:X.K=p.K) {a:Expr} {x:E} (ha:PE X a (lE p EX tn x)) (hp:LL a=true):PT X a (lT p EX tn x):=by
 refine PT.mono (QL ha (Pr hp)) fun σ H Q h=>?_
 obtain ⟨τ,rfl,hF,hj,h⟩:=h
 obtain ⟨⟨j,k⟩,hj⟩:=aaD.mp hj
 refine l1 hF hj h fun d t H1 ht R h=>?_
 subst ht
 obtain ⟨b,tb,hb⟩:=Rg (X:=X) hK R.ok h
 exact ⟨b,tb,hb H1 R.same⟩
theorem Rh {a:Expr} {x:E} (ha:PT X a (lT p EX tn x)):PT X (.UnaryOp .Not a pos) (lT p EX tn (.not x)):=by
 refine PT.mono (Ux ha) fun σ H Q h=>?_
 obtain ⟨τ,rfl,hF,hj,h⟩:=h
 obtain ⟨q,hj⟩:=aaD.mp hj
 simp only [jk] at hj
 obtain ⟨⟨j1,k1⟩,h1,hj⟩:=bS hj
 refine ⟨τ,rfl,hF,by rw [h1]; rfl,?_⟩
 unfold tv at h ⊢
 simp only [ev] at h
 cases q:ev x (dτ τ) with
 | ok d =>
  rw [q] at h
  simp only [Res.bind_ok] at h ⊢
  cases d <;> simp only [Res.bind_bad] at h
  all_goals first | exact nE h | exact h
 | exc c=>rw [q] at h; exact h
 | bad=>rw [q] at h; exact h
theorem Vk {a:Expr} {x:E} {k0:Bool} (ha:PE X a (lE p EX tn x)):PE X (.BoolOp (if k0 then .And else .Or) [a] pos) (lE p EX tn (.bo k0 (.cons x .nil))):=by
 refine PE.mono (Uy ha) fun σ H Q h=>?_
 obtain ⟨τ,rfl,hF,j,k,hj,h⟩:=h
 simp only [jk,jks] at hj
 obtain ⟨⟨j1,k1⟩,h1,hj⟩:=bS hj
 simp only [ev,evBo] at h
 have hj:=Option.some.inj hj
 refine ⟨τ,rfl,hF,j1,k1,h1,h.mono (Same.refl _) fun d _ hd t H' ht R=>hd t H' ht (R.le ?_ ?_)⟩
 ·simp at hj; omega
 ·simp at hj
  obtain ⟨h1,h2⟩:=hj
  rw [<- h2]
  split
  ·exact aa1 ..
  ·exact aat _
theorem Tp {a b:Expr} {rest:List Expr} {x y:E} {r:Es} {k0:Bool} (ha:PE X a (lE p EX tn x)) (hb:PE X (.BoolOp (if k0 then .And else .Or) (b :: rest) pos) (lE p EX tn (.bo k0 (.cons y r)))) :
  PE X (.BoolOp (if k0 then .And else .Or) (a :: b :: rest) pos) (lE p EX tn (.bo k0 (.cons x (.cons y r)))):=by
 have key:∀ σ H Q,lE p EX tn (.bo k0 (.cons x (.cons y r))) σ H Q->lE p EX tn x σ H fun v H1=>∃ c,v=.bl c/\if c=k0 then lE p EX tn (.bo k0 (.cons y r)) σ H1 Q else Q (.bl c) H1:=by
  intro σ H Q h
  obtain ⟨τ,rfl,hF,j,k,hj,h⟩:=h
  simp only [jk,jks] at hj
  obtain ⟨⟨j1,k1⟩,h1,hj⟩:=bS hj
  obtain ⟨⟨j2,k2⟩,h2,hj⟩:=bS hj
  have hj:=Option.some.inj hj
  simp only [Prod.mk.injEq] at hj
  simp only [ev,evBo] at h
  refine l1 hF h1 h fun d t H1 ht R h=>?_
  subst ht
  cases t <;> simp only [T.dat] at h
  all_goals first | exact nE h | skip
  rename_i c
  refine ⟨c,rfl,?_⟩
  by_cases z:c=k0
  ·rw [if_pos z] at h ⊢
   refine ⟨τ,rfl,hF.same R.same,j2,k2,by simp only [jk,jks]; exact h2,?_⟩
   simp only [ev]
   refine h.mono R.same fun d _ hd t H' ht R'=>hd t H' ht ((R'.back R.same).le (by omega) ?_)
   rw [<- hj.2]
   split
   ·exact aaQ ..
   ·exact aat _
  ·rw [if_neg z] at h ⊢
   exact h (.bl c) H1 rfl (Rs.scal R.same rfl)
 cases k0 with
 | true =>
  refine PE.mono (Uz ha hb) fun σ H Q h=>?_
  refine (show ∀ (A B:VK),(∀ v H,A v H->B v H)->lE p EX tn x σ H A->lE p EX tn x σ H B from ?_) _ _ ?_ (key σ H Q h)
  ·rintro A B m ⟨τ,e,hF,j,k,hj,h⟩
   exact ⟨τ,e,hF,j,k,hj,h.mono (Same.refl _) fun d _ hd t H' ht R=>m _ _ (hd t H' ht R)⟩
  ·rintro v H1 ⟨c,rfl,h⟩
   exact ⟨c,rfl,by cases c <;> simpa using h⟩
 | false =>
  refine PE.mono (V8 ha hb) fun σ H Q h=>?_
  refine (show ∀ (A B:VK),(∀ v H,A v H->B v H)->lE p EX tn x σ H A->lE p EX tn x σ H B from ?_) _ _ ?_ (key σ H Q h)
  ·rintro A B m ⟨τ,e,hF,j,k,hj,h⟩
   exact ⟨τ,e,hF,j,k,hj,h.mono (Same.refl _) fun d _ hd t H' ht R=>m _ _ (hd t H' ht R)⟩
  ·rintro v H1 ⟨c,rfl,h⟩
   exact ⟨c,rfl,by cases c <;> simpa using h⟩
theorem Tq {a:Expr} {x:E} {k0:Bool} (ha:PT X a (lT p EX tn x)):PW X (.BoolOp (if k0 then .And else .Or) [a] pos) (lT p EX tn (.bo k0 (.cons x .nil))):=by
 have key:∀ σ H Q,lT p EX tn (.bo k0 (.cons x .nil)) σ H Q->lT p EX tn x σ H Q:=by
  rintro σ H Q ⟨τ,rfl,hF,hj,h⟩
  refine ⟨τ,rfl,hF,?_,by simpa only [tv,ev,evBo] using h⟩
  obtain ⟨q,hj⟩:=aaD.mp hj
  simp only [jk,jks] at hj
  obtain ⟨⟨j1,k1⟩,h1,hj⟩:=bS hj
  rw [h1]; rfl
 cases k0 with
 | true=>exact fun wh pins s σ H Q I h=>SH ha wh pins s σ H Q I (key σ H Q h)
 | false=>exact fun wh pins s σ H Q I h=>Uv ha wh pins s σ H Q I (key σ H Q h)
theorem Ri {a b:Expr} {rest:List Expr} {x y:E} {r:Es} {k0:Bool} (ha:PT X a (lT p EX tn x)) (hb:PW X (.BoolOp (if k0 then .And else .Or) (b :: rest) pos) (lT p EX tn (.bo k0 (.cons y r)))) :
  PW X (.BoolOp (if k0 then .And else .Or) (a :: b :: rest) pos) (lT p EX tn (.bo k0 (.cons x (.cons y r)))):=by
 have key:∀ σ H Q,lT p EX tn (.bo k0 (.cons x (.cons y r))) σ H Q->lT p EX tn x σ H fun c H1=>if c=k0 then lT p EX tn (.bo k0 (.cons y r)) σ H1 Q else Q c H1:=by
  rintro σ H Q ⟨τ,rfl,hF,hj,h⟩
  obtain ⟨q,hj⟩:=aaD.mp hj
  simp only [jk,jks] at hj
  obtain ⟨⟨j1,k1⟩,h1,hj⟩:=bS hj
  obtain ⟨⟨j2,k2⟩,h2,hj⟩:=bS hj
  refine ⟨τ,rfl,hF,by rw [h1]; rfl,?_⟩
  simp only [tv,ev,evBo] at h ⊢
  cases q:ev x (dτ τ) with
  | ok d =>
   rw [q] at h
   simp only [Res.bind_ok] at h ⊢
   cases d <;> simp only [Res.bind_bad] at h
   all_goals first | exact nE h | skip
   rename_i c
   show ∀ H',Same H H'->if c=k0 then _ else _
   intro H' s
   by_cases z:c=k0
   ·rw [if_pos z] at h ⊢
    refine ⟨τ,rfl,hF.same s,by simp only [jk,jks]; rw [h2]; rfl,?_⟩
    simp only [tv,ev]
    exact h.mono s fun b _ hb H2 s2=>hb H2 (s.trans s2)
   ·rw [if_neg z] at h ⊢
    exact h H' s
  | exc c=>rw [q] at h; exact h
  | bad=>rw [q] at h; exact h
 have mon:∀ (σ:St) (H:Hp) (A B:Bool->Hp->Prop),(∀ v H,A v H->B v H)->lT p EX tn x σ H A->lT p EX tn x σ H B:=by
  rintro σ H A B m ⟨τ,e,hF,hj,h⟩
  exact ⟨τ,e,hF,hj,h.mono (Same.refl _) fun b _ hb H' s=>m _ _ (hb H' s)⟩
 cases k0 with
 | true=>exact fun wh pins s σ H Q I h=>Uw ha hb wh pins s σ H Q I (mon _ _ _ _ (fun c H1 h=>by cases c <;> simpa using h) (key σ H Q h))
 | false=>exact fun wh pins s σ H Q I h=>V5 ha hb wh pins s σ H Q I (mon _ _ _ _ (fun c H1 h=>by cases c <;> simpa using h) (key σ H Q h))
end
section
variable {p:Px} {EX:EXT} {tn:List Nat} {X:Cx} {pos:Pos}
theorem LM (n:Nat) (i:Int):L2.ixN n i=ixN n i:=rfl
theorem Ob {ts:List T} {i:Int} {σ:St} {H:Hp} {Kc:D->Prop} (h:Lg p EX σ (atD (T.dats ts) i) H Kc):∃ t ∈ ts,atI (ts.map T.val) i=some t.val/\Kc t.dat:=by
 unfold atD at h
 rw [Aj] at h
 cases q:ixN ts.length i with
 | none=>rw [q] at h; exact nE h
 | some j =>
  rw [q] at h
  simp only [aa6] at h
  rw [T.dats_map,aaq] at h
  cases e:ts[j]? with
  | none=>rw [e] at h; exact nE h
  | some t =>
   rw [e] at h
   refine ⟨t,aaf e,?_,h⟩
   unfold atI
   rw [aac,LM,q]
   show (ts.map T.val)[j]?=_
   rw [aaq,e]; rfl
theorem Rs.sub {B:Addr->Prop} {H H1:Hp} {j k j':Nat} {t u:T} (r:Rs p B H H1 j k t) (ok:u.Ok p H1) (h:∀ a ∈ u.rest j',a ∈ t.rest j):Rs p B H H1 j' 0 u :=
 ⟨r.same,ok,fun a m=>r.src a (h a m),by rw [T.adr_zero]; simp,T.nd_zero u⟩
noncomputable def DQ:Expr->Bool
 | .Slice _ _ _ _=>false
 | _=>true
theorem GP {b:Expr} (h:DQ b=true):M4 b:=by
 intro o i
 cases b <;> first | rfl | cases h
theorem Vl (hK:X.K=p.K):IxR X (fun x y H Q=>UV X.K x y H Q\/UW X.K x y H Q):=JE.or O9
theorem Vm (hK:X.K=p.K) {a b:Expr} {x y:E} (ha:PE X a (lE p EX tn x)) (hb:PE X b (lE p EX tn y)) (hp:DQ b=true):PE X (.Subscript a b pos) (lE p EX tn (.ix x y)):=by
 refine PE.mono (N0 (Vl hK) ha hb (GP hp)) fun σ H Q h=>?_
 obtain ⟨τ,rfl,hF,j,k,hj,h⟩:=h
 simp only [jk] at hj
 obtain ⟨⟨j1,k1⟩,h1,hj⟩:=bS hj
 obtain ⟨⟨j2,k2⟩,h2,hj⟩:=bS hj
 obtain ⟨hc,e⟩:=ER hj
 cases e
 have hc:=of_decide_eq_true hc
 subst hc
 simp only [ev] at h
 refine l1 hF h1 h fun d t H1 ht R h=>l2 hF R.same h2 h fun d' t' H2 ht' R' h=>?_
 subst ht ht'
 have R:=R.fwd R'.same
 cases t <;> cases t' <;> simp only [T.dat,ixD] at h
 all_goals first | exact nE h | skip
 ·obtain ⟨u,hu,e,h⟩:=Ob h
  exact .inr ⟨_,_,_,_,rfl,rfl,SqT.of R.ok.1,e,h u H2 rfl (R.sub (T.oks_iff.mp R.ok.2 u hu) fun b m=>T.mem_rests.mpr ⟨u,hu,m⟩)⟩
 ·obtain ⟨u,hu,e,h⟩:=Ob h
  exact .inl ⟨_,_,_,_,rfl,rfl,.inl R.ok.1,e,h u H2 rfl (R.sub (T.oks_iff.mp R.ok.2 u hu) fun b m=>aaa _ (T.mem_rests.mpr ⟨u,hu,m⟩))⟩
theorem Tr {a b:Expr} {x y:E} (ha:PE X a (lE p EX tn x)) (hb:PE X b (lE p EX tn y)) (hp:DQ b=true):PE X (.Subscript a b pos) (lE p EX tn (.ixL x y)):=by
 refine PE.mono (N0 JE ha hb (GP hp)) fun σ H Q h=>?_
 obtain ⟨τ,rfl,hF,j,k,hj,h⟩:=h
 simp only [jk] at hj
 obtain ⟨⟨j1,k1⟩,h1,hj⟩:=bS hj
 obtain ⟨⟨j2,k2⟩,h2,hj⟩:=bS hj
 have hj:=Option.some.inj hj
 simp only [Prod.mk.injEq] at hj
 obtain ⟨rfl,rfl⟩:=hj
 simp only [ev] at h
 refine l1 hF h1 h fun d t H1 ht R h=>l2 hF R.same h2 h fun d' t' H2 ht' R' h=>?_
 subst ht ht'
 have R:=R.fwd R'.same
 cases t <;> cases t' <;> simp only [T.dat,Fg] at h
 all_goals first | exact nE h | skip
 obtain ⟨u,hu,e,h⟩:=Ob h
 refine ⟨_,_,_,_,rfl,rfl,.inl R.ok.1,e,h u H2 rfl (R.sub (T.oks_iff.mp R.ok.2 u hu) fun b m=>?_)⟩
 cases j1 with
 | zero=>exact aaa _ (T.mem_rests.mpr ⟨u,hu,m⟩)
 | succ j1=>exact T.mem_rests.mpr ⟨u,hu,m⟩
theorem IM (n d:Nat) (o:Option Int):HT.sIx n d o=sIx n d o:=by
 cases o with
 | none=>rfl
 | some v=>exact Int.ofNat_inj.mp (by rw [<- HT.clip_eq v n d]; unfold sIx; simp only; split <;> omega)
theorem Ng {α β:Type} (f:α->β) (xs:List α) (lo hi:Option Int):(cut xs lo hi).map f=cut (xs.map f) lo hi:=by
 unfold cut; rw [ab7,ab8,aac]
theorem Nh (ts:List T) (lo hi:Option Int):GH (ts.map T.val) lo hi=(cut ts lo hi).map T.val:=by
 unfold GH cut
 rw [ab7,ab8,aac,IM,IM]
theorem Hl {α:Type} {xs:List α} {lo hi:Option Int} {x:α} (h:x ∈ cut xs lo hi):x ∈ xs:=abQ (abR h)
noncomputable def lO (p:Px) (EX:EXT) (tn:List Nat) (e:E):TO:=fun σ H Q=>∃ τ,σ=vτ τ/\Fok p tn τ H/\(jk tn e).isSome=true/\Lg p EX σ (C7 e.isCN (ev e (dτ τ))) H fun o=>∀ H',Same H H'->Q o H'
theorem Ks:PO X none (lO p EX tn .cN):=by
 intro pins s σ H Q I h
 obtain ⟨τ,rfl,hF,hj,h⟩:=h
 exact SO pins s _ H Q I (h H (Same.refl _))
theorem Kt {e:Expr} {x:E} (he:PE X e (lE p EX tn x)) (hx:x.isCN=false):PO X (some e) (lO p EX tn x):=by
 intro pins s σ H Q I h
 obtain ⟨τ,rfl,hF,hj,h⟩:=h
 obtain ⟨⟨j,k⟩,hj⟩:=aaD.mp hj
 unfold C7 at h
 rw [hx,if_neg (by decide)] at h
 refine SQ he pins s _ H Q I (l1 hF hj h fun d t H1 ht R h=>?_)
 subst ht
 cases t <;> simp only [T.dat,DN] at h
 all_goals first | exact nE h | exact ⟨_,rfl,h H1 R.same⟩
theorem Ni:∀ {ts:List T},(T.dats ts).all D.scal=true->∀ t ∈ ts,t.sc=true
 | [],_,t,h=>nomatch h
 | u :: r,h,t,ht=>by
  simp only [T.dats,aaG,aah] at h
  rcases aai.mp ht with rfl | ht
  ·cases t <;> first | rfl | cases h.1
  ·exact Ni h.2 t ht
theorem Ts {t:T} {j:Nat} (h:t.sc=true):t.rest j=[]:=by cases t <;> first | rfl | cases h
theorem Vn {t:T} {j:Nat} (h:t.sc=true):t.adr j=[]:=by cases t <;> first | rfl | cases h
theorem LO {ts:List T} {j:Nat} (h:∀ t ∈ ts,t.sc=true):T.rests ts j=[]:=by
 refine aaV.mpr fun b hb=>?_
 obtain ⟨t,ht,q⟩:=T.mem_rests.mp hb
 rw [Ts (h t ht)] at q; cases q
theorem Nj {ts:List T} {j:Nat} (h:∀ t ∈ ts,t.sc=true):T.adrs ts j=[]:=by
 refine aaV.mpr fun b hb=>?_
 obtain ⟨t,ht,q⟩:=T.mem_adrs.mp hb
 rw [Vn (h t ht)] at q; cases q
theorem LP {B:Addr->Prop} {H H1:Hp} {j k:Nat} {a:Addr} {ts:List T} (s:Same H H1) (ok:(T.tup a ts).Ok p H1) (h:∀ t ∈ ts,t.sc=true):Rs p B H H1 j k (.tup a ts) :=
 ⟨s,ok,by simp only [T.rest]; rw [LO h]; simp,by simp only [T.adr]; rw [Nj h]; simp,by unfold T.Nd; simp only [T.adr,T.rest]; rw [LO h,Nj h]; simp⟩
theorem Tt {a:Expr} {lo hi:Option Expr} {p2:Pos} {x y z:E} (ha:PE X a (lE p EX tn x)) (hl:PO X lo (lO p EX tn y)) (hh:PO X hi (lO p EX tn z)):PE X (.Subscript a (.Slice lo hi none p2) pos) (lE p EX tn (.slc x y z)):=by
 refine PE.mono (QQ (SR.or UU) ha hl hh) fun σ H Q h=>?_
 obtain ⟨τ,rfl,hF,j,k,hj,h⟩:=h
 simp only [jk] at hj
 obtain ⟨⟨j1,k1⟩,h1,hj⟩:=bS hj
 obtain ⟨q2,h2,hj⟩:=bS hj
 obtain ⟨q3,h3,hj⟩:=bS hj
 obtain ⟨hc,e⟩:=ER hj
 cases e
 have hc:=of_decide_eq_true hc
 simp only [ev] at h
 refine l1 hF h1 h fun d t H1 ht R h=>?_
 subst ht
 refine ⟨τ,rfl,hF.same R.same,by rw [h2]; rfl,h.bind.mono R.same fun l _ h H2 s2=>?_⟩
 refine ⟨τ,rfl,hF.same (R.same.trans s2),by rw [h3]; rfl,h.bind.mono (R.same.trans s2) fun u _ h H3 s3=>?_⟩
 have R:=R.fwd (s2.trans s3)
 cases t with
 | tup b ts =>
  simp only [T.dat,DO] at h
  obtain ⟨⟨g1,g2⟩,h⟩:=h.guard
  refine .inr ⟨b,_,rfl,SqT.of R.ok.1,?_,fun q hq=>?_⟩
  ·rw [aac,IM,IM,<- Aj]; exact g2
  ·rw [Nh]
   have sn:=Same.new (o:=.tup ((cut ts l u).map T.val)) hq
   refine h (.tup q (cut ts l u)) _ (by simp only [T.dat,T.dats_map,Ng]) (LP (R.same.trans sn) ⟨Bp,T.oks_iff.mpr fun w hw=>((T.oks_iff.mp R.ok.2 w (Hl hw))).same sn⟩ fun w hw=>Ni g1 w (Hl hw))
 | lst b ts =>
  simp only [T.dat,DO] at h
  refine .inl ⟨b,_,rfl,.inl R.ok.1,fun q hq=>?_⟩
  rw [Nh]
  refine h (.lst q (cut ts l u)) _ (by simp only [T.dat,T.dats_map,Ng]) (GN R.same (T.oks_iff.mpr fun w hw=>T.oks_iff.mp R.ok.2 w (Hl hw)) (fun c m=>?_) hq)
  obtain ⟨w,hw,m⟩:=T.mem_rests.mp m
  exact R.elems hc c (T.mem_rests.mpr ⟨w,Hl hw,m⟩)
 | _=>exact nE h
end
noncomputable def spF (p:Px) (F:Fn):Sp:=fun vs H Q E=>∃ ts:List T,vs=ts.map T.val/\T.Oks p H ts/\ts.length=F.ar/\match F.den (T.dats ts) with
 | .ok d=>∀ t H',t.dat=d->Rs p (fun a=>a ∈ T.rests ts 0) H H' 0 F.dep t->Q t.val H'
 | .exc c=>p.has c=true->∀ H',Same H H'->E (.ref (p.cl c)) none H'
 | .bad=>False
noncomputable def Oc (p:Px) (X:Cx) (F:Fn):Prop:=∃ ps:List Str,ps.length=F.ar/\Has X.prog X.w X.K X.mg X.base F.name F.lv ps (spF p F)
theorem GQ:∀ (m:Nat) (t:T) (k:Nat),t.dat.flat m k=true->t.rest k=[]
 | 0,t,k,h=>by simp [D.flat] at h
 | m + 1,t,k,h=>by
  cases t with
  | tup a ts =>
   simp only [T.dat,D.flat] at h
   simp only [T.rest]
   refine aaV.mpr fun b hb=>?_
   obtain ⟨t,ht,q⟩:=T.mem_rests.mp hb
   rw [GQ m t k (Gr h t ht)] at q; cases q
  | lst a ts =>
   cases k with
   | zero=>simp [T.dat,D.flat] at h
   | succ k =>
    simp only [T.dat,D.flat] at h
    simp only [T.rest]
    refine aaV.mpr fun b hb=>?_
    obtain ⟨t,ht,q⟩:=T.mem_rests.mp hb
    rw [GQ m t k (Gr h t ht)] at q; cases q
  | _=>rfl
noncomputable def At:Expr->Bool
 | .Starred _ _=>false
 | _=>true
theorem Am {e:Expr} {es:List Expr} {env:Env} (h:At e=true):starEach (e :: es) env=(false,eval e env) :: starEach es env:=by
 cases e <;> first | rfl | cases h
theorem AB {pos:Pos} {env:Env}:∀ {es:List Expr},es.all At=true->(backTo pos (starEach es env)).any (·.1)=false
 | [],_=>rfl
 | e :: es,h=>by
  rw [aaG,aah] at h
  rw [Am h.1]
  have ih:=AB (pos:=pos) (env:=env) h.2
  unfold backTo at ih ⊢
  rw [aax,acK,ih]; rfl
section
variable {p:Px} {EX:EXT} {tn:List Nat} {X:Cx} {pos np:Pos}
theorem Rj {F:Fn} {e:Expr} {es:List Expr} {x:E} {xs:Es} (hx:GJ (CXe X.prog X.w) X EX) (hF:Oc p X F) (hr:Room F.lv X.A) (hg:Gl X F.name) (hdb:(F.name==("__debug__" : Str))=false) (ha:PA X (e :: es) (lEs p EX tn (.cons x xs))) (hst:(e :: es).all At=true) (hl:(Es.cons x xs).len=F.ar) :
  PE X (.Call (.Name F.name np) (e :: es) [] pos) (lE p EX tn (.call F (.cons x xs))):=by
 obtain ⟨ps,hps,hF⟩:=hF
 rw [aaG,aah] at hst
 refine PE.mono (Sn hF hr hg hx ha hdb (Am hst.1) (AB hst.2)) fun σ H Q h=>?_
 obtain ⟨τ,rfl,hFr,j,k,hj,h⟩:=h
 simp only [jk] at hj
 obtain ⟨⟨j1,k1⟩,h1,hj⟩:=bS hj
 obtain ⟨hc,e⟩:=ER hj
 cases e
 have hc:j1=0:=of_decide_eq_true hc
 subst hc
 simp only [ev] at h
 refine ⟨τ,rfl,hFr,0,k1,h1,h.bind.mono (Same.refl _) fun ds e hd ts H1 hts R=>?_⟩
 show spF p F (ts.map T.val ++ []) H1 Q (EX (vτ τ))
 rw [aaP]
 refine ⟨ts,rfl,R.ok,?_,?_⟩
 ·rw [<- Aj,hts,B8 _ _ _ e,hl]
 ·rw [hts]
  cases q:F.den ds with
  | ok d =>
   rw [q] at hd
   intro t H' ht R'
   refine hd t H' ht ⟨R.same.trans R'.same,R'.ok,fun a m=>?_,fun a m=>⟨R.same.free (R'.new a m).1,(R'.new a m).2⟩,R'.nd⟩
   rcases R'.src a m with z | z
   ·exact .inl (R.same.free z)
   ·exact R.src a z
  | exc c =>
   rw [q] at hd
   exact fun hc H' s=>hd hc H' (R.same.trans s)
  | bad=>rw [q] at hd; exact hd
theorem T.adr_rest:∀ (t:T) {d K:Nat},t.rest d=[]->d<=K->t.adr K=t.adr d:=by
 have lists:∀ (ts:List T),(∀ t ∈ ts,∀ {d K:Nat},t.rest d=[]->d<=K->t.adr K=t.adr d)->∀ {d K:Nat},T.rests ts d=[]->d<=K->T.adrs ts K=T.adrs ts d:=by
  intro ts
  induction ts with
  | nil=>intro _ d K _ _; rfl
  | cons t r ih =>
   intro h d K hr hk
   simp only [T.rests,List.append_eq_nil_iff] at hr
   show t.adr K ++ T.adrs r K=t.adr d ++ T.adrs r d
   rw [h t (aab ..) hr.1 hk,ih (fun u hu=>h u (aaa _ hu)) hr.2 hk]
 refine T.ind (by intros; rfl) (by intros; rfl) (by intros; rfl) (by intros; rfl) (fun a ts ih d K h hk=>?_) (fun a ts ih d K h hk=>?_) (by intros; rfl)
 ·exact lists ts ih h hk
 ·cases d with
  | zero=>cases h
  | succ d =>
   cases K with
   | zero=>omega
   | succ K=>exact congrArg (a :: ·) (lists ts ih h (ab6 hk))
theorem Ps {F:Fn} {e:Expr} {es:List Expr} {x:E} {xs:Es} (hx:GJ (CXe X.prog X.w) X EX) (hF:Oc p X F) (hr:Room F.lv X.A) (hg:Gl X F.name) (hdb:(F.name==("__debug__" : Str))=false) (ha:PA X (e :: es) (lEs p EX tn (.cons x xs))) (hst:(e :: es).all At=true) (hl:(Es.cons x xs).len=F.ar) :
  PE X (.Call (.Name F.name np) (e :: es) [] pos) (lE p EX tn (.callB F (.cons x xs))):=by
 obtain ⟨ps,hps,hF⟩:=hF
 rw [aaG,aah] at hst
 refine PE.mono (Sn hF hr hg hx ha hdb (Am hst.1) (AB hst.2)) fun σ H Q h=>?_
 obtain ⟨τ,rfl,hFr,j,k,hj,h⟩:=h
 simp only [jk] at hj
 obtain ⟨⟨j1,k1⟩,h1,hj⟩:=bS hj
 have hj:=Option.some.inj hj
 simp only [Prod.mk.injEq] at hj
 obtain ⟨rfl,rfl⟩:=hj
 simp only [ev] at h
 refine ⟨τ,rfl,hFr,j1,k1,h1,h.bind.mono (Same.refl _) fun ds e hd ts H1 hts R=>?_⟩
 show spF p F (ts.map T.val ++ []) H1 Q (EX (vτ τ))
 rw [aaP]
 refine ⟨ts,rfl,R.ok,?_,?_⟩
 ·rw [<- Aj,hts,B8 _ _ _ e,hl]
 ·rw [hts]
  cases q:F.den ds with
  | ok d =>
   rw [q] at hd
   obtain ⟨hf,hd⟩:=Lg.guard hd
   intro t H' ht R'
   subst ht
   have r0:=GQ 9 t F.dep hf
   have up:∀ a,a ∈ t.rest 0->a ∈ t.adr F.dep:=fun a m=>by
    rcases (T.all_iff t F.dep).mp m with z | z
    ·exact z
    ·rw [r0] at z; cases z
   refine hd t H' rfl ⟨R.same.trans R'.same,R'.ok,fun a m=>.inl (R.same.free (R'.new a (up a m)).1),fun a m=>?_,?_⟩
   ·have:=R'.new a (up a ((T.all_iff t 9).mpr (.inl m)))
    exact ⟨R.same.free this.1,this.2⟩
   ·by_cases c9:9<=F.dep
    ·exact T.nd_le t c9 R'.nd
    ·have e9:=T.adr_rest t r0 (show F.dep<=9 by omega)
     refine ⟨by rw [e9]; exact R'.nd.1,fun a m _=>?_⟩
     have:=T.rest_le t (show F.dep<=9 by omega) m
     rw [r0] at this; cases this
  | exc c =>
   rw [q] at hd
   exact fun hc H' s=>hd hc H' (R.same.trans s)
  | bad=>rw [q] at hd; exact hd
theorem Cq {b:Bi} {e:Expr} {es:List Expr} {x:E} {xs:Es} {ex:Expr} {r:List V->Hp->VK->Prop} (hp:PE X ex (tCB r (lEs p EX tn (.cons x xs))))
  (hr:∀ (B:Addr->Prop) (H H1:Hp) (j1 k1 j k:Nat) (ts:List T) (σ:St) (Q:VK),RsL p B H H1 j1 k1 ts->(match b with | .list=>gj (decide (j1=0)) (0,1) | _=>some (0,9))=some (j,k) ->
   Lg p EX σ (biD b (T.dats ts)) H (KE p B H j k Q)->r (ts.map T.val) H1 Q):PE X ex (lE p EX tn (.bi b (.cons x xs))):=by
 refine PE.mono hp fun σ H Q h=>?_
 obtain ⟨τ,rfl,hFr,j,k,hj,h⟩:=h
 simp only [jk] at hj
 obtain ⟨⟨j1,k1⟩,h1,hj⟩:=bS hj
 simp only [ev] at h
 refine ⟨τ,rfl,hFr,j1,k1,h1,h.bind.mono (Same.refl _) fun ds e hd ts H1 hts R=>?_⟩
 subst hts
 exact hr (Sh tn τ) H H1 j1 k1 j k ts _ Q R hj hd
theorem GR:∀ {ts:List T} {bs:List Bool},Bj (T.dats ts)=some bs->ts.map T.val=bs.map V.bl
 | [],bs,h=>by simp [T.dats,Bj] at h; subst h; rfl
 | t :: r,bs,h=>by
  cases t <;> simp only [T.dats,T.dat,Bj] at h
  all_goals first | cases h | skip
  obtain ⟨bs',h1,rfl⟩:=aas.mp h
  simp [T.val,GR h1]
theorem FT:∀ {ts:List T} {bs:List Int},Be (T.dats ts)=some bs->ts.map T.val=bs.map V.int
 | [],bs,h=>by simp [T.dats,Be] at h; subst h; rfl
 | t :: r,bs,h=>by
  cases t <;> simp only [T.dats,T.dat,Be] at h
  all_goals first | cases h | skip
  obtain ⟨bs',h1,rfl⟩:=aas.mp h
  simp [T.val,FT h1]
section
variable {e:Expr} {es:List Expr} {x:E} {xs:Es} (hg:∀ y:Str,y ∈ (["len", "min", "max", "abs", "int", "list", "tuple", "all", "any", "sum", "sorted", "isinstance", "str", "range", "enumerate", "zip", "reversed"]:List Str)->X.mg y=none)
 (ha:PA X (e :: es) (lEs p EX tn (.cons x xs))) (hst:(e :: es).all At=true)
include hg ha hst
theorem Tu (hgl:Gl X "len"):PE X (.Call (.Name "len" np) (e :: es) [] pos) (lE p EX tn (.bi .len (.cons x xs))):=by
 rw [aaG,aah] at hst
 refine Cq (es:=es) (e:=e) (B7 Lr hgl (hg _ (by simp)) PySem.boot_len ha (by decide) (by decide) (Am hst.1) (AB hst.2)) fun B H H1 j1 k1 j k ts σ Q R hj h=>?_
 rcases ts with _ | ⟨t,_ | ⟨u,r⟩⟩
 ·exact nE h
 ·cases t with
  | lst a us=>exact ⟨a,_,rfl,.inl (.inl R.ok.1.1),by have:=h (.int _) H1 rfl (Rs.scal R.same rfl); rw [Aj,<- aac (f:=T.val)] at this; exact this⟩
  | tup a us=>exact ⟨a,_,rfl,.inr (SqT.of R.ok.1.1),by have:=h (.int _) H1 rfl (Rs.scal R.same rfl); rw [Aj,<- aac (f:=T.val)] at this; exact this⟩
  | _=>exact nE h
 ·exact nE h
theorem Tv (hgl:Gl X "abs"):PE X (.Call (.Name "abs" np) (e :: es) [] pos) (lE p EX tn (.bi .abs (.cons x xs))):=by
 rw [aaG,aah] at hst
 refine Cq (es:=es) (e:=e) (B7 QM hgl (hg _ (by simp)) (by decide +kernel) ha (by decide) (by decide) (Am hst.1) (AB hst.2)) fun B H H1 j1 k1 j k ts σ Q R hj h=>?_
 rcases ts with _ | ⟨t,_ | ⟨u,r⟩⟩
 ·exact nE h
 ·cases t with
  | int i=>exact ⟨i,rfl,h (.int _) H1 rfl (Rs.scal R.same rfl)⟩
  | _=>exact nE h
 ·exact nE h
theorem Tw (hgl:Gl X "int"):PE X (.Call (.Name "int" np) (e :: es) [] pos) (lE p EX tn (.bi .int (.cons x xs))):=by
 rw [aaG,aah] at hst
 refine Cq (es:=es) (e:=e) (Kn O0 hgl (hg _ (by simp)) (by decide +kernel) ha (by decide) (by decide) (Am hst.1) (AB hst.2)) fun B H H1 j1 k1 j k ts σ Q R hj h=>?_
 rcases ts with _ | ⟨t,_ | ⟨u,r⟩⟩
 ·exact nE h
 ·cases t with
  | int i=>exact .inl ⟨i,rfl,h (.int _) H1 rfl (Rs.scal R.same rfl)⟩
  | bl b=>exact .inr ⟨b,rfl,h (.int _) H1 rfl (Rs.scal R.same rfl)⟩
  | _=>exact nE h
 ·exact nE h
theorem Rk (hgl:Gl X "list"):PE X (.Call (.Name "list" np) (e :: es) [] pos) (lE p EX tn (.bi .list (.cons x xs))):=by
 rw [aaG,aah] at hst
 refine Cq (es:=es) (e:=e) (Kn Ls hgl (hg _ (by simp)) (by decide +kernel) ha (by decide) (by decide) (Am hst.1) (AB hst.2)) fun B H H1 j1 k1 j k ts σ Q R hj h=>?_
 obtain ⟨hc,ej⟩:=ER hj
 cases ej
 have hc:j1=0:=of_decide_eq_true hc
 subst hc
 rcases ts with _ | ⟨t,_ | ⟨u,r⟩⟩
 ·exact nE h
 ·cases t with
  | lst a us=>exact ⟨a,_,rfl,.inl (.inl R.ok.1.1),fun l hl=>h (.lst l us) _ rfl (GN R.same R.ok.1.2 (fun c m=>R.src c (by simp [T.rests,T.rest,m])) hl)⟩
  | tup a us=>exact ⟨a,_,rfl,.inr (SqT.of R.ok.1.1),fun l hl=>h (.lst l us) _ rfl (GN R.same R.ok.1.2 (fun c m=>R.src c (by simp [T.rests,T.rest,m])) hl)⟩
  | _=>exact nE h
 ·exact nE h
theorem Tx (hcm:X.calm=true) (hgl:Gl X "all"):PE X (.Call (.Name "all" np) (e :: es) [] pos) (lE p EX tn (.bi .all (.cons x xs))):=by
 rw [aaG,aah] at hst
 refine Cq (es:=es) (e:=e) (B7 (Ph hcm) hgl (hg _ (by simp)) (by decide +kernel) ha (by decide) (by decide) (Am hst.1) (AB hst.2)) fun B H H1 j1 k1 j k ts σ Q R hj h=>?_
 rcases ts with _ | ⟨t,_ | ⟨u,r⟩⟩
 ·exact nE h
 ·cases t with
  | lst a us =>
   have h:Lg p EX σ ((AA (Bj (T.dats us))).bind _) H (KE p B H j k Q):=h
   cases q:Bj (T.dats us) with
   | none=>rw [q] at h; exact nE h
   | some bs =>
    rw [q] at h
    exact ⟨a,bs,rfl,.inl (GR q ▸ R.ok.1.1),h (.bl _) H1 rfl (Rs.scal R.same rfl)⟩
  | _=>exact nE h
 ·exact nE h
end
end
theorem Ku (f:Nat->Int × Int):∀ k,f (argBest (fun i j=>HT.lexLt [(f i).1,(f i).2] [(f j).1,(f j).2]) k)=((aar k).map fun i=>f (i + 1)).foldl (fun b y=>if BD y b then y else b) (f 0)
 | 0=>rfl
 | k + 1=>by
  have e:∀ x y:Int × Int,HT.lexLt [x.1,x.2] [y.1,y.2]=BD x y:=fun x y=>by
   unfold BD
   rw [HT.lexLt_cons,HT.lexLt_cons,HT.lexLt_nil_nil]
   by_cases c:x.1=y.1
   ·rw [if_pos c,if_pos c]
    by_cases c2:x.2=y.2
    ·rw [if_pos c2]; exact (decide_eq_false (by omega)).symm
    ·rw [if_neg c2]
   ·rw [if_neg c,if_neg c]
  rw [abq,aao,List.foldl_append,<- Ku f k]
  simp only [argBest,e,aax,abb,abB,List.foldl_nil]
  split <;> rfl
theorem Kv:∀ {us:List T} {ps:List (Int × Int)},EQ (T.dats us)=some ps->∃ qs:List (Addr × Int × Int),us=qs.map (fun q=>T.tup q.1 [.int q.2.1,.int q.2.2])/\ps=qs.map fun q=>(q.2.1,q.2.2)
 | [],ps,h=>by cases h; exact ⟨[],rfl,rfl⟩
 | .tup a [.int x,.int y] :: r,ps,h=>by
  have h:(EQ (T.dats r)).map ((x,y) :: ·)=some ps:=h
  obtain ⟨ps',h1,rfl⟩:=aas.mp h
  obtain ⟨qs,e1,e2⟩:=Kv h1
  exact ⟨(a,x,y) :: qs,by rw [e1]; rfl,by rw [e2]; rfl⟩
 | .tup a [] :: r,ps,h=>by cases h
 | .tup a [u] :: r,ps,h=>by cases u <;> cases h
 | .tup a (.int x :: u :: v :: w) :: r,ps,h=>by cases u <;> cases h
 | .tup a (.non :: u :: w) :: r,ps,h=>by cases h
 | .tup a (.bl _ :: u :: w) :: r,ps,h=>by cases h
 | .tup a (.str _ :: u :: w) :: r,ps,h=>by cases h
 | .tup a (.tup _ _ :: u :: w) :: r,ps,h=>by cases h
 | .tup a (.lst _ _ :: u :: w) :: r,ps,h=>by cases h
 | .tup a (.exn _ _ :: u :: w) :: r,ps,h=>by cases h
 | .tup a [.int x,.non] :: r,ps,h=>by cases h
 | .tup a [.int x,.bl _] :: r,ps,h=>by cases h
 | .tup a [.int x,.str _] :: r,ps,h=>by cases h
 | .tup a [.int x,.tup _ _] :: r,ps,h=>by cases h
 | .tup a [.int x,.lst _ _] :: r,ps,h=>by cases h
 | .tup a [.int x,.exn _ _] :: r,ps,h=>by cases h
 | .non :: r,ps,h=>by cases h
 | .bl _ :: r,ps,h=>by cases h
 | .int _ :: r,ps,h=>by cases h
 | .str _ :: r,ps,h=>by cases h
 | .lst _ _ :: r,ps,h=>by cases h
 | .exn _ _ :: r,ps,h=>by cases h
section
variable {p:Px} {EX:EXT} {tn:List Nat} {X:Cx} {pos np:Pos}
theorem IN {ns:List Int} {its:List Value} (h:Vals (ns.map V.int) its):∃ xs:Array (Int × Tok),its.toArray=intItems xs/\ns=xs.toList.map (·.1):=by
 have hi:=NZ h
 obtain ⟨xs,hx⟩:=hi.allInts.items
 refine ⟨xs,hx,?_⟩
 rw [<- nums_intItems,<- hx,<- hi.numsOf]
noncomputable def Wt:List V->Hp->VK->Prop:=fun xs H Q=>∃ (l:Addr) (ns:List Int) (M:Int),xs=[.ref l]/\Rd H l (.lst (ns.map V.int))/\ns.max?=some M/\Q (.int M) H
noncomputable def Wu:List V->Hp->VK->Prop:=fun xs H Q=>∃ (l:Addr) (ns:List Int) (M:Int),xs=[.ref l]/\Rd H l (.lst (ns.map V.int))/\ns.min?=some M/\Q (.int M) H
theorem Pt (hc:X.calm=true):C6 X (.builtin "max") Wt:=by
 intro pins s σ H xs us Q I r h
 obtain ⟨l,ns,M,rfl,hS,hM,q⟩:=h
 obtain ⟨u,rfl,ru⟩:=EN r
 cases (show u=Value.ref l from ru)
 obtain ⟨its,rr,pl,_⟩:=I.list (.inl hS)
 obtain ⟨xs,hx,rfl⟩:=IN rr
 have hl:=pl.isList
 rw [hx] at hl
 have hne:0 < xs.size:=by
  rcases abX xs.size with z | z
  ·have:xs.toList=[]:=abf (by simpa using z)
   rw [this] at hM; cases hM
  ·exact z
 refine max_intList (I.ok.hd hc) hl hne fun v h' tk hv hk=>?_
 obtain ⟨t,rfl⟩:=intItems_at hv
 obtain ⟨h1,h2⟩:=argBest_gt (numAt xs) (xs.size - 1)
 have e:M=numAt xs (argBest (fun i j=>decide (numAt xs i > numAt xs j)) (xs.size - 1)):=by
  have:(xs.toList.map (·.1)).max?=some (numAt xs (argBest (fun i j=>decide (numAt xs i > numAt xs j)) (xs.size - 1))):=by
   refine aca.mpr ⟨?_,fun a ha=>?_⟩
   ·rw [numAt_eq]; exact getD_mem (by rw [aac,Array.length_toList]; omega)
   ·obtain ⟨j,hj,rfl⟩:=mem_getD ha
    rw [aac,Array.length_toList] at hj
    rw [<- numAt_eq]; exact h2 j (by omega)
  exact Option.some.inj (hM.symm.trans this)
 exact ⟨.int M,H,I.kept (t':=tk) hk,⟨t,by rw [e]⟩,q⟩
theorem Pv (hc:X.calm=true):C6 X (.builtin "min") Wu:=by
 intro pins s σ H xs us Q I r h
 obtain ⟨l,ns,M,rfl,hS,hM,q⟩:=h
 obtain ⟨u,rfl,ru⟩:=EN r
 cases (show u=Value.ref l from ru)
 obtain ⟨its,rr,pl,_⟩:=I.list (.inl hS)
 obtain ⟨xs,hx,rfl⟩:=IN rr
 have hl:=pl.isList
 rw [hx] at hl
 have hne:0 < xs.size:=by
  rcases abX xs.size with z | z
  ·have:xs.toList=[]:=abf (by simpa using z)
   rw [this] at hM; cases hM
  ·exact z
 refine min_intList (I.ok.hd hc) hl hne fun v h' tk hv hk=>?_
 obtain ⟨t,rfl⟩:=intItems_at hv
 obtain ⟨h1,h2⟩:=argBest_lt (numAt xs) (xs.size - 1)
 have e:M=numAt xs (argBest (fun i j=>decide (numAt xs i < numAt xs j)) (xs.size - 1)):=by
  have:(xs.toList.map (·.1)).min?=some (numAt xs (argBest (fun i j=>decide (numAt xs i < numAt xs j)) (xs.size - 1))):=by
   refine List.min?_eq_some_iff.mpr ⟨?_,fun a ha=>?_⟩
   ·rw [numAt_eq]; exact getD_mem (by rw [aac,Array.length_toList]; omega)
   ·obtain ⟨j,hj,rfl⟩:=mem_getD ha
    rw [aac,Array.length_toList] at hj
    rw [<- numAt_eq]; exact h2 j (by omega)
  exact Option.some.inj (hM.symm.trans this)
 exact ⟨.int M,H,I.kept (t':=tk) hk,⟨t,by rw [e]⟩,q⟩
section
variable {e:Expr} {es:List Expr} {x:E} {xs:Es} (hg:∀ y:Str,y ∈ (["len", "min", "max", "abs", "int", "list", "tuple", "all", "any", "sum", "sorted", "isinstance", "str", "range", "enumerate", "zip", "reversed"]:List Str)->X.mg y=none)
 (ha:PA X (e :: es) (lEs p EX tn (.cons x xs))) (hst:(e :: es).all At=true)
include hg ha hst
theorem Ty (hcm:X.calm=true) (hgl:Gl X "max"):PE X (.Call (.Name "max" np) (e :: es) [] pos) (lE p EX tn (.bi .max (.cons x xs))):=by
 rw [aaG,aah] at hst
 refine Cq (es:=es) (e:=e) (B7 (OY hcm) hgl (hg _ (by simp)) (by decide +kernel) ha (by decide) (by decide) (Am hst.1) (AB hst.2)) fun B H H1 j1 k1 j k ts σ Q R hj h=>?_
 rcases ts with _ | ⟨t,_ | ⟨u,_ | ⟨v,r⟩⟩⟩
 ·exact nE h
 ·exact nE h
 ·obtain ⟨i,m,rfl,rfl,h⟩:=Cp (t:=t) (u:=u) (Q:=fun r=>Lg p EX σ r H (KE p B H j k Q)) id h
  refine ⟨i,m,rfl,?_⟩
  have:=h (.int _) H1 rfl (Rs.scal R.same rfl)
  have e:(if m > i then m else i)=max i m:=by split <;> omega
  rw [e]; exact this
 ·exact nE h
theorem Rl (hcm:X.calm=true) (hgl:Gl X "max"):PE X (.Call (.Name "max" np) (e :: es) [] pos) (lE p EX tn (.bi .maxL (.cons x xs))):=by
 rw [aaG,aah] at hst
 refine Cq (es:=es) (e:=e) (B7 (Pt hcm) hgl (hg _ (by simp)) (by decide +kernel) ha (by decide) (by decide) (Am hst.1) (AB hst.2)) fun B H H1 j1 k1 j k ts σ Q R hj h=>?_
 rcases ts with _ | ⟨t,_ | ⟨u,r⟩⟩
 ·exact nE h
 ·cases t with
  | lst a us =>
   have h:Lg p EX σ ((AA (Be (T.dats us))).bind fun ns=>(AA ns.max?).bind fun n=>.ok (.int n)) H (KE p B H j k Q):=h
   cases q:Be (T.dats us) with
   | none=>rw [q] at h; exact nE h
   | some ns =>
    rw [q] at h
    have h:Lg p EX σ ((AA ns.max?).bind fun n=>.ok (.int n)) H (KE p B H j k Q):=h
    cases q2:ns.max? with
    | none=>rw [q2] at h; exact nE h
    | some M =>
     rw [q2] at h
     exact ⟨a,ns,M,rfl,FT q ▸ R.ok.1.1,q2,h (.int _) H1 rfl (Rs.scal R.same rfl)⟩
  | _=>exact nE h
 ·exact nE h
theorem Tz (hcm:X.calm=true) (hgl:Gl X "min"):PE X (.Call (.Name "min" np) (e :: es) [] pos) (lE p EX tn (.bi .min (.cons x xs))):=by
 rw [aaG,aah] at hst
 refine Cq (es:=es) (e:=e) (B7 (OZ hcm) hgl (hg _ (by simp)) (by decide +kernel) ha (by decide) (by decide) (Am hst.1) (AB hst.2)) fun B H H1 j1 k1 j k ts σ Q R hj h=>?_
 rcases ts with _ | ⟨t,_ | ⟨u,_ | ⟨v,r⟩⟩⟩
 ·exact nE h
 ·exact nE h
 ·obtain ⟨i,m,rfl,rfl,h⟩:=Cp (t:=t) (u:=u) (Q:=fun r=>Lg p EX σ r H (KE p B H j k Q)) id h
  refine ⟨i,m,rfl,?_⟩
  have:=h (.int _) H1 rfl (Rs.scal R.same rfl)
  have e:(if m < i then m else i)=min i m:=by split <;> omega
  rw [e]; exact this
 ·exact nE h
theorem Rm (hcm:X.calm=true) (hgl:Gl X "min"):PE X (.Call (.Name "min" np) (e :: es) [] pos) (lE p EX tn (.bi .minL (.cons x xs))):=by
 rw [aaG,aah] at hst
 refine Cq (es:=es) (e:=e) (B7 (Pv hcm) hgl (hg _ (by simp)) (by decide +kernel) ha (by decide) (by decide) (Am hst.1) (AB hst.2)) fun B H H1 j1 k1 j k ts σ Q R hj h=>?_
 rcases ts with _ | ⟨t,_ | ⟨u,r⟩⟩
 ·exact nE h
 ·cases t with
  | lst a us =>
   have h:Lg p EX σ ((AA (Be (T.dats us))).bind fun ns=>(AA ns.min?).bind fun n=>.ok (.int n)) H (KE p B H j k Q):=h
   cases q:Be (T.dats us) with
   | none=>rw [q] at h; exact nE h
   | some ns =>
    rw [q] at h
    have h:Lg p EX σ ((AA ns.min?).bind fun n=>.ok (.int n)) H (KE p B H j k Q):=h
    cases q2:ns.min? with
    | none=>rw [q2] at h; exact nE h
    | some M =>
     rw [q2] at h
     exact ⟨a,ns,M,rfl,FT q ▸ R.ok.1.1,q2,h (.int _) H1 rfl (Rs.scal R.same rfl)⟩
  | _=>exact nE h
 ·exact nE h
theorem Rn (hcm:X.calm=true) (hu:X.A.units + 64 < cLine) (hgl:Gl X "min"):PE X (.Call (.Name "min" np) (e :: es) [] pos) (lE p EX tn (.bi .minP (.cons x xs))):=by
 rw [aaG,aah] at hst
 refine Cq (es:=es) (e:=e) (B7 (Pl hcm hu) hgl (hg _ (by simp)) (by decide +kernel) ha (by decide) (by decide) (Am hst.1) (AB hst.2)) fun B H H1 j1 k1 j k ts σ Q R hj h=>?_
 rcases ts with _ | ⟨t,_ | ⟨u,r⟩⟩
 ·exact nE h
 ·cases t with
  | lst a us =>
   have h:Lg p EX σ ((AA (EQ (T.dats us))).bind fun ps=>(AA (IJ ps)).bind fun q=>.ok (.tup [.int q.1,.int q.2])) H (KE p B H j k Q):=h
   cases q:EQ (T.dats us) with
   | none=>rw [q] at h; exact nE h
   | some ps =>
    rw [q] at h
    obtain ⟨qs,rfl,rfl⟩:=Kv q
    cases qs with
    | nil=>exact nE h
    | cons q0 qr =>
     have okl:=T.oks_iff.mp R.ok.1.2
     have okt:∀ w ∈ q0 :: qr,H1 w.1=some (.tup [.int w.2.1,.int w.2.2]):=fun w hw=>(okl _ (aav.mpr ⟨w,hw,rfl⟩)).1
     obtain ⟨f,hf⟩:∃ f:Nat->Addr × Int × Int,f=fun i=>(q0 :: qr).getD i (0,0,0):=⟨_,rfl⟩
     obtain ⟨b,hb⟩:∃ b,b=argBest (fun i j=>HT.lexLt [(f i).2.1,(f i).2.2] [(f j).2.1,(f j).2.2]) ((q0 :: qr).length - 1):=⟨_,rfl⟩
     have hbl:∀ (bt:Nat->Nat->Bool) k,argBest bt k<=k:=fun bt k=>by
      induction k with
      | zero=>exact aaj _
      | succ k ih=>simp only [argBest]; split <;> omega
     have hbm:f b ∈ q0 :: qr:=by
      have:=hbl (fun i j=>HT.lexLt [(f i).2.1,(f i).2.2] [(f j).2.1,(f j).2.2]) ((q0 :: qr).length - 1)
      rw [<- hb] at this
      rw [hf]
      show (q0 :: qr).getD b (0,0,0) ∈ _
      rw [aap,aae (show b < (q0 :: qr).length by simp at this ⊢; omega)]
      exact acq _
     have hfold:=Ku (fun i=>((f i).2.1,(f i).2.2)) ((q0 :: qr).length - 1)
     rw [show argBest (fun i j=>HT.lexLt [((fun i=>((f i).2.1,(f i).2.2)) i).1,((fun i=>((f i).2.1,(f i).2.2)) i).2] [((fun i=>((f i).2.1,(f i).2.2)) j).1,((fun i=>((f i).2.1,(f i).2.2)) j).2]) ((q0 :: qr).length - 1)=b from hb.symm] at hfold
     have hmap:(aar ((q0 :: qr).length - 1)).map (fun i=>((f (i + 1)).2.1,(f (i + 1)).2.2))=qr.map fun q=>(q.2.1,q.2.2):=by
      rw [hf]
      show (aar qr.length).map _=_
      refine acl fun i=>?_
      by_cases c:i < qr.length
      ·rw [aaq,abV c,aaq,aae c]
       simp [aap,aae c]
      ·rw [abN (by simp; omega),abN (by simp; omega)]
     rw [hmap] at hfold
     have hm:IJ ((q0 :: qr).map fun q=>(q.2.1,q.2.2))=some ((f b).2.1,(f b).2.2):=by
      rw [hfold,hf]; rfl
     have h:Lg p EX σ ((AA (IJ ((q0 :: qr).map fun q=>(q.2.1,q.2.2)))).bind fun q=>.ok (.tup [.int q.1,.int q.2])) H (KE p B H j k Q):=h
     rw [hm] at h
     refine ⟨a,q0 :: qr,rfl,?_,fun w hw=>SqT.of (okt w hw),by simp,?_⟩
     ·have:=R.ok.1.1
      rw [aaz] at this
      exact this
     ·have:=h (.tup (f b).1 [.int (f b).2.1,.int (f b).2.2]) H1 rfl (LP R.same ⟨okt _ hbm,trivial,trivial,trivial⟩ fun w hw=>by
       simp only [aai,abv,or_false] at hw
       rcases hw with rfl | rfl <;> rfl)
      rw [hb,hf] at this
      exact this
  | _=>exact nE h
 ·exact nE h
end
end
structure ItOk (p:Px) (B:Addr->Prop) (H H1:Hp) (J:L2.It) (us:List T) (j:Nat) (ds:List D):Prop where
 same:Same H H1
 ok:T.Oks p H1 us
 src:∀ a ∈ T.rests us j,H a=none\/B a
 len:ds.length<=sizeLine
 go:∀ (i:Nat) (H':Hp),T.Oks p H' us->i < ds.length->J.go i H'
 stop:∀ (i:Nat) (H':Hp),T.Oks p H' us->ds.length<=i->J.stop i H'
 yld:∀ (i:Nat) (H':Hp) (v:V) (H'':Hp) (d:D),T.Oks p H' us->ds[i]?=some d->J.yld i H' v H''->Same H' H''/\∃ t:T,t.val=v/\t.dat=d/\t.Ok p H''/\(∀ a ∈ t.rest 0,a ∈ T.rests us 0)/\∀ a ∈ t.rest 0,H a=none\/B a
noncomputable def lI (p:Px) (EX:EXT) (tn:List Nat) (it:It):TI:=fun σ H R=>∃ τ,σ=vτ τ/\Fok p tn τ H/\∃ j,jkI tn it=some j/\Lg p EX σ (evI it (dτ τ)) H fun ds=>∀ J us H1,ItOk p (Sh tn τ) H H1 J us j ds->R J H1
theorem PI.mono {X:Cx} {tg e:Expr} {t t':TI} (h:PI X tg e t) (m:∀ σ H Q,t' σ H Q->t σ H Q):PI X tg e t':=fun pins s σ H Q I q=>h pins s σ H Q I (m _ _ _ q)
section
variable {p:Px} {EX:EXT} {tn:List Nat} {X:Cx} {pos np:Pos} {tg:Expr}
theorem Fi {ts:List T} {i:Nat} {d:D} (h:(T.dats ts)[i]?=some d):∃ t,ts[i]?=some t/\t.dat=d:=by
 rw [T.dats_map,aaq] at h
 obtain ⟨t,h1,h2⟩:=aas.mp h
 exact ⟨t,h1,h2⟩
theorem GS (hK:X.K=p.K) {B:Addr->Prop} {H H1:Hp} {j k:Nat} {a:Addr} {ts:List T} (r:Rs p B H H1 j k (.lst a ts)) (hj:j<=1) (hl:ts.length<=sizeLine):ItOk p B H H1 (Itl X.K a) [.lst a ts] j (T.dats ts) where
 same:=r.same
 ok:=⟨r.ok,trivial⟩
 src:=fun b m=>r.src b (by simpa [T.rests] using m)
 len:=by rw [Aj]; exact hl
 go:=fun i H' ok h=>by
  rw [Aj] at h
  exact ⟨_,(ts.map T.val)[i]'(by simpa using h),.inl ok.1.1,by simp [h]⟩
 stop:=fun i H' ok h=>⟨_,.inl ok.1.1,by simpa [Aj] using h⟩
 yld:=fun i H' v H'' d ok h y=>by
  obtain ⟨rfl,y⟩:=y
  obtain ⟨t,ht,e⟩:=Fi h
  have:=y _ (.inl ok.1.1)
  rw [aaq,ht] at this
  refine ⟨Same.refl _,t,Option.some.inj this,e,T.oks_iff.mp ok.1.2 t (aaf ht),fun b m=>by simp only [T.rests,T.rest,aaP]; exact aaa _ (T.mem_rests.mpr ⟨t,aaf ht,m⟩),fun b m=>r.elems hj b (T.mem_rests.mpr ⟨t,aaf ht,m⟩)⟩
theorem Ro {B:Addr->Prop} {H H1:Hp} {k:Nat} {a:Addr} {ts:List T} (r:Rs p B H H1 0 k (.tup a ts)) (hl:ts.length<=sizeLine):ItOk p B H H1 (Itt X.K a) [.tup a ts] 0 (T.dats ts) where
 same:=r.same
 ok:=⟨r.ok,trivial⟩
 src:=fun b m=>r.src b (by simpa [T.rests] using m)
 len:=by rw [Aj]; exact hl
 go:=fun i H' ok h=>by
  rw [Aj] at h
  exact ⟨_,(ts.map T.val)[i]'(by simpa using h),SqT.of ok.1.1,by simp [h]⟩
 stop:=fun i H' ok h=>⟨_,SqT.of ok.1.1,by simpa [Aj] using h⟩
 yld:=fun i H' v H'' d ok h y=>by
  obtain ⟨rfl,y⟩:=y
  obtain ⟨t,ht,e⟩:=Fi h
  have:=y _ (SqT.of ok.1.1)
  rw [aaq,ht] at this
  refine ⟨Same.refl _,t,Option.some.inj this,e,T.oks_iff.mp ok.1.2 t (aaf ht),fun b m=>by simp only [T.rests,T.rest,aaP]; exact T.mem_rests.mpr ⟨t,aaf ht,m⟩,fun b m=>r.src b (T.mem_rests.mpr ⟨t,aaf ht,m⟩)⟩
noncomputable def W3 (K:Frag) (tl:TE):TI:=fun σ H R=>tl σ H fun x H1=>∃ a,x=.ref a/\((∃ xs,SqL K H1 a xs/\(xs.length<=sizeLine->R (Itl K a) H1))\/(∃ xs,SqT K H1 a xs/\(xs.length<=sizeLine->R (Itt K a) H1)))
theorem LQ {l:Expr} {tl:TE} (hl:PE X l tl):PI X tg l (W3 X.K tl):=by
 intro pins s σ H R I h
 refine thn (hl pins s σ H _ I h) fun v s1 ⟨x,H1,I1,r1,q1⟩=>?_
 obtain ⟨a,e,q1⟩:=q1
 subst e
 cases r1
 rcases q1 with ⟨xs,hq,q⟩ | ⟨xs,hq,q⟩
 ·obtain ⟨its,rv,pl,hz⟩:=I1.list hq
  refine wpAny_pyIter_list pl.isList ?_
  refine ⟨s1.heap.objs.size,[s1.heap.objs.size],_,_,H1,rfl,I1.kept (t':=s1.toks) fun b o e=>Heap.get?_push_of_some _ e,OT a _,⟨_,Heap.get?_push_size _ rfl,rfl,rfl⟩,fun b hb=>?_,q hz⟩
  have e:b=s1.heap.objs.size:=by simpa using hb
  subst e
  exact I1.fpOk (aaj _) (I1.hok.fresh (aaj _))
 ·obtain ⟨its,rv,pl,hz⟩:=I1.tuple hq
  refine wpAny_pyIter_tuple (show s1.heap.IsTuple a its.toArray from pl) ?_
  refine ⟨s1.heap.objs.size,[s1.heap.objs.size],_,_,H1,rfl,I1.kept (t':=s1.toks) fun b o e=>Heap.get?_push_of_some _ e,NS a _,⟨_,Heap.get?_push_size _ rfl,rfl,rfl⟩,fun b hb=>?_,q hz⟩
  have e:b=s1.heap.objs.size:=by simpa using hb
  subst e
  exact I1.fpOk (aaj _) (I1.hok.fresh (aaj _))
theorem Rp (hK:X.K=p.K) {e:Expr} {x:E} (he:PE X e (lE p EX tn x)):PI X tg e (lI p EX tn (.seq x)):=by
 refine PI.mono (LQ he) fun σ H R h=>?_
 obtain ⟨τ,rfl,hF,j,hj,h⟩:=h
 simp only [jkI] at hj
 obtain ⟨⟨j1,k1⟩,h1,hj⟩:=bS hj
 split at hj
 ·rename_i z
  cases hj
  have z:j1=0:=z
  subst z
  simp only [evI] at h
  refine l1 hF h1 h fun d t H1 ht r h=>?_
  subst ht
  cases t with
  | lst a ts=>exact ⟨a,rfl,.inl ⟨_,.inl r.ok.1,fun hz=>h _ _ _ (GS hK r (by omega) (by simpa using hz))⟩⟩
  | tup a ts=>exact ⟨a,rfl,.inr ⟨_,SqT.of r.ok.1,fun hz=>h _ _ _ (Ro r (by simpa using hz))⟩⟩
  | _=>exact nE h
 ·cases hj
theorem Pw (hK:X.K=p.K) {e:Expr} {x:E} (he:PE X e (lE p EX tn x)):PI X tg e (lI p EX tn (.seqL x)):=by
 refine PI.mono (LQ he) fun σ H R h=>?_
 obtain ⟨τ,rfl,hF,j,hj,h⟩:=h
 simp only [jkI] at hj
 obtain ⟨⟨j1,k1⟩,h1,hj⟩:=bS hj
 split at hj
 ·rename_i z
  cases hj
  simp only [evI] at h
  refine l1 hF h1 h fun d t H1 ht r h=>?_
  subst ht
  cases t with
  | lst a ts=>exact ⟨a,rfl,.inl ⟨_,.inl r.ok.1,fun hz=>h _ _ _ (GS hK r z (by simpa using hz))⟩⟩
  | _=>exact nE h
 ·cases hj
theorem Rq (hK:X.K=p.K) {B:Addr->Prop} {H H1:Hp} {j k:Nat} {a:Addr} {ts:List T} (r:Rs p B H H1 j k (.lst a ts)) (hj:j<=1) (hl:ts.length<=sizeLine):ItOk p B H H1 (Itb X.K a ts.length) [.lst a ts] j (T.dats ts).reverse where
 same:=r.same
 ok:=⟨r.ok,trivial⟩
 src:=fun b m=>r.src b (by simpa [T.rests] using m)
 len:=by rw [abU,Aj]; exact hl
 go:=fun i H' ok h=>by
  rw [abU,Aj] at h
  exact ⟨_,(ts.map T.val)[ts.length - 1 - i]'(by simp; omega),.inl ok.1.1,h,aae (by simp; omega)⟩
 stop:=fun i H' ok h=>by
  rw [abU,Aj] at h
  exact h
 yld:=fun i H' v H'' d ok h y=>by
  obtain ⟨rfl,y⟩:=y
  have hi:=(aak.mp h).1
  rw [List.getElem?_reverse (by simpa using hi),Aj] at h
  obtain ⟨t,ht,e⟩:=Fi h
  have:=y _ (.inl ok.1.1)
  rw [aaq,ht] at this
  exact ⟨Same.refl _,t,Option.some.inj this,e,T.oks_iff.mp ok.1.2 t (aaf ht),fun b m=>by simp only [T.rests,T.rest,aaP]; exact aaa _ (T.mem_rests.mpr ⟨t,aaf ht,m⟩),fun b m=>r.elems hj b (T.mem_rests.mpr ⟨t,aaf ht,m⟩)⟩
theorem TB (hK:X.K=p.K) {e:Expr} {x:E} {np pos:Pos} (he:PE X e (lE p EX tn x)) (hst:At e=true) (hg:Gl X "reversed") (hm:X.mg "reversed" = none):PI X tg (.Call (.Name "reversed" np) [e] [] pos) (lI p EX tn (.rv x)):=by
 refine PI.mono (U8 hg hm (BE he DM (Am hst)) (Am hst)) fun σ H R h=>?_
 obtain ⟨τ,rfl,hF,j,hj,h⟩:=h
 simp only [jkI] at hj
 obtain ⟨⟨j1,k1⟩,h1,hj⟩:=bS hj
 split at hj
 ·rename_i z
  cases hj
  simp only [evI] at h
  refine l1 hF h1 h fun d t H1 ht r h=>?_
  subst ht
  cases t with
  | lst a ts =>
   refine ⟨a,_,rfl,.inl r.ok.1,fun hz=>?_⟩
   have hl:(ts.map T.val).length=ts.length:=aac ..
   rw [hl] at hz ⊢
   exact h _ _ _ (Rq hK r z hz)
  | _=>exact nE h
 ·cases hj
theorem IO {B:Addr->Prop} {H H1:Hp} {a b:Int} (s:Same H H1) (hl:(b - a).toNat<=LIM):ItOk p B H H1 (Itr a (b - a).toNat) [] 0 (Ar a b) where
 same:=s
 ok:=trivial
 src:=fun c m=>nomatch m
 len:=by unfold Ar; rw [aac,abH]; exact hl
 go:=fun i H' _ h=>by unfold Ar at h; rw [aac,abH] at h; exact h
 stop:=fun i H' _ h=>by unfold Ar at h; rw [aac,abH] at h; exact h
 yld:=fun i H' v H'' d _ h y=>by
  obtain ⟨rfl,rfl⟩:=y
  unfold Ar at h
  rw [aaq] at h
  obtain ⟨n,h1,h2⟩:=aas.mp h
  have:n=i:=by
   obtain ⟨_,e⟩:=aak.mp h1
   simpa using e.symm
  subst this
  exact ⟨Same.refl _,.int (a + n),rfl,h2,trivial,by simp [T.rest],by simp [T.rest]⟩
theorem Fj {i:Int} (h:GL i=true):-(2 ^ 62)<=i/\i < 2 ^ 62:=by
 unfold GL at h
 rw [aah] at h
 exact ⟨of_decide_eq_true h.1,of_decide_eq_true h.2⟩
theorem TC {e:Expr} {x:E} (he:PE X e (lE p EX tn x)) (hst:At e=true) (hg:Gl X "range") (hm:X.mg "range" = none):PI X tg (.Call (.Name "range" np) [e] [] pos) (lI p EX tn (.r1 x)):=by
 refine PI.mono (OU hg hm (BE he DM (Am hst)) (Am hst)) fun σ H R h=>?_
 obtain ⟨τ,rfl,hF,j,hj,h⟩:=h
 simp only [jkI] at hj
 obtain ⟨⟨j1,k1⟩,h1,hj⟩:=bS hj
 cases hj
 simp only [evI] at h
 refine l1 hF h1 h fun d t H1 ht r h=>?_
 subst ht
 cases t with
 | int b =>
  obtain ⟨hc,h⟩:=Lg.guard (r:=.ok (Ar 0 b)) h
  rw [aah,aah] at hc
  obtain ⟨h3,h4⟩:=Fj hc.1.2
  have hl:=of_decide_eq_true hc.2
  have:=h _ _ _ (IO (p:=p) r.same hl)
  rw [acr] at this
  exact ⟨b,rfl,h3,h4,this⟩
 | _=>exact nE h
theorem TD {e e':Expr} {x y:E} (he:PE X e (lE p EX tn x)) (he':PE X e' (lE p EX tn y)) (hst:At e=true) (hst':At e'=true) (hg:Gl X "range") (hm:X.mg "range" = none):PI X tg (.Call (.Name "range" np) [e,e'] [] pos) (lI p EX tn (.r2 x y)):=by
 refine PI.mono (OV hg hm (BE he (BE he' DM (Am hst')) (Am hst)) (by rw [Am hst,Am hst']; rfl) (Am hst')) fun σ H R h=>?_
 obtain ⟨τ,rfl,hF,j,hj,h⟩:=h
 simp only [jkI] at hj
 obtain ⟨⟨j1,k1⟩,h1,hj⟩:=bS hj
 obtain ⟨⟨j2,k2⟩,h2,hj⟩:=bS hj
 cases hj
 simp only [evI] at h
 refine l1 hF h1 h fun d t H1 ht r h=>l2 hF r.same h2 h fun d' t' H2 ht' r' h=>?_
 subst ht ht'
 cases t with
 | int a =>
  cases t' with
  | int b =>
   obtain ⟨hc,h⟩:=Lg.guard (r:=.ok (Ar a b)) h
   rw [aah,aah] at hc
   exact ⟨a,b,rfl,⟨(Fj hc.1.1).1,(Fj hc.1.1).2,(Fj hc.1.2).1,(Fj hc.1.2).2⟩,h _ _ _ (IO (p:=p) (r.same.trans r'.same) (of_decide_eq_true hc.2))⟩
  | _=>exact nE h
 | _=>exact nE h
end
noncomputable def Cr:List Nat->List T->Ft->Option Ft
 | [],[],τ=>some τ
 | i :: is,t :: ts,τ=>Cr is ts (τ.set i (some t))
 | _,_,_=>none
noncomputable def Do:Tg->T->Ft->Option Ft
 | .nm i,t,τ=>some (τ.set i (some t))
 | .tp is,.tup _ ts,τ=>Cr is ts τ
 | .tp is,.lst _ ts,τ=>Cr is ts τ
 | _,_,_=>none
theorem Hm (τ:Ft) (i:Nat) (t:T):dτ (τ.set i (some t))=(dτ τ).set i (some t.dat):=by unfold dτ; rw [acV]; rfl
theorem Hn (τ:Ft) (i:Nat) (t:T):vτ (τ.set i (some t))=(vτ τ).set i (some t.val):=by unfold vτ; rw [acV]; rfl
theorem IP:∀ (is:List Nat) (ts:List T) (τ:Ft),F7 is (T.dats ts) (dτ τ)=(Cr is ts τ).map dτ
 | [],[],τ=>rfl
 | [],t :: ts,τ=>rfl
 | i :: is,[],τ=>rfl
 | i :: is,t :: ts,τ=>by simp only [T.dats,F7,Cr]; rw [<- Hm,IP is ts]
theorem GT (g:Tg) (t:T) (τ:Ft):Dz g t.dat (dτ τ)=(Do g t τ).map dτ:=by
 cases g with
 | nm i=>simp only [Dz,Do,aaY,Hm]
 | tp is=>cases t <;> first | rfl | exact IP is _ τ
noncomputable def Dp:List Nat->TGs
 | []=>UC
 | i :: r=>Sj (Fy i) (Dp r)
noncomputable def lG (K:Frag):Tg->TG
 | .nm i=>Fy i
 | .tp is=>fun v σ H Q=>UD K is.length (Dp is) v σ H Q\/U9 K is.length (Dp is) v σ H Q
theorem GU {H:Hp} {Q:L2.St->Hp->Prop}:∀ {is:List Nat} {ts:List T} {τ τ':Ft},Cr is ts τ=some τ'->Q (vτ τ') H->Dp is (ts.map T.val) (vτ τ) H Q
 | [],[],τ,τ',h,q=>by cases h; exact ⟨rfl,q⟩
 | [],t :: ts,τ,τ',h,q=>by cases h
 | i :: is,[],τ,τ',h,q=>by cases h
 | i :: is,t :: ts,τ,τ',h,q=>by
  refine ⟨t.val,ts.map T.val,rfl,?_⟩
  show Dp is (ts.map T.val) ((vτ τ).set i (some t.val)) H Q
  rw [<- Hn]
  exact GU (τ:=τ.set i (some t)) h q
theorem FV:∀ {is:List Nat} {ts:List T} {τ τ':Ft},Cr is ts τ=some τ'->ts.length=is.length
 | [],[],τ,τ',h=>rfl
 | [],t :: ts,τ,τ',h=>by cases h
 | i :: is,[],τ,τ',h=>by cases h
 | i :: is,t :: ts,τ,τ',h=>by simp [FV (is:=is) (ts:=ts) (τ:=τ.set i (some t)) h]
theorem Od {K:Frag} {p:Px} {H:Hp} {g:Tg} {t:T} {τ τ':Ft} {Q:L2.St->Hp->Prop} (ok:t.Ok p H) (h:Do g t τ=some τ') (q:Q (vτ τ') H):lG K g t.val (vτ τ) H Q:=by
 cases g with
 | nm i =>
  cases h
  show Q ((vτ τ).set i (some t.val)) H
  rw [<- Hn]; exact q
 | tp is =>
  cases t with
  | tup a ts=>exact .inl ⟨a,ts.map T.val,rfl,SqT.of ok.1,by rw [aac]; exact FV h,GU h q⟩
  | lst a ts=>exact .inr ⟨a,ts.map T.val,rfl,.inl ok.1,by rw [aac]; exact FV h,GU h q⟩
  | _=>cases h
noncomputable def Tg.sl:Tg->List Nat
 | .nm i=>[i]
 | .tp is=>is
theorem FW {n:Nat} {H:Hp} {Q:L2.St->Hp->Prop}:∀ {is:List Nat} {vs:List V} {σ:L2.St},(∀ i ∈ is,i < n)->Dp is vs σ H Q->Dp is vs σ H fun σ' H'=>Q σ' H'/\σ'.length=σ.length/\∀ i,n<=i->σ'[i]?=σ[i]?
 | [],vs,σ,_,h=>by obtain ⟨e,q⟩:=h; exact ⟨e,q,rfl,fun _ _=>rfl⟩
 | i :: is,vs,σ,hi,h=>by
  obtain ⟨v,r,e,h⟩:=h
  refine ⟨v,r,e,?_⟩
  have h2:=FW (n:=n) (is:=is) (σ:=σ.set i (some v)) (fun j hj=>hi j (aaa _ hj)) h
  have mono:∀ {is:List Nat} {vs:List V} {σ:L2.St} {H:Hp} {A B:L2.St->Hp->Prop},(∀ s h,A s h->B s h)->Dp is vs σ H A->Dp is vs σ H B:=by
   intro is
   induction is with
   | nil=>intro vs σ H A B m h; exact ⟨h.1,m _ _ h.2⟩
   | cons i is ih =>
    intro vs σ H A B m h
    obtain ⟨v,r,e,h⟩:=h
    exact ⟨v,r,e,ih m h⟩
  refine mono (fun s h q=>⟨q.1,by rw [q.2.1,aa2],fun k hk=>?_⟩) h2
  rw [q.2.2 k hk,aaB (by have:=hi i (aab ..); omega)]
theorem Ho {K:Frag} {n:Nat} {g:Tg} (hg:∀ i ∈ g.sl,i < n) {v:V} {σ:L2.St} {H:Hp} {Q:L2.St->Hp->Prop} (h:lG K g v σ H Q):lG K g v σ H fun σ' H'=>Q σ' H'/\σ'.length=σ.length/\∀ i,n<=i->σ'[i]?=σ[i]?:=by
 cases g with
 | nm i=>exact ⟨h,by rw [aa2],fun k hk=>by rw [aaB (by have:=hg i (aaF.mpr rfl); omega)]⟩
 | tp is =>
  rcases h with ⟨a,xs,e,s,l,h⟩ | ⟨a,xs,e,s,l,h⟩
  ·exact .inl ⟨a,xs,e,s,l,FW hg h⟩
  ·exact .inr ⟨a,xs,e,s,l,FW hg h⟩
theorem FX {P:Option T->Prop}:∀ {is:List Nat} {ts:List T} {τ τ':Ft},Cr is ts τ=some τ'->(∀ t ∈ ts,P (some t))->∀ i o,τ'[i]?=some o->P o\/(i ∉ is/\τ[i]?=some o)
 | [],[],τ,τ',h,_,i,o,e=>by cases h; exact .inr ⟨by simp,e⟩
 | [],t :: ts,τ,τ',h,_,_,_,_=>by cases h
 | i :: is,[],τ,τ',h,_,_,_,_=>by cases h
 | i :: is,t :: ts,τ,τ',h,hp,j,o,e=>by
  rcases FX (P:=P) (is:=is) (ts:=ts) (τ:=τ.set i (some t)) h (fun u hu=>hp u (aaa _ hu)) j o e with q | ⟨q1,q2⟩
  ·exact .inl q
  ·by_cases z:i=j
   ·subst z
    rw [aby ] at q2
    cases w:τ[i]? with
    | none=>rw [w] at q2; cases q2
    | some x =>
     rw [w] at q2
     have:o=some t:=by simpa using q2.symm
     subst this
     exact .inl (hp t (aab ..))
   ·rw [aaB z] at q2
    refine .inr ⟨?_,q2⟩
    intro m
    rcases aai.mp m with rfl | m
    ·exact z rfl
    ·exact q1 m
theorem IQ {P:Option T->Prop} {g:Tg} {t:T} {τ τ':Ft} (h:Do g t τ=some τ') (hp:P (some t)) (hp':∀ a ts,(t=.tup a ts\/t=.lst a ts)->∀ u ∈ ts,P (some u)) (i:Nat) (o:Option T) (e:τ'[i]?=some o):P o\/(i ∉ g.sl/\τ[i]?=some o):=by
 cases g with
 | nm k =>
  cases h
  by_cases z:k=i
  ·subst z
   rw [aby] at e
   cases w:τ[k]? with
   | none=>rw [w] at e; cases e
   | some x =>
    rw [w] at e
    have:o=some t:=by simpa using e.symm
    subst this; exact .inl hp
  ·rw [aaB z] at e
   exact .inr ⟨by simpa [Tg.sl] using fun q=>z q.symm,e⟩
 | tp is =>
  cases t with
  | tup a ts=>exact FX (P:=P) h (fun u hu=>hp' a ts (.inl rfl) u hu) i o e
  | lst a ts=>exact FX (P:=P) h (fun u hu=>hp' a ts (.inr rfl) u hu) i o e
  | _=>cases h
theorem F9:∀ {is:List Nat} {ts:List T} {τ τ':Ft},Cr is ts τ=some τ'->τ'.length=τ.length
 | [],[],τ,τ',h=>by cases h; rfl
 | [],t :: ts,τ,τ',h=>by cases h
 | i :: is,[],τ,τ',h=>by cases h
 | i :: is,t :: ts,τ,τ',h=>by rw [F9 (is:=is) (ts:=ts) (τ:=τ.set i (some t)) h,aa2]
theorem KI {g:Tg} {t:T} {τ τ':Ft} (h:Do g t τ=some τ'):τ'.length=τ.length:=by
 cases g with
 | nm k=>cases h; rw [aa2]
 | tp is=>cases t <;> first | cases h | exact F9 h
noncomputable def HR (nl:Nat) (fr:List Nat) (τ:Ft):Ft:=aam nl none ++ fr.map fun j=>(τ[j]?).join
theorem TF (nl:Nat) (fr:List Nat) (τ:Ft):dτ (HR nl fr τ)=blk nl fr (dτ τ):=by
 unfold dτ HR blk
 rw [aao,abe,aaz]
 congr 1
 refine aaR fun j _=>?_
 simp only [Function.comp,aaq]
 cases τ[j]? with
 | none=>rfl
 | some o=>rfl
theorem TH (nl:Nat) (fr:List Nat) (τ:Ft):vτ (HR nl fr τ)=Bs nl fr (vτ τ):=by
 unfold vτ HR Bs
 rw [aao,abe,aaz]
 congr 1
 refine aaR fun j _=>?_
 simp only [Function.comp,aaq]
 cases τ[j]? with
 | none=>rfl
 | some o=>rfl
noncomputable abbrev tnB (nl:Nat) (fr:List Nat) (tn:List Nat):List Nat:=aam nl 0 ++ fr.map fun j=>tn.getD j 99
theorem Nk {nl:Nat} {fr:List Nat} {tn:List Nat} {τ:Ft} {i:Nat} {t:T} {j:Nat} (h:(HR nl fr τ)[i]?=some (some t)) (hj:(tnB nl fr tn)[i]?=some j) (hlt:j < 90):∃ k:Nat,τ[k]?=some (some t)/\tn[k]?=some j:=by
 unfold HR at h
 unfold tnB at hj
 by_cases hi:i < nl
 ·rw [aaN (by simpa using hi),aaS] at h
  split at h <;> cases h
 ·rw [aaH (by simpa using hi),aa5,aaq] at h hj
  obtain ⟨k,e1,e2⟩:=aas.mp h
  rw [e1] at hj
  have e3:tn.getD k 99=j:=by simpa using hj
  refine ⟨k,?_,?_⟩
  ·cases w:τ[k]? with
   | none=>rw [w] at e2; cases e2
   | some o=>rw [w] at e2; exact congrArg some e2
  ·rw [aap] at e3
   cases w:tn[k]? with
   | none=>rw [w] at e3; simp at e3; omega
   | some x=>rw [w] at e3; exact congrArg some e3
theorem T.nds_append {ts us:List T} {k:Nat} (h1:T.Nds ts k) (h2:T.Nds us k) (c1:∀ a ∈ T.adrs ts k,a ∉ T.rests us 0) (c2:∀ a ∈ T.adrs us k,a ∉ T.rests ts 0):T.Nds (ts ++ us) k:=by
 unfold T.Nds
 rw [T.adrs_append,T.rests_append]
 refine ⟨ac0.mpr ⟨h1.1,h2.1,fun a ha b hb e=>?_⟩,fun a ha hb=>?_⟩
 ·subst e; exact c1 a ha ((T.alls_iff us k).mpr (.inl hb))
 ·rcases aag.mp ha with ha | ha <;> rcases aag.mp hb with hb | hb
  ·exact h1.2 a ha hb
  ·exact c2 a hb ((T.alls_iff ts k).mpr (.inr ha))
  ·exact c1 a hb ((T.alls_iff us k).mpr (.inr ha))
  ·exact h2.2 a ha hb
theorem GV {f:D->Res (Option D)}:∀ (ds:List D) (c:Nat),Bq f ds ≠ .exc c
 | [],c=>by simp [Bq]
 | d :: ds,c=>by
  simp only [Bq]
  cases f d with
  | ok o =>
   simp only
   cases q:Bq f ds with
   | ok r=>simp
   | exc c'=>exact absurd q (GV ds c')
   | bad=>simp
  | exc c'=>simp
  | bad=>simp
theorem MI {f:D->Res (Option D)} {d:D} {ds r:List D} (h:Bq f (d :: ds)=.ok r):∃ o r',f d=.ok o/\Bq f ds=.ok r'/\r=o.toList ++ r':=by
 simp only [Bq] at h
 cases q:f d with
 | ok o =>
  rw [q] at h
  obtain ⟨r',h1,h2⟩:=Res.bind_eq_ok h
  cases h2
  refine ⟨o,r',rfl,h1,?_⟩
  cases o <;> rfl
 | exc c=>rw [q] at h; cases h
 | bad=>rw [q] at h; cases h
noncomputable abbrev EX0:EXT:=fun _ _ _ _=>False
section
variable {p:Px} {EX:EXT} {tn:List Nat} {X:Cx} {pos np:Pos}
theorem Nl {K:Frag} {nl:Nat} {fr:List Nat} {g:Tg} {it:It} {k:Nat} {f:D->Res (Option D)} {tc:TT} {elt:E} {τ:Ft} {H:Hp} {Q:VK} {ji:Nat} (hF:Fok p tn τ H) (hji:jkI tn it=some ji) (hg:∀ i ∈ g.sl,i < nl) (hk:jk (tnB nl fr tn) elt=some (0,k))
  (hf:∀ (d:D) (o:Option D),f d=.ok o->∃ δ',Dz g d (blk nl fr (dτ τ))=some δ'/\∀ (τ4:Ft) (H3:Hp) (N:Bool->Hp->Prop),dτ τ4=δ'->Fok p (tnB nl fr tn) τ4 H3 ->
   (∀ b H5,Same H3 H5->(match o with | none=>b=false | some x=>b=true/\ev elt δ'=.ok x)->N b H5)->tc (vτ τ4) H3 N)
  (h:Lg p EX (vτ τ) ((evI it (dτ τ)).bind fun ds=>(Bq f ds).bind fun r=>.ok (.lst r)) H (KE p (Sh tn τ) H 0 (k + 1) Q)) :
  Hi nl fr (lI p EX tn it) (fun _=>lG K g) (fun _=>tc) (fun _=>lE p EX0 (tnB nl fr tn) elt) (vτ τ) H Q:=by
 refine ⟨τ,rfl,hF,ji,hji,h.bind.mono (Same.refl _) fun ds _ hd J us H1 IT=>?_⟩
 cases q:Bq f ds with
 | exc c=>exact absurd q (GV ds c)
 | bad=>rw [q] at hd; exact nE hd
 | ok r =>
 rw [q] at hd
 have hd:KE p (Sh tn τ) H 0 (k + 1) Q (.lst r):=hd
 intro z D hD
 have hDH:H D=none:=IT.same.free hD
 refine ⟨fun i m acc H2=>m=ds.length - i/\i<=ds.length/\∃ (ts:List T) (r':List Pu.D),acc=ts.map T.val/\Bq f (ds.drop i)=.ok r'/\T.dats ts ++ r'=r/\ts.length<=i/\H2 D=some (.lst acc)/\(∀ a u,a ≠ D->H1 a=some u->H2 a=some u) /\
  T.Oks p H2 ts/\(∀ a ∈ T.rests ts 0,(H a=none\/Sh tn τ a)/\a ≠ D)/\(∀ a ∈ T.adrs ts k,H1 a=none/\∃ vs,H2 a=some (.lst vs))/\T.Nds ts k,⟨ds.length,by simp,aat _,[],r,rfl,by simpa using q,rfl,aaj _,Bp,fun a u n e=>by rw [Aw n]; exact e,trivial,by simp [T.rests],by simp [T.adrs],by simp [T.Nds,T.adrs]⟩,?_⟩
 rintro i m acc H2 ⟨rfl,hi,ts,r',rfl,hr,hc,hts,hD2,kp,ok,src,new,nd⟩
 refine ⟨hD2,?_⟩
 have s2:Same H H2:=fun a u e=>kp a u (fun z=>by rw [z,hDH] at e; cases e) (IT.same a u e)
 have usok:T.Oks p H2 us:=T.oks_iff.mpr fun u hu=>(T.oks_iff.mp IT.ok u hu).keep fun a w e _=>kp a w (fun z=>by rw [z,hD] at e; cases e) e
 have out:D ∉ T.rests ts 0:=fun m=>(src D m).2 rfl
 rcases acp i ds.length with hlt | hge
 ·refine .inr ⟨IT.go i H2 usok hlt,fun x H3 y=>?_⟩
  have hdi:ds[i]?=some ds[i]:=aae hlt
  obtain ⟨s3,t,rfl,ht,tok,tus,tsrc⟩:=IT.yld i H2 x H3 ds[i] usok hdi y
  have hdrop:ds.drop i=ds[i] :: ds.drop (i + 1):=abW hlt
  rw [hdrop] at hr
  obtain ⟨o,r'',hfo,hr'',rfl⟩:=MI hr
  obtain ⟨δ',hasg,hev⟩:=hf _ o hfo
  rw [<- ht,<- TF,GT] at hasg
  obtain ⟨τ4,h4,hδ⟩:=aas.mp hasg
  have sH3:Same H H3:=s2.trans s3
  have tusD:∀ a ∈ t.rest 0,a ≠ D:=fun a m z=>by
   obtain ⟨w,hw,m⟩:=T.mem_rests.mp (tus a m)
   exact (T.oks_iff.mp IT.ok w hw).dom m (z ▸ hD)
  have slot:∀ (n:Nat) (w:T),τ4[n]?=some (some w)->(w.Ok p H3/\∀ a ∈ w.rest 0,(H a=none\/Sh tn τ a)/\a ≠ D/\H1 a ≠ none)\/(n ∉ g.sl/\(HR nl fr τ)[n]?=some (some w)):=by
   intro n w e
   refine (IQ (P:=fun o=>∀ w,o=some w->(w.Ok p H3/\∀ a ∈ w.rest 0,(H a=none\/Sh tn τ a)/\a ≠ D/\H1 a ≠ none)) h4 (fun w e=>?_) (fun a ts' e u hu w e'=>?_) n (some w) e).imp (fun q=>q w rfl) id
   ·cases e
    refine ⟨tok,fun a m=>⟨tsrc a m,tusD a m,fun z=>?_⟩⟩
    obtain ⟨w',hw',m'⟩:=T.mem_rests.mp (tus a m)
    exact (T.oks_iff.mp IT.ok w' hw').dom m' z
   ·cases e'
    have sub:∀ b ∈ u.rest 0,b ∈ t.rest 0:=fun b m=>by
     rcases e with rfl | rfl
     ·exact T.mem_rests.mpr ⟨u,hu,m⟩
     ·exact aaa _ (T.mem_rests.mpr ⟨u,hu,m⟩)
    have uok:u.Ok p H3:=by
     rcases e with rfl | rfl
     ·exact T.oks_iff.mp tok.2 u hu
     ·exact T.oks_iff.mp tok.2 u hu
    refine ⟨uok,fun b m=>?_⟩
    have m:=sub b m
    refine ⟨tsrc b m,tusD b m,fun z=>?_⟩
    obtain ⟨w',hw',m'⟩:=T.mem_rests.mp (tus b m)
    exact (T.oks_iff.mp IT.ok w' hw').dom m' z
  have F4:Fok p (tnB nl fr tn) τ4 H3:=fun n w j e ej hj=>by
   rcases slot n w e with q | ⟨_,q⟩
   ·exact q.1
   ·obtain ⟨k',e1,e2⟩:=Nk q ej hj
    exact (hF k' w j e1 e2 hj).same sH3
  have S4:∀ a,Sh (tnB nl fr tn) τ4 a->(H a=none\/Sh tn τ a)/\a ≠ D/\H1 a ≠ none:=by
   rintro a ⟨n,w,j,e,ej,hj,m⟩
   rcases slot n w e with q | ⟨_,q⟩
   ·exact q.2 a (T.rest_le w (aat j) m)
   ·obtain ⟨k',e1,e2⟩:=Nk q ej hj
    have sh:Sh tn τ a:=⟨k',w,j,e1,e2,hj,m⟩
    have hd:=hF.dom sh
    exact ⟨.inr sh,fun z=>hd (z ▸ hDH),fun z=>hd (IT.same.free z)⟩
  rw [<- TH]
  refine Od tok h4 (hev τ4 H3 _ hδ F4 fun b H5 s5 hb=>?_)
  have s25:Same H2 H5:=s3.trans s5
  cases o with
  | none =>
   subst hb
   rw [if_neg (by decide)]
   refine ⟨ds.length - (i + 1),by omega,rfl,hlt,ts,r'',rfl,hr'',?_,by omega,s25 _ _ hD2,fun a u n e=>s25 _ _ (kp a u n e),ok.same s25,src,fun a m=>⟨(new a m).1,let ⟨vs,e⟩:=(new a m).2; ⟨vs,s25 _ _ e⟩⟩,nd⟩
   simpa using hc
  | some xo =>
   obtain ⟨rfl,he⟩:=hb
   rw [if_pos rfl]
   refine ⟨τ4,rfl,F4.same s5,0,k,hk,?_⟩
   rw [hδ,he]
   intro t' H6 ht' R
   have s26:Same H2 H6:=s25.trans R.same
   have hD6:H6 D=some (.lst (ts.map T.val)):=s26 _ _ hD2
   refine ⟨hD6,by rw [aac]; exact acT hts (aay hlt IT.len),ds.length - (i + 1),by omega,rfl,hlt,ts ++ [t'],r'',by simp,hr'',?_,by simp; omega,Bp,fun a u n e=>by rw [Aw n]; exact s26 _ _ (kp a u n e),?_,?_,?_,?_⟩
   ·rw [T.dats_map,aao,<- T.dats_map]
    simpa [ht'] using hc
   ·-- all of them stand
    have tD:∀ a ∈ t'.rest 0,a ≠ D:=fun a m z=>by
     rcases R.src a m with q | q
     ·rw [z,s25 _ _ hD2] at q; cases q
     ·exact (S4 a q).2.1 z
    refine T.oks_iff.mpr fun w hw=>?_
    have kk:(∀ a ∈ w.rest 0,a ≠ D)->w.Ok p H6->w.Ok p (L2.upd H6 D (.lst (ts.map T.val ++ [t'.val]))):=fun hne hok=>hok.keep fun a u e hq=>by
     rw [Aw ?_]; exact e
     rintro rfl
     rcases hq with hq | hq
     ·exact hne a hq rfl
     ·rw [hD6] at e
      exact hq _ (Option.some.inj e).symm
    rcases aag.mp hw with hw | hw
    ·exact kk (fun a m=>(src a (T.mem_rests.mpr ⟨w,hw,m⟩)).2) ((T.oks_iff.mp ok w hw).same s26)
    ·cases aaF.mp hw
     exact kk tD R.ok
   ·intro a m
    rw [T.rests_append,aag] at m
    rcases m with m | m
    ·exact src a m
    ·have m:a ∈ t'.rest 0:=by simpa [T.rests] using m
     rcases R.src a m with q | q
     ·exact ⟨.inl (sH3.trans s5 |>.free q),fun z=>by rw [z,s25 _ _ hD2] at q; cases q⟩
     ·exact ⟨(S4 a q).1,(S4 a q).2.1⟩
   ·intro a m
    rw [T.adrs_append,aag] at m
    rcases m with m | m
    ·obtain ⟨n1,vs,e⟩:=new a m
     have aD:a ≠ D:=fun z=>out (by rw [<- z]; exact (T.alls_iff ts k).mpr (.inl m))
     refine ⟨n1,vs,?_⟩
     rw [Aw aD]
     exact s26 _ _ e
    ·have m:a ∈ t'.adr k:=by simpa [T.adrs] using m
     obtain ⟨n1,vs,e⟩:=R.new a m
     have aD:a ≠ D:=fun z=>by rw [z,s25 _ _ hD2] at n1; cases n1
     refine ⟨?_,vs,by rw [Aw aD]; exact e⟩
     cases w:H1 a with
     | none=>rfl
     | some u=>rw [s25 _ _ (kp a u aD w)] at n1; cases n1
   ·refine T.nds_append nd (T.nds_cons.mpr ⟨R.nd,by simp [T.Nds,T.adrs],by simp [T.rests],by simp [T.adrs]⟩) (fun a m m'=>?_) (fun a m m'=>?_)
    ·have m':a ∈ t'.rest 0:=by simpa [T.rests] using m'
     rcases R.src a m' with q | q
     ·obtain ⟨_,vs,e⟩:=new a m
      rw [s25 _ _ e] at q; cases q
     ·exact (S4 a q).2.2 (new a m).1
    ·have m:a ∈ t'.adr k:=by simpa [T.adrs] using m
     obtain ⟨w,hw,m'⟩:=T.mem_rests.mp m'
     exact ((T.oks_iff.mp ok w hw).same s25).dom m' (R.new a m).1
 ·have hil:i=ds.length:=acA hi hge
  refine .inl ⟨IT.stop i H2 usok hge,hd (.lst D ts) H2 ?_ ⟨s2,⟨.inl hD2,ok⟩,fun a m=>?_,fun a m=>?_,?_,fun a m m'=>?_⟩⟩
  ·subst hil
   rw [acs] at hr
   simp only [Bq] at hr
   cases hr
   simp only [T.dat,aaP] at hc ⊢
   rw [hc]
  ·simp only [T.rest,aai] at m
   rcases m with rfl | m
   ·exact .inl hDH
   ·exact (src a m).1
  ·simp only [T.adr,aai] at m
   rcases m with rfl | m
   ·exact ⟨hDH,_,hD2⟩
   ·exact ⟨IT.same.free (new a m).1,(new a m).2⟩
  ·simp only [T.adr,aaI]
   exact ⟨fun m=>out ((T.alls_iff ts k).mpr (.inl m)),nd.1⟩
  ·simp only [T.adr,T.rest,aai] at m m'
   rcases m' with rfl | m'
   ·exact out ((T.alls_iff ts k).mpr (.inr m))
   ·exact nd.2 a m m'
structure ScOk (X:Cx) (scope:Scope) (loc:List Str) (fr:List Nat) (frn:List Str):Prop where
 hfr:∀ (j:Nat) (k:Nat) (x:Str),fr[j]?=some k->frn[j]?=some x->X.N[k]?=some x/\X.env.kindOf x=some .cell/\(x,NameKind.free) ∈ scope.names
 hln:frn.length=fr.length
 hcell:∀ y ∈ scope.names,y.2 ≠ .cell
 hkind:scope.kind=.function
 hnames:∀ y ∈ scope.names,y.2=.local->scope.names.lookup y.1=some .local
 hfree:∀ y ∈ scope.names,y.2=.free->X.env.kindOf y.1=some .cell
 hkin:∀ (x:Str),x ∈ frn->(relabel scope X.env).names.lookup x=some .cell
 hsc:X.env.scope.kind=.function
theorem LR {K:Frag} {nl:Nat} {fr:List Nat} {g:Tg} {it:It} {elt:E} {σ:L2.St} {H:Hp} {Q:VK} (hg:∀ i ∈ g.sl,i < nl) (h:lE p EX tn (.comp0 nl fr g it elt) σ H Q):Hi nl fr (lI p EX tn it) (fun _=>lG K g) (fun _=>Sm) (fun _=>lE p EX0 (tnB nl fr tn) elt) σ H Q:=by
 obtain ⟨τ,rfl,hF,j,k,hj,h⟩:=h
 simp only [jk] at hj
 obtain ⟨ji,h1,hj⟩:=bS hj
 obtain ⟨⟨j2,k2⟩,h2,hj⟩:=bS hj
 obtain ⟨hc,e⟩:=ER hj
 cases e
 have hc:j2=0:=of_decide_eq_true hc
 subst hc
 simp only [ev] at h
 refine Nl hF h1 hg h2 (fun d o e=>?_) h
 split at e
 ·rename_i δ' hd
  obtain ⟨x,e1,e2⟩:=Res.bind_eq_ok e
  cases e2
  exact ⟨δ',hd,fun τ4 H3 N _ _ hN=>hN true H3 (Same.refl _) ⟨rfl,e1⟩⟩
 ·cases e
theorem LT {K:Frag} {nl:Nat} {fr:List Nat} {g:Tg} {it:It} {cond elt:E} {σ:L2.St} {H:Hp} {Q:VK} (hg:∀ i ∈ g.sl,i < nl) (h:lE p EX tn (.comp1 nl fr g it cond elt) σ H Q):Hi nl fr (lI p EX tn it) (fun _=>lG K g) (fun _=>lT p EX0 (tnB nl fr tn) cond) (fun _=>lE p EX0 (tnB nl fr tn) elt) σ H Q:=by
 obtain ⟨τ,rfl,hF,j,k,hj,h⟩:=h
 simp only [jk] at hj
 obtain ⟨ji,h1,hj⟩:=bS hj
 obtain ⟨q3,h3,hj⟩:=bS hj
 obtain ⟨⟨j2,k2⟩,h2,hj⟩:=bS hj
 obtain ⟨hc,e⟩:=ER hj
 cases e
 have hc:j2=0:=of_decide_eq_true hc
 subst hc
 simp only [ev] at h
 refine Nl hF h1 hg h2 (fun d o e=>?_) h
 split at e
 ·rename_i δ' hd
  obtain ⟨b,e1,e2⟩:=Res.bind_eq_ok e
  refine ⟨δ',hd,fun τ4 H3 N e4 F4 hN=>⟨τ4,rfl,F4,by rw [h3]; rfl,?_⟩⟩
  unfold tv
  rw [e4,e1]
  intro H5 s5
  refine hN b H5 s5 ?_
  cases b with
  | true =>
   rw [if_pos rfl] at e2
   obtain ⟨x,e5,e6⟩:=Res.bind_eq_ok e2
   cases e6
   exact ⟨rfl,e5⟩
  | false =>
   rw [if_neg (by decide)] at e2
   cases e2; rfl
 ·cases e
theorem Py {elt tg iter:Expr} {scope:Scope} {loc:List Str} {fr:List Nat} {frn:List Str} {g:Tg} {it:It} {x:E} (hc:X.calm=true) (S:ScOk X scope loc fr frn) (hi:PI X tg iter (lI p EX tn it)) (hg:∀ i ∈ g.sl,i < loc.length)
  (hb:∀ z:Bk,PG (X.blk scope z.C z.fp (loc ++ frn) z.s z.H) tg (lG X.K g)/\PE (X.blk scope z.C z.fp (loc ++ frn) z.s z.H) elt (lE p EX0 (tnB loc.length fr tn) x)) (hs:∀ y,foldedSetIterable iter X.env y=pure y) :
  PE X (.ListComp elt [⟨tg,iter,[],0⟩] scope pos) (lE p EX tn (.comp0 loc.length fr g it x)) :=
 PE.mono (M8 loc fr frn hc hi S.hfr S.hln S.hcell S.hkind S.hnames S.hfree S.hkin S.hsc (fun _ _ _ _ _ h=>Ho hg h) (fun z=>⟨(hb z).1,M6,(hb z).2⟩) hs) fun σ H Q h=>LR hg h
theorem Pz {elt tg iter cnd:Expr} {scope:Scope} {loc:List Str} {fr:List Nat} {frn:List Str} {g:Tg} {it:It} {c x:E} (hc:X.calm=true) (S:ScOk X scope loc fr frn) (hi:PI X tg iter (lI p EX tn it)) (hg:∀ i ∈ g.sl,i < loc.length)
  (hb:∀ z:Bk,PG (X.blk scope z.C z.fp (loc ++ frn) z.s z.H) tg (lG X.K g)/\PT (X.blk scope z.C z.fp (loc ++ frn) z.s z.H) cnd (lT p EX0 (tnB loc.length fr tn) c)/\PE (X.blk scope z.C z.fp (loc ++ frn) z.s z.H) elt (lE p EX0 (tnB loc.length fr tn) x)) (hs:∀ y,foldedSetIterable iter X.env y=pure y) :
  PE X (.ListComp elt [⟨tg,iter,[cnd],0⟩] scope pos) (lE p EX tn (.comp1 loc.length fr g it c x)) :=
 PE.mono (M8 loc fr frn hc hi S.hfr S.hln S.hcell S.hkind S.hnames S.hfree S.hkin S.hsc (fun _ _ _ _ _ h=>Ho hg h) (fun z=>⟨(hb z).1,M7 (hb z).2.1,(hb z).2.2⟩) hs) fun σ H Q h=>LT hg h
theorem PS.mono {X:Cx} {st:Stmt} {t t':TS} (h:PS X st t) (m:∀ D σ H,t' D σ H->t D σ H):PS X st t':=fun pins s σ H D I q=>h pins s σ H D I (m _ _ _ q)
theorem Oe {elt tg iter:Expr} {scope:Scope} {loc:List Str} {fr:List Nat} {frn:List Str} {g:Tg} {it:It} {x:E} {y:Str} {k:Nat} {py spos:Pos} (hc:X.calm=true) (S:ScOk X scope loc fr frn) (hi:PI X tg iter (lI p EX tn it)) (hg:∀ i ∈ g.sl,i < loc.length)
  (hb:∀ z:Bk,PG (X.blk scope z.C z.fp (loc ++ frn) z.s z.H) tg (lG X.K g)/\PE (X.blk scope z.C z.fp (loc ++ frn) z.s z.H) elt (lE p EX0 (tnB loc.length fr tn) x)) (hs:∀ y,foldedSetIterable iter X.env y=pure y)
  (hN:X.N.Nodup) (hk:X.N[k]?=some y) (hx:Loc X.env.scope y) (hf:X.fn y=true\/X.env.scope.names.lookup y=some .local) (hsw:swapsWith (.ListComp elt [⟨tg,iter,[],0⟩] scope pos) (some (.Name y py)) spos.line X.env=pure true) :
  PS X (.Assign [.Name y py] (.ListComp elt [⟨tg,iter,[],0⟩] scope pos) spos) (HM (lE p EX tn (.comp0 loc.length fr g it x)) (Fy k)) :=
 PS.mono (II loc fr frn hc hi S.hfr S.hln S.hcell S.hkind S.hnames S.hfree S.hkin S.hsc (fun _ _ _ _ _ h=>Ho hg h) (fun z=>⟨(hb z).1,M6,(hb z).2⟩) hs hN hk hx hf hsw) fun D σ H h=>LR hg h
theorem Of {elt tg iter cnd:Expr} {scope:Scope} {loc:List Str} {fr:List Nat} {frn:List Str} {g:Tg} {it:It} {c x:E} {y:Str} {k:Nat} {py spos:Pos} (hc:X.calm=true) (S:ScOk X scope loc fr frn) (hi:PI X tg iter (lI p EX tn it)) (hg:∀ i ∈ g.sl,i < loc.length)
  (hb:∀ z:Bk,PG (X.blk scope z.C z.fp (loc ++ frn) z.s z.H) tg (lG X.K g)/\PT (X.blk scope z.C z.fp (loc ++ frn) z.s z.H) cnd (lT p EX0 (tnB loc.length fr tn) c)/\PE (X.blk scope z.C z.fp (loc ++ frn) z.s z.H) elt (lE p EX0 (tnB loc.length fr tn) x)) (hs:∀ y,foldedSetIterable iter X.env y=pure y)
  (hN:X.N.Nodup) (hk:X.N[k]?=some y) (hx:Loc X.env.scope y) (hf:X.fn y=true\/X.env.scope.names.lookup y=some .local) (hsw:swapsWith (.ListComp elt [⟨tg,iter,[cnd],0⟩] scope pos) (some (.Name y py)) spos.line X.env=pure true) :
  PS X (.Assign [.Name y py] (.ListComp elt [⟨tg,iter,[cnd],0⟩] scope pos) spos) (HM (lE p EX tn (.comp1 loc.length fr g it c x)) (Fy k)) :=
 PS.mono (II loc fr frn hc hi S.hfr S.hln S.hcell S.hkind S.hnames S.hfree S.hkin S.hsc (fun _ _ _ _ _ h=>Ho hg h) (fun z=>⟨(hb z).1,M7 (hb z).2.1,(hb z).2.2⟩) hs hN hk hx hf hsw) fun D σ H h=>LT hg h
end
structure CkC where
 N:List Str
 sc:Scope
 fn:Bool
 rz:Bool
 cm:Bool
noncomputable def FY (sc:Scope) (x:Str):Bool:=match sc.names.lookup x with
 | some .local=>true
 | some .cell=>true
 | some .free=>true
 | _=>false
noncomputable def Gs (c:CkC) (x:Str):Bool:=match c.sc.names.lookup x with
 | some .local=>true
 | some .cell=>c.fn
 | _=>false
noncomputable def glB (sc:Scope) (x:Str):Bool:=match sc.names.lookup x with
 | some .globalImplicit=>true
 | _=>false
noncomputable def B9 (x:Str):Bool:=!(x==("__debug__" : Str)) && !(x==("__classdict__" : Str))
noncomputable def FH (scope outer:Scope):Scope :=
 { scope with names:=scope.names.map fun (n,k)=>if (k==.free && outer.kind==.function && outer.names.lookup n==some .cell) then (n,.cell) else (n,k) }
theorem LU (scope:Scope) (env:Env):relabel scope env=FH scope env.scope:=rfl
noncomputable def Fk:List Str:=["len", "min", "max", "abs", "int", "list", "tuple", "all", "any", "sum", "sorted", "isinstance", "str", "range", "enumerate", "zip", "reversed"]
noncomputable def ckG (c:CkC):Tg->Expr->Bool
 | .nm i,.Name x _=>(c.N[i]?==some x) && Gs c x
 | .tp is,.Tuple es _ _=>ckGs c is es && c.cm
 | _,_=>false
where ckGs (c:CkC):List Nat->List Expr->Bool
 | [],[]=>true
 | i :: is,.Name x _ :: es=>(c.N[i]?==some x) && Gs c x && ckGs c is es
 | _,_=>false
noncomputable def scB (c:CkC) (scope:Scope) (loc:List Str) (fr:List Nat) (frn:List Str):Bool :=
 decide (frn.length=fr.length) && ((fr.zip frn).all fun q=>(c.N[q.1]?==some q.2) && (c.sc.names.lookup q.2==some .cell) && scope.names.contains (q.2,NameKind.free)) &&
 (scope.names.all fun y=>(y.2 != .cell) && (y.2 != .local || scope.names.lookup y.1==some .local) && (y.2 != .free || c.sc.names.lookup y.1==some .cell)) && (scope.kind==.function) && (c.sc.kind==.function) &&
 (frn.all fun x=>(FH scope c.sc).names.lookup x==some .cell) && decide (loc ++ frn).Nodup
noncomputable def Gu (c:CkC) (fr:List Nat):List Str:=fr.map fun j=>c.N.getD j ""
noncomputable def ES:Expr->List Str
 | .Name x _=>[x]
 | .Tuple es _ _=>es.filterMap fun | .Name x _=>some x | _=>none
 | _=>[]
noncomputable def Ev:Expr->Bool
 | .Set _ _ _=>false
 | _=>true
noncomputable def HS:List Str:=["RoomError", "BadShape", "NoNode", "NoPage", "NotRooms", "NotATree", "BadRoom", "Unlike", "BadScale", "BadStore", "BadName", "BadLength", "Twice", "Full", "NoThing", "NoDeed", "NoLine"]
noncomputable def Bl (n:Nat):Str:=HS.getD n "RoomError"
theorem Og (n:Nat):(Bl n==("__debug__" : Str))=false:=by
 have h:∀ x ∈ HS,(x==("__debug__" : Str))=false:=by decide
 unfold Bl
 rw [aap]
 cases q:HS[n]? with
 | none=>decide
 | some x=>exact h x (aaf q)
noncomputable def JH:Kd->String
 | .int => "int"
 | .bool => "bool"
 | .str => "str"
 | .list => "list"
 | .tuple => "tuple"
 | .dict => "dict"
 | .verr => "ValueError"
 | .cls _ => ""
noncomputable def Ga:Kd->Str
 | .cls n=>Bl n
 | k=>Str.ofString (JH k)
noncomputable def Rr (c:CkC) (k:Kd):Expr->Bool
 | .Name x _=>(x==Ga k) && glB c.sc x
 | _=>false
noncomputable def nmB:Expr->Bool
 | .Name _ _=>true
 | _=>false
noncomputable def PB:Bi->Str
 | .len => "len"
 | .min => "min"
 | .max => "max"
 | .maxL => "max"
 | .minL => "min"
 | .minP => "min"
 | .abs => "abs"
 | .int => "int"
 | .list => "list"
 | .all => "all"
noncomputable def Vo:Bi->Bool
 | _=>true
noncomputable def EA:Bi->Bool
 | .len=>true
 | .abs=>true
 | .int=>true
 | .list=>true
 | _=>false
mutual
noncomputable def E.tst:E->Bool
 | .not a=>a.tst
 | .bo _ es=>es.tsts
 | _=>true
noncomputable def Es.tsts:Es->Bool
 | .nil=>true
 | .cons e r=>e.tst && r.tsts
end
noncomputable def Hq (gens:List Comprehension) (f:Expr->Expr->List Expr->Bool):Bool:=match gens with
 | [⟨tg,iter,ifs,n⟩]=>decide (n=0) && f tg iter ifs
 | _=>false
noncomputable def Oh (es:List Expr) (f:Expr->Bool):Bool:=match es with
 | [e]=>f e
 | _=>false
theorem ET {gens:List Comprehension} {f:Expr->Expr->List Expr->Bool} (h:Hq gens f=true):∃ tg iter ifs,gens=[⟨tg,iter,ifs,0⟩]/\f tg iter ifs=true:=by
 unfold Hq at h
 split at h
 ·rw [aah] at h
  cases of_decide_eq_true h.1
  exact ⟨_,_,_,rfl,h.2⟩
 ·cases h
theorem LV {es:List Expr} {f:Expr->Bool} (h:Oh es f=true):∃ e,es=[e]/\f e=true:=by
 unfold Oh at h
 split at h
 ·exact ⟨_,rfl,h⟩
 ·cases h
noncomputable def PD:Expr->Bool
 | .Constant .none _ _=>true
 | _=>false
noncomputable def IR (b:Bool) (f:Expr->Bool):Option Expr->Bool
 | none=>b
 | some l=>!b && f l
mutual
noncomputable def ckE (c:CkC):E->Expr->Bool
 | .nm i,.Name x _=>(c.N[i]?==some x) && FY c.sc x && B9 x
 | .cN,.Constant .none _ _=>true
 | .cB b,.Constant (.bool b') _ _=>b==b'
 | .cI i,.Constant (.int i') _ _=>i==i'
 | .cS x,.Constant (.str x') _ _=>x==x'
 | .gl x d,.Name y _=>(x==y) && glB c.sc y && B9 y && D.scal d
 | .tup es,.Tuple xs _ _=>ckEs c es xs && decide (es.len<=1000)
 | .lst es,.List xs _=>ckEs c es xs && decide (es.len<=1000)
 | .bin o a b,.BinOp l op r _=>(op==N6 o) && ckE c a l && ckE c b r
 | .neg a,.UnaryOp .USub l _=>ckE c a l
 | .not a,.UnaryOp .Not l _=>ckE c a l
 | .cmp o a b,.Compare l [op] [r] _=>(op==Bt o) && ckE c a l && ckE c b r && Ev r
 | .chain o o' a b d,.Compare l [op,op'] [r,r'] _=>(op==Bt o) && (op'==Bt o') && ckE c a l && ckE c b r && ckE c d r' && Ev r'
 | .isN n a,.Compare l [op] [r] _=>(op==if n then .IsNot else .Is) && PD r && ckE c a l
 | .bo k es,.BoolOp op xs _=>(op==if k then .And else .Or) && ckEs c es xs
 | .ix a i,.Subscript a' i' _=>ckE c a a' && ckE c i i' && DQ i'
 | .ixL a i,.Subscript a' i' _=>ckE c a a' && ckE c i i' && DQ i'
 | .slc a lo hi,.Subscript a' (.Slice lo' hi' none _) _=>ckE c a a' && IR lo.isCN (ckE c lo) lo' && IR hi.isCN (ckE c hi) hi'
 | .call f es,.Call (.Name x _) xs [] _=>(x==f.name) && glB c.sc x && B9 x && ckEs c es xs && decide (es.len=f.ar) && decide (0 < es.len) && c.cm
 | .callB f es,.Call (.Name x _) xs [] _=>(x==f.name) && glB c.sc x && B9 x && ckEs c es xs && decide (es.len=f.ar) && decide (0 < es.len) && c.cm
 | .bi b es,.Call (.Name x _) xs [] _=>(x==PB b) && glB c.sc x && Vo b && ckEs c es xs && decide (0 < es.len) && (c.cm || EA b)
 | .mt .count a es,.Call (.Attribute o name ap) xs [] cp=>(name==("count" : Str)) && ckE c a o && nmB o && ckEs c es xs && decide (es.len=1) && (ap.endLine==cp.line)
 | .mt .index a es,.Call (.Attribute o name ap) xs [] cp=>(name==("index" : Str)) && ckE c a o && nmB o && ckEs c es xs && decide (es.len=1) && (ap.endLine==cp.line)
 | .isi a k,.Call (.Name x _) [l,r] [] _=>(x==("isinstance" : Str)) && glB c.sc x && ckE c a l && Rr c k r && At l
 | .comp0 nl fr g it elt,.ListComp elt' gens scope _=>Hq gens fun tg iter ifs=>c.cm && ifs.isEmpty && scB c scope (ES tg) fr (Gu c fr) && decide (nl=(ES tg).length) && (g.sl.all fun i=>decide (i < nl)) && ckI c tg it iter && Ev iter &&
   ckG ⟨ES tg ++ Gu c fr,FH scope c.sc,false,false,c.cm⟩ g tg && ckE ⟨ES tg ++ Gu c fr,FH scope c.sc,false,false,c.cm⟩ elt elt'
 | .comp1 nl fr g it cond elt,.ListComp elt' gens scope _=>Hq gens fun tg iter ifs=>Oh ifs fun cnd=>c.cm && scB c scope (ES tg) fr (Gu c fr) && decide (nl=(ES tg).length) && (g.sl.all fun i=>decide (i < nl)) && ckI c tg it iter && Ev iter &&
   ckG ⟨ES tg ++ Gu c fr,FH scope c.sc,false,false,c.cm⟩ g tg && ckE ⟨ES tg ++ Gu c fr,FH scope c.sc,false,false,c.cm⟩ cond cnd && cond.tst && ckE ⟨ES tg ++ Gu c fr,FH scope c.sc,false,false,c.cm⟩ elt elt'
 | _,_=>false
noncomputable def ckEs (c:CkC):Es->List Expr->Bool
 | .nil,[]=>true
 | .cons e r,x :: xs=>ckE c e x && At x && ckEs c r xs
 | _,_=>false
noncomputable def ckI (c:CkC) (tg:Expr):It->Expr->Bool
 | .seq e,x=>ckE c e x
 | .seqL e,x=>ckE c e x
 | .r1 a,.Call (.Name x _) [l] [] _=>(x==("range" : Str)) && glB c.sc x && ckE c a l && At l
 | .r2 a b,.Call (.Name x _) [l,r] [] _=>(x==("range" : Str)) && glB c.sc x && ckE c a l && At l && ckE c b r && At r
 | .rv a,.Call (.Name x _) [l] [] _=>(x==("reversed" : Str)) && glB c.sc x && ckE c a l && At l
 | _,_=>false
end
inductive Nd1 where
 | fn (F:Fn)
 | cl (n:Nat)
 | rs (n:Nat)
 | gl (x:Str) (d:D)
mutual
noncomputable def E.need:E->List Nd1
 | .nm _=>[]
 | .cN=>[]
 | .cB _=>[]
 | .cI _=>[]
 | .cS _=>[]
 | .gl x d=>[.gl x d]
 | .tup es=>es.need
 | .lst es=>es.need
 | .bin _ a b=>a.need ++ b.need
 | .neg a=>a.need
 | .not a=>a.need
 | .cmp _ a b=>a.need ++ b.need
 | .chain _ _ a b c=>a.need ++ (b.need ++ c.need)
 | .isN _ a=>a.need
 | .bo _ es=>es.need
 | .ix a i=>a.need ++ i.need
 | .ixL a i=>a.need ++ i.need
 | .slc a lo hi=>a.need ++ (lo.need ++ hi.need)
 | .call f es=>.fn f :: es.need
 | .callB f es=>.fn f :: es.need
 | .bi _ es=>es.need
 | .isi a k=>(match k with | .cls n=>[.cl n] | _=>[]) ++ a.need
 | .mt _ a es=>a.need ++ es.need
 | .comp0 _ _ _ it elt=>it.need ++ elt.need
 | .comp1 _ _ _ it cond elt=>it.need ++ (cond.need ++ elt.need)
noncomputable def Es.need:Es->List Nd1
 | .nil=>[]
 | .cons e r=>e.need ++ r.need
noncomputable def It.need:It->List Nd1
 | .seq e=>e.need
 | .seqL e=>e.need
 | .r1 a=>a.need
 | .r2 a b=>a.need ++ b.need
 | .rv e=>e.need
end
noncomputable def dT:D->T
 | .bl b=>.bl b
 | .int i=>.int i
 | .str x=>.str x
 | _=>.non
theorem Vp {d:D} (h:D.scal d=true):(dT d).dat=d/\(dT d).sc=true:=by cases d <;> first | exact ⟨rfl,rfl⟩ | cases h
noncomputable def NeedOk (p:Px) (lv:Nat) (X:Cx):Nd1->Prop
 | .fn F=>F.lv<=lv/\Oc p X F
 | .cl n=>p.has n=true/\X.mg (Bl n)=some (.ref (p.cl n))
 | .rs n=>p.has n=true/\nsIn X.K mainGlobals (Bl n)=some (some (.ref (p.cl n)))/\excIn X.K (p.cl n) HP "ValueError.__new__" = true
 | .gl x d=>∃ u,X.mg x=some u/\RelV (dT d).val u
structure Kx (p:Px):Prop where
 no:p.has 999=false
 x:∀ c,p.has c=true->XCls p.K (p.cl c)
 kb:∀ c,p.has c=true->∀ T ∈ (["int", "bool", "str", "list", "tuple", "dict"]:List String),kitOne p.K (.ref (p.cl c)) (.type T)=some false
 kv:∀ c,p.has c=true->kitOne p.K (.ref (p.cl c)) (.type "ValueError")=some true
 kc:∀ c d,p.has c=true->p.has d=true->kitOne p.K (.ref (p.cl c)) (.ref (p.cl d))=some (isa c d)
structure Ct (p:Px) (c:CkC) (lv:Nat) (X:Cx) (EX:EXT):Prop where
 K:X.K=p.K
 N:X.N=c.N
 sc:X.env.scope=c.sc
 nd:X.N.Nodup
 calm:c.cm=true->X.calm=true
 room:c.cm=true->Room lv X.A
 un:X.A.units + 64 < cLine
 blt:∀ y ∈ Fk,X.mg y=none
 bt:∀ y ∈ (["bool", "dict", "ValueError"]:List Str),X.mg y=none
 pass:GJ (CXe X.prog X.w) X EX
 fn:c.fn=true->∀ x,X.fn x=true
 kx:Kx p
section
variable {p:Px} {c:CkC} {lv:Nat} {X:Cx} {EX:EXT} {tn:List Nat} {pos np:Pos}
theorem Ct.gl (C:Ct p c lv X EX) {x:Str} (h:glB c.sc x=true):Gl X x:=by
 unfold glB at h
 show X.env.scope.names.lookup x=_
 rw [C.sc]
 split at h
 ·assumption
 ·cases h
theorem Ct.vis (C:Ct p c lv X EX) {x:Str} (h:FY c.sc x=true):Vis X.env.scope x:=by
 unfold FY at h
 unfold Vis
 rw [C.sc]
 split at h
 ·exact .inl ‹_›
 ·exact .inr (.inl ‹_›)
 ·exact .inr (.inr ‹_›)
 ·cases h
theorem Ct.loc (C:Ct p c lv X EX) {x:Str} (h:Gs c x=true):L2.Loc X.env.scope x/\(X.fn x=true\/X.env.scope.names.lookup x=some .local):=by
 unfold Gs at h
 unfold L2.Loc
 rw [C.sc]
 split at h
 ·rename_i e; exact ⟨.inl e,.inr e⟩
 ·rename_i e; exact ⟨.inr e,.inl (C.fn h x)⟩
 ·cases h
theorem Cu {x:Str} (h:B9 x=true):(x==("__debug__" : Str))=false/\(x==("__classdict__" : Str))=false:=by
 unfold B9 at h
 rw [aah,acm,acm] at h
 exact h
theorem Ct.hu (C:Ct p c lv X EX):X.A.units + 64 < cLine:=C.un
theorem Sw (C:Ct p c lv X EX):∀ {is:List Nat} {es:List Expr},ckG.ckGs c is es=true->PGs X es (Dp is)/\(assignEach es X.env).length=is.length/\(assignEach es X.env).findIdx? (·.1)=none
 | [],[],_=>⟨SJ,rfl,rfl⟩
 | [],e :: es,h=>nF h
 | i :: is,[],h=>nF h
 | i :: is,e :: es,h=>by
  cases e with
  | Name x q =>
   have h:((c.N[i]?==some x) && Gs c x && ckG.ckGs c is es)=true:=h
   rw [aah,aah] at h
   obtain ⟨⟨h1,h2⟩,h3⟩:=h
   obtain ⟨a1,a2,a3⟩:=Sw C h3
   obtain ⟨l1,l2⟩:=C.loc h2
   refine ⟨QF (M1 C.nd (by rw [C.N]; exact beq_iff_eq.mp h1) l1 l2) a1 rfl,?_,?_⟩
   ·show (assignEach es X.env).length + 1=_; rw [a2]; rfl
   ·show List.findIdx? (·.1) ((false,_) :: assignEach es X.env)=none
    rw [List.findIdx?_cons,a3]; rfl
  | _=>exact nF h
theorem HU (C:Ct p c lv X EX) {g:Tg} {e:Expr} (h:ckG c g e=true):PG X e (lG X.K g):=by
 cases g with
 | nm i =>
  cases e with
  | Name x q =>
   have h:((c.N[i]?==some x) && Gs c x)=true:=h
   rw [aah] at h
   obtain ⟨l1,l2⟩:=C.loc h.2
   exact M1 C.nd (by rw [C.N]; exact beq_iff_eq.mp h.1) l1 l2
  | _=>exact nF h
 | tp is =>
  cases e with
  | Tuple es k q =>
   rw [show ckG c (.tp is) (.Tuple es k q)=(ckG.ckGs c is es && c.cm) from rfl,aah] at h
   obtain ⟨a1,a2,a3⟩:=Sw C h.1
   intro pins s σ H v u Q I r hw
   rcases hw with hw | hw
   ·exact UE (C.calm h.2) a1 a2 a3 pins s σ H v u Q I r hw
   ·exact Va (C.calm h.2) a1 a2 a3 pins s σ H v u Q I r hw
  | _=>exact nF h
theorem Nm {α β:Type} {xs:List α} {ys:List β} {j:Nat} {a:α} {b:β} (h1:xs[j]?=some a) (h2:ys[j]?=some b):(a,b) ∈ xs.zip ys:=by
 have:(xs.zip ys)[j]?=some (a,b):=by rw [List.getElem?_zip_eq_some]; exact ⟨h1,h2⟩
 exact aaf this
theorem Lc (C:Ct p c lv X EX) {scope:Scope} {loc:List Str} {fr:List Nat} {frn:List Str} (h:scB c scope loc fr frn=true):ScOk X scope loc fr frn/\(loc ++ frn).Nodup:=by
 unfold scB at h
 simp only [aah,decide_eq_true_eq,aaw,beq_iff_eq,bne_iff_ne,Bool.or_eq_true] at h
 obtain ⟨⟨⟨⟨⟨⟨h1,h2⟩,h3⟩,h4⟩,h5⟩,h6⟩,h7⟩:=h
 refine ⟨⟨fun j k x e1 e2=>?_,h1,fun y hy=>(h3 y hy).1.1,h4,fun y hy e=>?_,fun y hy e=>?_,fun x hx=>?_,by rw [C.sc]; exact h5⟩,h7⟩
 ·obtain ⟨⟨q1,q2⟩,q3⟩:=h2 (k,x) (Nm e1 e2)
  refine ⟨by rw [C.N]; exact q1,?_,by simpa using q3⟩
  show X.env.scope.names.lookup x=_
  rw [C.sc]; exact q2
 ·rcases (h3 y hy).1.2 with q | q
  ·exact absurd e q
  ·exact q
 ·rcases (h3 y hy).2 with q | q
  ·exact absurd e q
  ·show X.env.scope.names.lookup y.1=_
   rw [C.sc]; exact q
 ·rw [LU,C.sc]; exact h6 x hx
theorem Ct.blk (C:Ct p c lv X EX) {scope:Scope} {N:List Str} (hN:N.Nodup) (z:Bk):Ct p ⟨N,FH scope c.sc,false,false,c.cm⟩ lv (X.blk scope z.C z.fp N z.s z.H) EX0 where
 K:=C.K
 N:=rfl
 sc:=by show relabel scope X.env=_; rw [LU,C.sc]
 nd:=hN
 calm:=C.calm
 room:=C.room
 un:=C.un
 blt:=C.blt
 bt:=C.bt
 pass:=fun _ _ _ _ _ _ _ h=>by
  obtain ⟨_,_,_,_,_,_,_,_,_,_,_,_,_,_,_,_,_,_,z⟩:=h
  exact z.elim
 fn:=fun z=>nomatch z
 kx:=C.kx
theorem NeedOk.blk {scope:Scope} {N:List Str} {z:Bk} {n:Nd1} (h:NeedOk p lv X n):NeedOk p lv (X.blk scope z.C z.fp N z.s z.H) n:=by
 cases n <;> exact h
theorem Eh {e:Expr} {env:Env} (h:Ev e=true):∀ y,foldedSetIterable e env y=pure y:=by
 intro y
 cases e <;> first | rfl | cases h
theorem EU {op:CmpOp} {e:Expr} (h:Ev e=true):behindInMarks op e=false:=by
 cases e <;> first | rfl | cases h
end
section
variable {p:Px} {c:CkC} {lv:Nat} {X:Cx} {EX:EXT} {tn:List Nat} {pos np:Pos}
theorem AK (C:Ct p c lv X EX) {e:Expr} {x:E} (h:PE X e (lE p EX tn x)) (hp:LL e=true):PE X e (lE p EX tn x)/\(x.tst=true->PT X e (lT p EX tn x)):=⟨h,fun _=>Oa C.K h hp⟩
noncomputable def kdV (p:Px):Kd->Value
 | .cls n=>.ref (p.cl n)
 | k=>.type (JH k)
noncomputable def Oi (p:Px):Kd->Prop
 | .cls n=>p.has n=true
 | _=>True
theorem Vq (C:Ct p c lv X EX) {H:Hp} {t:T} (ok:t.Ok p H):∃ ty,TyX X.K H t.val ty/\∀ k b,DG t.dat k=.ok b->Oi p k->kitOne X.K ty (kdV p k)=some b:=by
 cases t with
 | non=>exact ⟨_,.of .non,fun k b h _=>by cases k <;> cases h <;> rfl⟩
 | bl x=>exact ⟨_,.of (.bl x),fun k b h _=>by cases k <;> cases h <;> rfl⟩
 | int x=>exact ⟨_,.of (.int x),fun k b h _=>by cases k <;> cases h <;> rfl⟩
 | str x=>exact ⟨_,.of (.str x),fun k b h _=>by cases k <;> cases h <;> rfl⟩
 | tup a ts=>exact ⟨_,.of (.tup ok.1),fun k b h _=>by cases k <;> cases h <;> rfl⟩
 | lst a ts =>
  rcases ok.1 with e | ⟨o,e⟩
  ·exact ⟨_,.of (.lst e),fun k b h _=>by cases k <;> cases h <;> rfl⟩
  ·exact ⟨_,.of (.frz e),fun k b h _=>by cases k <;> cases h <;> rfl⟩
 | exn a n =>
  by_cases hn:n=999
  ·subst hn
   refine ⟨_,.dct (by rw [ok.1]; rfl),fun k b h _=>?_⟩
   cases k <;> cases h <;> rfl
  ·have hs:=ok.2.resolve_left hn
   have hn':(n==999)=false:=beq_eq_false_iff_ne.mpr hn
   refine ⟨_,.exc (by rw [ok.1]; unfold exO; rw [if_neg hn]) (C.K ▸ C.kx.x n hs),fun k b h hh=>?_⟩
   rw [C.K]
   have kb:=C.kx.kb n hs
   cases k with
   | verr =>
    have h:(if (n==999)=true then Res.bad else Res.ok true)=Res.ok b:=h
    rw [hn',if_neg (by decide)] at h
    cases h; exact C.kx.kv n hs
   | cls m =>
    have h:(if (n==999)=true then Res.bad else Res.ok (isa n m))=Res.ok b:=h
    rw [hn',if_neg (by decide)] at h
    cases h; exact C.kx.kc n m hs hh
   | dict =>
    have h:Res.ok (n==999)=Res.ok b:=h
    rw [hn'] at h
    cases h; exact kb _ (by decide)
   | _=>cases h; exact kb _ (by decide)
theorem TJ (C:Ct p c lv X EX) {l r:Expr} {x:E} {k:Kd} {v:V} {cv:Value} (hl:PE X l (lE p EX tn x)) (hr:PE X r (tC v)) (hst:At l=true) (hst':At r=true) (hgl:Gl X "isinstance") (hcv:clV v=some cv)
  (hk:∀ (H:Hp) (t:T) (b:Bool),t.Ok p H->DG t.dat k=.ok b->∃ ty,TyX X.K H t.val ty/\kitOne X.K ty cv=some b):PE X (.Call (.Name "isinstance" np) [l,r] [] pos) (lE p EX tn (.isi x k)):=by
 refine PE.mono (B7 QW hgl (C.blt _ (by simp [Fk])) (by decide +kernel) (BE hl (BE hr DM (Am hst')) (Am hst)) (by decide) (by decide) (Am hst) (AB (by simp [hst']))) fun σ H Q h=>?_
 obtain ⟨τ,rfl,hF,j,k',hj,h⟩:=h
 simp only [jk] at hj
 obtain ⟨⟨j1,k1⟩,h1,hj⟩:=bS hj
 simp only [ev] at h
 refine l1 hF h1 h fun d t H1 ht R h=>?_
 subst ht
 cases q:DG t.dat k with
 | ok b =>
  rw [q] at h
  obtain ⟨ty,h2,h3⟩:=hk H1 t b R.ok q
  exact ⟨t.val,v,cv,ty,b,rfl,hcv,h2,h3,h (.bl b) H1 rfl (Rs.scal R.same rfl)⟩
 | exc n =>
  rw [q] at h
  cases t with
  | exn a c =>
   have hx:∀ f,dX (T.exn a c).dat f ≠ .exc n:=fun f e=>by
    unfold T.dat dX at e
    split at e <;> simp_all
    split at e <;> cases e
   cases k with
   | verr=>exact absurd (show dX (T.exn a c).dat (fun _=>true)=.exc n from q) (hx _)
   | cls m=>exact absurd (show dX (T.exn a c).dat (fun c=>isa c m)=.exc n from q) (hx _)
   | _=>cases q
  | _=>cases k <;> cases q
 | bad=>rw [q] at h; exact nE h
theorem Vr (C:Ct p c lv X EX) {k:Kd} {r:Expr} (h:Rr c k r=true) (hn:∀ n,k=.cls n->NeedOk p lv X (.cl n)):∃ v cv,PE X r (tC v)/\clV v=some cv/\At r=true/\∀ (H:Hp) (t:T) (b:Bool),t.Ok p H->DG t.dat k=.ok b->∃ ty,TyX X.K H t.val ty/\kitOne X.K ty cv=some b:=by
 cases r with
 | Name x q =>
  have h:((x==Ga k) && glB c.sc x)=true:=h
  rw [aah,beq_iff_eq] at h
  obtain ⟨rfl,h⟩:=h
  have fin:Oi p k->∀ (H:Hp) (t:T) (b:Bool),t.Ok p H->DG t.dat k=.ok b->∃ ty,TyX X.K H t.val ty/\kitOne X.K ty (kdV p k)=some b:=fun hk H t b ok e=>let ⟨ty,a,f⟩:=Vq C ok; ⟨ty,a,f _ _ e hk⟩
  have key:(∃ n,k=.cls n)\/(Oi p k/\kdV p k=.type (JH k)/\X.mg (Ga k)=none/\bootBuiltins (Ga k)=some (.type (JH k))/\Ga k ≠ "__name__" /\ (Ga k==("__debug__" : Str))=false):=by
   cases k with
   | cls n=>exact .inl ⟨n,rfl⟩
   | bool=>exact .inr ⟨trivial,rfl,C.bt _ (by decide),by decide +kernel,by decide,by decide⟩
   | dict=>exact .inr ⟨trivial,rfl,C.bt _ (by decide),by decide +kernel,by decide,by decide⟩
   | verr=>exact .inr ⟨trivial,rfl,C.bt _ (by decide),by decide +kernel,by decide,by decide⟩
   | _=>exact .inr ⟨trivial,rfl,C.blt _ (by decide),by decide +kernel,by decide,by decide⟩
  rcases key with ⟨n,rfl⟩ | ⟨k1,k2,k3,k4,k5,k6⟩
  ·obtain ⟨h1,h2⟩:=hn n rfl
   exact ⟨.ref (p.cl n),.ref (p.cl n),MZ (C.gl h) h2 rfl (Og n),rfl,rfl,fin h1⟩
  ·exact ⟨.ty (JH k),.type (JH k),SG (C.gl h) k3 k4 rfl k5 k6,rfl,rfl,k2 ▸ fin k1⟩
 | _=>exact nF h
theorem LW:∀ {ts:List T} {bs:List Bool},Bj (T.dats ts)=some bs->ts.map T.val=bs.map V.bl
 | [],bs,h=>by cases h; rfl
 | t :: r,bs,h=>by
  cases t with
  | bl b =>
   have h:(Bj (T.dats r)).map (b :: ·)=some bs:=h
   obtain ⟨cs,h1,rfl⟩:=aas.mp h
   rw [aax,aax,LW h1]; rfl
  | _=>cases h
theorem PF {e:Expr} {x y:E} {ap cp pz:Pos} {z:Str} (hl:PE X (.Name z pz) (lE p EX tn x)) (he:PE X e (lE p EX tn y)) (hst:At e=true) (h3:(ap.endLine==cp.line)=true):PE X (.Call (.Attribute (.Name z pz) "count" ap) [e] [] cp) (lE p EX tn (.mt .count x (.cons y .nil))):=by
 refine PE.mono (Go PySem.F.plainAttrs_list PySem.F.slot_list_count PySem.F.type_list_count QX hl (BE he DM (Am hst)) rfl (by rw [Am hst]; rfl) h3 (Am hst) rfl) fun σ H Q h=>?_
 obtain ⟨τ,rfl,hF,j,k',hj,h⟩:=h
 simp only [jk,jks] at hj
 obtain ⟨⟨j1,k1⟩,h1,hj⟩:=bS hj
 obtain ⟨⟨j2,k2⟩,h2,hj⟩:=bS hj
 obtain ⟨⟨j3,k3⟩,h3',_⟩:=bS h2
 simp only [ev,evs] at h
 refine l1 hF h1 h fun d t H1 ht R h=>?_
 subst ht
 cases t with
 | lst a ts =>
  refine ⟨.inl ⟨rfl,_,.inl R.ok.1⟩,?_⟩
  rw [show dL (T.lst a ts).dat=true from rfl,if_pos rfl] at h
  rw [show (((ev y (dτ τ)).bind fun x=>(Res.ok []).bind fun xs=>Res.ok (x :: xs)).bind fun ds=>mtD .count (T.lst a ts).dat ds)=(ev y (dτ τ)).bind fun d2=>mtD .count (T.lst a ts).dat [d2] from by cases ev y (dτ τ) <;> rfl] at h
  refine l2 hF R.same h3' h fun d2 t2 H2 ht2 R2 h=>?_
  subst ht2
  cases t2 with
  | bl k =>
   have h:Lg p EX (vτ τ) ((AA (Bj (T.dats ts))).bind fun bs=>Res.ok (D.int ((bs.filter (·==k)).length:Int))) H (KE p (Sh tn τ) H j k' Q):=h
   cases q:Bj (T.dats ts) with
   | none=>rw [q] at h; exact nE h
   | some bs =>
    rw [q] at h
    have okl:=(R.ok.same R2.same).1
    rw [LW q] at okl
    exact ⟨a,bs,k,rfl,rfl,okl,h (.int _) H2 rfl (Rs.scal (R.same.trans R2.same) rfl)⟩
  | _=>exact nE h
 | _=>exact nE h
theorem LX:∀ {ts:List T} {ns:List Int},Be (T.dats ts)=some ns->ts.map T.val=ns.map V.int
 | [],ns,h=>by cases h; rfl
 | t :: r,ns,h=>by
  cases t with
  | int b =>
   have h:(Be (T.dats r)).map (b :: ·)=some ns:=h
   obtain ⟨cs,h1,rfl⟩:=aas.mp h
   rw [aax,aax,LX h1]; rfl
  | _=>cases h
theorem Nn {v:Int}:∀ {ns:List Int} {j:Nat},Ef v ns=some j->ns[j]?=some v/\∀ m,m < j->ns[m]? ≠ some v
 | [],j,h=>nomatch h
 | x :: r,j,h=>by
  rw [Ef] at h
  split at h
  ·rename_i c
   cases h
   exact ⟨by rw [c]; rfl,fun m hm=>absurd hm (by omega)⟩
  ·rename_i c
   obtain ⟨i,h1,rfl⟩:=aas.mp h
   obtain ⟨h2,h3⟩:=Nn h1
   refine ⟨by simpa using h2,fun m hm=>?_⟩
   cases m with
   | zero=>intro z; cases z; exact c rfl
   | succ m =>
    have:=h3 m (by omega)
    simpa using this
theorem PH {e:Expr} {x y:E} {ap cp pz:Pos} {z:Str} (hl:PE X (.Name z pz) (lE p EX tn x)) (he:PE X e (lE p EX tn y)) (hst:At e=true) (h3:(ap.endLine==cp.line)=true):PE X (.Call (.Attribute (.Name z pz) "index" ap) [e] [] cp) (lE p EX tn (.mt .index x (.cons y .nil))):=by
 refine PE.mono (Go PySem.F.plainAttrs_list PySem.F.slot_list_index PySem.F.type_list_index Q2 hl (BE he DM (Am hst)) rfl (by rw [Am hst]; rfl) h3 (Am hst) rfl) fun σ H Q h=>?_
 obtain ⟨τ,rfl,hF,j,k',hj,h⟩:=h
 simp only [jk,jks] at hj
 obtain ⟨⟨j1,k1⟩,h1,hj⟩:=bS hj
 obtain ⟨⟨j2,k2⟩,h2,hj⟩:=bS hj
 obtain ⟨⟨j3,k3⟩,h3',_⟩:=bS h2
 simp only [ev,evs] at h
 refine l1 hF h1 h fun d t H1 ht R h=>?_
 subst ht
 cases t with
 | lst a ts =>
  refine ⟨.inl ⟨rfl,_,.inl R.ok.1⟩,?_⟩
  rw [show dL (T.lst a ts).dat=true from rfl,if_pos rfl] at h
  rw [show (((ev y (dτ τ)).bind fun x=>(Res.ok []).bind fun xs=>Res.ok (x :: xs)).bind fun ds=>mtD .index (T.lst a ts).dat ds)=(ev y (dτ τ)).bind fun d2=>mtD .index (T.lst a ts).dat [d2] from by cases ev y (dτ τ) <;> rfl] at h
  refine l2 hF R.same h3' h fun d2 t2 H2 ht2 R2 h=>?_
  subst ht2
  cases t2 with
  | int v =>
   have h:Lg p EX (vτ τ) ((AA (Be (T.dats ts))).bind fun ns=>(AA (Ef v ns)).bind fun j=>Res.ok (D.int (j:Nat))) H (KE p (Sh tn τ) H j k' Q):=h
   cases q:Be (T.dats ts) with
   | none=>rw [q] at h; exact nE h
   | some ns =>
    rw [q] at h
    have h:Lg p EX (vτ τ) ((AA (Ef v ns)).bind fun j=>Res.ok (D.int (j:Nat))) H (KE p (Sh tn τ) H j k' Q):=h
    cases q2:Ef v ns with
    | none=>rw [q2] at h; exact nE h
    | some i =>
     rw [q2] at h
     have okl:=(R.ok.same R2.same).1
     rw [LX q] at okl
     exact ⟨a,ns,v,i,rfl,rfl,okl,Nn q2,h (.int _) H2 rfl (Rs.scal (R.same.trans R2.same) rfl)⟩
  | _=>exact nE h
 | _=>exact nE h
end
theorem Ad {a b:Bool} (h:(a && b)=true):a=true/\b=true:=aah _ _ |>.mp h
theorem Ax {p:Px} {lv:Nat} {X:Cx} {a b:List Nd1} (h:∀ n ∈ a ++ b,NeedOk p lv X n):(∀ n ∈ a,NeedOk p lv X n)/\∀ n ∈ b,NeedOk p lv X n:=⟨fun n m=>h n (aaA _ m),fun n m=>h n (aal _ m)⟩
theorem C8 {c:CkC}:∀ {es:Es} {xs:List Expr},ckEs c es xs=true->xs.all At=true/\xs.length=es.len
 | .nil,[],_=>⟨rfl,rfl⟩
 | .nil,x :: xs,h=>nF h
 | .cons e r,[],h=>nF h
 | .cons e r,x :: xs,h=>by
  have h:(ckE c e x && At x && ckEs c r xs)=true:=h
  obtain ⟨h,h3⟩:=Ad h
  obtain ⟨h1,h2⟩:=Ad h
  obtain ⟨a,b⟩:=C8 h3
  exact ⟨by rw [aaG,h2,a]; rfl,by rw [aaJ,b,Es.len]⟩
mutual
theorem snd {p:Px} {lv:Nat}:∀ (x:E) {c:CkC} {X:Cx} {EX:EXT} {tn:List Nat} (C:Ct p c lv X EX) (e:Expr),(∀ n ∈ x.need,NeedOk p lv X n)->ckE c x e=true->PE X e (lE p EX tn x)/\(x.tst=true->PT X e (lT p EX tn x))
 | .nm i,c,X,EX,tn,C,e,hn,h=>by
  cases e with
  | Name y q =>
   have h:((c.N[i]?==some y) && FY c.sc y && B9 y)=true:=h
   obtain ⟨h,h3⟩:=Ad h
   obtain ⟨h1,h2⟩:=Ad h
   obtain ⟨d1,d2⟩:=Cu h3
   exact AK C (Vd (by rw [C.N]; exact beq_iff_eq.mp h1) (C.vis h2) d1 d2) rfl
  | _=>exact nF h
 | .cN,c,X,EX,tn,C,e,hn,h=>by
  cases e with
  | Constant k j q =>
   cases k with
   | none=>exact AK C (IK (t:=.non) Ut rfl (fun _=>rfl)) rfl
   | _=>exact nF h
  | _=>exact nF h
 | .cB b,c,X,EX,tn,C,e,hn,h=>by
  cases e with
  | Constant k j q =>
   cases k with
   | bool b' =>
    cases beq_iff_eq.mp (show (b==b')=true from h)
    exact AK C (IK (t:=.bl b) V3 rfl (fun _=>rfl)) rfl
   | _=>exact nF h
  | _=>exact nF h
 | .cI b,c,X,EX,tn,C,e,hn,h=>by
  cases e with
  | Constant k j q =>
   cases k with
   | int b' =>
    cases beq_iff_eq.mp (show (b==b')=true from h)
    exact AK C (IK (t:=.int b) Us rfl (fun _=>rfl)) rfl
   | _=>exact nF h
  | _=>exact nF h
 | .cS b,c,X,EX,tn,C,e,hn,h=>by
  cases e with
  | Constant k j q =>
   cases k with
   | str b' =>
    cases beq_iff_eq.mp (show (b==b')=true from h)
    exact AK C (IK (t:=.str b) Uu rfl (fun _=>rfl)) rfl
   | _=>exact nF h
  | _=>exact nF h
 | .gl y d,c,X,EX,tn,C,e,hn,h=>by
  cases e with
  | Name y' q =>
   have h:((y==y') && glB c.sc y' && B9 y' && D.scal d)=true:=h
   obtain ⟨h,h4⟩:=Ad h
   obtain ⟨h,h3⟩:=Ad h
   obtain ⟨h1,h2⟩:=Ad h
   cases beq_iff_eq.mp h1
   obtain ⟨u,m,r⟩:=hn (.gl y d) (aaF.mpr rfl)
   obtain ⟨e1,e2⟩:=Vp h4
   exact AK C (IK (t:=dT d) (MZ (C.gl h2) m r (Cu h3).1) e2 (fun _=>by rw [e1]; rfl)) rfl
  | _=>exact nF h
 | .tup es,c,X,EX,tn,C,e,hn,h=>by
  cases e with
  | Tuple xs k q =>
   obtain ⟨h1,h2⟩:=Ad (show (ckEs c es xs && decide (es.len<=1000))=true from h)
   exact AK C (Ta (sndA es C xs hn h1).1 (of_decide_eq_true h2)) rfl
  | _=>exact nF h
 | .lst es,c,X,EX,tn,C,e,hn,h=>by
  cases e with
  | List xs q =>
   obtain ⟨h1,h2⟩:=Ad (show (ckEs c es xs && decide (es.len<=1000))=true from h)
   exact AK C (Tb (sndA es C xs hn h1).1 (of_decide_eq_true h2)) rfl
  | _=>exact nF h
 | .bin o a b,c,X,EX,tn,C,e,hn,h=>by
  cases e with
  | BinOp l op r q =>
   obtain ⟨h,h3⟩:=Ad (show ((op==N6 o) && ckE c a l && ckE c b r)=true from h)
   obtain ⟨h1,h2⟩:=Ad h
   cases beq_iff_eq.mp h1
   obtain ⟨n1,n2⟩:=Ax hn
   exact AK C (Tj (snd a C l n1 h2).1 (snd b C r n2 h3).1) rfl
  | _=>exact nF h
 | .neg a,c,X,EX,tn,C,e,hn,h=>by
  cases e with
  | UnaryOp o l q =>
   cases o with
   | USub=>exact AK C (Tn (snd a C l hn h).1) rfl
   | _=>exact nF h
  | _=>exact nF h
 | .not a,c,X,EX,tn,C,e,hn,h=>by
  cases e with
  | UnaryOp o l q =>
   cases o with
   | Not =>
    obtain ⟨h1,h2⟩:=snd a C (tn:=tn) l hn h
    exact ⟨To h1,fun ht=>Rh (h2 ht)⟩
   | _=>exact nF h
  | _=>exact nF h
 | .cmp o a b,c,X,EX,tn,C,e,hn,h=>by
  cases e with
  | Compare l ops rs q =>
   match ops,rs,h with
   | [op],[r],h =>
    obtain ⟨h,h4⟩:=Ad (show ((op==Bt o) && ckE c a l && ckE c b r && Ev r)=true from h)
    obtain ⟨h,h3⟩:=Ad h
    obtain ⟨h1,h2⟩:=Ad h
    cases beq_iff_eq.mp h1
    obtain ⟨n1,n2⟩:=Ax hn
    have A:=(snd a C (tn:=tn) l n1 h2).1
    have B:=(snd b C (tn:=tn) r n2 h3).1
    exact ⟨Tk C.K C.hu A B (EU h4),fun _=>Re C.K C.hu A B (EU h4)⟩
   | [],_,h=>exact nF h
   | [_],[],h=>exact nF h
   | [_],_ :: _ :: _,h=>exact nF h
   | _ :: _ :: _,_,h=>exact nF h
  | _=>exact nF h
 | .chain o o' a b d,c,X,EX,tn,C,e,hn,h=>by
  cases e with
  | Compare l ops rs q =>
   match ops,rs,h with
   | [op,op'],[r,r'],h =>
    obtain ⟨h,h6⟩:=Ad (show ((op==Bt o) && (op'==Bt o') && ckE c a l && ckE c b r && ckE c d r' && Ev r')=true from h)
    obtain ⟨h,h5⟩:=Ad h
    obtain ⟨h,h4⟩:=Ad h
    obtain ⟨h,h3⟩:=Ad h
    obtain ⟨h1,h2⟩:=Ad h
    cases beq_iff_eq.mp h1
    cases beq_iff_eq.mp h2
    obtain ⟨n1,n2⟩:=Ax hn
    obtain ⟨n2,n3⟩:=Ax n2
    have A:=(snd a C (tn:=tn) l n1 h3).1
    have B:=(snd b C (tn:=tn) r n2 h4).1
    have D:=(snd d C (tn:=tn) r' n3 h5).1
    exact ⟨Pq C.K C.hu A B D (EU h6),fun _=>N9 C.K C.hu A B D (EU h6)⟩
   | [],_,h=>exact nF h
   | [_],_,h=>exact nF h
   | [_,_],[],h=>exact nF h
   | [_,_],[_],h=>exact nF h
   | [_,_],_ :: _ :: _ :: _,h=>exact nF h
   | _ :: _ :: _ :: _,_,h=>exact nF h
  | _=>exact nF h
 | .isN n a,c,X,EX,tn,C,e,hn,h=>by
  cases e with
  | Compare l ops rs q =>
   match ops,rs,h with
   | [op],[r],h =>
    obtain ⟨h,h3⟩:=Ad (show ((op==if n then .IsNot else .Is) && PD r && ckE c a l)=true from h)
    obtain ⟨h1,h2⟩:=Ad h
    cases beq_iff_eq.mp h1
    have A:=(snd a C (tn:=tn) l hn h3).1
    cases r with
    | Constant k j q' =>
     cases k with
     | none=>exact ⟨Tm A,fun _=>Rf A⟩
     | _=>cases h2
    | _=>cases h2
   | [],_,h=>exact nF h
   | [_],[],h=>exact nF h
   | [_],_ :: _ :: _,h=>exact nF h
   | _ :: _ :: _,_,h=>exact nF h
  | _=>exact nF h
 | .bo k es,c,X,EX,tn,C,e,hn,h=>by
  cases e with
  | BoolOp op xs q =>
   obtain ⟨h1,h2⟩:=Ad (show ((op==if k then .And else .Or) && ckEs c es xs)=true from h)
   cases beq_iff_eq.mp h1
   obtain ⟨a1,a2⟩:=(sndA es C (tn:=tn) xs hn h2).2 k q
   exact ⟨a1,fun ht=>(a2 ht).pt⟩
  | _=>exact nF h
 | .ix a i,c,X,EX,tn,C,e,hn,h=>by
  cases e with
  | Subscript l r q =>
   obtain ⟨h,h3⟩:=Ad (show (ckE c a l && ckE c i r && DQ r)=true from h)
   obtain ⟨h1,h2⟩:=Ad h
   obtain ⟨n1,n2⟩:=Ax hn
   exact AK C (Vm C.K (snd a C l n1 h1).1 (snd i C r n2 h2).1 h3) rfl
  | _=>exact nF h
 | .ixL a i,c,X,EX,tn,C,e,hn,h=>by
  cases e with
  | Subscript l r q =>
   obtain ⟨h,h3⟩:=Ad (show (ckE c a l && ckE c i r && DQ r)=true from h)
   obtain ⟨h1,h2⟩:=Ad h
   obtain ⟨n1,n2⟩:=Ax hn
   exact AK C (Tr (snd a C l n1 h1).1 (snd i C r n2 h2).1 h3) rfl
  | _=>exact nF h
 | .slc a lo hi,c,X,EX,tn,C,e,hn,h=>by
  cases e with
  | Subscript l r q =>
   cases r with
   | Slice lo' hi' st q2 =>
    cases st with
    | none =>
     obtain ⟨h,h3⟩:=Ad (show (ckE c a l && IR lo.isCN (ckE c lo) lo' && IR hi.isCN (ckE c hi) hi')=true from h)
     obtain ⟨h1,h2⟩:=Ad h
     obtain ⟨n1,n2⟩:=Ax hn
     obtain ⟨n2,n3⟩:=Ax n2
     have cn:∀ {y:E},y.isCN=true->y=.cN:=fun {y} z=>by cases y <;> first | rfl | cases z
     have P1:PO X lo' (lO p EX tn lo):=by
      cases lo' with
      | none=>cases cn h2; exact Ks
      | some l' =>
       obtain ⟨g1,g2⟩:=Ad h2
       exact Kt (snd lo C l' n2 g2).1 (by simpa using g1)
     have P2:PO X hi' (lO p EX tn hi):=by
      cases hi' with
      | none=>cases cn h3; exact Ks
      | some l' =>
       obtain ⟨g1,g2⟩:=Ad h3
       exact Kt (snd hi C l' n3 g2).1 (by simpa using g1)
     exact AK C (Tt (snd a C l n1 h1).1 P1 P2) rfl
    | some _=>exact nF h
   | _=>exact nF h
  | _=>exact nF h
 | .call f es,c,X,EX,tn,C,e,hn,h=>by
  cases e with
  | Call fn xs ks q =>
   cases fn with
   | Name y q' =>
    cases ks with
    | nil =>
     obtain ⟨h,h7⟩:=Ad (show ((y==f.name) && glB c.sc y && B9 y && ckEs c es xs && decide (es.len=f.ar) && decide (0 < es.len) && c.cm)=true from h)
     obtain ⟨h,h6⟩:=Ad h
     obtain ⟨h,h5⟩:=Ad h
     obtain ⟨h,h4⟩:=Ad h
     obtain ⟨h,h3⟩:=Ad h
     obtain ⟨h1,h2⟩:=Ad h
     cases beq_iff_eq.mp h1
     obtain ⟨s1,s2⟩:=C8 h4
     obtain ⟨f1,f2⟩:=hn (.fn f) (aab ..)
     have A:=(sndA es C (tn:=tn) xs (fun n m=>hn n (aaa _ m)) h4).1
     cases es with
     | nil=>cases of_decide_eq_true h6
     | cons e1 r1 =>
      cases xs with
      | nil=>cases s2
      | cons x1 xr=>exact AK C (Rj C.pass f2 ((C.room h7).mono f1) (C.gl h2) (Cu h3).1 A s1 (of_decide_eq_true h5)) rfl
    | cons _ _=>exact nF h
   | _=>exact nF h
  | _=>exact nF h
 | .callB f es,c,X,EX,tn,C,e,hn,h=>by
  cases e with
  | Call fn xs ks q =>
   cases fn with
   | Name y q' =>
    cases ks with
    | nil =>
     obtain ⟨h,h7⟩:=Ad (show ((y==f.name) && glB c.sc y && B9 y && ckEs c es xs && decide (es.len=f.ar) && decide (0 < es.len) && c.cm)=true from h)
     obtain ⟨h,h6⟩:=Ad h
     obtain ⟨h,h5⟩:=Ad h
     obtain ⟨h,h4⟩:=Ad h
     obtain ⟨h,h3⟩:=Ad h
     obtain ⟨h1,h2⟩:=Ad h
     cases beq_iff_eq.mp h1
     obtain ⟨s1,s2⟩:=C8 h4
     obtain ⟨f1,f2⟩:=hn (.fn f) (aab ..)
     have A:=(sndA es C (tn:=tn) xs (fun n m=>hn n (aaa _ m)) h4).1
     cases es with
     | nil=>cases of_decide_eq_true h6
     | cons e1 r1 =>
      cases xs with
      | nil=>cases s2
      | cons x1 xr=>exact AK C (Ps C.pass f2 ((C.room h7).mono f1) (C.gl h2) (Cu h3).1 A s1 (of_decide_eq_true h5)) rfl
    | cons _ _=>exact nF h
   | _=>exact nF h
  | _=>exact nF h
 | .bi b es,c,X,EX,tn,C,e,hn,h=>by
  cases e with
  | Call fn xs ks q =>
   cases fn with
   | Name y q' =>
    cases ks with
    | nil =>
     obtain ⟨h,h6⟩:=Ad (show ((y==PB b) && glB c.sc y && Vo b && ckEs c es xs && decide (0 < es.len) && (c.cm || EA b))=true from h)
     obtain ⟨h,h5⟩:=Ad h
     obtain ⟨h,h4⟩:=Ad h
     obtain ⟨h,h3⟩:=Ad h
     obtain ⟨h1,h2⟩:=Ad h
     cases beq_iff_eq.mp h1
     obtain ⟨s1,s2⟩:=C8 h4
     have A:=(sndA es C (tn:=tn) xs hn h4).1
     cases es with
     | nil=>cases of_decide_eq_true h5
     | cons e1 r1 =>
      cases xs with
      | nil=>cases s2
      | cons x1 xr =>
       refine AK C ?_ rfl
       cases b with
       | len=>exact Tu C.blt A s1 (C.gl h2)
       | min=>exact Tz C.blt A s1 (C.calm (by rw [show EA .min=false from rfl,abT] at h6; exact h6)) (C.gl h2)
       | max=>exact Ty C.blt A s1 (C.calm (by rw [show EA .max=false from rfl,abT] at h6; exact h6)) (C.gl h2)
       | maxL=>exact Rl C.blt A s1 (C.calm (by rw [show EA .maxL=false from rfl,abT] at h6; exact h6)) (C.gl h2)
       | minL=>exact Rm C.blt A s1 (C.calm (by rw [show EA .minL=false from rfl,abT] at h6; exact h6)) (C.gl h2)
       | minP=>exact Rn C.blt A s1 (C.calm (by rw [show EA .minP=false from rfl,abT] at h6; exact h6)) C.hu (C.gl h2)
       | abs=>exact Tv C.blt A s1 (C.gl h2)
       | int=>exact Tw C.blt A s1 (C.gl h2)
       | list=>exact Rk C.blt A s1 (C.gl h2)
       | all=>exact Tx C.blt A s1 (C.calm (by rw [show EA .all=false from rfl,abT] at h6; exact h6)) (C.gl h2)
    | cons _ _=>exact nF h
   | _=>exact nF h
  | _=>exact nF h
 | .isi a k,c,X,EX,tn,C,e,hn,h=>by
  cases e with
  | Call fn xs ks q =>
   cases fn with
   | Name y q' =>
    match xs,ks,h with
    | [l,r],[],h =>
     obtain ⟨h,h5⟩:=Ad (show ((y==("isinstance" : Str)) && glB c.sc y && ckE c a l && Rr c k r && At l)=true from h)
     obtain ⟨h,h4⟩:=Ad h
     obtain ⟨h,h3⟩:=Ad h
     obtain ⟨h1,h2⟩:=Ad h
     cases beq_iff_eq.mp h1
     obtain ⟨n1,n2⟩:=Ax hn
     obtain ⟨v,cv,e1,e2,e3,e4⟩:=Vr C h4 (fun n e=>n1 _ (by subst e; exact aaF.mpr rfl))
     exact AK C (TJ C (snd a C l n2 h3).1 e1 h5 e3 (C.gl h2) e2 e4) rfl
    | [],_,h=>exact nF h
    | [_],_,h=>exact nF h
    | _ :: _ :: _ :: _,_,h=>exact nF h
    | [_,_],_ :: _,h=>exact nF h
   | _=>exact nF h
  | _=>exact nF h
 | .mt m a es,c,X,EX,tn,C,e,hn,h=>by
  cases m with
  | index =>
   cases e with
   | Call f xs ks cp =>
    cases f with
    | Attribute o name ap =>
     cases ks with
     | nil =>
      obtain ⟨h,h6⟩:=Ad (show ((name==("index" : Str)) && ckE c a o && nmB o && ckEs c es xs && decide (es.len=1) && (ap.endLine==cp.line))=true from h)
      obtain ⟨h,h5⟩:=Ad h
      obtain ⟨h,h4⟩:=Ad h
      obtain ⟨h,h3⟩:=Ad h
      obtain ⟨h1,h2⟩:=Ad h
      cases beq_iff_eq.mp h1
      obtain ⟨n1,n2⟩:=Ax hn
      have A:=(snd a C (tn:=tn) o n1 h2).1
      cases o with
      | Name z pz =>
       match es,xs,h4,h5,n2 with
       | .cons y .nil,[e],h4,_,n2 =>
        obtain ⟨g,_⟩:=Ad (show (ckE c y e && At e && ckEs c .nil [])=true from h4)
        obtain ⟨g1,g2⟩:=Ad g
        exact AK C (PH A (snd y C (tn:=tn) e (fun n m=>n2 n (aaA _ m)) g1).1 g2 h6) rfl
       | .cons y .nil,[],h4,_,_=>exact nF h4
       | .cons y .nil,_ :: _ :: _,h4,_,_ =>
        obtain ⟨_,g⟩:=Ad h4
        exact nF g
       | .nil,_,_,h5,_=>cases of_decide_eq_true h5
       | .cons _ (.cons _ _),_,_,h5,_=>exact absurd (of_decide_eq_true h5) (by simp [Es.len])
      | _=>exact nF h3
     | cons _ _=>exact nF h
    | _=>exact nF h
   | _=>exact nF h
  | count =>
   cases e with
   | Call f xs ks cp =>
    cases f with
    | Attribute o name ap =>
     cases ks with
     | nil =>
      obtain ⟨h,h6⟩:=Ad (show ((name==("count" : Str)) && ckE c a o && nmB o && ckEs c es xs && decide (es.len=1) && (ap.endLine==cp.line))=true from h)
      obtain ⟨h,h5⟩:=Ad h
      obtain ⟨h,h4⟩:=Ad h
      obtain ⟨h,h3⟩:=Ad h
      obtain ⟨h1,h2⟩:=Ad h
      cases beq_iff_eq.mp h1
      obtain ⟨n1,n2⟩:=Ax hn
      have A:=(snd a C (tn:=tn) o n1 h2).1
      cases o with
      | Name z pz =>
       match es,xs,h4,h5,n2 with
       | .cons y .nil,[e],h4,_,n2 =>
        obtain ⟨g,_⟩:=Ad (show (ckE c y e && At e && ckEs c .nil [])=true from h4)
        obtain ⟨g1,g2⟩:=Ad g
        exact AK C (PF A (snd y C (tn:=tn) e (fun n m=>n2 n (aaA _ m)) g1).1 g2 h6) rfl
       | .cons y .nil,[],h4,_,_=>exact nF h4
       | .cons y .nil,_ :: _ :: _,h4,_,_ =>
        obtain ⟨_,g⟩:=Ad h4
        exact nF g
       | .nil,_,_,h5,_=>cases of_decide_eq_true h5
       | .cons _ (.cons _ _),_,_,h5,_=>exact absurd (of_decide_eq_true h5) (by simp [Es.len])
      | _=>exact nF h3
     | cons _ _=>exact nF h
    | _=>exact nF h
   | _=>exact nF h
 | .comp0 nl fr g it elt,c,X,EX,tn,C,e,hn,h=>by
  cases e with
  | ListComp elt' gens scope q =>
   obtain ⟨tg,iter,ifs,rfl,h⟩:=ET h
   obtain ⟨h,h7⟩:=Ad h
   obtain ⟨h,h6⟩:=Ad h
   obtain ⟨h,h5⟩:=Ad h
   obtain ⟨h,h4⟩:=Ad h
   obtain ⟨h,h3⟩:=Ad h
   obtain ⟨h,h2⟩:=Ad h
   obtain ⟨h,h1⟩:=Ad h
   obtain ⟨hcm,h0⟩:=Ad h
   cases ifs with
   | cons _ _=>cases h0
   | nil =>
   have h2:=of_decide_eq_true h2
   subst h2
   obtain ⟨S,nd⟩:=Lc C h1
   obtain ⟨n1,n2⟩:=Ax hn
   refine AK C (Py (C.calm hcm) S (sndI it C iter n1 h4) (fun i hi=>of_decide_eq_true (aaw.mp h3 i hi)) (fun z=>⟨?_,?_⟩) (Eh h5)) rfl
   ·exact HU (C.blk nd z) h6
   ·exact (snd elt (C.blk nd z) elt' (fun n m=>(n2 n m).blk) h7).1
  | _=>exact nF h
 | .comp1 nl fr g it cond elt,c,X,EX,tn,C,e,hn,h=>by
  cases e with
  | ListComp elt' gens scope q =>
   obtain ⟨tg,iter,ifs,rfl,h⟩:=ET h
   obtain ⟨cnd,rfl,h⟩:=LV h
   obtain ⟨h,h9⟩:=Ad h
   obtain ⟨h,h8⟩:=Ad h
   obtain ⟨h,h7⟩:=Ad h
   obtain ⟨h,h6⟩:=Ad h
   obtain ⟨h,h5⟩:=Ad h
   obtain ⟨h,h4⟩:=Ad h
   obtain ⟨h,h3⟩:=Ad h
   obtain ⟨h,h2⟩:=Ad h
   obtain ⟨hcm,h1⟩:=Ad h
   have h2:=of_decide_eq_true h2
   subst h2
   obtain ⟨S,nd⟩:=Lc C h1
   obtain ⟨n1,n2⟩:=Ax hn
   obtain ⟨n2,n3⟩:=Ax n2
   refine AK C (Pz (C.calm hcm) S (sndI it C iter n1 h4) (fun i hi=>of_decide_eq_true (aaw.mp h3 i hi)) (fun z=>⟨?_,?_,?_⟩) (Eh h5)) rfl
   ·exact HU (C.blk nd z) h6
   ·exact (snd cond (C.blk nd z) cnd (fun n m=>(n2 n m).blk) h7).2 h8
   ·exact (snd elt (C.blk nd z) elt' (fun n m=>(n3 n m).blk) h9).1
  | _=>exact nF h
theorem sndA {p:Px} {lv:Nat}:∀ (es:Es) {c:CkC} {X:Cx} {EX:EXT} {tn:List Nat} (C:Ct p c lv X EX) (xs:List Expr),(∀ n ∈ es.need,NeedOk p lv X n)->ckEs c es xs=true ->
  PA X xs (lEs p EX tn es)/\∀ (k:Bool) (q:Pos),PE X (.BoolOp (if k then .And else .Or) xs q) (lE p EX tn (.bo k es))/\(es.tsts=true->PW X (.BoolOp (if k then .And else .Or) xs q) (lT p EX tn (.bo k es)))
 | .nil,c,X,EX,tn,C,xs,hn,h=>by
  cases xs with
  | nil =>
   refine ⟨Rb,fun k q=>⟨fun pins s σ H Q I h=>?_,fun _ wh pins s σ H Q I h=>?_⟩⟩
   ·obtain ⟨τ,rfl,hF,j,k',hj,h⟩:=h
    simp only [ev,evBo] at h
    exact nE h
   ·obtain ⟨τ,rfl,hF,hj,h⟩:=h
    simp only [tv,ev,evBo] at h
    exact nE h
  | cons _ _=>exact nF h
 | .cons e r,c,X,EX,tn,C,xs,hn,h=>by
  cases xs with
  | nil=>exact nF h
  | cons x xs =>
   obtain ⟨h,h3⟩:=Ad (show (ckE c e x && At x && ckEs c r xs)=true from h)
   obtain ⟨h1,h2⟩:=Ad h
   obtain ⟨n1,n2⟩:=Ax hn
   obtain ⟨A1,A2⟩:=snd e C (tn:=tn) x n1 h1
   obtain ⟨B1,B2⟩:=sndA r C (tn:=tn) xs n2 h3
   refine ⟨Pm A1 B1 (Am h2),fun k q=>?_⟩
   cases r with
   | nil =>
    cases xs with
    | nil=>exact ⟨Vk A1,fun z=>Tq (A2 (Ad (show (e.tst && true)=true from z)).1)⟩
    | cons _ _=>exact nF h3
   | cons e' r' =>
    cases xs with
    | nil=>exact nF h3
    | cons x' xs' =>
     obtain ⟨C1,C2⟩:=B2 k q
     exact ⟨Tp A1 C1,fun z=>let ⟨z1,z2⟩:=Ad (show (e.tst && (Es.cons e' r').tsts)=true from z); Ri (A2 z1) (C2 z2)⟩
theorem sndI {p:Px} {lv:Nat}:∀ (it:It) {c:CkC} {X:Cx} {EX:EXT} {tn:List Nat} {tg:Expr} (C:Ct p c lv X EX) (e:Expr),(∀ n ∈ it.need,NeedOk p lv X n)->ckI c tg it e=true->PI X tg e (lI p EX tn it)
 | .seq a,c,X,EX,tn,tg,C,e,hn,h=>Rp C.K (snd a C e hn h).1
 | .seqL a,c,X,EX,tn,tg,C,e,hn,h=>Pw C.K (snd a C e hn h).1
 | .r1 a,c,X,EX,tn,tg,C,e,hn,h=>by
  cases e with
  | Call fn xs ks q =>
   cases fn with
   | Name y q' =>
    match xs,ks,h with
    | [l],[],h =>
     obtain ⟨h,h4⟩:=Ad (show ((y==("range" : Str)) && glB c.sc y && ckE c a l && At l)=true from h)
     obtain ⟨h,h3⟩:=Ad h
     obtain ⟨h1,h2⟩:=Ad h
     cases beq_iff_eq.mp h1
     exact TC (snd a C l hn h3).1 h4 (C.gl h2) (C.blt _ (by simp [Fk]))
    | [],_,h=>exact nF h
    | _ :: _ :: _,_,h=>exact nF h
    | [_],_ :: _,h=>exact nF h
   | _=>exact nF h
  | _=>exact nF h
 | .r2 a b,c,X,EX,tn,tg,C,e,hn,h=>by
  cases e with
  | Call fn xs ks q =>
   cases fn with
   | Name y q' =>
    match xs,ks,h with
    | [l,r],[],h =>
     obtain ⟨h,h6⟩:=Ad (show ((y==("range" : Str)) && glB c.sc y && ckE c a l && At l && ckE c b r && At r)=true from h)
     obtain ⟨h,h5⟩:=Ad h
     obtain ⟨h,h4⟩:=Ad h
     obtain ⟨h,h3⟩:=Ad h
     obtain ⟨h1,h2⟩:=Ad h
     cases beq_iff_eq.mp h1
     obtain ⟨n1,n2⟩:=Ax hn
     exact TD (snd a C l n1 h3).1 (snd b C r n2 h5).1 h4 h6 (C.gl h2) (C.blt _ (by simp [Fk]))
    | [],_,h=>exact nF h
    | [_],_,h=>exact nF h
    | _ :: _ :: _ :: _,_,h=>exact nF h
    | [_,_],_ :: _,h=>exact nF h
   | _=>exact nF h
  | _=>exact nF h
 | .rv a,c,X,EX,tn,tg,C,e,hn,h=>by
  cases e with
  | Call fn xs ks q =>
   cases fn with
   | Name y q' =>
    match xs,ks,h with
    | [l],[],h =>
     obtain ⟨h,h4⟩:=Ad (show ((y==("reversed" : Str)) && glB c.sc y && ckE c a l && At l)=true from h)
     obtain ⟨h,h3⟩:=Ad h
     obtain ⟨h1,h2⟩:=Ad h
     cases beq_iff_eq.mp h1
     exact TB C.K (snd a C l hn h3).1 h4 (C.gl h2) (C.blt _ (by simp [Fk]))
    | [],_,h=>exact nF h
    | _ :: _ :: _,_,h=>exact nF h
    | [_],_ :: _,h=>exact nF h
   | _=>exact nF h
  | _=>exact nF h
end
inductive Md where
 | sh
 | ow (k:Nat)
 | br (k:Nat)
 | dead
 deriving DecidableEq
noncomputable abbrev Ms:=List Md
noncomputable def Md.tn:Md->Nat
 | .sh=>0
 | .ow k=>k
 | .br k=>k
 | .dead=>99
noncomputable def Md.le:Md->Md->Bool
 | _,.dead=>true
 | .sh,.sh=>true
 | .ow _,.sh=>true
 | .ow k,.ow k'=>decide (0 < k'/\k'<=k)
 | .br k,.br k'=>decide (k=k')
 | _,_=>false
noncomputable def Md.small:Md->Bool
 | .ow k=>decide (0 < k/\k < 90)
 | .br k=>decide (k < 90)
 | _=>true
noncomputable def Md.meet (a b:Md):Md:=if a=b then a else match a,b with
 | .ow k,.ow k'=>if 0 < min k k' then .ow (min k k') else .sh
 | .ow _,.sh=>.sh
 | .sh,.ow _=>.sh
 | _,_=>.dead
noncomputable def tnM (m:Ms):List Nat:=m.map Md.tn
theorem Bx {m:Ms} {i j:Nat} (h:(tnM m)[i]?=some j):∃ d,m[i]?=some d/\d.tn=j:=by
 unfold tnM at h
 rw [aaq] at h
 exact aas.mp h
theorem A5 {m:Ms} {i:Nat} {d:Md} (h:m[i]?=some d):(tnM m)[i]?=some d.tn:=by
 unfold tnM; rw [aaq,h]; rfl
noncomputable def Own (m:Ms) (τ:Ft) (a:Addr):Prop:=∃ (i:Nat) (t:T) (k:Nat),τ[i]?=some (some t)/\m[i]?=some (.ow k)/\a ∈ t.adr k
noncomputable def Md.low:Md->Nat
 | .sh=>0
 | .ow _=>0
 | .br k=>k
 | .dead=>99
structure Sf (p:Px) (H0:Hp) (A0:Addr->Prop) (m:Ms) (τ:Ft) (H:Hp):Prop where
 len:τ.length=m.length
 small:∀ d ∈ m,d.small=true
 same:Same H0 H
 ok:Fok p (tnM m) τ H
 own:∀ (i:Nat) (t:T) (k:Nat) (a:Addr),τ[i]?=some (some t)->m[i]?=some (.ow k)->a ∈ t.adr k->H0 a=none/\∃ vs,H a=some (.lst vs)
 src:∀ a,Sh (tnM m) τ a->H0 a=none\/A0 a
 nd:∀ (i:Nat) (t:T) (k:Nat),τ[i]?=some (some t)->m[i]?=some (.ow k)->t.Nd k
 sep:∀ (i j:Nat) (t u:T) (k:Nat) (d:Md),i ≠ j->τ[i]?=some (some t)->m[i]?=some (.ow k)->τ[j]?=some (some u)->m[j]?=some d->d ≠ .dead->∀ a ∈ t.adr k,a ∉ u.rest d.low
 top:∀ (i j:Nat) (t u:T) (k k2:Nat),τ[i]?=some (some t)->m[i]?=some (.ow k)->τ[j]?=some (some u)->m[j]?=some (.br k2)->∀ a ts,t=.lst a ts->a ∉ u.rest 0
section
variable {p:Px} {H0:Hp} {A0:Addr->Prop} {m m':Ms} {τ:Ft} {H H':Hp}
theorem Sf.at (S:Sf p H0 A0 m τ H) {i:Nat} {t:T} {d:Md} (e:τ[i]?=some (some t)) (h:m[i]?=some d) (hd:d ≠ .dead):t.Ok p H:=by
 refine S.ok i t d.tn e (A5 h) ?_
 have:=S.small d (aaf h)
 cases d with
 | sh=>exact (by decide:(0:Nat) < 90)
 | ow k=>exact (of_decide_eq_true this).2
 | br k=>exact of_decide_eq_true this
 | dead=>exact absurd rfl hd
theorem Sf.ownOk (S:Sf p H0 A0 m τ H) {a:Addr} (o:Own m τ a):H0 a=none/\∃ vs,H a=some (.lst vs):=by
 obtain ⟨i,t,k,e,h,q⟩:=o
 exact S.own i t k a e h q
theorem Sf.disj (S:Sf p H0 A0 m τ H) {a:Addr} (o:Own m τ a):¬ Sh (tnM m) τ a:=by
 rintro ⟨j,u,jj,e',h',l,q'⟩
 obtain ⟨i,t,k,e,h,q⟩:=o
 obtain ⟨d,hd,rfl⟩:=Bx h'
 have hdd:d ≠ .dead:=fun z=>by subst z; exact absurd l (by decide)
 by_cases z:i=j
 ·subst z
  rw [h] at hd; cases hd
  rw [e] at e'
  cases e'
  exact (S.nd i _ k e h).2 a q' q
 ·refine S.sep i j t u k d z e h e' hd hdd a q (T.rest_le u ?_ q')
  cases d <;> simp [Md.low,Md.tn]
theorem Sf.grow (S:Sf p H0 A0 m τ H) (s:Same H H'):Sf p H0 A0 m τ H' :=
 ⟨S.len,S.small,S.same.trans s,S.ok.same s,fun i t k a e h q=>⟨(S.own i t k a e h q).1,let ⟨vs,z⟩:=(S.own i t k a e h q).2; ⟨vs,s _ _ z⟩⟩,S.src,S.nd,S.sep,S.top⟩
noncomputable def leM (m m':Ms):Bool:=decide (m.length=m'.length) && (m.zip m').all fun q=>q.1.le q.2
theorem Ei (h:leM m m'=true) {i:Nat} {d':Md} (e:m'[i]?=some d'):∃ d,m[i]?=some d/\d.le d'=true:=by
 unfold leM at h
 obtain ⟨h1,h2⟩:=Ad h
 have h1:=of_decide_eq_true h1
 have hi:i < m.length:=by
  rw [h1]; exact (aak.mp e).1
 refine ⟨m[i],aae hi,aaw.mp h2 (m[i],d') (Nm (aae hi) e)⟩
theorem HV {m:Ms} (h:∀ d ∈ m,d.small=true):leM m m=true:=by
 unfold leM
 simp only [decide_true,abA]
 refine aaw.mpr fun q hq=>?_
 obtain ⟨i,hi,e⟩:=abx hq
 have hi':i < m.length:=by simpa using hi
 have hs:=h m[i] (acq hi')
 have:q=(m[i],m[i]):=by rw [<- e]; simp
 rw [this]
 generalize m[i]=d at hs
 cases d <;> simp_all [Md.le,Md.small]
theorem Sf.weak (S:Sf p H0 A0 m τ H) (h:leM m m'=true):Sf p H0 A0 m' τ H:=by
 have hl:m.length=m'.length:=of_decide_eq_true (Ad (show (decide (m.length=m'.length) && _)=true from h)).1
 have shd:∀ a,Sh (tnM m') τ a->Sh (tnM m) τ a\/Own m τ a:=by
  rintro a ⟨i,t,j,e,ej,l,q⟩
  obtain ⟨d',hd',rfl⟩:=Bx ej
  obtain ⟨d,hd,le⟩:=Ei h hd'
  have sm:=S.small d (aaf hd)
  cases d' with
  | dead=>exact absurd l (by decide)
  | sh =>
   cases d with
   | sh=>exact .inl ⟨i,t,0,e,A5 hd,by decide,q⟩
   | ow k =>
    rcases (T.all_iff t k).mp q with z | z
    ·exact .inr ⟨i,t,k,e,hd,z⟩
    ·exact .inl ⟨i,t,k,e,A5 hd,(of_decide_eq_true sm).2,z⟩
   | _=>cases le
  | ow k' =>
   cases d with
   | ow k =>
    rcases (T.all_iff t k).mp (T.rest_le t (aat _) q) with z | z
    ·exact .inr ⟨i,t,k,e,hd,z⟩
    ·exact .inl ⟨i,t,k,e,A5 hd,(of_decide_eq_true sm).2,z⟩
   | _=>cases le
  | br k' =>
   cases d with
   | br k =>
    have:k=k':=of_decide_eq_true le
    subst this
    exact .inl ⟨i,t,k,e,A5 hd,of_decide_eq_true sm,q⟩
   | _=>cases le
 have ownd:∀ {i:Nat} {k':Nat},m'[i]?=some (.ow k')->∃ k,m[i]?=some (.ow k)/\k'<=k:=by
  intro i k' hd'
  obtain ⟨d,hd,le⟩:=Ei h hd'
  cases d with
  | ow k=>exact ⟨k,hd,(of_decide_eq_true le).2⟩
  | _=>cases le
 refine ⟨S.len.trans hl,fun d' hd'=>?_,S.same,fun i t j e ej l=>?_,fun i t k' a e hk q=>?_,fun a sh=>?_,fun i t k' e hk=>?_,fun i j t u k' d' ne e hk e' hd' nd a q=>?_,fun i j t u k' k2 e hk e' hd' a ts z=>?_⟩
 ·obtain ⟨i,hi,rfl⟩:=abx hd'
  obtain ⟨d,hd,le⟩:=Ei h (aae hi)
  have sm:=S.small d (aaf hd)
  generalize m'[i]=d' at le
  cases d' <;> cases d <;> simp_all [Md.le,Md.small] <;> omega
 ·obtain ⟨d',hd',rfl⟩:=Bx ej
  obtain ⟨d,hd,le⟩:=Ei h hd'
  refine S.at e hd fun z=>?_
  subst z
  cases d' <;> first | exact absurd l (by decide) | cases le
 ·obtain ⟨k,hd,le⟩:=ownd hk
  exact S.own i t k a e hd (T.adr_le t le q)
 ·rcases shd a sh with z | z
  ·exact S.src a z
  ·exact .inl (S.ownOk z).1
 ·obtain ⟨k,hd,le⟩:=ownd hk
  exact T.nd_le t le (S.nd i t k e hd)
 ·obtain ⟨k,hd,le⟩:=ownd hk
  obtain ⟨d,hdj,lj⟩:=Ei h hd'
  have hdd:d ≠ .dead:=fun z=>by subst z; cases d' <;> first | exact nd rfl | cases lj
  refine fun q'=>S.sep i j t u k d ne e hd e' hdj hdd a (T.adr_le t le q) (T.rest_le u ?_ q')
  cases d' <;> cases d <;> first | exact aat _ | (cases lj; done) | exact absurd rfl nd | skip
  exact aco (of_decide_eq_true lj)
 ·obtain ⟨k,hd,le⟩:=ownd hk
  obtain ⟨d,hdj,lj⟩:=Ei h hd'
  cases d with
  | br k3=>exact S.top i j t u k k3 e hd e' hdj a ts z
  | _=>cases lj
structure Stp (m m':Ms) (wr:List Nat) (τ τ':Ft) (H H':Hp):Prop where
 keep:∀ a u,H a=some u->¬ Own m τ a->H' a=some u
 grow:∀ a,Own m' τ' a->Own m τ a\/H a=none
 wr:∀ i,i ∉ wr->τ'[i]?=τ[i]?
theorem Own.weak (h:leM m m'=true) {a:Addr} (o:Own m' τ a):Own m τ a:=by
 obtain ⟨i,t,k,e,hk,q⟩:=o
 obtain ⟨d,hd,le⟩:=Ei h hk
 cases d with
 | ow k2=>exact ⟨i,t,k2,e,hd,T.adr_le t (of_decide_eq_true le).2 q⟩
 | _=>cases le
theorem Stp.refl (wr:List Nat) (h:leM m m'=true) (s:Same H H'):Stp m m' wr τ τ H H':=⟨fun a u e _=>s a u e,fun a o=>.inl (o.weak h),fun _ _=>rfl⟩
theorem Stp.trans {m1 m2 m3:Ms} {w1 w2:List Nat} {τ1 τ2 τ3:Ft} {H1 H2 H3:Hp} (a:Stp m1 m2 w1 τ1 τ2 H1 H2) (b:Stp m2 m3 w2 τ2 τ3 H2 H3):Stp m1 m3 (w1 ++ w2) τ1 τ3 H1 H3:=by
 refine ⟨fun x u e n=>b.keep x u (a.keep x u e n) fun o=>?_,fun x o=>?_,fun i hi=>?_⟩
 ·rcases a.grow x o with z | z
  ·exact n z
  ·rw [e] at z; cases z
 ·rcases b.grow x o with z | z
  ·exact a.grow x z
  ·cases q:H1 x with
   | none=>exact .inr rfl
   | some u =>
    refine .inl (Classical.byContradiction fun n=>?_)
    rw [a.keep x u q n] at z; cases z
 ·rw [b.wr i (fun h=>hi (aal _ h)),a.wr i (fun h=>hi (aaA _ h))]
theorem Stp.mono {w1 w2:List Nat} {τ':Ft} (a:Stp m m' w1 τ τ' H H') (h:∀ i ∈ w1,i ∈ w2):Stp m m' w2 τ τ' H H':=⟨a.keep,a.grow,fun i hi=>a.wr i fun q=>hi (h i q)⟩
end
noncomputable def mdK (k:Nat):Md:=if k=0 then .sh else .ow k
theorem GW {k k':Nat} (h:mdK k=.ow k'):k'=k/\k ≠ 0:=by unfold mdK at h; split at h <;> simp_all
theorem Vs {k k':Nat} (h:mdK k=.br k'):False:=by unfold mdK at h; split at h <;> simp_all
section
variable {p:Px} {H0:Hp} {A0:Addr->Prop} {m m':Ms} {τ:Ft} {H H1:Hp}
theorem Al {α:Type} {l:List α} {x i:Nat} {v w:α} (h:(l.set x v)[i]?=some w):(i=x/\w=v)\/(i ≠ x/\l[i]?=some w):=by
 by_cases z:x=i
 ·subst z
  rw [aby] at h
  cases q:l[x]? with
  | none=>rw [q] at h; cases h
  | some y =>
   rw [q] at h
   exact .inl ⟨rfl,by simpa using h.symm⟩
 ·rw [aaB z] at h
  exact .inr ⟨fun e=>z e.symm,h⟩
theorem Vt {x k ke:Nat} {t:T} (S:Sf p H0 A0 m τ H) (R:Rs p (Sh (tnM m) τ) H H1 0 ke t) (hk:k<=ke) (hx:x < m.length) (h90:k < 90):Sf p H0 A0 (m.set x (mdK k)) (τ.set x (some t)) H1/\Stp m (m.set x (mdK k)) [x] τ (τ.set x (some t)) H H1:=by
 have S1:=S.grow R.same
 have dom:∀ {i:Nat} {u:T} {d:Md},τ[i]?=some (some u)->m[i]?=some d->d ≠ .dead->∀ a ∈ u.rest 0,H a ≠ none:=fun e hd nd a q=>(S.at e hd nd).dom q
 have tnew:∀ a ∈ t.adr k,H a=none:=fun a q=>(R.new a (T.adr_le t hk q)).1
 have town:∀ a,Own m τ a->a ∉ t.rest 0:=fun a o q=>by
  rcases R.src a q with z | z
  ·obtain ⟨_,vs,e⟩:=S.ownOk o
   rw [e] at z; cases z
  ·exact S.disj o z
 have owns:∀ a,Own (m.set x (mdK k)) (τ.set x (some t)) a->a ∈ t.adr k\/Own m τ a:=by
  rintro a ⟨i,u,k',e,hk',q⟩
  rcases Al e with ⟨rfl,e2⟩ | ⟨ne,e⟩
  ·cases e2
   rcases Al hk' with ⟨_,z⟩ | ⟨z,_⟩
   ·obtain ⟨rfl,_⟩:=GW z.symm
    exact .inl q
   ·exact absurd rfl z
  ·rcases Al hk' with ⟨z,_⟩ | ⟨_,z⟩
   ·exact absurd z ne
   ·exact .inr ⟨i,u,k',e,z,q⟩
 refine ⟨⟨by rw [aa2,aa2]; exact S.len,fun d hd=>?_,S1.same,fun i u j e ej l=>?_,fun i u k' a e hk' q=>?_,fun a sh=>?_,fun i u k' e hk'=>?_,fun i j u w k' d ne e hk' e' hd nd a q=>?_,fun i j u w k' k2 e hk' e' hd a ts z=>?_⟩,
  fun a u e _=>R.same a u e,fun a o=>?_,fun i hi=>?_⟩
 ·rcases List.mem_or_eq_of_mem_set hd with z | z
  ·exact S.small d z
  ·subst z
   unfold mdK
   split
   ·rfl
   ·exact decide_eq_true ⟨by omega,h90⟩
 ·obtain ⟨d,hd,rfl⟩:=Bx ej
  rcases Al e with ⟨rfl,e2⟩ | ⟨ne,e⟩
  ·cases e2; exact R.ok
  ·rcases Al hd with ⟨z,_⟩ | ⟨_,z⟩
   ·exact absurd z ne
   ·exact S1.ok i u _ e (A5 z) l
 ·rcases Al e with ⟨rfl,e2⟩ | ⟨ne,e⟩
  ·cases e2
   rcases Al hk' with ⟨_,z⟩ | ⟨z,_⟩
   ·obtain ⟨rfl,_⟩:=GW z.symm
    have:=R.new a (T.adr_le _ hk q)
    exact ⟨S.same.free this.1,this.2⟩
   ·exact absurd rfl z
  ·rcases Al hk' with ⟨z,_⟩ | ⟨_,z⟩
   ·exact absurd z ne
   ·exact S1.own i u k' a e z q
 ·obtain ⟨i,u,j,e,ej,l,q⟩:=sh
  obtain ⟨d,hd,rfl⟩:=Bx ej
  rcases Al e with ⟨rfl,e2⟩ | ⟨ne,e⟩
  ·cases e2
   rcases R.src a (T.rest_le _ (aat _) q) with z | z
   ·exact .inl (S.same.free z)
   ·exact S.src a z
  ·rcases Al hd with ⟨z,_⟩ | ⟨_,z⟩
   ·exact absurd z ne
   ·exact S.src a ⟨i,u,_,e,A5 z,l,q⟩
 ·rcases Al e with ⟨rfl,e2⟩ | ⟨ne,e⟩
  ·cases e2
   rcases Al hk' with ⟨_,z⟩ | ⟨z,_⟩
   ·obtain ⟨rfl,_⟩:=GW z.symm
    exact T.nd_le _ hk R.nd
   ·exact absurd rfl z
  ·rcases Al hk' with ⟨z,_⟩ | ⟨_,z⟩
   ·exact absurd z ne
   ·exact S.nd i u k' e z
 ·rcases Al e with ⟨rfl,e2⟩ | ⟨n1,e1⟩
  ·cases e2
   rcases Al hk' with ⟨_,z⟩ | ⟨z,_⟩
   ·obtain ⟨rfl,_⟩:=GW z.symm
    rcases Al e' with ⟨z',_⟩ | ⟨n2,e3⟩
    ·exact absurd z'.symm ne
    ·rcases Al hd with ⟨z',_⟩ | ⟨_,hd3⟩
     ·exact absurd z' n2
     ·exact fun q'=>dom e3 hd3 nd a (T.rest_le w (aat _) q') (tnew a q)
   ·exact absurd rfl z
  ·rcases Al hk' with ⟨z,_⟩ | ⟨_,hk3⟩
   ·exact absurd z n1
   ·rcases Al e' with ⟨z4,e2⟩ | ⟨n2,e3⟩
    ·cases e2
     exact fun q'=>town a ⟨i,u,k',e1,hk3,q⟩ (T.rest_le _ (aat _) q')
    ·rcases Al hd with ⟨z,_⟩ | ⟨_,hd3⟩
     ·exact absurd z n2
     ·exact S.sep i j u w k' d ne e1 hk3 e3 hd3 nd a q
 ·rcases Al hd with ⟨_,z'⟩ | ⟨n2,hd3⟩
  ·exact (Vs z'.symm).elim
  ·rcases Al e' with ⟨z',_⟩ | ⟨_,e3⟩
   ·exact absurd z' n2
   ·rcases Al e with ⟨z4,e2⟩ | ⟨n1,e1⟩
    ·cases e2
     rcases Al hk' with ⟨_,z'⟩ | ⟨z',_⟩
     ·obtain ⟨z5,hk0⟩:=GW z'.symm
      subst z
      have mem:a ∈ (T.lst a ts).adr k:=by
       cases k with
       | zero=>exact absurd rfl hk0
       | succ n=>exact aab ..
      exact fun q'=>dom e3 hd3 (by intro c; cases c) a q' (tnew a mem)
     ·exact absurd z4 z'
    ·rcases Al hk' with ⟨z',_⟩ | ⟨_,hk3⟩
     ·exact absurd z' n1
     ·exact S.top i j u w k' k2 e1 hk3 e3 hd3 a ts z
 ·rcases owns a o with z | z
  ·exact .inr (tnew a z)
  ·exact .inl z
 ·rw [aaB (fun z=>hi (by simp [z]))]
noncomputable def Av (m:Ms) (is:List Nat) (d:Md):Ms:=is.foldl (fun m i=>m.set i d) m
theorem EG (d:Md):∀ (is:List Nat) (m:Ms),(Av m is d).length=m.length
 | [],m=>rfl
 | i :: is,m=>by show (Av (m.set i d) is d).length=_; rw [EG d is,aa2]
theorem EV {d d':Md}:∀ {is:List Nat} {m:Ms} {i:Nat},(Av m is d)[i]?=some d'->(i ∈ is/\d'=d)\/(i ∉ is/\m[i]?=some d')
 | [],m,i,h=>.inr ⟨by simp,h⟩
 | j :: is,m,i,h=>by
  rcases EV (is:=is) (m:=m.set j d) h with ⟨z1,z2⟩ | ⟨z1,z2⟩
  ·exact .inl ⟨aaa _ z1,z2⟩
  ·rcases Al z2 with ⟨rfl,e⟩ | ⟨ne,e⟩
   ·exact .inl ⟨aab ..,e⟩
   ·exact .inr ⟨fun q=>by rcases aai.mp q with q | q; exact ne q; exact z1 q,e⟩
theorem GX:∀ {is:List Nat} {ts:List T} {τ τ':Ft} {i:Nat},Cr is ts τ=some τ'->i ∉ is->τ'[i]?=τ[i]?
 | [],[],τ,τ',i,h,_=>by cases h; rfl
 | [],t :: ts,τ,τ',i,h,_=>by cases h
 | j :: is,[],τ,τ',i,h,_=>by cases h
 | j :: is,t :: ts,τ,τ',i,h,hi=>by
  rw [GX (is:=is) (ts:=ts) (τ:=τ.set j (some t)) h (fun q=>hi (aaa _ q)),aaB (fun z=>hi (by simp [z]))]
theorem MJ {g:Tg} {t:T} {τ τ':Ft} {i:Nat} (h:Do g t τ=some τ') (hi:i ∉ g.sl):τ'[i]?=τ[i]?:=by
 cases g with
 | nm k=>cases h; rw [aaB (fun z=>hi (by simp [Tg.sl,z]))]
 | tp is=>cases t <;> first | cases h | exact GX h hi
theorem TK {is:List Nat} {τ':Ft} (S:Sf p H0 A0 m τ H) (s:Same H H1) (hlen:τ'.length=τ.length) (hin:∀ (i:Nat) (u:T),i ∈ is->τ'[i]?=some (some u)->u.Ok p H1/\∀ a ∈ u.rest 0,(H0 a=none\/A0 a)/\¬ Own m τ a) (hout:∀ i,i ∉ is->τ'[i]?=τ[i]?) :
  Sf p H0 A0 (Av m is .sh) τ' H1/\Stp m (Av m is .sh) is τ τ' H H1:=by
 have S1:=S.grow s
 have AK:∀ {i:Nat} {u:T} {d:Md},τ'[i]?=some (some u)->(Av m is .sh)[i]?=some d->(d=.sh/\u.Ok p H1/\∀ a ∈ u.rest 0,(H0 a=none\/A0 a)/\¬ Own m τ a)\/(τ[i]?=some (some u)/\m[i]?=some d):=by
  intro i u d e hd
  rcases EV hd with ⟨z1,z2⟩ | ⟨z1,z2⟩
  ·exact .inl ⟨z2,hin i u z1 e⟩
  ·exact .inr ⟨(hout i z1) ▸ e,z2⟩
 have town:∀ {u:T},(∀ a ∈ u.rest 0,(H0 a=none\/A0 a)/\¬ Own m τ a)->∀ a,Own m τ a->a ∉ u.rest 0:=fun src a o q=>(src a q).2 o
 refine ⟨⟨by rw [hlen,EG]; exact S.len,fun d hd=>?_,S1.same,fun i u j e ej l=>?_,fun i u k' a e hk' q=>?_,fun a sh=>?_,fun i u k' e hk'=>?_,fun i j u w k' d ne e hk' e' hd nd a q=>?_,fun i j u w k' k2 e hk' e' hd a ts z=>?_⟩,
  fun a u e _=>s a u e,fun a o=>?_,fun i hi=>hout i hi⟩
 ·obtain ⟨i,hi,rfl⟩:=abx hd
  rcases EV (aae hi) with ⟨_,z⟩ | ⟨_,z⟩
  ·rw [z]; rfl
  ·exact S.small _ (aaf z)
 ·obtain ⟨d,hd,rfl⟩:=Bx ej
  rcases AK e hd with ⟨_,q,_⟩ | ⟨q1,q2⟩
  ·exact q
  ·exact S1.ok i u _ q1 (A5 q2) l
 ·rcases AK e hk' with ⟨z,_⟩ | ⟨q1,q2⟩
  ·cases z
  ·exact S1.own i u k' a q1 q2 q
 ·obtain ⟨i,u,j,e,ej,l,q⟩:=sh
  obtain ⟨d,hd,rfl⟩:=Bx ej
  rcases AK e hd with ⟨_,_,q'⟩ | ⟨q1,q2⟩
  ·exact (q' a (T.rest_le u (aat _) q)).1
  ·exact S.src a ⟨i,u,_,q1,A5 q2,l,q⟩
 ·rcases AK e hk' with ⟨z,_⟩ | ⟨q1,q2⟩
  ·cases z
  ·exact S.nd i u k' q1 q2
 ·rcases AK e hk' with ⟨z,_⟩ | ⟨q1,q2⟩
  ·cases z
  ·rcases AK e' hd with ⟨_,_,q'⟩ | ⟨q3,q4⟩
   ·exact fun q5=>town q' a ⟨i,u,k',q1,q2,q⟩ (T.rest_le w (aat _) q5)
   ·exact S.sep i j u w k' d ne q1 q2 q3 q4 nd a q
 ·rcases AK e hk' with ⟨z,_⟩ | ⟨q1,q2⟩
  ·cases z
  ·rcases AK e' hd with ⟨z',_⟩ | ⟨q3,q4⟩
   ·cases z'
   ·exact S.top i j u w k' k2 q1 q2 q3 q4 a ts z
 ·obtain ⟨i,u,k',e,hk',q⟩:=o
  rcases AK e hk' with ⟨z,_⟩ | ⟨q1,q2⟩
  ·cases z
  ·exact .inl ⟨i,u,k',q1,q2,q⟩
theorem Sf.fine (S:Sf p H0 A0 m τ H) {a:Addr} (h:H a=none\/Sh (tnM m) τ a):(H0 a=none\/A0 a)/\¬ Own m τ a:=by
 rcases h with z | z
 ·refine ⟨.inl (S.same.free z),fun o=>?_⟩
  obtain ⟨_,vs,e⟩:=S.ownOk o
  rw [e] at z; cases z
 ·exact ⟨S.src a z,fun o=>S.disj o z⟩
theorem PJ {g:Tg} {t:T} {τ':Ft} (S:Sf p H0 A0 m τ H) (s:Same H H1) (ok:t.Ok p H1) (src:∀ a ∈ t.rest 0,(H0 a=none\/A0 a)/\¬ Own m τ a) (h:Do g t τ=some τ'):Sf p H0 A0 (Av m g.sl .sh) τ' H1/\Stp m (Av m g.sl .sh) g.sl τ τ' H H1:=by
 refine TK S s (KI h) (fun i u hi e=>?_) (fun i hi=>MJ h hi)
 rcases IQ (P:=fun o=>∀ w,o=some w->w.Ok p H1/\∀ a ∈ w.rest 0,(H0 a=none\/A0 a)/\¬ Own m τ a) h (fun w e=>by cases e; exact ⟨ok,src⟩)
   (fun a ts e u hu w e'=>by
    cases e'
    rcases e with e | e
    ·subst e
     exact ⟨T.oks_iff.mp ok.2 u hu,fun b q=>src b (T.mem_rests.mpr ⟨u,hu,q⟩)⟩
    ·subst e
     exact ⟨T.oks_iff.mp ok.2 u hu,fun b q=>src b (aaa _ (T.mem_rests.mpr ⟨u,hu,q⟩))⟩) i (some u) e with q | ⟨q,_⟩
 ·exact q u rfl
 ·exact absurd hi q
theorem Wv {g:Tg} {t:T} {τ':Ft} (S:Sf p H0 A0 m τ H) (s:Same H H1) (ok:t.Ok p H1) (src:∀ a ∈ t.rest 0,H a=none\/Sh (tnM m) τ a) (h:Do g t τ=some τ'):Sf p H0 A0 (Av m g.sl .sh) τ' H1/\Stp m (Av m g.sl .sh) g.sl τ τ' H H1 :=
 PJ S s ok (fun a q=>S.fine (src a q)) h
end
noncomputable def AV:List (Bool × Int)->T->Option T
 | [],t=>some t
 | (false,i) :: r,.lst _ ts=>(ixN ts.length i).bind fun j=>(ts[j]?).bind fun t=>AV r t
 | (true,i) :: r,.tup _ ts=>(ixN ts.length i).bind fun j=>(ts[j]?).bind fun t=>AV r t
 | _,_=>none
noncomputable def Fl (s:T):List (Bool × Int)->T->Option T
 | [],_=>some s
 | (false,i) :: r,.lst a ts=>(ixN ts.length i).bind fun j=>(ts[j]?).bind fun t=>(Fl s r t).map fun t'=>.lst a (ts.set j t')
 | (true,i) :: r,.tup a ts=>(ixN ts.length i).bind fun j=>(ts[j]?).bind fun t=>(Fl s r t).map fun t'=>.tup a (ts.set j t')
 | _,_=>none
noncomputable def lnP:List (Bool × Int)->Nat
 | []=>0
 | (false,_) :: r=>lnP r + 1
 | (true,_) :: r=>lnP r
theorem FI {α:Type} {l:List α} {j:Nat} {x:α} (h:l[j]?=some x):∃ l1 l2,l=l1 ++ x :: l2/\∀ y,l.set j y=l1 ++ y :: l2:=by
 obtain ⟨hj,e⟩:=aak.mp h
 refine ⟨l.take j,l.drop (j + 1),?_,fun y=>?_⟩
 ·rw [<- e,List.getElem_cons_drop,List.take_append_drop]
 ·rw [List.set_eq_take_append_cons_drop,if_pos hj]
theorem Fd {l1 l2:List T} {c:T} {k:Nat}:T.Nds (l1 ++ c :: l2) k ↔ T.Nds (l1 ++ l2) k/\c.Nd k/\(∀ a ∈ c.adr k,a ∉ T.rests (l1 ++ l2) 0)/\(∀ a ∈ T.adrs (l1 ++ l2) k,a ∉ c.rest 0):=by
 induction l1 with
 | nil =>
  rw [aaW,aaW,T.nds_cons]
  exact ⟨fun ⟨a,b,c,d⟩=>⟨b,a,c,d⟩,fun ⟨b,a,c,d⟩=>⟨a,b,c,d⟩⟩
 | cons x l1 ih =>
  rw [aa0,aa0,T.nds_cons,T.nds_cons,ih]
  simp only [T.rests_append,T.adrs_append,T.rests,T.adrs,aag,not_or]
  constructor
  ·rintro ⟨h1,⟨h2,h3,h4,h5⟩,h6,h7⟩
   refine ⟨⟨h1,h2,fun a q=>⟨(h6 a q).1,(h6 a q).2.2⟩,fun a q=>h7 a ?_⟩,h3,fun a q=>⟨fun z=>h7 a (.inr (.inl q)) z,h4 a q⟩,fun a q=>?_⟩
   ·rcases q with q | q
    ·exact .inl q
    ·exact .inr (.inr q)
   ·rcases q with q | q
    ·exact (h6 a q).2.1
    ·exact h5 a q
  ·rintro ⟨⟨h1,h2,h6,h7⟩,h3,h4,h5⟩
   refine ⟨h1,⟨h2,h3,fun a q=>(h4 a q).2,fun a q=>h5 a (.inr q)⟩,fun a q=>⟨(h6 a q).1,h5 a (.inl q),(h6 a q).2⟩,fun a q=>?_⟩
   rcases q with q | q | q
   ·exact h7 a (.inl q)
   ·exact (h4 a q).1
   ·exact h7 a (.inr q)
section
variable {p:Px}
theorem Fm:∀ (q:List (Bool × Int)) {t s:T} {k:Nat},AV q t=some s->lnP q<=k->(∀ b ∈ s.rest 0,b ∈ t.rest 0)/\(∀ b ∈ s.adr (k - lnP q),b ∈ t.adr k)
 | [],t,s,k,h,_=>by cases h; exact ⟨fun b q=>q,fun b q=>q⟩
 | (false,i) :: r,.lst a ts,s,k,h,hl=>by
  simp only [AV] at h
  obtain ⟨j,_,h⟩:=bS h
  obtain ⟨c,hc,h⟩:=bS h
  cases k with
  | zero=>simp [lnP] at hl
  | succ k =>
   obtain ⟨h1,h2⟩:=Fm r (k:=k) h (by simp [lnP] at hl; exact hl)
   refine ⟨fun b q=>aaa _ (T.mem_rests.mpr ⟨c,aaf hc,h1 b q⟩),fun b q=>aaa _ (T.mem_adrs.mpr ⟨c,aaf hc,h2 b ?_⟩)⟩
   have:k + 1 - lnP ((false,i) :: r)=k - lnP r:=by simp only [lnP]; omega
   rw [this] at q; exact q
 | (true,i) :: r,.tup a ts,s,k,h,hl=>by
  simp only [AV] at h
  obtain ⟨j,_,h⟩:=bS h
  obtain ⟨c,hc,h⟩:=bS h
  obtain ⟨h1,h2⟩:=Fm r (k:=k) h hl
  exact ⟨fun b q=>T.mem_rests.mpr ⟨c,aaf hc,h1 b q⟩,fun b q=>T.mem_adrs.mpr ⟨c,aaf hc,h2 b q⟩⟩
 | (false,i) :: r,.tup a ts,s,k,h,_=>by cases h
 | (true,i) :: r,.lst a ts,s,k,h,_=>by cases h
 | (b,i) :: r,.non,s,k,h,_=>by cases b <;> cases h
 | (b,i) :: r,.bl _,s,k,h,_=>by cases b <;> cases h
 | (b,i) :: r,.int _,s,k,h,_=>by cases b <;> cases h
 | (b,i) :: r,.str _,s,k,h,_=>by cases b <;> cases h
 | (b,i) :: r,.exn _ _,s,k,h,_=>by cases b <;> cases h
theorem PK {l1 l2:List T} {c c':T} {k:Nat} {F N:Addr->Prop} (hFN:∀ b,F b->N b) (nds:T.Nds (l1 ++ c :: l2) k) (nd':c'.Nd k) (hA:∀ b ∈ c'.adr k,b ∈ c.adr k\/F b) (hB:∀ b ∈ c'.rest k,b ∈ c.rest k\/N b) (hF:∀ b,F b->b ∉ T.rests (l1 ++ c :: l2) 0) (hN:∀ b,N b->b ∉ T.adrs (l1 ++ c :: l2) k) :
  T.Nds (l1 ++ c' :: l2) k/\(∀ b ∈ T.adrs (l1 ++ c' :: l2) k,b ∈ T.adrs (l1 ++ c :: l2) k\/F b)/\(∀ b ∈ T.rests (l1 ++ c' :: l2) k,b ∈ T.rests (l1 ++ c :: l2) k\/N b):=by
 obtain ⟨m1,m2,m3,m4⟩:=Fd.mp nds
 have inm:∀ b,b ∈ T.rests (l1 ++ l2) 0->b ∈ T.rests (l1 ++ c :: l2) 0:=fun b q=>by
  simp only [T.rests_append,T.rests,aag] at q ⊢
  rcases q with q | q
  ·exact .inl q
  ·exact .inr (.inr q)
 have ina:∀ b,b ∈ T.adrs (l1 ++ l2) k->b ∈ T.adrs (l1 ++ c :: l2) k:=fun b q=>by
  simp only [T.adrs_append,T.adrs,aag] at q ⊢
  rcases q with q | q
  ·exact .inl q
  ·exact .inr (.inr q)
 have cm:∀ b,b ∈ c.adr k->b ∈ T.adrs (l1 ++ c :: l2) k:=fun b q=>by
  simp only [T.adrs_append,T.adrs,aag]
  exact .inr (.inl q)
 refine ⟨Fd.mpr ⟨m1,nd',fun b q q'=>?_,fun b q q'=>?_⟩,fun b q=>?_,fun b q=>?_⟩
 ·rcases hA b q with z | z
  ·exact m3 b z q'
  ·exact hF b z (inm b q')
 ·rcases (T.all_iff c' k).mp q' with z | z
  ·rcases hA b z with y | y
   ·exact m4 b q ((T.all_iff c k).mpr (.inl y))
   ·exact hN b (hFN b y) (ina b q)
  ·rcases hB b z with y | y
   ·exact m4 b q ((T.all_iff c k).mpr (.inr y))
   ·exact hN b y (ina b q)
 ·simp only [T.adrs_append,T.adrs,aag] at q ⊢
  rcases q with q | q | q
  ·exact .inl (.inl q)
  ·exact (hA b q).imp (fun z=>.inr (.inl z)) id
  ·exact .inl (.inr (.inr q))
 ·simp only [T.rests_append,T.rests,aag] at q ⊢
  rcases q with q | q | q
  ·exact .inl (.inl q)
  ·exact (hB b q).imp (fun z=>.inr (.inl z)) id
  ·exact .inl (.inr (.inr q))
theorem Ej {H H':Hp} {a:Addr} {t:T} (hkeep:∀ b w,H b=some w->b ≠ a->H' b=some w) (hpl:∃ vs,H a=some (.lst vs)) (ok:t.Ok p H) (hn:a ∉ t.rest 0):t.Ok p H':=by
 refine ok.keep fun b w e q=>hkeep b w e fun z=>?_
 subst z
 rcases q with q | q
 ·exact hn q
 ·obtain ⟨vs,z⟩:=hpl
  rw [z] at e
  exact q vs (Option.some.inj e).symm
theorem LY {H H':Hp} {a:Addr} {ts us:List T} {F N:Addr->Prop} (hkeep:∀ b w,H b=some w->b ≠ a->H' b=some w) (hpl:∃ vs,H a=some (.lst vs)) (hs:(T.lst a us).Ok p H') (hFN:∀ b,F b->N b) :
  ∀ (q:List (Bool × Int)) {t:T} {k:Nat},AV q t=some (.lst a ts)->lnP q < k->t.Nd k->t.Ok p H->(∀ b,F b->b ∉ t.rest 0)->(∀ b,N b->b ∉ t.adr k)->(∀ b ∈ T.adrs us (k - 1 - lnP q),b ∈ T.adrs ts (k - 1 - lnP q)\/F b) ->
   (∀ b ∈ T.rests us (k - 1 - lnP q),b ∈ T.rests ts (k - 1 - lnP q)\/N b)->T.Nds us (k - 1 - lnP q) ->
   ∃ t',Fl (.lst a us) q t=some t'/\t'.val=t.val/\t'.Ok p H'/\t'.Nd k/\(∀ b ∈ t'.adr k,b ∈ t.adr k\/F b)/\(∀ b ∈ t'.rest k,b ∈ t.rest k\/N b)
 | [],t,k,h,hl,nd,ok,hF,hN,hA,hB,hnd=>by
  cases h
  cases k with
  | zero=>cases hl
  | succ k =>
   have e:k + 1 - 1 - lnP []=k:=by simp [lnP]
   rw [e] at hA hB hnd
   obtain ⟨n1,n2⟩:=nd
   simp only [T.adr,aaI] at n1
   refine ⟨_,rfl,rfl,hs,⟨?_,fun b m m'=>?_⟩,fun b m=>?_,fun b m=>hB b m⟩
   ·simp only [T.adr,aaI]
    refine ⟨fun m=>?_,hnd.1⟩
    rcases hA a m with z | z
    ·exact n1.1 z
    ·exact hF a z (aab ..)
   ·simp only [T.adr,T.rest,aai] at m m'
    rcases m' with rfl | m'
    ·rcases hB b m with z | z
     ·exact n2 b z (aab ..)
     ·exact hN b z (aab ..)
    ·exact hnd.2 b m m'
   ·simp only [T.adr,aai] at m ⊢
    rcases m with m | m
    ·exact .inl (.inl m)
    ·exact (hA b m).imp .inr id
 | (false,i) :: r,.lst b0 cs,k,h,hl,nd,ok,hF,hN,hA,hB,hnd=>by
  simp only [AV] at h
  obtain ⟨j,hj,h⟩:=bS h
  obtain ⟨c,hc,h⟩:=bS h
  cases k with
  | zero=>cases hl
  | succ k =>
   have hl':lnP r < k:=by simp only [lnP] at hl; omega
   have e:k + 1 - 1 - lnP ((false,i) :: r)=k - 1 - lnP r:=by simp only [lnP]; omega
   rw [e] at hA hB hnd
   obtain ⟨n1,n2⟩:=nd
   simp only [T.adr,T.rest,aaI] at n1 n2
   have nds:T.Nds cs k:=⟨n1.2,fun x hx hy=>n2 x hx (aaa _ hy)⟩
   have hcm:=aaf hc
   obtain ⟨l1,l2,e1,e2⟩:=FI hc
   rw [e1] at nds
   obtain ⟨m1,m2,m3,m4⟩:=Fd.mp nds
   obtain ⟨ain,aad⟩:=Fm r (k:=k) h (by omega)
   have aadr:a ∈ c.adr k:=aad a (by
    have:k - lnP r=(k - lnP r - 1) + 1:=by omega
    rw [this]; exact aab ..)
   obtain ⟨c',p1,p2,p3,p4,p5,p6⟩:=LY hkeep hpl hs hFN r h hl' m2 (T.oks_iff.mp ok.2 c hcm) (fun b f q=>hF b f (aaa _ (T.mem_rests.mpr ⟨c,hcm,q⟩))) (fun b n q=>hN b n (aaa _ (T.mem_adrs.mpr ⟨c,hcm,q⟩))) hA hB hnd
   obtain ⟨q1,q2,q3⟩:=PK hFN nds p4 p5 p6 (fun b f q=>hF b f (aaa _ (by rw [e1]; exact q))) (fun b n q=>hN b n (aaa _ (by rw [e1]; exact q)))
   have ab:b0 ≠ a:=fun z=>n1.1 (by rw [z,T.mem_adrs]; exact ⟨c,hcm,aadr⟩)
   have hv:(l1 ++ c' :: l2).map T.val=cs.map T.val:=by rw [e1]; simp [p2]
   refine ⟨.lst b0 (l1 ++ c' :: l2),by simp only [Fl,hj,aa6,hc,p1,aaY,e2],rfl,⟨?_,T.oks_iff.mpr fun w hw=>?_⟩,⟨?_,fun b m m'=>?_⟩,fun b m=>?_,fun b m=>?_⟩
   ·rw [hv]
    rcases ok.1 with z | ⟨o,z⟩
    ·exact .inl (hkeep _ _ z ab)
    ·exact .inr ⟨o,hkeep _ _ z ab⟩
   ·rcases aag.mp hw with hw | hw
    ·refine Ej hkeep hpl (T.oks_iff.mp ok.2 w (by rw [e1]; exact aaA _ hw)) fun q=>m3 a aadr ?_
     rw [T.rests_append]; exact aaA _ (T.mem_rests.mpr ⟨w,hw,q⟩)
    ·rcases aai.mp hw with rfl | hw
     ·exact p3
     ·refine Ej hkeep hpl (T.oks_iff.mp ok.2 w (by rw [e1]; exact aal _ (aaa _ hw))) fun q=>m3 a aadr ?_
      rw [T.rests_append]; exact aal _ (T.mem_rests.mpr ⟨w,hw,q⟩)
   ·simp only [T.adr,aaI]
    refine ⟨fun m=>?_,q1.1⟩
    rcases q2 b0 m with z | z
    ·exact n1.1 (by rw [e1]; exact z)
    ·exact hF b0 z (aab ..)
   ·simp only [T.adr,T.rest,aai] at m m'
    rcases m' with rfl | m'
    ·rcases q3 b m with z | z
     ·exact n2 b (by rw [e1]; exact z) (aab ..)
     ·exact hN b z (aab ..)
    ·exact q1.2 b m m'
   ·simp only [T.adr,aai] at m ⊢
    rcases m with m | m
    ·exact .inl (.inl m)
    ·rw [e1]; exact (q2 b m).imp .inr id
   ·simp only [T.rest] at m ⊢
    rw [e1]; exact q3 b m
 | (true,i) :: r,.tup b0 cs,k,h,hl,nd,ok,hF,hN,hA,hB,hnd=>by
  simp only [AV] at h
  obtain ⟨j,hj,h⟩:=bS h
  obtain ⟨c,hc,h⟩:=bS h
  have hl':lnP r < k:=hl
  have nds:T.Nds cs k:=nd
  have hcm:=aaf hc
  obtain ⟨l1,l2,e1,e2⟩:=FI hc
  rw [e1] at nds
  obtain ⟨m1,m2,m3,m4⟩:=Fd.mp nds
  obtain ⟨ain,aad⟩:=Fm r (k:=k) h (by omega)
  have aadr:a ∈ c.adr k:=aad a (by
   have:k - lnP r=(k - lnP r - 1) + 1:=by omega
   rw [this]; exact aab ..)
  obtain ⟨c',p1,p2,p3,p4,p5,p6⟩:=LY hkeep hpl hs hFN r h hl' m2 (T.oks_iff.mp ok.2 c hcm) (fun b f q=>hF b f (T.mem_rests.mpr ⟨c,hcm,q⟩)) (fun b n q=>hN b n (T.mem_adrs.mpr ⟨c,hcm,q⟩)) hA hB hnd
  obtain ⟨q1,q2,q3⟩:=PK hFN nds p4 p5 p6 (fun b f q=>hF b f (by rw [T.rest,e1]; exact q)) (fun b n q=>hN b n (by rw [T.adr,e1]; exact q))
  have ab:b0 ≠ a:=fun z=>by
   obtain ⟨vs,y⟩:=hpl
   have:=ok.1
   rw [z,y] at this; cases this
  have hv:(l1 ++ c' :: l2).map T.val=cs.map T.val:=by rw [e1]; simp [p2]
  refine ⟨.tup b0 (l1 ++ c' :: l2),by simp only [Fl,hj,aa6,hc,p1,aaY,e2],rfl,⟨?_,T.oks_iff.mpr fun w hw=>?_⟩,q1,fun b m=>?_,fun b m=>?_⟩
  ·rw [hv]; exact hkeep _ _ ok.1 ab
  ·rcases aag.mp hw with hw | hw
   ·refine Ej hkeep hpl (T.oks_iff.mp ok.2 w (by rw [e1]; exact aaA _ hw)) fun q=>m3 a aadr ?_
    rw [T.rests_append]; exact aaA _ (T.mem_rests.mpr ⟨w,hw,q⟩)
   ·rcases aai.mp hw with rfl | hw
    ·exact p3
    ·refine Ej hkeep hpl (T.oks_iff.mp ok.2 w (by rw [e1]; exact aal _ (aaa _ hw))) fun q=>m3 a aadr ?_
     rw [T.rests_append]; exact aal _ (T.mem_rests.mpr ⟨w,hw,q⟩)
  ·simp only [T.adr] at m ⊢
   rw [e1]; exact q2 b m
  ·simp only [T.rest] at m ⊢
   rw [e1]; exact q3 b m
 | (false,i) :: r,.tup a ts,k,h,_,_,_,_,_,_,_,_=>by cases h
 | (true,i) :: r,.lst a ts,k,h,_,_,_,_,_,_,_,_=>by cases h
 | (b,i) :: r,.non,k,h,_,_,_,_,_,_,_,_=>by cases b <;> cases h
 | (b,i) :: r,.bl _,k,h,_,_,_,_,_,_,_,_=>by cases b <;> cases h
 | (b,i) :: r,.int _,k,h,_,_,_,_,_,_,_,_=>by cases b <;> cases h
 | (b,i) :: r,.str _,k,h,_,_,_,_,_,_,_,_=>by cases b <;> cases h
 | (b,i) :: r,.exn _ _,k,h,_,_,_,_,_,_,_,_=>by cases b <;> cases h
end
theorem IS:∀ (q:List (Bool × Int)) {t s:T} {k:Nat},AV q t=some s->lnP q<=k->t.Nd k->s.Nd (k - lnP q)
 | [],t,s,k,h,_,n=>by cases h; exact n
 | (false,i) :: r,.lst a ts,s,k,h,hl,n=>by
  simp only [AV] at h
  obtain ⟨j,_,h⟩:=bS h
  obtain ⟨c,hc,h⟩:=bS h
  cases k with
  | zero=>simp [lnP] at hl
  | succ k =>
   obtain ⟨n1,n2⟩:=n
   simp only [T.adr,T.rest,aaI] at n1 n2
   have nds:T.Nds ts k:=⟨n1.2,fun x hx hy=>n2 x hx (aaa _ hy)⟩
   obtain ⟨l1,l2,e1,_⟩:=FI hc
   rw [e1] at nds
   have:=IS r (k:=k) h (by simp [lnP] at hl; exact hl) (Fd.mp nds).2.1
   have e:k + 1 - lnP ((false,i) :: r)=k - lnP r:=by simp only [lnP]; omega
   rw [e]; exact this
 | (true,i) :: r,.tup a ts,s,k,h,hl,n=>by
  simp only [AV] at h
  obtain ⟨j,_,h⟩:=bS h
  obtain ⟨c,hc,h⟩:=bS h
  have nds:T.Nds ts k:=n
  obtain ⟨l1,l2,e1,_⟩:=FI hc
  rw [e1] at nds
  exact IS r (k:=k) h hl (Fd.mp nds).2.1
 | (false,i) :: r,.tup a ts,s,k,h,_,_=>by cases h
 | (true,i) :: r,.lst a ts,s,k,h,_,_=>by cases h
 | (b,i) :: r,.non,s,k,h,_,_=>by cases b <;> cases h
 | (b,i) :: r,.bl _,s,k,h,_,_=>by cases b <;> cases h
 | (b,i) :: r,.int _,s,k,h,_,_=>by cases b <;> cases h
 | (b,i) :: r,.str _,s,k,h,_,_=>by cases b <;> cases h
 | (b,i) :: r,.exn _ _,s,k,h,_,_=>by cases b <;> cases h
theorem LZ (ts:List T) (j:Nat) (t:T):T.dats (ts.set j t)=(T.dats ts).set j t.dat:=by rw [T.dats_map,T.dats_map,acV]
theorem JI {f:List D->Option (List D)}:∀ (q:List (Bool × Int)) {t:T} {d':D},Di f q t.dat=some d'->∃ a ts ds',AV q t=some (.lst a ts)/\f (T.dats ts)=some ds'/\∀ us t',T.dats us=ds'->Fl (.lst a us) q t=some t'->t'.dat=d'
 | [],t,d',h=>by
  cases t with
  | lst a ts =>
   simp only [T.dat,Di] at h
   obtain ⟨ds',h1,rfl⟩:=aas.mp h
   exact ⟨a,ts,ds',rfl,h1,fun us t' e1 e2=>by cases e2; simp [T.dat,e1]⟩
  | _=>cases h
 | (b,i) :: r,t,d',h=>by
  cases b with
  | false =>
   cases t with
   | lst a ts =>
    simp only [T.dat,Di,Aj] at h
    obtain ⟨j,hj,h⟩:=bS h
    obtain ⟨d,hd,h⟩:=bS h
    obtain ⟨d2,h1,rfl⟩:=aas.mp h
    obtain ⟨c,hc,rfl⟩:=Fi hd
    obtain ⟨a',ts',ds',s1,s2,s3⟩:=JI r h1
    refine ⟨a',ts',ds',by simp only [AV,hj,aa6,hc,s1],s2,fun us t' e1 e2=>?_⟩
    simp only [Fl,hj,aa6,hc] at e2
    obtain ⟨c',e3,rfl⟩:=aas.mp e2
    simp only [T.dat,LZ,s3 us c' e1 e3]
   | _=>cases h
  | true =>
   cases t with
   | tup a ts =>
    simp only [T.dat,Di,Aj] at h
    obtain ⟨j,hj,h⟩:=bS h
    obtain ⟨d,hd,h⟩:=bS h
    obtain ⟨d2,h1,rfl⟩:=aas.mp h
    obtain ⟨c,hc,rfl⟩:=Fi hd
    obtain ⟨a',ts',ds',s1,s2,s3⟩:=JI r h1
    refine ⟨a',ts',ds',by simp only [AV,hj,aa6,hc,s1],s2,fun us t' e1 e2=>?_⟩
    simp only [Fl,hj,aa6,hc] at e2
    obtain ⟨c',e3,rfl⟩:=aas.mp e2
    simp only [T.dat,LZ,s3 us c' e1 e3]
   | _=>cases h
section
variable {p:Px} {H0:Hp} {A0:Addr->Prop} {m m1:Ms} {τ:Ft} {H H1:Hp}
theorem PL {x k:Nat} {t:T} {q:List (Bool × Int)} {a:Addr} {ts us:List T} {F N:Addr->Prop} (S:Sf p H0 A0 m τ H) (s:Same H H1) (hx:τ[x]?=some (some t)) (hm:m[x]?=some (.ow k)) (hq:AV q t=some (.lst a ts)) (hl:lnP q < k) (hus:T.Oks p H1 us) (hFN:∀ b,F b->N b)
  (hA:∀ b ∈ T.adrs us (k - 1 - lnP q),b ∈ T.adrs ts (k - 1 - lnP q)\/F b) (hB:∀ b ∈ T.rests us (k - 1 - lnP q),b ∈ T.rests ts (k - 1 - lnP q)\/N b) (hnd:T.Nds us (k - 1 - lnP q))
  (f0:∀ b,F b->b ∉ t.rest 0) (f1:∀ b,F b->H0 b=none/\∃ vs,H1 b=some (.lst vs)) (f4:∀ b,F b->Own m τ b\/H b=none) (n0:∀ b,N b->b ∉ t.adr k) (n1:∀ b,N b->H0 b=none\/A0 b)
  (hlen:m1.length=m.length) (hmx:m1[x]?=some (.ow k)) (hmo:∀ (j:Nat) (d:Md),j ≠ x->m1[j]?=some d->d ≠ .dead->m[j]?=some d/\(q ≠ []->∀ k2,d ≠ .br k2))
  (f2:∀ (j:Nat) (u:T) (d:Md),j ≠ x->τ[j]?=some (some u)->m1[j]?=some d->d ≠ .dead->∀ b,F b->b ∉ u.rest d.low) (n2:∀ (i:Nat) (u:T) (k':Nat),i ≠ x->τ[i]?=some (some u)->m1[i]?=some (.ow k')->∀ b,N b->b ∉ u.adr k') :
  ∃ t',Fl (.lst a us) q t=some t'/\t'.val=t.val/\Sf p H0 A0 m1 (τ.set x (some t')) (L2.upd H1 a (.lst (us.map T.val)))/\Stp m m1 [x] τ (τ.set x (some t')) H (L2.upd H1 a (.lst (us.map T.val))):=by
 have S1:=S.grow s
 obtain ⟨ain,aad⟩:=Fm q (k:=k) hq (by omega)
 have ek:k - lnP q=(k - 1 - lnP q) + 1:=by omega
 have aadr:a ∈ t.adr k:=aad a (by rw [ek]; exact aab ..)
 have arest:a ∈ t.rest 0:=(T.all_iff t k).mpr (.inl aadr)
 have nds:=IS q hq (by omega:lnP q<=k) (S.nd x t k hx hm)
 rw [ek] at nds
 obtain ⟨nd1,nd2⟩:=nds
 simp only [T.adr,T.rest,aaI] at nd1 nd2
 have hpl:∃ vs,H1 a=some (.lst vs):=(S1.own x t k a hx hm aadr).2
 have hkeep:∀ b w,H1 b=some w->b ≠ a->L2.upd H1 a (.lst (us.map T.val)) b=some w:=fun b w e n=>by rw [Aw n]; exact e
 have aus:a ∉ T.rests us 0:=fun z=>by
  rcases (T.alls_iff us (k - 1 - lnP q)).mp z with z | z
  ·rcases hA a z with y | y
   ·exact nd1.1 y
   ·exact f0 a y arest
  ·rcases hB a z with y | y
   ·exact nd2 a y (aab ..)
   ·exact n0 a y aadr
 have hs:(T.lst a us).Ok p (L2.upd H1 a (.lst (us.map T.val))):=⟨.inl Bp,T.oks_iff.mpr fun u hu=>Ej hkeep hpl (T.oks_iff.mp hus u hu) fun z=>aus (T.mem_rests.mpr ⟨u,hu,z⟩)⟩
 obtain ⟨t',p1,p2,p3,p4,p5,p6⟩:=LY hkeep hpl hs hFN q hq hl (S.nd x t k hx hm) (S1.at hx hm (by intro c; cases c)) f0 n0 hA hB hnd
 have all':∀ b ∈ t'.rest 0,b ∈ t.rest 0\/N b:=fun b z=>by
  rcases (T.all_iff t' k).mp z with z | z
  ·exact (p5 b z).imp (fun y=>(T.all_iff t k).mpr (.inl y)) (hFN b)
  ·exact (p6 b z).imp (fun y=>(T.all_iff t k).mpr (.inr y)) id
 have sm0:0 < k/\k < 90:=of_decide_eq_true (S.small _ (aaf hm))
 have sm:=sm0.2
 have other:∀ {j:Nat} {u:T} {d:Md},j ≠ x->τ[j]?=some (some u)->m1[j]?=some d->d ≠ .dead->u.Ok p (L2.upd H1 a (.lst (us.map T.val))):=by
  intro j u d ne e hd nd
  obtain ⟨h1,h2⟩:=hmo j d ne hd nd
  refine Ej hkeep hpl (S1.at e h1 nd) ?_
  cases d with
  | sh=>exact S.sep x j t u k _ (Ne.symm ne) hx hm e h1 nd a aadr
  | ow k2=>exact S.sep x j t u k _ (Ne.symm ne) hx hm e h1 nd a aadr
  | br k2 =>
   cases q with
   | nil =>
    cases hq
    exact S.top x j _ u k k2 hx hm e h1 a ts rfl
   | cons _ _=>exact absurd rfl (h2 (by simp) k2)
  | dead=>exact absurd rfl nd
 refine ⟨t',p1,p2,⟨by rw [aa2,hlen]; exact S.len,fun d hd=>?_,fun b u e=>?_,fun i u j e ej l=>?_,fun i u k' b e hk' z=>?_,fun b sh=>?_,fun i u k' e hk'=>?_,fun i j u w k' d ne e hk' e' hd nd b z=>?_,fun i j u w k' k2 e hk' e' hd b cs z=>?_⟩,
  fun b u e n=>?_,fun b o=>?_,fun i hi=>?_⟩
 ·obtain ⟨i,hi,rfl⟩:=abx hd
  by_cases z:i=x
  ·subst z
   rw [aae hi] at hmx
   rw [Option.some.inj hmx]
   exact decide_eq_true sm0
  ·by_cases y:m1[i]=.dead
   ·rw [y]; rfl
   ·exact S.small _ (aaf (hmo i _ z (aae hi) y).1)
 ·rw [Aw (fun z=>by
   have:=(S.own x t k a hx hm aadr).1
   rw [z] at e
   rw [this] at e; cases e)]
  exact S1.same b u e
 ·obtain ⟨d,hd,rfl⟩:=Bx ej
  rcases Al e with ⟨rfl,e2⟩ | ⟨ne,e1⟩
  ·cases e2; exact p3
  ·exact other ne e1 hd (fun z=>by subst z; exact absurd l (by decide))
 ·rcases Al e with ⟨rfl,e2⟩ | ⟨ne,e1⟩
  ·cases e2
   rw [hmx] at hk'
   cases hk'
   rcases p5 b z with y | y
   ·obtain ⟨y1,vs,y2⟩:=S1.own i t k b hx hm y
    by_cases w:b=a
    ·subst w; exact ⟨y1,_,Bp⟩
    ·exact ⟨y1,vs,hkeep _ _ y2 w⟩
   ·obtain ⟨y1,vs,y2⟩:=f1 b y
    exact ⟨y1,vs,hkeep _ _ y2 fun w=>f0 b y (w ▸ arest)⟩
  ·obtain ⟨h1,_⟩:=hmo i _ ne hk' (by intro c; cases c)
   obtain ⟨y1,vs,y2⟩:=S1.own i u k' b e1 h1 z
   exact ⟨y1,vs,hkeep _ _ y2 fun w=>S.sep x i t u k _ (Ne.symm ne) hx hm e1 h1 (by intro c; cases c) a aadr (w ▸ (T.all_iff u k').mpr (.inl z))⟩
 ·obtain ⟨i,u,j,e,ej,l,z⟩:=sh
  obtain ⟨d,hd,rfl⟩:=Bx ej
  rcases Al e with ⟨rfl,e2⟩ | ⟨ne,e1⟩
  ·cases e2
   rw [hmx] at hd
   cases hd
   rcases p6 b z with y | y
   ·exact S.src b ⟨i,t,k,hx,A5 hm,sm,y⟩
   ·exact n1 b y
  ·obtain ⟨h1,_⟩:=hmo i _ ne hd (fun z=>by subst z; exact absurd l (by decide))
   exact S.src b ⟨i,u,_,e1,A5 h1,l,z⟩
 ·rcases Al e with ⟨rfl,e2⟩ | ⟨ne,e1⟩
  ·cases e2
   rw [hmx] at hk'
   cases hk'
   exact p4
  ·exact S.nd i u k' e1 (hmo i _ ne hk' (by intro c; cases c)).1
 ·rcases Al e with ⟨rfl,e2⟩ | ⟨ne1,e1⟩
  ·cases e2
   rw [hmx] at hk'
   cases hk'
   rcases Al e' with ⟨z',_⟩ | ⟨ne2,e3⟩
   ·exact absurd z'.symm ne
   ·rcases p5 b z with y | y
    ·exact S.sep i j t w k d ne hx hm e3 (hmo j d ne2 hd nd).1 nd b y
    ·exact f2 j w d ne2 e3 hd nd b y
  ·obtain ⟨h1,_⟩:=hmo i _ ne1 hk' (by intro c; cases c)
   rcases Al e' with ⟨z',e2⟩ | ⟨ne2,e3⟩
   ·cases e2
    subst z'
    rw [hmx] at hd
    cases hd
    intro y
    rcases all' b y with y | y
    ·exact S.sep i j u t k' _ ne e1 h1 hx hm (by intro c; cases c) b z y
    ·exact n2 i u k' ne1 e1 hk' b y z
   ·exact S.sep i j u w k' d ne e1 h1 e3 (hmo j d ne2 hd nd).1 nd b z
 ·have ne2:j ≠ x:=fun y=>by subst y; rw [hmx] at hd; cases hd
  rcases Al e' with ⟨y,_⟩ | ⟨_,e3⟩
  ·exact absurd y ne2
  obtain ⟨h3,h4⟩:=hmo j _ ne2 hd (by intro c; cases c)
  rcases Al e with ⟨rfl,e2⟩ | ⟨ne1,e1⟩
  ·cases e2
   rw [hmx] at hk'
   cases hk'
   cases q with
   | nil =>
    cases hq
    cases p1
    cases z
    exact S.top i j _ w k k2 hx hm e3 h3 _ ts rfl
   | cons _ _=>exact absurd rfl (h4 (by simp) k2)
  ·exact S.top i j u w k' k2 e1 (hmo i _ ne1 hk' (by intro c; cases c)).1 e3 h3 b cs z
 ·rw [Aw (show b ≠ a from fun z=>n ⟨x,t,k,hx,hm,by rw [z]; exact aadr⟩)]
  exact s b u e
 ·obtain ⟨i,u,k',e,hk',z⟩:=o
  rcases Al e with ⟨rfl,e2⟩ | ⟨ne,e1⟩
  ·cases e2
   rw [hmx] at hk'
   cases hk'
   rcases p5 b z with y | y
   ·exact .inl ⟨i,t,k,hx,hm,y⟩
   ·exact f4 b y
  ·exact .inl ⟨i,u,k',e1,(hmo i _ ne hk' (by intro c; cases c)).1,z⟩
 ·rw [aaB (fun z=>hi (by simp [z]))]
end
structure Zx where
 p:Px
 H0:Hp
 A0:Addr->Prop
 EX:EXT
 mx:Ms
 dep:Nat
noncomputable def Um.kind:Um->Nat
 | .append=>1
 | .insert=>3
 | .extend=>2
 | _=>0
mutual
noncomputable def wrS:S->List Nat
 | .asg x _ _=>[x]
 | .dem _ _=>[]
 | .dead _=>[]
 | .asgT xs _=>xs
 | .mut x _ _ _=>[x]
 | .expr _=>[]
 | .iff _ a b=>wrSs a ++ wrSs b
 | .wh _ b=>wrSs b
 | .for_ g _ b=>g.sl ++ wrSs b
 | .ret _=>[]
 | .retT _=>[]
 | .raise _ _=>[]
noncomputable def wrSs:Ss->List Nat
 | .nil=>[]
 | .cons s r=>wrS s ++ wrSs r
end
noncomputable def Ww (a b:Ms):Ms:=List.zipWith Md.meet a b
noncomputable def Oj:Option Ms->Option Ms->Option Ms
 | none,b=>b
 | a,none=>a
 | some a,some b=>some (Ww a b)
noncomputable def okJ:Option Ms->Option Ms->Bool
 | some a,some r=>leM a r
 | none,_=>true
 | some _,none=>false
noncomputable def It.nmOf:It->Option Nat
 | .seqL (.nm x)=>some x
 | _=>none
noncomputable def rk (m:Ms) (e:E):Option Nat:=match e with
 | .nm i=>match m[i]? with
  | some (.ow k)=>some k
  | some .sh=>some 0
  | _=>none
 | e=>(jk (tnM m) e).bind fun x=>if x.1=0 then some x.2 else none
noncomputable def Ld (m:Ms):E->Option (Nat × Nat)
 | .nm i=>match m[i]? with
  | some (.ow k)=>some (i,k)
  | _=>none
 | _=>none
theorem Rt {m:Ms} {e:E} {i k:Nat} (h:Ld m e=some (i,k)):e=.nm i/\m[i]?=some (.ow k):=by
 unfold Ld at h
 split at h
 ·split at h
  ·cases h; exact ⟨rfl,‹_›⟩
  ·cases h
 ·cases h
noncomputable def rkT (m:Ms):List Nat->Es->Option Nat
 | _,.nil=>some 9
 | I,.cons e r=>match Ld m e with
  | some (i,k)=>if i ∈ I then none else (rkT m (i :: I) r).bind fun k2=>some (min k k2)
  | none=>(jk (tnM m) e).bind fun c=>if c.1=0 then (rkT m I r).bind fun k2=>some (min c.2 k2) else none
noncomputable def Dq (m:Ms):Ms:=m.map fun d=>match d with
 | .br _=>.dead
 | d=>d
noncomputable def Gb (m:Ms):List (Bool × E)->Bool
 | []=>true
 | (_,e) :: r=>(jk (tnM m) e).isSome && Gb m r
noncomputable def lnE:List (Bool × E)->Nat
 | []=>0
 | (false,_) :: r=>lnE r + 1
 | (true,_) :: r=>lnE r
noncomputable def Es.mvOf (m:Ms):Es->Option (Nat × Nat)
 | .cons (.nm y) .nil=>match m[y]? with
  | some (.ow k)=>some (y,k)
  | _=>none
 | _=>none
mutual
noncomputable def msS (mx:Ms) (dep:Nat):S->Ms->Option (Option Ms)
 | .asg x k e,m=>(jk (tnM m) e).bind fun c=>if c.1=0/\k<=c.2/\x < m.length/\k < 90/\leM m mx=true then some (some (m.set x (mdK k))) else none
 | .dem x k,m=>if leM m (m.set x (mdK k))=true then some (some (m.set x (mdK k))) else none
 | .dead x,m=>if leM m (m.set x .dead)=true then some (some (m.set x .dead)) else none
 | .asgT xs e,m=>(jk (tnM m) e).bind fun c=>if c.1=0/\leM m mx=true then some (some (Av m xs .sh)) else none
 | .mut x p u es,m=>match m[x]? with
  | some (.ow k)=>if lnE p < k/\Gb m p=true/\leM m mx=true then (match es.mvOf m with
    | some (y,ky)=>if u=.append/\y ≠ x/\k - 1 - lnE p<=ky/\p.isEmpty=true then some (some (m.set y (.br ky))) else none
    | none=>(jks (tnM m) es).bind fun c=>if (c.1=0\/(u=.extend/\c.1<=1))/\(k - 1 - lnE p=0\/(u.kind=1/\k - 1 - lnE p<=c.2)\/(u.kind=2/\k - lnE p<=c.2)\/u.kind=0) then some (some (if p.isEmpty then m else Dq m)) else none) else none
  | _=>none
 | .expr e,m=>(jk (tnM m) e).bind fun _=>if leM m mx=true then some (some m) else none
 | .iff c a b,m=>(jk (tnM m) c).bind fun _=>if leM m mx=true then (msSs mx dep a m).bind fun ra=>(msSs mx dep b m).bind fun rb=>if okJ ra (Oj ra rb)=true/\okJ rb (Oj ra rb)=true then some (Oj ra rb) else none
  else none
 | .wh c b,m=>(jk (tnM m) c).bind fun _=>if leM m mx=true then (msSs mx dep b m).bind fun r=>match r with
   | none=>some (some m)
   | some mb=>if leM mb m=true then some (some m) else none
  else none
 | .for_ g it b,m=>(jkI (tnM m) it).bind fun j=>if leM m mx=true/\leM m (Av m g.sl .dead)=true/\(j=0\/∃ x,it.nmOf=some x/\x ∉ wrSs b/\x ∉ g.sl) then (msSs mx dep b (Av (Av m g.sl .dead) g.sl .sh)).bind fun r=>match r with
   | none=>some (some (Av m g.sl .dead))
   | some mb=>if leM mb (Av m g.sl .dead)=true then some (some (Av m g.sl .dead)) else none
  else none
 | .ret e,m=>(rk m e).bind fun k=>if dep<=k/\leM m mx=true then some none else none
 | .retT es,m=>(rkT m [] es).bind fun k=>if dep<=k/\leM m mx=true then some none else none
 | .raise _ es,m=>(jks (tnM m) es).bind fun _=>if leM m mx=true then some none else none
noncomputable def msSs (mx:Ms) (dep:Nat):Ss->Ms->Option (Option Ms)
 | .nil,m=>some (some m)
 | .cons s r,m=>(msS mx dep s m).bind fun o=>match o with
  | none=>some none
  | some m1=>msSs mx dep r m1
end
noncomputable def lOut (Z:Zx) (m:Ms) (r:Option Ms) (w:List Nat) (o:Out) (τ:Ft) (H:Hp) (D:Ends):Prop:=match o with
 | .nxt δ'=>∀ (m':Ms) (τ':Ft) (H':Hp),r=some m'->dτ τ'=δ'->Sf Z.p Z.H0 Z.A0 m' τ' H'->Stp m m' w τ τ' H H'->D.nx (vτ τ') H'
 | .ret d=>∀ (t:T) (H':Hp),t.dat=d->Rs Z.p Z.A0 Z.H0 H' 0 Z.dep t->D.rt t.val H'
 | .exc c δ'=>Z.p.has c=true->∀ (τ':Ft) (H':Hp),dτ τ'=δ'->Sf Z.p Z.H0 Z.A0 Z.mx τ' H'->Stp m Z.mx w τ τ' H H'->Z.EX (vτ τ') (.ref (Z.p.cl c)) none H'
 | .bad=>False
noncomputable def lS (Z:Zx) (s:S):TS:=fun D σ H=>∃ τ m r,σ=vτ τ/\Sf Z.p Z.H0 Z.A0 m τ H/\msS Z.mx Z.dep s m=some r/\lOut Z m r (wrS s) (ex s (dτ τ)) τ H D
noncomputable def lSs (Z:Zx) (s:Ss):TS:=fun D σ H=>∃ τ m r,σ=vτ τ/\Sf Z.p Z.H0 Z.A0 m τ H/\msSs Z.mx Z.dep s m=some r/\lOut Z m r (wrSs s) (exs s (dτ τ)) τ H D
theorem PSs.mono {X:Cx} {st:List Stmt} {t t':TS} (h:PSs X st t) (m:∀ D σ H,t' D σ H->t D σ H):PSs X st t':=fun pins s σ H D I q=>h pins s σ H D I (m _ _ _ q)
section
variable {Z:Zx} {m:Ms} {r:Option Ms} {w:List Nat} {τ:Ft} {H:Hp} {D:Ends} {X:Cx} {pos:Pos}
theorem lOut.lg {α:Type} {q:Res α} {f:α->Out} (S:Sf Z.p Z.H0 Z.A0 m τ H) (hm:leM m Z.mx=true) (h:lOut Z m r w (q.out (dτ τ) f) τ H D):Lg Z.p Z.EX (vτ τ) q H fun a=>lOut Z m r w (f a) τ H D:=by
 cases q with
 | ok a=>exact h
 | exc c=>exact fun hc H' s=>h hc τ H' rfl ((S.weak hm).grow s) (Stp.refl w hm s)
 | bad=>exact h
theorem AF {c:Prop} [Decidable c] {α:Type} {x y:α} (h:(if c then some x else none)=some y):c/\x=y:=by
 split at h
 ·exact ⟨‹_›,Option.some.inj h⟩
 ·cases h
theorem Vu {x k:Nat} {e:E} {σ:L2.St} (h:lS Z (.asg x k e) D σ H):∃ τ m,σ=vτ τ/\Sf Z.p Z.H0 Z.A0 m τ H/\HM (lE Z.p Z.EX (tnM m) e) (Fy x) D σ H:=by
 obtain ⟨τ,m,r,rfl,S,hr,h⟩:=h
 simp only [msS] at hr
 obtain ⟨⟨j1,k1⟩,h1,hr⟩:=bS hr
 obtain ⟨⟨c1,c2,c3,c4,c5⟩,rfl⟩:=AF hr
 have c1:j1=0:=c1
 subst c1
 refine ⟨τ,m,rfl,S,τ,rfl,S.ok,0,k1,h1,?_⟩
 simp only [ex] at h
 refine (h.lg S c5).mono (Same.refl _) fun d _ h t H1 ht R=>?_
 subst ht
 obtain ⟨S2,P2⟩:=Vt S R c2 c3 c4
 show D.nx ((vτ τ).set x (some t.val)) H1
 rw [<- Hn]
 exact h _ _ H1 rfl (Hm τ x t) S2 P2
end
theorem Ol {m:Ms} {i:Nat} {d:Md} (h:(Dq m)[i]?=some d):(d=.dead)\/(m[i]?=some d/\∀ k2,d ≠ .br k2):=by
 unfold Dq at h
 rw [aaq] at h
 obtain ⟨d',h1,h2⟩:=aas.mp h
 cases d' with
 | br k=>exact .inl h2.symm
 | sh=>cases h2; exact .inr ⟨h1,by simp⟩
 | ow k=>cases h2; exact .inr ⟨h1,by simp⟩
 | dead=>exact .inl h2.symm
theorem PM {m:Ms} {i k:Nat} (h:m[i]?=some (.ow k)):(Dq m)[i]?=some (.ow k):=by
 unfold Dq; rw [aaq,h]; rfl
section
variable {p:Px} {H0:Hp} {A0:Addr->Prop} {m:Ms} {τ:Ft} {H H1:Hp}
theorem Vv {x k:Nat} {t:T} {q:List (Bool × Int)} {a:Addr} {ts us es:List T} (S:Sf p H0 A0 m τ H) (s:Same H H1) (hx:τ[x]?=some (some t)) (hm:m[x]?=some (.ow k)) (hq:AV q t=some (.lst a ts)) (hl:lnP q < k) (hus:T.Oks p H1 us)
  (hA:∀ b ∈ T.adrs us (k - 1 - lnP q),b ∈ T.adrs ts (k - 1 - lnP q)\/b ∈ T.adrs es (k - 1 - lnP q)) (hB:∀ b ∈ T.rests us (k - 1 - lnP q),b ∈ T.rests ts (k - 1 - lnP q)\/b ∈ T.rests es 0)
  (hnd:T.Nds ts (k - 1 - lnP q)->(∀ b ∈ T.adrs es (k - 1 - lnP q),b ∉ T.rests ts 0)->(∀ b ∈ T.adrs ts (k - 1 - lnP q),b ∉ T.rests es 0)->T.Nds us (k - 1 - lnP q))
  (src:∀ b ∈ T.rests es 0,H b=none\/Sh (tnM m) τ b) (new:∀ b ∈ T.adrs es (k - 1 - lnP q),H b=none/\∃ vs,H1 b=some (.lst vs)) :
  ∃ t',Fl (.lst a us) q t=some t'/\t'.val=t.val/\Sf p H0 A0 (if q.isEmpty then m else Dq m) (τ.set x (some t')) (L2.upd H1 a (.lst (us.map T.val)))/\Stp m (if q.isEmpty then m else Dq m) [x] τ (τ.set x (some t')) H (L2.upd H1 a (.lst (us.map T.val))):=by
 have dom:∀ {j:Nat} {u:T} {d:Md},τ[j]?=some (some u)->m[j]?=some d->d ≠ .dead->∀ b ∈ u.rest 0,H b ≠ none:=fun e hd nd b z=>(S.at e hd nd).dom z
 obtain ⟨ain,aad⟩:=Fm q (k:=k) hq (by omega)
 have ek:k - lnP q=(k - 1 - lnP q) + 1:=by omega
 have nds:=IS q hq (by omega:lnP q<=k) (S.nd x t k hx hm)
 rw [ek] at nds aad
 have ndt:T.Nds ts (k - 1 - lnP q):=by
  obtain ⟨n1,n2⟩:=nds
  simp only [T.adr,T.rest,aaI] at n1 n2
  exact ⟨n1.2,fun b z y=>n2 b z (aaa _ y)⟩
 have hxd:∀ b ∈ t.rest 0,H b ≠ none:=dom hx hm (by intro c; cases c)
 have notOwn:∀ b ∈ T.rests es 0,¬ Own m τ b:=fun b z o=>by
  rcases src b z with y | y
  ·obtain ⟨_,vs,e⟩:=S.ownOk o
   rw [e] at y; cases y
  ·exact S.disj o y
 have hm1:∀ (j:Nat) (d:Md),(if q.isEmpty then m else Dq m)[j]?=some d->d ≠ .dead->m[j]?=some d/\(q ≠ []->∀ k2,d ≠ .br k2):=by
  intro j d hd nd
  cases q with
  | nil=>exact ⟨hd,fun z=>absurd rfl z⟩
  | cons z r =>
   rcases Ol hd with y | ⟨y1,y2⟩
   ·exact absurd y nd
   ·exact ⟨y1,fun _=>y2⟩
 refine PL (F:=fun b=>b ∈ T.adrs es (k - 1 - lnP q)) (N:=fun b=>b ∈ T.rests es 0) S s hx hm hq hl hus (fun b z=>(T.alls_iff es _).mpr (.inl z)) hA hB ?_ (fun b z y=>hxd b y (new b z).1) (fun b z=>⟨S.same.free (new b z).1,(new b z).2⟩) (fun b z=>.inr (new b z).1)
  (fun b z y=>notOwn b z ⟨x,t,k,hx,hm,y⟩) (fun b z=>?_) ?_ ?_ (fun j d _ hd nd=>hm1 j d hd nd) (fun j u d ne e hd nd b z y=>?_) (fun i u k' ne e hk b z y=>?_)
 ·refine hnd ndt (fun b z y=>?_) (fun b z y=>?_)
  ·exact hxd b (ain b (aaa _ y)) (new b z).1
  ·exact notOwn b y ⟨x,t,k,hx,hm,aad b (aaa _ z)⟩
 ·rcases src b z with y | y
  ·exact .inl (S.same.free y)
  ·exact S.src b y
 ·split
  ·rfl
  ·unfold Dq; rw [aac]
 ·split
  ·exact hm
  ·exact PM hm
 ·exact dom e (hm1 j d hd nd).1 nd b (T.rest_le u (aat _) y) (new b z).1
 ·exact notOwn b z ⟨i,u,k',e,(hm1 i _ hk (by intro c; cases c)).1,y⟩
theorem L3 {ts:List T} {e:T} {k:Nat} (ne:e.Nd k) (h1:T.Nds ts k) (h2:∀ b ∈ T.adrs [e] k,b ∉ T.rests ts 0) (h3:∀ b ∈ T.adrs ts k,b ∉ T.rests [e] 0):T.Nds (ts ++ [e]) k :=
 T.nds_append h1 (T.nds_cons.mpr ⟨ne,by simp [T.Nds,T.adrs],by simp [T.rests],by simp [T.adrs]⟩) h3 h2
theorem Ru {ts us:List T} {k:Nat} (h:us.Perm ts) (n:T.Nds ts k):T.Nds us k:=by
 induction h with
 | nil=>exact n
 | cons x _ ih =>
  rename_i l1 l2 hp
  obtain ⟨a,b,c,d⟩:=T.nds_cons.mp n
  refine T.nds_cons.mpr ⟨a,ih b,fun z hz y=>c z hz ?_,fun z hz=>d z ?_⟩
  ·obtain ⟨w,hw,q⟩:=T.mem_rests.mp y
   exact T.mem_rests.mpr ⟨w,hp.mem_iff.mp hw,q⟩
  ·obtain ⟨w,hw,q⟩:=T.mem_adrs.mp hz
   exact T.mem_adrs.mpr ⟨w,hp.mem_iff.mp hw,q⟩
 | swap x y l =>
  obtain ⟨a,b,c,d⟩:=T.nds_cons.mp n
  obtain ⟨a2,b2,c2,d2⟩:=T.nds_cons.mp b
  simp only [T.rests,T.adrs,aag,not_or] at c d
  refine T.nds_cons.mpr ⟨a2,T.nds_cons.mpr ⟨a,b2,fun z hz=>(c z hz).2,fun z hz=>d z (.inr hz)⟩,fun z hz=>?_,fun z hz=>?_⟩
  ·simp only [T.rests,aag,not_or]
   exact ⟨d z (.inl hz),c2 z hz⟩
  ·simp only [T.adrs,aag] at hz
   rcases hz with hz | hz
   ·exact (c z hz).1
   ·exact d2 z hz
 | trans _ _ i1 i2=>exact i1 (i2 n)
theorem No {ts us:List T} {k:Nat} (h:us.Sublist ts) (n:T.Nds ts k):T.Nds us k:=by
 induction h with
 | slnil=>exact n
 | cons x _ ih=>exact ih (T.nds_cons.mp n).2.1
 | cons_cons x hs ih =>
  rename_i l1 l2
  obtain ⟨a,b,c,d⟩:=T.nds_cons.mp n
  refine T.nds_cons.mpr ⟨a,ih b,fun z hz y=>c z hz ?_,fun z hz=>d z ?_⟩
  ·obtain ⟨w,hw,q⟩:=T.mem_rests.mp y
   exact T.mem_rests.mpr ⟨w,hs.subset hw,q⟩
  ·obtain ⟨w,hw,q⟩:=T.mem_adrs.mp hz
   exact T.mem_adrs.mpr ⟨w,hs.subset hw,q⟩
end
theorem Kw:∀ (q:List (Bool × E)) (δ:Fr) (c:Nat),evP q δ ≠ .exc c
 | [],δ,c=>by simp [evP]
 | (t,e) :: r,δ,c=>by
  simp only [evP]
  split
  ·cases h:evP r δ with
   | ok is=>simp
   | exc c'=>exact absurd h (Kw r δ c')
   | bad=>simp
  ·simp
theorem L4:∀ (q:List (Bool × E)) {δ:Fr} {b:Bool} {e:E} {is:List (Bool × Int)},evP (q ++ [(b,e)]) δ=.ok is->∃ js i,evP q δ=.ok js/\ev e δ=.ok (.int i)/\is=js ++ [(b,i)]
 | [],δ,b,e,is,h=>by
  simp only [aaW,evP] at h
  split at h
  ·rename_i i he
   simp only [Res.bind_ok] at h
   cases h
   exact ⟨[],i,rfl,he,rfl⟩
  ·cases h
 | (t,e') :: r,δ,b,e,is,h=>by
  simp only [aa0,evP] at h
  split at h
  ·rename_i i' he'
   obtain ⟨js',h1,h2⟩:=Res.bind_eq_ok h
   cases h2
   obtain ⟨js,i,h3,h4,rfl⟩:=L4 r h1
   exact ⟨(t,i') :: js,i,by simp only [evP,he',h3,Res.bind_ok],h4,rfl⟩
  ·cases h
theorem GY:∀ (q:List (Bool × Int)) {t s':T} {b:Bool} {i:Int},AV (q ++ [(b,i)]) t=some s'->∃ s,AV q t=some s/\AV [(b,i)] s=some s'
 | [],t,s',b,i,h=>⟨t,rfl,h⟩
 | (c,j) :: r,t,s',b,i,h=>by
  cases c with
  | false =>
   cases t with
   | lst a ts =>
    simp only [aa0,AV] at h ⊢
    obtain ⟨n,h1,h⟩:=bS h
    obtain ⟨u,h2,h⟩:=bS h
    obtain ⟨s,h3,h4⟩:=GY r h
    exact ⟨s,by rw [h1]; simp only [aa6]; rw [h2]; exact h3,h4⟩
   | _=>cases h
  | true =>
   cases t with
   | tup a ts =>
    simp only [aa0,AV] at h ⊢
    obtain ⟨n,h1,h⟩:=bS h
    obtain ⟨u,h2,h⟩:=bS h
    obtain ⟨s,h3,h4⟩:=GY r h
    exact ⟨s,by rw [h1]; simp only [aa6]; rw [h2]; exact h3,h4⟩
   | _=>cases h
theorem Hr {p:Px} {H:Hp}:∀ (q:List (Bool × Int)) {t s:T},t.Ok p H->AV q t=some s->s.Ok p H
 | [],t,s,ok,h=>by cases h; exact ok
 | (c,j) :: r,t,s,ok,h=>by
  cases c with
  | false =>
   cases t with
   | lst a ts =>
    simp only [AV] at h
    obtain ⟨n,h1,h⟩:=bS h
    obtain ⟨u,h2,h⟩:=bS h
    exact Hr r (T.oks_iff.mp ok.2 u (aaf h2)) h
   | _=>cases h
  | true =>
   cases t with
   | tup a ts =>
    simp only [AV] at h
    obtain ⟨n,h1,h⟩:=bS h
    obtain ⟨u,h2,h⟩:=bS h
    exact Hr r (T.oks_iff.mp ok.2 u (aaf h2)) h
   | _=>cases h
theorem TL {b:Bool} {i:Int} {s s':T} (h:AV [(b,i)] s=some s'):(∃ a ts,s=.lst a ts/\atI (ts.map T.val) i=some s'.val)\/(∃ a ts,s=.tup a ts/\atI (ts.map T.val) i=some s'.val):=by
 cases b with
 | false =>
  cases s with
  | lst a ts =>
   simp only [AV] at h
   obtain ⟨n,h1,h⟩:=bS h
   obtain ⟨u,h2,h⟩:=bS h
   cases h
   refine .inl ⟨a,ts,rfl,?_⟩
   unfold atI
   rw [aac,LM,h1]
   show (ts.map T.val)[n]?=_
   rw [aaq,h2]; rfl
  | _=>cases h
 | true =>
  cases s with
  | tup a ts =>
   simp only [AV] at h
   obtain ⟨n,h1,h⟩:=bS h
   obtain ⟨u,h2,h⟩:=bS h
   cases h
   refine .inr ⟨a,ts,rfl,?_⟩
   unfold atI
   rw [aac,LM,h1]
   show (ts.map T.val)[n]?=_
   rw [aaq,h2]; rfl
  | _=>cases h
noncomputable def Sx (tn:List Nat) (q:List (Bool × E)):Prop:=∀ e ∈ q,(jk tn e.2).isSome=true
noncomputable def lPl (p:Px) (EX:EXT) (tn:List Nat) (x:Nat) (q:List (Bool × E)):TE:=fun σ H Q=>∃ τ t is s,σ=vτ τ/\Fok p tn τ H/\Sx tn q/\τ[x]?=some (some t)/\t.Ok p H/\evP q (dτ τ)=.ok is/\AV is t=some s/\∀ H',Same H H'->Q s.val H'
noncomputable def HW (c:CkC) (x:Nat):List (Bool × E)->Expr->Bool
 | [],.Name y _=>(c.N[x]?==some y) && FY c.sc y && B9 y
 | (_,e) :: r,.Subscript o i _=>HW c x r o && ckE c e i && DQ i
 | _,_=>false
section
variable {p:Px} {c:CkC} {lv:Nat} {X:Cx} {EX:EXT} {tn:List Nat} {pos np:Pos}
theorem Sy (C:Ct p c lv X EX) {x:Nat}:∀ {rp:List (Bool × E)} {o:Expr},(∀ e ∈ rp,∀ n ∈ e.2.need,NeedOk p lv X n)->HW c x rp o=true->PE X o (lPl p EX tn x rp.reverse)
 | [],o,hn,h=>by
  cases o with
  | Name y q =>
   obtain ⟨h,h3⟩:=Ad (show ((c.N[x]?==some y) && FY c.sc y && B9 y)=true from h)
   obtain ⟨h1,h2⟩:=Ad h
   obtain ⟨d1,d2⟩:=Cu h3
   refine PE.mono (FZ (by rw [C.N]; exact beq_iff_eq.mp h1) (C.vis h2) d1 d2) fun σ H Q h=>?_
   obtain ⟨τ,t,is,s,rfl,hF,_,ht,ok,e,hs,hq⟩:=h
   simp only [List.reverse_nil,evP] at e
   cases e
   cases hs
   exact ⟨_,Eg ht,hq H (Same.refl _)⟩
  | _=>exact nF h
 | (b,e) :: rp,o,hn,h=>by
  cases o with
  | Subscript o' i q =>
   obtain ⟨h,h3⟩:=Ad (show (HW c x rp o' && ckE c e i && DQ i)=true from h)
   obtain ⟨h1,h2⟩:=Ad h
   have A:=Sy C (rp:=rp) (o:=o') (fun e he=>hn e (aaa _ he)) h1
   have B:=(snd e C (tn:=tn) i (hn (b,e) (aab ..)) h2).1
   refine PE.mono (N0 (JE.or O9) A B (GP h3)) fun σ H Q h=>?_
   rw [ab2] at h
   obtain ⟨τ,t,is,s,rfl,hF,hj,ht,ok,ev1,hs,hq⟩:=h
   obtain ⟨js,n,e1,e2,rfl⟩:=L4 _ ev1
   obtain ⟨s1,hs1,hs2⟩:=GY _ hs
   refine ⟨τ,t,js,s1,rfl,hF,fun e he=>hj e (aaA _ he),ht,ok,e1,hs1,fun H1 sm=>?_⟩
   obtain ⟨⟨j,k⟩,hj'⟩:=aaD.mp (hj (b,e) (aal _ (aaF.mpr rfl)))
   refine ⟨τ,rfl,hF.same sm,j,k,hj',?_⟩
   rw [e2]
   intro t2 H2 ht2 R
   have hv:t2.val=.int n:=by cases t2 <;> simp [T.dat] at ht2 <;> simp [T.val,ht2]
   rw [hv]
   have ok1:=(Hr _ ok hs1).same (sm.trans R.same)
   rcases TL hs2 with ⟨a,ts,rfl,at1⟩ | ⟨a,ts,rfl,at1⟩
   ·exact .inl ⟨a,_,n,_,rfl,rfl,.inl ok1.1,at1,hq H2 (sm.trans R.same)⟩
   ·exact .inr ⟨a,_,n,_,rfl,rfl,SqT.of ok1.1,at1,hq H2 (sm.trans R.same)⟩
  | _=>exact nF h
theorem GZ {m:Ms}:∀ {q:List (Bool × E)},Gb m q=true->Sx (tnM m) q
 | [],_=>fun e he=>nomatch he
 | (b,e) :: r,h=>by
  obtain ⟨h1,h2⟩:=Ad (show ((jk (tnM m) e).isSome && Gb m r)=true from h)
  intro e' he
  rcases aai.mp he with rfl | he
  ·exact h1
  ·exact GZ h2 e' he
theorem PN:∀ {q:List (Bool × E)} {δ:Fr} {is:List (Bool × Int)},evP q δ=.ok is->lnP is=lnE q/\is.isEmpty=q.isEmpty
 | [],δ,is,h=>by simp only [evP] at h; cases h; exact ⟨rfl,rfl⟩
 | (b,e) :: r,δ,is,h=>by
  simp only [evP] at h
  split at h
  ·obtain ⟨js,h1,h2⟩:=Res.bind_eq_ok h
   cases h2
   have:=(PN h1).1
   cases b <;> simp [lnP,lnE,this]
  ·cases h
theorem TM {δ:Fr} {x:Nat} {f:D->Option D} {Z:Zx} {m:Ms} {r:Option Ms} {w:List Nat} {τ:Ft} {H:Hp} {En:Ends} (h:lOut Z m r w (upd (dτ τ) x f) τ H En):∃ t d',τ[x]?=some (some t)/\f t.dat=some d'/\lOut Z m r w (.nxt ((dτ τ).set x (some d'))) τ H En:=by
 unfold upd at h
 cases q:(dτ τ)[x]? with
 | none=>rw [q] at h; exact nE h
 | some o =>
  rw [q] at h
  cases o with
  | none=>exact nE h
  | some d =>
   have:get (dτ τ) x=.ok d:=by unfold get; rw [q]
   obtain ⟨t,ht,rfl⟩:=E9 this
   simp only at h
   cases q2:f t.dat with
   | none=>rw [q2] at h; exact nE h
   | some d'=>rw [q2] at h; exact ⟨t,d',ht,q2,h⟩
end
theorem G0 {α β:Type} (f:α->β):∀ (l:List α) (i:Nat),(l.eraseIdx i).map f=(l.map f).eraseIdx i
 | [],_=>rfl
 | _ :: _,0=>rfl
 | a :: l,i + 1=>by simp [G0 f l i]
theorem Rv {τ:Ft} {x:Nat} {t t':T} (h:τ[x]?=some (some t)) (e:t'.val=t.val):vτ (τ.set x (some t'))=vτ τ:=by
 rw [Hn,e]
 refine acl fun i=>?_
 by_cases z:x=i
 ·subst z
  rw [aby,Eg h]; rfl
 ·rw [aaB z]
theorem Rw {H:Hp} {a:Addr} {vs:List V} (h:Rd H a (.lst vs)) (hp:∃ ws,H a=some (.lst ws)):H a=some (.lst vs):=by
 obtain ⟨ws,e⟩:=hp
 rw [e,IL h (.inl e)]
section
variable {Z:Zx} {m:Ms} {r:Option Ms} {w:List Nat} {τ:Ft} {H:Hp} {D:Ends} {X:Cx} {pos:Pos} {σ:L2.St}
theorem Np {K:Frag} {H:Hp} {a:Addr} {vs:List V} (h:H a=some (.lst vs)):tyV K "list" (.ref a) H:=.inl ⟨rfl,_,SqL.of h⟩
theorem L5 {x:Nat} {q:List (Bool × E)} {u:Um} {es:Es} {k:Nat} (S:Sf Z.p Z.H0 Z.A0 m τ H) (hmx:m[x]?=some (.ow k)) (c2:lnE q < k) (c4:Gb m q=true) (h:lOut Z m r [x] (ex (.mut x q u es) (dτ τ)) τ H D) :
  ∃ t is ds a ts ds',τ[x]?=some (some t)/\evP q (dτ τ)=.ok is/\evs es (dτ τ)=.ok ds/\AV is t=some (.lst a ts)/\lnP is=lnE q/\is.isEmpty=q.isEmpty/\umD u ds (T.dats ts)=some ds' /\
   (∀ H3,Same H H3->H3 a=some (.lst (ts.map T.val))/\T.Oks Z.p H3 ts/\a ∈ t.adr k) /\
   (∀ us m' H3 t',T.dats us=ds'->r=some m'->Fl (.lst a us) is t=some t'->t'.val=t.val->Sf Z.p Z.H0 Z.A0 m' (τ.set x (some t')) (L2.upd H3 a (.lst (us.map T.val)))->Stp m m' [x] τ (τ.set x (some t')) H (L2.upd H3 a (.lst (us.map T.val)))->D.nx (vτ τ) (L2.upd H3 a (.lst (us.map T.val)))):=by
 simp only [ex] at h
 cases ep:evP q (dτ τ) with
 | exc c=>exact absurd ep (Kw _ _ _)
 | bad=>rw [ep] at h; exact nE h
 | ok is =>
 rw [ep] at h
 cases ee:evs es (dτ τ) with
 | exc c=>rw [ee] at h; exact nE h
 | bad=>rw [ee] at h; exact nE h
 | ok ds =>
 rw [ee] at h
 simp only at h
 obtain ⟨t,d',ht,hu,h⟩:=TM (δ:=dτ τ) h
 obtain ⟨a,ts,ds',hs,hf,hd'⟩:=JI is hu
 obtain ⟨l1,l2⟩:=PN ep
 refine ⟨t,is,ds,a,ts,ds',ht,rfl,rfl,hs,l1,l2,hf,fun H3 sH3=>?_,fun us m' H3 t' e1 e2 p1 p2 S4 P4=>?_⟩
 ·have S3:=S.grow sH3
  have hl:lnP is < k:=by rw [l1]; exact c2
  have aadr:a ∈ t.adr k:=(Fm is (k:=k) hs (by omega)).2 a (by
   have:k - lnP is=(k - lnP is - 1) + 1:=by omega
   rw [this]; exact aab ..)
  have okt:=Hr _ (S3.at ht hmx (by intro c; cases c)) hs
  exact ⟨Rw okt.1 (S3.own x t k a ht hmx aadr).2,okt.2,aadr⟩
 ·have:=h m' _ _ e2 (by rw [Hm,hd' us t' e1 p1]) S4 P4
  rw [Rv ht p2] at this
  exact this
noncomputable def rUm:Um->V->List V->Hp->VK->Prop
 | .append=>Hh
 | .extend=>fun x vs H Q=>∃ l b xs zs,x=.ref l/\vs=[.ref b]/\H l=some (.lst xs)/\Rd H b (.lst zs)/\xs.length + zs.length<=sizeLine/\Q .non (L2.upd H l (.lst (xs ++ zs)))
 | .pop=>UX
 | .popAt=>Pb
 | .clear=>Pc
 | .reverse=>Lx
 | .insert=>M9
noncomputable def Rx:V->List V->Hp->VK->Prop:=fun x vs H Q=>∃ l b xs zs,x=.ref l/\vs=[.ref b]/\H l=some (.lst xs)/\Rd H b (.lst zs)/\xs.length + zs.length<=sizeLine/\Q .non (L2.upd H l (.lst (xs ++ zs)))
end
section
variable {X:Cx}
theorem Om:MtM X "list.extend" Rx:=by
 intro pins s σ H x vs v us Q I rx rv h
 obtain ⟨l,b,xs,zs,rfl,rfl,hH,hB,hz,q⟩:=h
 cases rx
 obtain ⟨u,rfl,ru⟩:=rv.one
 cases ru
 obtain ⟨z,its,n,r,hl,e⟩:=I.lstM hH
 obtain ⟨z2,its2,n2,r2,hl2,e2⟩:=Inv.lstR I hB
 have hsz:its.toArray.size + its2.toArray.size<=sizeLine:=by rw [aan,aan]; omega
 have hlong:¬ (!its.toArray.isEmpty && Builtin.List.listTooLong (its.toArray.size + its2.toArray.size))=true:=by
  rw [Lv hsz,acF]
  exact aaU
 refine call_meets F.slot_list_extend ⟨_,e,rfl⟩ F.entry_list_extend (F.args_list_extend_2 _ _)
  (AutoSeq1.list_extend_list_list_0 l its.toArray n b its2.toArray n2 hlong (by rw [aan]; omega) (by omega)) ⟨e,e2,?_⟩
 refine ⟨.non,_,I.lset (its':=its ++ its2) hH e (by simp) (r.append r2) ?_,rfl,q⟩
 rw [aaE]
 omega
end
section
variable {Z:Zx} {m:Ms} {r:Option Ms} {w:List Nat} {τ:Ft} {H:Hp} {D:Ends} {X:Cx} {pos:Pos} {σ:L2.St}
theorem TN {x:Nat} {q:List (Bool × E)} {u:Um} {es:Es} {k:Nat} (hK:X.K=Z.p.K) (S:Sf Z.p Z.H0 Z.A0 m τ H) (hmx:m[x]?=some (.ow k)) (c2:lnE q < k) (c4:Gb m q=true) {j1 k1:Nat} (h1:jks (tnM m) es=some (j1,k1))
  (hc:(j1=0\/(u=.extend/\j1<=1))/\(k - 1 - lnE q=0\/(u.kind=1/\k - 1 - lnE q<=k1)\/(u.kind=2/\k - lnE q<=k1)\/u.kind=0)) (hr:r=some (if q.isEmpty then m else Dq m)) (h:lOut Z m r [x] (ex (.mut x q u es) (dτ τ)) τ H D) :
  lPl Z.p Z.EX (tnM m) x q (vτ τ) H fun v H1=>tyV X.K "list" v H1/\lEs Z.p Z.EX (tnM m) es (vτ τ) H1 fun vs H2=>rUm u v vs H2 fun _ H3=>D.nx (vτ τ) H3:=by
 obtain ⟨t,is,ds,a,ts,ds',ht,ep,ee,hs,l1,l2,hf,hpl,hnx⟩:=L5 S hmx c2 c4 h
 subst hr
 refine ⟨τ,t,is,.lst a ts,rfl,S.ok,GZ c4,ht,S.at ht hmx (by intro c; cases c),ep,hs,fun H1 s1=>⟨Np (hpl H1 s1).1,?_⟩⟩
 refine ⟨τ,rfl,S.ok.same s1,j1,k1,h1,?_⟩
 rw [ee]
 intro tes H2 hte R
 subst hte
 have s2:Same H H2:=s1.trans R.same
 obtain ⟨p0,okt,aadr⟩:=hpl H2 s2
 have hl:lnP is < k:=by rw [l1]; exact c2
 have fin:∀ us es',T.dats us=ds'->T.Oks Z.p H2 us->(∀ b ∈ T.adrs us (k - 1 - lnP is),b ∈ T.adrs ts (k - 1 - lnP is)\/b ∈ T.adrs es' (k - 1 - lnP is))->(∀ b ∈ T.rests us (k - 1 - lnP is),b ∈ T.rests ts (k - 1 - lnP is)\/b ∈ T.rests es' 0) ->
   (T.Nds ts (k - 1 - lnP is)->(∀ b ∈ T.adrs es' (k - 1 - lnP is),b ∉ T.rests ts 0)->(∀ b ∈ T.adrs ts (k - 1 - lnP is),b ∉ T.rests es' 0)->T.Nds us (k - 1 - lnP is))->(∀ b ∈ T.rests es' 0,H b=none\/Sh (tnM m) τ b)->(∀ b ∈ T.adrs es' (k - 1 - lnP is),H b=none/\∃ vs,H2 b=some (.lst vs)) ->
   D.nx (vτ τ) (L2.upd H2 a (.lst (us.map T.val))):=by
  intro us es' e1 e2 e3 e4 e5 e6 e7
  obtain ⟨t',p1,p2,S4,P4⟩:=Vv (us:=us) (es:=es') S s2 ht hmx hs hl e2 e3 e4 e5 e6 e7
  rw [l2] at S4 P4
  exact hnx us _ H2 t' e1 rfl p1 p2 S4 P4
 have hz:ts.length<=sizeLine\/True:=.inr trivial
 cases u with
 | append =>
  rcases tes with _ | ⟨te,_ | ⟨te2,ter⟩⟩
  ·cases hf
  ·simp only [T.dats,umD] at hf
   obtain ⟨hlt,rfl⟩:=AF hf
   have hj:j1=0:=by
    rcases hc.1 with z | ⟨z,_⟩
    ·exact z
    ·cases z
   subst hj
   have hk1:k - 1 - lnP is<=k1\/k - 1 - lnP is=0:=by
    rw [l1]
    rcases hc.2 with z | ⟨_,z⟩ | ⟨z,_⟩ | z
    ·exact .inr z
    ·exact .inl z
    ·cases z
    ·cases z
   refine ⟨a,_,te.val,rfl,rfl,p0,by rw [aac,<- Aj]; exact hlt,?_⟩
   have:=fin (ts ++ [te]) [te] (by rw [T.dats_map,aao,<- T.dats_map]; rfl) (T.oks_iff.mpr fun w hw=>by
     rcases aag.mp hw with z | z
     ·exact T.oks_iff.mp okt w z
     ·exact T.oks_iff.mp R.ok w z)
    (fun b z=>by rw [T.adrs_append,aag] at z; exact z) (fun b z=>by
     rw [T.rests_append,aag] at z
     refine z.imp id fun z=>?_
     simp only [T.rests,aaP] at z ⊢
     exact T.rest_le te (aat _) z)
    (fun n1 n2 n3=>L3 (by
     rcases hk1 with z | z
     ·exact (T.nds_le z R.nd:T.Nds [te] _) |> fun w=>(T.nds_cons.mp w).1
     ·rw [z]; exact T.nd_zero te) n1 n2 n3)
    (fun b z=>(R.src b z).imp s1.free id) (fun b z=>by
     rcases hk1 with y | y
     ·obtain ⟨w,hw,z⟩:=T.mem_adrs.mp z
      have:=R.new b (T.mem_adrs.mpr ⟨w,hw,T.adr_le w y z⟩)
      exact ⟨s1.free this.1,this.2⟩
     ·rw [y,T.adrs_zero] at z; cases z)
   rw [aao] at this
   exact this
  ·have:umD .append (T.dats (te :: te2 :: ter)) (T.dats ts)=none:=rfl
   rw [this] at hf; cases hf
 | extend =>
  rcases tes with _ | ⟨te,_ | ⟨te2,ter⟩⟩
  ·cases hf
  ·cases te with
   | lst b0 es' =>
    simp only [T.dats,T.dat,umD] at hf
    obtain ⟨hlt,rfl⟩:=AF hf
    have hj:j1<=1:=by
     rcases hc.1 with z | ⟨_,z⟩
     ·omega
     ·exact z
    have hk1:k - 1 - lnP is + 1<=k1\/k - 1 - lnP is=0:=by
     rw [l1]
     rcases hc.2 with z | ⟨z,_⟩ | ⟨_,z⟩ | z
     ·exact .inr z
     ·cases z
     ·exact .inl (by omega)
     ·cases z
    refine ⟨a,b0,_,_,rfl,rfl,p0,R.ok.1.1,by rw [aac,aac,<- Aj,<- Aj]; exact hlt,?_⟩
    have nde:T.Nds es' (k - 1 - lnP is):=by
     rcases hk1 with z | z
     ·obtain ⟨n1,n2⟩:=(T.nds_cons.mp (T.nds_le z R.nd)).1
      simp only [T.adr,T.rest,aaI] at n1 n2
      exact ⟨n1.2,fun b y w=>n2 b y (aaa _ w)⟩
     ·rw [z]; exact T.nds_zero _
    have:=fin (ts ++ es') es' (by rw [T.dats_map,aao,<- T.dats_map,<- T.dats_map]) (T.oks_iff.mpr fun w hw=>by
      rcases aag.mp hw with z | z
      ·exact T.oks_iff.mp okt w z
      ·exact T.oks_iff.mp R.ok.1.2 w z)
     (fun b z=>by rw [T.adrs_append,aag] at z; exact z) (fun b z=>by
      rw [T.rests_append,aag] at z
      refine z.imp id fun z=>?_
      obtain ⟨w,hw,z2⟩:=T.mem_rests.mp z
      exact T.mem_rests.mpr ⟨w,hw,T.rest_le w (aat _) z2⟩)
     (fun n1 n2 n3=>T.nds_append n1 nde n3 n2)
     (fun b z=>(R.src b (by
      simp only [T.rests,aaP]
      exact T.rest_le (.lst b0 es') hj (j':=1) z)).imp s1.free id) (fun b z=>by
      rcases hk1 with y | y
      ·have:=R.new b (T.mem_adrs.mpr ⟨.lst b0 es',aaF.mpr rfl,T.adr_le (.lst b0 es') y (aaa _ z)⟩)
       exact ⟨s1.free this.1,this.2⟩
      ·rw [y,T.adrs_zero] at z; cases z)
    rw [aao] at this
    exact this
   | _=>cases hf
  ·have:umD .extend (T.dats (te :: te2 :: ter)) (T.dats ts)=none:=rfl
   rw [this] at hf; cases hf
 | insert =>
  rcases tes with _ | ⟨te1,_ | ⟨te,_ | ⟨te3,ter⟩⟩⟩
  ·cases hf
  ·cases te1 <;> cases hf
  ·cases te1 with
   | int i =>
    simp only [T.dats,T.dat,umD,Sq] at hf
    obtain ⟨hlt,rfl⟩:=AF hf
    have hj:j1=0:=by
     rcases hc.1 with z | ⟨z,_⟩
     ·exact z
     ·cases z
    subst hj
    have hk0:k - 1 - lnP is=0:=by
     rw [l1]
     rcases hc.2 with z | ⟨z,_⟩ | ⟨z,_⟩ | z
     ·exact z
     ·cases z
     ·cases z
     ·cases z
    have hlen:(T.dats ts).length=(ts.map T.val).length:=by rw [Aj,aac]
    have hpos:GM (T.dats ts).length i=L2.HQ (ts.map T.val).length i:=by
     rw [hlen]
     unfold GM L2.HQ
     split <;> omega
    refine ⟨a,_,i,te.val,rfl,rfl,p0,hlt.2.1,hlt.2.2,by rw [<- hlen]; exact hlt.1,?_⟩
    rw [<- hpos]
    generalize GM (T.dats ts).length i=n at *
    have:=fin (ts.take n ++ te :: ts.drop n) [te] (by rw [T.dats_map,T.dats_map,aao,aax,ab7,ab8]) (T.oks_iff.mpr fun w hw=>by
      rcases aag.mp hw with z | z
      ·exact T.oks_iff.mp okt w (abR z)
      ·rcases aai.mp z with rfl | z
       ·exact T.oks_iff.mp R.ok w (by simp)
       ·exact T.oks_iff.mp okt w (abQ z))
     (fun b z=>by rw [hk0,T.adrs_zero] at z; cases z) (fun b z=>by
      rw [hk0] at z ⊢
      obtain ⟨w,hw,z2⟩:=T.mem_rests.mp z
      rcases aag.mp hw with y | y
      ·exact .inl (T.mem_rests.mpr ⟨w,abR y,z2⟩)
      ·rcases aai.mp y with rfl | y
       ·exact .inr (T.mem_rests.mpr ⟨w,aaF.mpr rfl,z2⟩)
       ·exact .inl (T.mem_rests.mpr ⟨w,abQ y,z2⟩))
     (fun _ _ _=>by rw [hk0]; exact T.nds_zero _)
     (fun b z=>(R.src b (by
      obtain ⟨w,hw,z2⟩:=T.mem_rests.mp z
      exact T.mem_rests.mpr ⟨w,aaa _ hw,z2⟩)).imp s1.free id) (fun b z=>by rw [hk0,T.adrs_zero] at z; cases z)
    rw [aao,aax,ab7,ab8] at this
    exact this
   | _=>cases hf
  ·have:umD .insert (T.dats (te1 :: te :: te3 :: ter)) (T.dats ts)=none:=by cases te1 <;> rfl
   rw [this] at hf; cases hf
 | pop =>
  rcases tes with _ | ⟨te,ter⟩
  ·simp only [T.dats,umD] at hf
   split at hf
   ·cases hf
   ·rename_i hne
    cases hf
    have hlen:0 < ts.length:=by
     rcases abX ts.length with z | z
     ·exact absurd (by rw [abf z]; rfl) hne
     ·exact z
    refine ⟨a,_,(ts.map T.val)[(ts.map T.val).length - 1]'(by simp; omega),rfl,rfl,p0,aae (by simp; omega),?_⟩
    have:=fin ts.dropLast [] (by rw [T.dats_map,T.dats_map,ac1]) (T.oks_iff.mpr fun w hw=>T.oks_iff.mp okt w (acg _ hw))
     (fun b z=>by
      obtain ⟨w,hw,z2⟩:=T.mem_adrs.mp z
      exact .inl (T.mem_adrs.mpr ⟨w,acg _ hw,z2⟩)) (fun b z=>by
      obtain ⟨w,hw,z2⟩:=T.mem_rests.mp z
      exact .inl (T.mem_rests.mpr ⟨w,acg _ hw,z2⟩))
     (fun n1 _ _=>No (List.dropLast_sublist ts) n1) (fun b z=>nomatch z) (fun b z=>nomatch z)
    rw [ac1] at this
    exact this
  ·have:umD .pop (T.dats (te :: ter)) (T.dats ts)=none:=rfl
   rw [this] at hf; cases hf
 | popAt =>
  rcases tes with _ | ⟨te,_ | ⟨te2,ter⟩⟩
  ·cases hf
  ·cases te with
   | int i =>
    simp only [T.dats,T.dat,umD,un1,Nb] at hf
    split at hf
    ·rename_i hb
     obtain ⟨j,hj,rfl⟩:=aas.mp hf
     rw [Aj] at hj
     obtain ⟨q1,q2,_,_⟩:=L2.M2 (n:=ts.length) (i:=i) (j:=j) hj
     refine ⟨a,_,i,j,(ts.map T.val)[j]'(by simpa using q2),rfl,rfl,p0,hb.1,hb.2,by rw [aac]; exact q1,aae (by simpa using q2),?_⟩
     have sub:∀ w ∈ ts.eraseIdx j,w ∈ ts:=fun w hw=>(acG ts j).subset hw
     have:=fin (ts.eraseIdx j) [] (by rw [T.dats_map,T.dats_map,G0]) (T.oks_iff.mpr fun w hw=>T.oks_iff.mp okt w (sub w hw))
      (fun b z=>by
       obtain ⟨w,hw,z2⟩:=T.mem_adrs.mp z
       exact .inl (T.mem_adrs.mpr ⟨w,sub w hw,z2⟩)) (fun b z=>by
       obtain ⟨w,hw,z2⟩:=T.mem_rests.mp z
       exact .inl (T.mem_rests.mpr ⟨w,sub w hw,z2⟩))
      (fun n1 _ _=>No (acG ts j) n1) (fun b z=>nomatch z) (fun b z=>nomatch z)
     rw [G0] at this
     exact this
    ·cases hf
   | _=>cases hf
  ·have:umD .popAt (T.dats (te :: te2 :: ter)) (T.dats ts)=none:=rfl
   rw [this] at hf; cases hf
 | clear =>
  rcases tes with _ | ⟨te,ter⟩
  ·cases hf
   refine ⟨a,_,rfl,rfl,p0,?_⟩
   exact fin [] [] rfl trivial (fun b z=>nomatch z) (fun b z=>nomatch z) (fun n1 _ _=>by simp [T.Nds,T.adrs]) (fun b z=>nomatch z) (fun b z=>nomatch z)
  ·have:umD .clear (T.dats (te :: ter)) (T.dats ts)=none:=rfl
   rw [this] at hf; cases hf
 | reverse =>
  rcases tes with _ | ⟨te,ter⟩
  ·cases hf
   refine ⟨a,_,rfl,rfl,p0,?_⟩
   have:=fin ts.reverse [] (by rw [T.dats_map,T.dats_map,act]) (T.oks_iff.mpr fun w hw=>T.oks_iff.mp okt w (abd.mp hw))
    (fun b z=>by
     obtain ⟨w,hw,z2⟩:=T.mem_adrs.mp z
     exact .inl (T.mem_adrs.mpr ⟨w,abd.mp hw,z2⟩)) (fun b z=>by
     obtain ⟨w,hw,z2⟩:=T.mem_rests.mp z
     exact .inl (T.mem_rests.mpr ⟨w,abd.mp hw,z2⟩))
    (fun n1 _ _=>Ru (List.reverse_perm ts) n1) (fun b z=>nomatch z) (fun b z=>nomatch z)
   rw [act] at this
   exact this
  ·have:umD .reverse (T.dats (te :: ter)) (T.dats ts)=none:=rfl
   rw [this] at hf; cases hf
end
section
variable {p:Px} {H0:Hp} {A0:Addr->Prop} {m:Ms} {τ:Ft} {H H1:Hp}
theorem Wx {y ky:Nat} {ty:T} (S:Sf p H0 A0 (m.set y .dead) τ H) (hy:τ[y]?=some (some ty)) (hm:y < m.length) (h90:ky < 90) (ok:ty.Ok p H) (src:∀ a ∈ ty.rest ky,H0 a=none\/A0 a)
  (sep:∀ (i:Nat) (t:T) (k:Nat),τ[i]?=some (some t)->(m.set y .dead)[i]?=some (.ow k)->∀ a ∈ t.adr k,a ∉ ty.rest ky) (top:∀ (i:Nat) (t:T) (k:Nat),τ[i]?=some (some t)->(m.set y .dead)[i]?=some (.ow k)->∀ a ts,t=.lst a ts->a ∉ ty.rest 0):Sf p H0 A0 (m.set y (.br ky)) τ H:=by
 have back:∀ {i:Nat} {d:Md},(m.set y (.br ky))[i]?=some d->(i=y/\d=.br ky)\/(i ≠ y/\(m.set y .dead)[i]?=some d):=by
  intro i d h
  rcases Al h with z | ⟨z1,z2⟩
  ·exact .inl z
  ·exact .inr ⟨z1,by rw [aaB (Ne.symm z1)]; exact z2⟩
 have ow':∀ {i k:Nat},(m.set y (.br ky))[i]?=some (.ow k)->(m.set y .dead)[i]?=some (.ow k):=by
  intro i k h
  rcases back h with ⟨_,z⟩ | ⟨_,z⟩
  ·cases z
  ·exact z
 refine ⟨by have:=S.len; rw [aa2] at this ⊢; exact this,fun d hd=>?_,S.same,fun i t j e ej l=>?_,fun i t k a e hk q=>S.own i t k a e (ow' hk) q,fun a sh=>?_,fun i t k e hk=>S.nd i t k e (ow' hk),fun i j t u k d ne e hk e' hd nd a q=>?_,fun i j t u k k2 e hk e' hd a ts z=>?_⟩
 ·obtain ⟨i,hi,rfl⟩:=abx hd
  rcases back (aae hi) with ⟨_,z⟩ | ⟨_,z⟩
  ·rw [z]; exact decide_eq_true h90
  ·exact S.small _ (aaf z)
 ·obtain ⟨d,hd,rfl⟩:=Bx ej
  rcases back hd with ⟨rfl,z⟩ | ⟨_,z⟩
  ·rw [hy] at e; cases e; exact ok
  ·exact S.ok i t _ e (A5 z) l
 ·obtain ⟨i,t,j,e,ej,l,q⟩:=sh
  obtain ⟨d,hd,rfl⟩:=Bx ej
  rcases back hd with ⟨rfl,z⟩ | ⟨_,z⟩
  ·rw [hy] at e; cases e; subst z; exact src a q
  ·exact S.src a ⟨i,t,_,e,A5 z,l,q⟩
 ·rcases back hd with ⟨rfl,z⟩ | ⟨_,z⟩
  ·rw [hy] at e'; cases e'; subst z; exact sep i t k e (ow' hk) a q
  ·exact S.sep i j t u k d ne e (ow' hk) e' z nd a q
 ·rcases back hd with ⟨rfl,z'⟩ | ⟨_,z'⟩
  ·rw [hy] at e'; cases e'; exact top i t k e (ow' hk) a ts z
  ·exact S.top i j t u k k2 e (ow' hk) e' z' a ts z
theorem TQ {x y k ky:Nat} {ty:T} {a:Addr} {ts:List T} (S:Sf p H0 A0 m τ H) (s:Same H H1) (hx:τ[x]?=some (some (.lst a ts))) (hm:m[x]?=some (.ow k)) (hy:τ[y]?=some (some ty)) (hmy:m[y]?=some (.ow ky)) (hne:y ≠ x) (hk:k - 1<=ky) :
  Sf p H0 A0 (m.set y (.br ky)) (τ.set x (some (.lst a (ts ++ [ty])))) (L2.upd H1 a (.lst ((ts ++ [ty]).map T.val)))/\Stp m (m.set y (.br ky)) [x] τ (τ.set x (some (.lst a (ts ++ [ty])))) H (L2.upd H1 a (.lst ((ts ++ [ty]).map T.val))):=by
 have S1:=S.grow s
 have sm:0 < k/\k < 90:=of_decide_eq_true (S.small _ (aaf hm))
 have smy:0 < ky/\ky < 90:=of_decide_eq_true (S.small _ (aaf hmy))
 have no:∀ {k0:Nat},Md.ow k0 ≠ .dead:=by intro k0 c; cases c
 have hyl:y < m.length:=(aak.mp hmy).1
 have sxy:∀ b ∈ (T.lst a ts).adr k,b ∉ ty.rest 0:=S.sep x y _ ty k _ (Ne.symm hne) hx hm hy hmy no
 have syx:∀ b ∈ ty.adr ky,b ∉ (T.lst a ts).rest 0:=S.sep y x ty _ ky _ hne hy hmy hx hm no
 obtain ⟨k',rfl⟩:∃ k',k=k' + 1:=⟨k - 1,by omega⟩
 have aadr:a ∈ (T.lst a ts).adr (k' + 1):=aab ..
 have ndx:=S.nd x _ _ hx hm
 have ndt:T.Nds ts k':=by
  obtain ⟨n1,n2⟩:=ndx
  simp only [T.adr,T.rest,aaI] at n1 n2
  exact ⟨n1.2,fun b z y=>n2 b z (aaa _ y)⟩
 have hk':k'<=ky:=by omega
 have okx:=S1.at hx hm no
 have oky:=S1.at hy hmy no
 have e0:k' + 1 - 1 - lnP []=k':=by simp [lnP]
 obtain ⟨t',p1,p2,S2,P2⟩:=PL (F:=fun b=>b ∈ ty.adr k') (N:=fun b=>b ∈ ty.rest 0) (m1:=m.set y .dead) (us:=ts ++ [ty]) (q:=[]) S s hx hm rfl (by simp [lnP])
  (T.oks_iff.mpr fun w hw=>by
   rcases aag.mp hw with z | z
   ·exact T.oks_iff.mp okx.2 w z
   ·cases aaF.mp z; exact oky)
  (fun b z=>(T.all_iff ty k').mpr (.inl z))
  (by
   rw [e0]
   intro b z
   rw [T.adrs_append,aag] at z
   exact z.imp id fun z=>by simpa [T.adrs] using z)
  (by
   rw [e0]
   intro b z
   rw [T.rests_append,aag] at z
   exact z.imp id fun z=>T.rest_le ty (aat k') (by simpa [T.rests] using z))
  (by
   rw [e0]
   exact L3 (T.nd_le ty hk' (S.nd y ty ky hy hmy)) ndt (fun b z w=>syx b (T.adr_le ty hk' (by simpa [T.adrs] using z)) (aaa _ w)) (fun b z w=>sxy b (aaa _ z) (by simpa [T.rests] using w)))
  (fun b z=>syx b (T.adr_le ty hk' z)) (fun b z=>S1.own y ty ky b hy hmy (T.adr_le ty hk' z)) (fun b z=>.inl ⟨y,ty,ky,hy,hmy,T.adr_le ty hk' z⟩) (fun b z w=>sxy b w z)
  (fun b z=>by
   rcases (T.all_iff ty ky).mp z with w | w
   ·exact .inl (S.own y ty ky b hy hmy w).1
   ·exact S.src b ⟨y,ty,ky,hy,A5 hmy,smy.2,w⟩)
  (by rw [aa2]) (by rw [aaB hne]; exact hm)
  (fun j d ne hd nd=>by
   rcases Al hd with ⟨_,z⟩ | ⟨_,z⟩
   ·exact absurd z nd
   ·exact ⟨z,fun w=>absurd rfl w⟩)
  (fun j u d ne e hd nd b z=>by
   rcases Al hd with ⟨_,w⟩ | ⟨w,hd⟩
   ·exact absurd w nd
   ·exact S.sep y j ty u ky d (Ne.symm w) hy hmy e hd nd b (T.adr_le ty hk' z))
  (fun i u k2 ne e hk2 b z w=>by
   rcases Al hk2 with ⟨_,w'⟩ | ⟨w',hk2⟩
   ·cases w'
   ·exact S.sep i y u ty k2 _ w' e hk2 hy hmy no b w z)
 cases p1
 have hy':(τ.set x (some (.lst a (ts ++ [ty]))))[y]?=some (some ty):=by rw [aaB (Ne.symm hne)]; exact hy
 have atop:a ∉ ty.rest 0:=sxy a aadr
 refine ⟨Wx S2 hy' hyl smy.2 ?_ (fun b z=>S.src b ⟨y,ty,ky,hy,A5 hmy,smy.2,z⟩) (fun i t k2 e hk2 b z w=>?_) (fun i t k2 e hk2 b cs z=>?_),P2.keep,fun b o=>P2.grow b ?_,P2.wr⟩
 ·refine Ej (H:=H1) (fun b w e n=>by rw [Aw n]; exact e) (S1.own x _ _ a hx hm aadr).2 oky atop
 ·rcases Al e with ⟨rfl,e2⟩ | ⟨n1,e1⟩
  ·cases e2
   rcases Al hk2 with ⟨w',_⟩ | ⟨_,hk2⟩
   ·exact hne w'.symm
   ·rw [hm] at hk2
    cases hk2
    simp only [T.adr,T.adrs_append,T.adrs,aai,aag,aaP] at z
    rcases z with rfl | z | z
    ·exact atop (T.rest_le ty (aat _) w)
    ·exact sxy b (aaa _ z) (T.rest_le ty (aat _) w)
    ·exact (S.nd y ty ky hy hmy).2 b w (T.adr_le ty hk' z)
  ·rcases Al hk2 with ⟨_,w'⟩ | ⟨w',hk2⟩
   ·cases w'
   ·exact S.sep i y t ty k2 _ w' e1 hk2 hy hmy no b z (T.rest_le ty (aat _) w)
 ·rcases Al e with ⟨rfl,e2⟩ | ⟨n1,e1⟩
  ·cases e2
   cases z
   exact atop
  ·rcases Al hk2 with ⟨_,w'⟩ | ⟨w',hk2⟩
   ·cases w'
   ·subst z
    have:=of_decide_eq_true (S.small _ (aaf hk2))
    refine S.sep i y _ ty k2 _ w' e1 hk2 hy hmy no b ?_
    obtain ⟨k3,rfl⟩:∃ k3,k2=k3 + 1:=⟨k2 - 1,by omega⟩
    exact aab ..
 ·obtain ⟨i,t,k2,e,hk2,z⟩:=o
  refine ⟨i,t,k2,e,?_,z⟩
  rcases Al hk2 with ⟨_,w'⟩ | ⟨w',hk2⟩
  ·cases w'
  ·rw [aaB (Ne.symm w')]; exact hk2
end
section
variable {Z:Zx} {m:Ms} {r:Option Ms} {τ:Ft} {H:Hp} {D:Ends} {X:Cx}
theorem Vw {x y k ky:Nat} (S:Sf Z.p Z.H0 Z.A0 m τ H) (hmx:m[x]?=some (.ow k)) (hmy:m[y]?=some (.ow ky)) (hne:y ≠ x) (hk:k - 1<=ky) (hr:r=some (m.set y (.br ky))) (h:lOut Z m r [x] (ex (.mut x [] .append (.cons (.nm y) .nil)) (dτ τ)) τ H D) :
  lPl Z.p Z.EX (tnM m) x [] (vτ τ) H fun v H1=>tyV X.K "list" v H1/\(Sl (QD y) UP) (vτ τ) H1 fun vs H2=>Hh v vs H2 fun _ H3=>D.nx (vτ τ) H3:=by
 have sm:0 < k/\k < 90:=of_decide_eq_true (S.small _ (aaf hmx))
 obtain ⟨t,is,ds,a,ts,ds',ht,ep,ee,hs,l1,l2,hf,hpl,hnx⟩:=L5 S hmx (by simp [lnE]; omega) rfl h
 cases ep
 cases hs
 subst hr
 simp only [evs,ev] at ee
 obtain ⟨d,e1,ee⟩:=Res.bind_eq_ok ee
 cases ee
 obtain ⟨ty,hy,rfl⟩:=E9 e1
 simp only [umD] at hf
 obtain ⟨hlt,rfl⟩:=AF hf
 refine ⟨τ,_,[],.lst a ts,rfl,S.ok,GZ rfl,ht,S.at ht hmx (by intro c; cases c),rfl,rfl,fun H1 s1=>⟨Np (hpl H1 s1).1,?_⟩⟩
 refine ⟨ty.val,Eg hy,?_⟩
 show Hh (.ref a) [ty.val] H1 (fun _ H3=>D.nx (vτ τ) H3)
 refine ⟨a,_,ty.val,rfl,rfl,(hpl H1 s1).1,by rw [aac,<- Aj]; exact hlt,?_⟩
 obtain ⟨S2,P2⟩:=TQ S s1 ht hmx hy hmy hne hk
 have:=hnx (ts ++ [ty]) _ H1 _ (by rw [T.dats_map,aao,<- T.dats_map]; rfl) rfl rfl rfl S2 P2
 rw [aao] at this
 exact this
end
section
variable {Z:Zx} {m:Ms} {r:Option Ms} {w:List Nat} {τ:Ft} {H:Hp} {D:Ends} {X:Cx} {pos:Pos} {σ:L2.St}
theorem TR {K:Frag} {xs:List Nat} {e:E} (h:lS Z (.asgT xs e) D σ H):∃ m,HM (lE Z.p Z.EX (tnM m) e) (lG K (.tp xs)) D σ H:=by
 obtain ⟨τ,m,r,rfl,S,hr,h⟩:=h
 refine ⟨m,?_⟩
 simp only [msS] at hr
 obtain ⟨⟨j1,k1⟩,h1,hr⟩:=bS hr
 obtain ⟨⟨c1,c2⟩,rfl⟩:=AF hr
 have c1:j1=0:=c1
 subst c1
 simp only [ex] at h
 refine ⟨τ,rfl,S.ok,0,k1,h1,(h.lg S c2).mono (Same.refl _) fun d _ h t H1 ht R=>?_⟩
 subst ht
 rw [GT] at h
 cases q:Do (.tp xs) t τ with
 | none=>rw [q] at h; exact nE h
 | some τ' =>
  rw [q] at h
  obtain ⟨S2,P2⟩:=Wv S R.same R.ok R.src q
  exact Od R.ok q (h _ τ' H1 rfl rfl S2 P2)
theorem TV {e:E} (h:lS Z (.expr e) D σ H):∃ m,Si (lE Z.p Z.EX (tnM m) e) D σ H:=by
 obtain ⟨τ,m,r,rfl,S,hr,h⟩:=h
 refine ⟨m,?_⟩
 simp only [msS] at hr
 obtain ⟨⟨j1,k1⟩,h1,hr⟩:=bS hr
 obtain ⟨c2,rfl⟩:=AF hr
 simp only [ex] at h
 exact ⟨τ,rfl,S.ok,j1,k1,h1,(h.lg S c2).mono (Same.refl _) fun d _ h t H1 ht R=>h m τ H1 rfl rfl (S.grow R.same) (Stp.refl _ (HV S.small) R.same)⟩
theorem Ry {c:Nat} {es:Es} (h:lS Z (.raise c es) D σ H):∃ m,lEs Z.p Z.EX (tnM m) es σ H fun vs H1=>vs.length=es.len/\(Z.p.has c=true->Z.EX σ (.ref (Z.p.cl c)) none H1):=by
 obtain ⟨τ,m,r,rfl,S,hr,h⟩:=h
 refine ⟨m,?_⟩
 simp only [msS] at hr
 obtain ⟨⟨j1,k1⟩,h1,hr⟩:=bS hr
 obtain ⟨c2,rfl⟩:=AF hr
 simp only [ex] at h
 refine ⟨τ,rfl,S.ok,j1,k1,h1,(h.lg S c2).mono (Same.refl _) fun ds e h ts H1 hts R=>⟨?_,fun hc=>h hc τ H1 rfl ((S.weak c2).grow R.same) (Stp.refl _ c2 R.same)⟩⟩
 rw [aac,<- Aj,hts,B8 _ _ _ e]
theorem Vx {e:E} (h:lS Z (.ret e) D σ H):(∃ (i:Nat) (t:T),e=.nm i/\σ[i]?=some (some t.val)/\D.rt t.val H)\/∃ m,lE Z.p Z.EX (tnM m) e σ H D.rt:=by
 obtain ⟨τ,m,r,rfl,S,hr,h⟩:=h
 simp only [msS] at hr
 obtain ⟨k,hk,hr⟩:=bS hr
 obtain ⟨⟨c1,c2⟩,rfl⟩:=AF hr
 simp only [ex] at h
 have gen:∀ j,(jk (tnM m) e=some (j,k))->j=0->∃ m,lE Z.p Z.EX (tnM m) e (vτ τ) H D.rt:=by
  intro j hj hz
  subst hz
  refine ⟨m,τ,rfl,S.ok,0,k,hj,(h.lg S c2).mono (Same.refl _) fun d _ h t H1 ht R=>h t H1 ht ⟨S.same.trans R.same,R.ok,fun a q=>?_,fun a q=>?_,T.nd_le t c1 R.nd⟩⟩
  ·rcases R.src a q with z | z
   ·exact .inl (S.same.free z)
   ·exact S.src a z
  ·have:=R.new a (T.adr_le t c1 q)
   exact ⟨S.same.free this.1,this.2⟩
 by_cases hnm:∃ i,e=.nm i
 ·obtain ⟨i,rfl⟩:=hnm
  simp only [rk] at hk
  cases q:get (dτ τ) i with
  | exc c=>unfold get at q; split at q <;> cases q
  | bad=>simp only [ev,q] at h; exact nE h
  | ok d =>
   obtain ⟨t,ht,rfl⟩:=E9 q
   simp only [ev,q] at h
   refine .inl ⟨i,t,rfl,Eg ht,h t H rfl ?_⟩
   split at hk
   ·rename_i k0 hm
    cases hk
    have sm:0 < k/\k < 90:=of_decide_eq_true (S.small _ (aaf hm))
    refine ⟨S.same,S.at ht hm (by intro c; cases c),fun a z=>?_,fun a z=>S.own i t k a ht hm (T.adr_le t c1 z),T.nd_le t c1 (S.nd i t k ht hm)⟩
    rcases (T.all_iff t k).mp z with y | y
    ·exact .inl (S.own i t k a ht hm y).1
    ·exact S.src a ⟨i,t,k,ht,A5 hm,sm.2,y⟩
   ·rename_i hm
    cases hk
    have c1:Z.dep=0:=by omega
    rw [c1]
    exact ⟨S.same,S.at ht hm (by intro c; cases c),fun a z=>S.src a ⟨i,t,0,ht,A5 hm,by decide,z⟩,by rw [T.adr_zero]; simp,T.nd_zero t⟩
   ·cases hk
 ·refine .inr ?_
  have:rk m e=(jk (tnM m) e).bind fun x=>if x.1=0 then some x.2 else none:=by
   cases e <;> first | rfl | exact absurd ⟨_,rfl⟩ hnm
  rw [this] at hk
  obtain ⟨⟨j1,k1⟩,h1,hk⟩:=bS hk
  obtain ⟨z,rfl⟩:=AF hk
  exact gen j1 h1 z
theorem lOut.weak {r1 r2:Option Ms} {w1 w2:List Nat} {o:Out} (h:lOut Z m r2 w2 o τ H D) (hj:okJ r1 r2=true) (hw:∀ i ∈ w1,i ∈ w2):lOut Z m r1 w1 o τ H D:=by
 cases o with
 | nxt δ' =>
  intro m' τ' H' e1 e2 S P
  subst e1
  cases r2 with
  | none=>cases hj
  | some m2=>exact h m2 τ' H' rfl e2 (S.weak hj) ⟨P.keep,fun a o=>P.grow a (o.weak hj),fun i hi=>P.wr i fun q=>hi (hw i q)⟩
 | ret d=>exact h
 | exc c δ'=>exact fun hc τ' H' e S P=>h hc τ' H' e S (P.mono hw)
 | bad=>exact h
theorem Vy {c:E} {a b:Ss} (h:lS Z (.iff c a b) D σ H):∃ m,UB (lT Z.p Z.EX (tnM m) c) (lSs Z a) (lSs Z b) D σ H:=by
 obtain ⟨τ,m,r,rfl,S,hr,h⟩:=h
 refine ⟨m,?_⟩
 simp only [msS] at hr
 obtain ⟨⟨j1,k1⟩,h1,hr⟩:=bS hr
 split at hr
 ·rename_i c2
  obtain ⟨ra,h2,hr⟩:=bS hr
  obtain ⟨rb,h3,hr⟩:=bS hr
  obtain ⟨⟨c3,c4⟩,rfl⟩:=AF hr
  simp only [ex] at h
  refine ⟨τ,rfl,S.ok,by rw [h1]; rfl,(h.lg S c2).mono (Same.refl _) fun t _ h H1 s1=>?_⟩
  have S1:=S.grow s1
  have shift:∀ {o:Out} {r0:Option Ms} {w0:List Nat},lOut Z m r0 w0 o τ H D->lOut Z m r0 w0 o τ H1 D:=by
   intro o r0 w0 h
   cases o with
   | nxt δ'=>exact fun m' τ' H' e1 e2 S P=>h m' τ' H' e1 e2 S ⟨fun a u e n=>P.keep a u (s1 a u e) n,fun a o=>(P.grow a o).imp id s1.free,P.wr⟩
   | ret d=>exact h
   | exc c δ'=>exact fun hc τ' H' e S P=>h hc τ' H' e S ⟨fun a u e n=>P.keep a u (s1 a u e) n,fun a o=>(P.grow a o).imp id s1.free,P.wr⟩
   | bad=>exact h
  cases t with
  | true =>
   rw [if_pos rfl] at h
   show (if true=true then lSs Z a D (vτ τ) H1 else lSs Z b D (vτ τ) H1)
   rw [if_pos rfl]
   exact ⟨τ,m,ra,rfl,S1,h2,shift (h.weak c3 fun i hi=>aaA _ hi)⟩
  | false =>
   rw [if_neg (by decide)] at h
   show (if false=true then lSs Z a D (vτ τ) H1 else lSs Z b D (vτ τ) H1)
   rw [if_neg (by decide)]
   exact ⟨τ,m,rb,rfl,S1,h3,shift (h.weak c4 fun i hi=>aal _ hi)⟩
 ·cases hr
theorem lOut.shift {H1:Hp} {o:Out} (s1:Same H H1) (h:lOut Z m r w o τ H D):lOut Z m r w o τ H1 D:=by
 cases o with
 | nxt δ'=>exact fun m' τ' H' e1 e2 S P=>h m' τ' H' e1 e2 S ⟨fun a u e n=>P.keep a u (s1 a u e) n,fun a o=>(P.grow a o).imp id s1.free,P.wr⟩
 | ret d=>exact h
 | exc c δ'=>exact fun hc τ' H' e S P=>h hc τ' H' e S ⟨fun a u e n=>P.keep a u (s1 a u e) n,fun a o=>(P.grow a o).imp id s1.free,P.wr⟩
 | bad=>exact h
theorem lOut.after {m1:Ms} {τ1:Ft} {H1:Hp} {w1 w2:List Nat} {o:Out} (P:Stp m m1 w1 τ τ1 H H1) (hw1:∀ i ∈ w1,i ∈ w) (hw2:∀ i ∈ w2,i ∈ w) (h:lOut Z m r w o τ H D):lOut Z m1 r w2 o τ1 H1 D:=by
 cases o with
 | nxt δ'=>exact fun m' τ' H' e1 e2 S Q=>h m' τ' H' e1 e2 S ((P.trans Q).mono fun i hi=>by
   rcases aag.mp hi with z | z
   ·exact hw1 i z
   ·exact hw2 i z)
 | ret d=>exact h
 | exc c δ'=>exact fun hc τ' H' e S Q=>h hc τ' H' e S ((P.trans Q).mono fun i hi=>by
   rcases aag.mp hi with z | z
   ·exact hw1 i z
   ·exact hw2 i z)
 | bad=>exact h
theorem Vz {s:S} {rest:Ss} (h:lSs Z (.cons s rest) D σ H):lS Z s { D with nx:=lSs Z rest D } σ H:=by
 obtain ⟨τ,m,r,rfl,S,hr,h⟩:=h
 simp only [msSs] at hr
 obtain ⟨r1,h1,hr⟩:=bS hr
 refine ⟨τ,m,r1,rfl,S,h1,?_⟩
 simp only [exs] at h
 cases q:ex s (dτ τ) with
 | nxt δ' =>
  rw [q] at h
  intro m' τ' H' e1 e2 S' P
  subst e1
  simp only at hr
  refine ⟨τ',m',r,rfl,S',hr,?_⟩
  rw [e2]
  exact h.after P (fun i hi=>aaA _ hi) (fun i hi=>aal _ hi)
 | ret d=>rw [q] at h; exact h
 | exc c δ' =>
  rw [q] at h
  exact fun hc τ' H' e S' P=>h hc τ' H' e S' (P.mono fun i hi=>aaA _ hi)
 | bad=>rw [q] at h; exact h
theorem VA (h:lSs Z .nil D σ H):D.nx σ H:=by
 obtain ⟨τ,m,r,rfl,S,hr,h⟩:=h
 cases hr
 exact h m τ H rfl rfl S (Stp.refl _ (HV S.small) (Same.refl _))
theorem TW {s:S} {rest:Ss} (hs:(∃ x k,s=.dem x k)\/(∃ x,s=.dead x)) (h:lSs Z (.cons s rest) D σ H):lSs Z rest D σ H:=by
 obtain ⟨τ,m,r,rfl,S,hr,h⟩:=h
 simp only [msSs] at hr
 obtain ⟨r1,h1,hr⟩:=bS hr
 rcases hs with ⟨x,k,rfl⟩ | ⟨x,rfl⟩
 ·simp only [msS] at h1
  obtain ⟨c,rfl⟩:=AF h1
  refine ⟨τ,_,r,rfl,S.weak c,hr,?_⟩
  simp only [exs,ex,Out.then_nxt] at h
  exact h.after (w1:=[]) (Stp.refl _ c (Same.refl _)) (fun i hi=>nomatch hi) (fun i hi=>aal _ hi)
 ·simp only [msS] at h1
  obtain ⟨c,rfl⟩:=AF h1
  refine ⟨τ,_,r,rfl,S.weak c,hr,?_⟩
  simp only [exs,ex,Out.then_nxt] at h
  exact h.after (w1:=[]) (Stp.refl _ c (Same.refl _)) (fun i hi=>nomatch hi) (fun i hi=>aal _ hi)
end
section
variable {Z:Zx} {m:Ms} {r:Option Ms} {w:List Nat} {τ:Ft} {H:Hp} {D:Ends} {X:Cx} {pos:Pos} {σ:L2.St}
theorem Wy {c:E} {b:Ss} (h:lS Z (.wh c b) D σ H):∃ m,OS (lT Z.p Z.EX (tnM m) c) (lSs Z b) D σ H:=by
 obtain ⟨τ,m,r,rfl,S,hr,h⟩:=h
 refine ⟨m,?_⟩
 simp only [msS] at hr
 obtain ⟨⟨j1,k1⟩,h1,hr⟩:=bS hr
 split at hr
 ·rename_i c2
  obtain ⟨rb,h2,hr⟩:=bS hr
  have hrb:r=some m/\okJ rb (some m)=true:=by
   cases rb with
   | none=>exact ⟨(Option.some.inj hr).symm,rfl⟩
   | some mb =>
    obtain ⟨z,e⟩:=AF hr
    exact ⟨e.symm,z⟩
  obtain ⟨rfl,hj⟩:=hrb
  simp only [ex] at h
  refine ⟨fun n σ H'=>∃ τ',σ=vτ τ'/\Sf Z.p Z.H0 Z.A0 m τ' H'/\Stp m m (wrSs b) τ τ' H H'/\lOut Z m (some m) (wrSs b) (AI (tv c) (exs b) n (dτ τ')) τ H D,⟨FU,τ,rfl,S,Stp.refl _ (HV S.small) (Same.refl _),h⟩,?_⟩
  rintro n σ' H' ⟨τ',rfl,S',P',h'⟩
  cases n with
  | zero=>exact nE h'
  | succ n =>
   simp only [AI] at h'
   have hb:=h'.after (w:=wrSs b) (w1:=wrSs b) (w2:=wrSs b) P' (fun _ z=>z) (fun _ z=>z)
   refine ⟨τ',rfl,S'.ok,by rw [h1]; rfl,(hb.lg S' c2).mono (Same.refl _) fun t et hb2 H1 s1=>?_⟩
   rw [et] at h'
   simp only [Res.out_ok] at h'
   cases t with
   | false =>
    show (if false=true then _ else D.nx (vτ τ') H1)
    rw [if_neg (by decide)]
    rw [if_neg (by decide)] at h'
    exact h' m τ' H1 rfl rfl (S'.grow s1) ⟨fun a u e n=>s1 _ _ (P'.keep a u e n),P'.grow,P'.wr⟩
   | true =>
    rw [if_pos rfl] at h' hb2
    show (if true=true then _ else _)
    rw [if_pos rfl]
    refine ⟨fun σ2 H2=>∃ τ2,σ2=vτ τ2/\Sf Z.p Z.H0 Z.A0 m τ2 H2/\Stp m m (wrSs b) τ τ2 H H2/\lOut Z m (some m) (wrSs b) (AI (tv c) (exs b) n (dτ τ2)) τ H D,fun σ2 H2 q=>⟨n,ab9 n,q⟩,?_⟩
    refine ⟨τ',m,rb,rfl,S'.grow s1,h2,?_⟩
    have hb3:=hb2.shift s1
    have P1:Stp m m (wrSs b) τ τ' H H1:=⟨fun a u e n=>s1 _ _ (P'.keep a u e n),P'.grow,P'.wr⟩
    cases q:exs b (dτ τ') with
    | nxt δ2 =>
     rw [q] at h'
     intro m' τ2 H2 e1 e2 S2 P2
     subst e1
     have hle:leM m' m=true:=hj
     refine ⟨τ2,rfl,S2.weak hle,((P1.trans P2).mono (w2:=wrSs b) (fun i hi=>by simpa using hi)) |> fun P3=>⟨P3.keep,fun a o=>P3.grow a (Own.weak hle o),P3.wr⟩,?_⟩
     rw [e2]; exact h'
    | ret d=>rw [q] at hb3; exact hb3
    | exc c' δ'=>rw [q] at hb3; exact hb3
    | bad=>rw [q] at hb3; exact hb3
 ·cases hr
theorem Stp.lesser {m1 m2:Ms} {τ':Ft} {H':Hp} (h:leM m1 m2=true) (P:Stp m m1 w τ τ' H H'):Stp m m2 w τ τ' H H':=⟨P.keep,fun a o=>P.grow a (Own.weak h o),P.wr⟩
theorem L6 {K:Frag} {g:Tg} {b:Ss} {J:L2.It} {us:List T} {ds:List Pu.D} {j:Nat} {H1:Hp} {rb:Option Ms} (S:Sf Z.p Z.H0 Z.A0 m τ H) (IT:ItOk Z.p (Sh (tnM m) τ) H H1 J us j ds) (hd:leM m (Av m g.sl .dead)=true)
  (h2:msSs Z.mx Z.dep b (Av (Av m g.sl .dead) g.sl .sh)=some rb) (hj:okJ rb (some (Av m g.sl .dead))=true)
  (per:∀ (τ':Ft) (H':Hp),Sf Z.p Z.H0 Z.A0 (Av m g.sl .dead) τ' H'->Stp m (Av m g.sl .dead) (g.sl ++ wrSs b) τ τ' H1 H'->T.Oks Z.p H' us)
  (h:lOut Z m (some (Av m g.sl .dead)) (g.sl ++ wrSs b) (AU g (exs b) ds (dτ τ)) τ H1 D) :
  ∃ W:Nat->Nat->L2.St->Hp->Prop,(∃ n,W 0 n (vτ τ) H1)/\∀ i n σ H,W i n σ H->(J.stop i H/\D.nx σ H)\/(J.go i H/\∃ N:L2.St->Hp->Prop,(∀ σ' H',N σ' H'->∃ n',n' < n/\W (i + 1) n' σ' H')/\∀ x H',J.yld i H x H'->lG K g x σ H' fun σ2 H2=>lSs Z b { D with nx:=N,ct:=N,bk:=D.nx } σ2 H2):=by
 have S1:=S.grow IT.same
 have fineU:∀ a,(H a=none\/Sh (tnM m) τ a)->(Z.H0 a=none\/Z.A0 a)/\¬ Own m τ a:=fun a q=>S.fine q
 refine ⟨fun i n σ H'=>n=ds.length - i/\i<=ds.length/\∃ τ',σ=vτ τ'/\Sf Z.p Z.H0 Z.A0 (Av m g.sl .dead) τ' H'/\Stp m (Av m g.sl .dead) (g.sl ++ wrSs b) τ τ' H1 H'/\lOut Z m (some (Av m g.sl .dead)) (g.sl ++ wrSs b) (AU g (exs b) (ds.drop i) (dτ τ')) τ H1 D,
  ⟨ds.length,by simp,aat _,τ,rfl,S1.weak hd,Stp.refl _ hd (Same.refl _),by simpa using h⟩,?_⟩
 rintro i n σ' H' ⟨rfl,hi,τ',rfl,S',P',h'⟩
 have usok:=per τ' H' S' P'
 rcases acp i ds.length with hlt | hge
 ·have hdi:ds[i]?=some ds[i]:=aae hlt
  rw [abW hlt] at h'
  simp only [AU] at h'
  refine .inr ⟨IT.go i H' usok hlt,fun σ2 H2=>∃ τ2,σ2=vτ τ2/\Sf Z.p Z.H0 Z.A0 (Av m g.sl .dead) τ2 H2/\Stp m (Av m g.sl .dead) (g.sl ++ wrSs b) τ τ2 H1 H2/\lOut Z m (some (Av m g.sl .dead)) (g.sl ++ wrSs b) (AU g (exs b) (ds.drop (i + 1)) (dτ τ2)) τ H1 D,
   fun σ2 H2 q=>⟨ds.length - (i + 1),by omega,rfl,hlt,q⟩,fun x H'' y=>?_⟩
  obtain ⟨s2,t,rfl,ht,tok,tus,tsrc⟩:=IT.yld i H' x H'' ds[i] usok hdi y
  rw [<- ht,GT] at h'
  cases q:Do g t τ' with
  | none=>rw [q] at h'; exact nE h'
  | some τ2 =>
   rw [q] at h'
   simp only [aaY] at h'
   have src:∀ a ∈ t.rest 0,(Z.H0 a=none\/Z.A0 a)/\¬ Own (Av m g.sl .dead) τ' a:=fun a z=>by
    refine ⟨(fineU a (tsrc a z)).1,fun o=>?_⟩
    rcases P'.grow a o with w | w
    ·exact (fineU a (tsrc a z)).2 w
    ·obtain ⟨v,hv,z2⟩:=T.mem_rests.mp (tus a z)
     exact (T.oks_iff.mp IT.ok v hv).dom z2 w
   obtain ⟨S2,P2⟩:=PJ S' s2 tok src q
   refine Od tok q ⟨τ2,_,rb,rfl,S2,h2,?_⟩
   have P3:=P'.trans P2
   have h3:=h'.after (w:=g.sl ++ wrSs b) (w2:=wrSs b) P3 (fun i hi=>by
    simp only [aag] at hi ⊢
    rcases hi with (hi | hi) | hi
    ·exact .inl hi
    ·exact .inr hi
    ·exact .inl hi) (fun i hi=>aal _ hi)
   cases e:exs b (dτ τ2) with
   | nxt δ3 =>
    rw [e] at h'
    intro m' τ3 H3 e1 e2 S3 P4
    subst e1
    have hle:leM m' (Av m g.sl .dead)=true:=hj
    refine ⟨τ3,rfl,S3.weak hle,Stp.lesser hle ((P3.trans P4).mono fun i hi=>?_),?_⟩
    ·simp only [aag] at hi ⊢
     rcases hi with ((hi | hi) | hi) | hi
     ·exact .inl hi
     ·exact .inr hi
     ·exact .inl hi
     ·exact .inr hi
    ·rw [e2]; exact h'
   | ret d=>rw [e] at h3; exact h3
   | exc c' δ'=>rw [e] at h3; exact h3
   | bad=>rw [e] at h3; exact h3
 ·refine .inl ⟨IT.stop i H' usok hge,?_⟩
  have hil:i=ds.length:=acA hi hge
  subst hil
  rw [acs] at h'
  exact h' _ τ' H' rfl rfl S' P'
theorem VB {K:Frag} {g:Tg} {it:It} {b:Ss} (h:lS Z (.for_ g it b) D σ H):(∃ m,UG (lI Z.p Z.EX (tnM m) it) (lG K g) (lSs Z b) D σ H) \/
  (∃ x,it=.seqL (.nm x)/\∃ v a xs,σ[x]?=some (some v)/\v=.ref a/\SqL X.K H a xs/\(X.K=Z.p.K->xs.length<=sizeLine->∃ W:Nat->Nat->L2.St->Hp->Prop,(∃ n,W 0 n σ H)/\∀ i n σ H,W i n σ H->((Itl X.K a).stop i H/\D.nx σ H)\/((Itl X.K a).go i H/\∃ N:L2.St->Hp->Prop,(∀ σ' H',N σ' H'->∃ n',n' < n/\W (i + 1) n' σ' H') /\
   ∀ x H',(Itl X.K a).yld i H x H'->lG K g x σ H' fun σ2 H2=>lSs Z b { D with nx:=N,ct:=N,bk:=D.nx } σ2 H2))):=by
 obtain ⟨τ,m,r,rfl,S,hr,h⟩:=h
 simp only [msS] at hr
 obtain ⟨j,h1,hr⟩:=bS hr
 split at hr
 ·rename_i c
  obtain ⟨c1,c2,c3⟩:=c
  obtain ⟨rb,h2,hr⟩:=bS hr
  have hrb:r=some (Av m g.sl .dead)/\okJ rb (some (Av m g.sl .dead))=true:=by
   cases rb with
   | none=>exact ⟨(Option.some.inj hr).symm,rfl⟩
   | some mb =>
    obtain ⟨z,e⟩:=AF hr
    exact ⟨e.symm,z⟩
  obtain ⟨rfl,hj⟩:=hrb
  simp only [ex] at h
  by_cases z:j=0
  ·subst z
   refine .inl ⟨m,τ,rfl,S.ok,0,h1,(h.lg S c1).mono (Same.refl _) fun ds _ h J us H1 IT=>?_⟩
   refine L6 S IT c2 h2 hj (fun τ' H' S' P'=>?_) (h.shift IT.same)
   have S1:=S.grow IT.same
   refine T.oks_iff.mpr fun u hu=>(T.oks_iff.mp IT.ok u hu).keep fun a w e q=>P'.keep a w e fun o=>?_
   rcases q with q | q
   ·exact (S.fine (IT.src a (T.mem_rests.mpr ⟨u,hu,q⟩))).2 o
   ·obtain ⟨_,vs,e2⟩:=S1.ownOk o
    rw [e2] at e
    exact q vs (Option.some.inj e).symm
  ·rcases c3 with c3 | ⟨x,c3,c4,c5⟩
   ·exact absurd c3 z
   ·have hit:it=.seqL (.nm x):=by
     unfold It.nmOf at c3
     split at c3
     ·cases c3; rfl
     ·cases c3
    subst hit
    refine .inr ⟨x,rfl,?_⟩
    have hlg:=h.lg S c1
    cases q:get (dτ τ) x with
    | exc c=>unfold get at q; split at q <;> cases q
    | bad=>simp only [evI,ev,q,Res.bind_bad] at hlg; exact nE hlg
    | ok d =>
     obtain ⟨t,ht,rfl⟩:=E9 q
     simp only [evI,ev,q,Res.bind_ok] at hlg
     cases t with
     | lst a ts =>
      simp only [jkI] at h1
      obtain ⟨⟨j1,k1⟩,h3,h1⟩:=bS h1
      obtain ⟨hj1,e1⟩:=AF h1
      have e1:j1=j:=e1
      subst e1
      simp only [jk] at h3
      split at h3
      ·rename_i j' hj'
       obtain ⟨hlt,e⟩:=ER h3
       cases e
       have okt:=S.ok x _ j1 ht hj' (of_decide_eq_true hlt)
       refine ⟨_,a,ts.map T.val,Eg ht,rfl,.inl okt.1,fun hK hz=>?_⟩
       have R:Rs Z.p (Sh (tnM m) τ) H H j1 0 (.lst a ts):=⟨Same.refl _,okt,fun b m'=>.inr ⟨x,_,j1,ht,hj',of_decide_eq_true hlt,m'⟩,by rw [T.adr_zero]; simp,T.nd_zero _⟩
       refine L6 S (GS hK R hj1 (by simpa using hz)) c2 h2 hj (fun τ' H' S' P'=>?_) hlg
       obtain ⟨d,hd,ed⟩:=Bx hj'
       have hdd:d ≠ .dead:=fun w=>by subst w; subst ed; exact absurd (of_decide_eq_true hlt) (by decide)
       have hx':(Av m g.sl .dead)[x]?=some d:=by
        have hlen:x < (Av m g.sl .dead).length:=by rw [EG]; exact (aak.mp hd).1
        rcases EV (aae hlen) with ⟨w,_⟩ | ⟨_,w⟩
        ·exact absurd w c5
        ·rw [aae hlen]
         rw [hd] at w
         exact w.symm
       refine ⟨S'.at (i:=x) (by rw [P'.wr x (fun w=>by rcases aag.mp w with w | w; exact c5 w; exact c4 w)]; exact ht) hx' hdd,trivial⟩
      ·cases h3
     | _=>exact nE hlg
 ·cases hr
end
noncomputable def OwnN (m:Ms) (τ:Ft) (I:List Nat) (a:Addr):Prop:=∃ (i:Nat) (t:T) (k:Nat),i ∉ I/\τ[i]?=some (some t)/\m[i]?=some (.ow k)/\a ∈ t.adr k
structure RO (p:Px) (m:Ms) (τ:Ft) (I:List Nat) (k:Nat) (H H':Hp) (ts:List T):Prop where
 same:Same H H'
 ok:T.Oks p H' ts
 src:∀ a ∈ T.rests ts 0,H a=none\/Sh (tnM m) τ a\/OwnN m τ I a
 new:∀ a ∈ T.adrs ts k,(H a=none/\∃ vs,H' a=some (.lst vs))\/OwnN m τ I a
 nd:T.Nds ts k
section
variable {p:Px} {H0:Hp} {A0:Addr->Prop} {m:Ms} {τ:Ft} {H H1 H2:Hp}
theorem OwnN.own {I:List Nat} {a:Addr} (h:OwnN m τ I a):Own m τ a:=let ⟨i,t,k,_,e,q,z⟩:=h; ⟨i,t,k,e,q,z⟩
theorem VC {I:List Nat} {k:Nat}:RO p m τ I k H H []:=⟨Same.refl _,trivial,by simp [T.rests],by simp [T.adrs],by simp [T.Nds,T.adrs]⟩
theorem VD {I:List Nat} {i k k2:Nat} {t:T} {ts:List T} (S:Sf p H0 A0 m τ H) (ht:τ[i]?=some (some t)) (hm:m[i]?=some (.ow k)) (hi:i ∉ I) (r:RO p m τ (i :: I) k2 H H2 ts):RO p m τ I (min k k2) H H2 (t :: ts):=by
 have no:∀ {k:Nat},Md.ow k ≠ .dead:=by intro k c; cases c
 have okt:=S.at ht hm no
 have mono:∀ {a:Addr},OwnN m τ (i :: I) a->OwnN m τ I a:=fun ⟨j,u,kj,n,e,q,z⟩=>⟨j,u,kj,fun w=>n (aaa _ w),e,q,z⟩
 have sm:0 < k/\k < 90:=of_decide_eq_true (S.small _ (aaf hm))
 refine ⟨r.same,⟨okt.same r.same,r.ok⟩,fun a q=>?_,fun a q=>?_,T.nds_cons.mpr ⟨T.nd_le t (aa1 ..) (S.nd i t k ht hm),T.nds_le (aaQ ..) r.nd,fun a q q'=>?_,fun a q q'=>?_⟩⟩
 ·simp only [T.rests,aag] at q
  rcases q with q | q
  ·rcases (T.all_iff t k).mp q with z | z
   ·exact .inr (.inr ⟨i,t,k,hi,ht,hm,z⟩)
   ·exact .inr (.inl ⟨i,t,k,ht,A5 hm,sm.2,z⟩)
  ·rcases r.src a q with z | z | z
   ·exact .inl z
   ·exact .inr (.inl z)
   ·exact .inr (.inr (mono z))
 ·simp only [T.adrs,aag] at q
  rcases q with q | q
  ·exact .inr ⟨i,t,k,hi,ht,hm,T.adr_le t (aa1 ..) q⟩
  ·obtain ⟨u,hu,q⟩:=T.mem_adrs.mp q
   exact (r.new a (T.mem_adrs.mpr ⟨u,hu,T.adr_le u (aaQ ..) q⟩)).imp id mono
 ·have q1:=T.adr_le t (aa1 k k2) q
  have o:Own m τ a:=⟨i,t,k,ht,hm,q1⟩
  rcases r.src a q' with z | z | ⟨j,u,kj,n,e,w,z⟩
  ·obtain ⟨_,vs,e⟩:=S.ownOk o
   rw [e] at z; cases z
  ·exact S.disj o z
  ·have ne:i ≠ j:=fun y=>n (by rw [y]; exact aab ..)
   exact S.sep i j t u k _ ne ht hm e w no a q1 ((T.all_iff u kj).mpr (.inl z))
 ·obtain ⟨u,hu,q⟩:=T.mem_adrs.mp q
  rcases r.new a (T.mem_adrs.mpr ⟨u,hu,T.adr_le u (aaQ ..) q⟩) with z | ⟨j,u,kj,n,e,w,z⟩
  ·exact okt.dom q' z.1
  ·have ne:j ≠ i:=fun y=>n (by rw [y]; exact aab ..)
   exact S.sep j i u t kj _ ne e w ht hm no a z q'
theorem VE {I:List Nat} {k k2:Nat} {t:T} {ts:List T} (S:Sf p H0 A0 m τ H) (R:Rs p (Sh (tnM m) τ) H H1 0 k t) (r:RO p m τ I k2 H1 H2 ts):RO p m τ I (min k k2) H H2 (t :: ts):=by
 have R2:=R.fwd r.same
 refine ⟨R2.same,⟨R2.ok,r.ok⟩,fun a q=>?_,fun a q=>?_,T.nds_cons.mpr ⟨T.nd_le t (aa1 ..) R.nd,T.nds_le (aaQ ..) r.nd,fun a q q'=>?_,fun a q q'=>?_⟩⟩
 ·simp only [T.rests,aag] at q
  rcases q with q | q
  ·exact (R.src a q).imp id .inl
  ·exact (r.src a q).imp R.same.free id
 ·simp only [T.adrs,aag] at q
  rcases q with q | q
  ·exact .inl (R2.new a (T.adr_le t (aa1 ..) q))
  ·obtain ⟨u,hu,q⟩:=T.mem_adrs.mp q
   exact (r.new a (T.mem_adrs.mpr ⟨u,hu,T.adr_le u (aaQ ..) q⟩)).imp (fun z=>⟨R.same.free z.1,z.2⟩) id
 ·have n1:=R.new a (T.adr_le t (aa1 ..) q)
  rcases r.src a q' with z | z | z
  ·obtain ⟨vs,e⟩:=n1.2
   rw [e] at z; cases z
  ·exact S.ok.dom z n1.1
  ·obtain ⟨_,vs,e⟩:=S.ownOk z.own
   rw [n1.1] at e; cases e
 ·obtain ⟨u,hu,q⟩:=T.mem_adrs.mp q
  rcases r.new a (T.mem_adrs.mpr ⟨u,hu,T.adr_le u (aaQ ..) q⟩) with z | z
  ·exact R.ok.dom q' z.1
  ·rcases R.src a q' with y | y
   ·obtain ⟨_,vs,e⟩:=S.ownOk z.own
    rw [e] at y; cases y
   ·exact S.disj z.own y
end
noncomputable def lRO (Z:Zx) (m:Ms) (τ:Ft) (I:List Nat) (es:Es):TA:=fun σ H Q=>σ=vτ τ/\Sf Z.p Z.H0 Z.A0 m τ H/\∃ k,rkT m I es=some k/\Lg Z.p Z.EX σ (evs es (dτ τ)) H (fun ds=>∀ ts H',T.dats ts=ds->RO Z.p m τ I k H H' ts->Q (ts.map T.val) H')
section
variable {Z:Zx} {m:Ms} {τ:Ft} {H:Hp} {D:Ends} {σ:L2.St}
theorem TX {es:Es} (hl:es.len<=1000) (h:lS Z (.retT es) D σ H):∃ m τ,UQ (lRO Z m τ [] es) σ H D.rt:=by
 obtain ⟨τ,m,r,rfl,S,hr,h⟩:=h
 simp only [msS] at hr
 obtain ⟨k,hk,hr⟩:=bS hr
 obtain ⟨⟨c1,c2⟩,rfl⟩:=AF hr
 simp only [ex] at h
 refine ⟨m,τ,rfl,S,k,hk,(h.lg S c2).mono (Same.refl _) fun ds e h ts H1 hts R=>⟨?_,fun a ha=>?_⟩⟩
 ·have:=B8 _ _ _ e
  rw [aac,<- Aj,hts,this]
  exact aaK hl (by decide)
 ·have sm:Same H1 (L2.upd H1 a (.tup (ts.map T.val))):=fun a' u e=>by
   rw [L2.Aw (fun z=>by subst z; rw [ha] at e; cases e)]; exact e
  refine h (.tup a ts) _ (by simp [T.dat,hts]) ⟨S.same.trans (R.same.trans sm),⟨L2.Bp ..,R.ok.same sm⟩,fun b q=>?_,fun b q=>?_,T.nds_le c1 R.nd⟩
  ·rcases R.src b q with z | z | z
   ·exact .inl (S.same.free z)
   ·exact S.src b z
   ·exact .inl (S.ownOk z.own).1
  ·obtain ⟨u,hu,q⟩:=T.mem_adrs.mp q
   rcases R.new b (T.mem_adrs.mpr ⟨u,hu,T.adr_le u c1 q⟩) with ⟨z,vs,e⟩ | z
   ·exact ⟨S.same.free z,vs,sm _ _ e⟩
   ·obtain ⟨z1,vs,e⟩:=S.ownOk z.own
    exact ⟨z1,vs,sm _ _ (R.same _ _ e)⟩
end
noncomputable def Gv:List (Bool × E)->List Nd1
 | []=>[]
 | (_,e) :: r=>e.need ++ Gv r
mutual
noncomputable def S.need:S->List Nd1
 | .asg _ _ e=>e.need
 | .dem _ _=>[]
 | .dead _=>[]
 | .asgT _ e=>e.need
 | .mut _ q _ es=>Gv q ++ es.need
 | .expr e=>e.need
 | .iff c a b=>c.need ++ (a.need ++ b.need)
 | .wh c b=>c.need ++ b.need
 | .for_ _ it b=>it.need ++ b.need
 | .ret e=>e.need
 | .retT es=>es.need
 | .raise c es=>.rs c :: es.need
noncomputable def Ss.need:Ss->List Nd1
 | .nil=>[]
 | .cons s r=>s.need ++ r.need
end
noncomputable def L7:Um->Str
 | .append => "append"
 | .extend => "extend"
 | .insert => "insert"
 | .pop => "pop"
 | .popAt => "pop"
 | .clear => "clear"
 | .reverse => "reverse"
noncomputable def Rz:Um->Nat->Bool
 | .append,n=>decide (n=1)
 | .extend,n=>decide (n=1)
 | .popAt,n=>decide (n=1)
 | .insert,n=>decide (n=2)
 | _,n=>decide (n=0)
noncomputable def Gc:Expr->Bool
 | .ListComp _ _ _ _=>false
 | .SetComp _ _ _ _=>false
 | .DictComp _ _ _ _ _=>false
 | _=>true
noncomputable def G4:Expr->Bool
 | .Tuple _ _ _=>false
 | _=>true
noncomputable def L8 (c:CkC):List Expr->Bool
 | [.Name x _,.Name y _]=>(c.sc.names.lookup x==some .cell) || (c.sc.names.lookup y==some .cell)
 | _=>false
noncomputable def L9:Expr->Bool
 | .Call _ _ _ _=>false
 | _=>true
noncomputable def two:Expr->Option (Expr × Expr)
 | .Tuple es _ _=>match es with
  | [a,b]=>some (a,b)
  | _=>none
 | _=>none
noncomputable def nmOf:Expr->Option (Str × Pos)
 | .Name x p=>some (x,p)
 | _=>none
mutual
noncomputable def ckS (c:CkC):S->Stmt->Bool
 | .asg x _ e,.Assign [.Name y _] e' _=>(c.N[x]?==some y) && Gs c y && ckE c e e'
 | .asgT xs e,.Assign [.Tuple ts k q] e' _=>ckG c (.tp xs) (.Tuple ts k q) && ckE c e e' && (G4 e' || L8 c ts)
 | .mut x q u es,.Expr (.Call (.Attribute o name ap) xs [] cp) _=>HW c x q.reverse o && (name==L7 u) && ckEs c es xs && (ap.endLine==cp.line) && L9 o && decide (es.len < 20) && Rz u es.len
 | .expr e,.Expr e' _=>ckE c e e' && Gc e'
 | .iff t a b,.If t' a' b' _=>ckE c t t' && t.tst && ckSs c a a' && ckSs c b b'
 | .wh t b,.While t' b' [] _=>ckE c t t' && t.tst && ckSs c b b' && c.rz
 | .for_ g it b,.For tg it' b' [] _=>ckG c g tg && ckI c tg it it' && Ev it' && ckSs c b b' && c.rz && c.cm
 | .ret e,.Return (some e') _=>ckE c e e'
 | .retT es,.Return (some (.Tuple xs _ _)) _=>ckEs c es xs && decide (es.len<=1000)
 | .raise n es,.Raise (some (.Call (.Name x _) xs [] _)) none _=>(x==Bl n) && glB c.sc x && B9 x && ckEs c es xs && decide (0 < es.len) && decide (es.len<=1000) && c.rz && c.cm
 | _,_=>false
noncomputable def ckSs (c:CkC):Ss->List Stmt->Bool
 | .nil,[]=>true
 | .cons (.dem _ _) r,st=>ckSs c r st
 | .cons (.dead _) r,st=>ckSs c r st
 | .cons s r,x :: xs=>ckS c s x && ckSs c r xs
 | _,_=>false
end
structure Cs (Z:Zx) (c:CkC) (lv:Nat) (X:Cx) (E:XK):Prop where
 ct:Ct Z.p c lv X Z.EX
 ex:c.rz=true->Z.EX=fun _=>E
 xw:c.rz=true->N3 X E
 po:c.rz=true->PassesOwn (model X.prog X.w) X.A X.env X.xe
 kind:c.sc.kind=.function
 stk:X.stack=X.env :: X.outer
 frm:X.env.frame=some X.env.locals
section
variable {Z:Zx} {c:CkC} {lv:Nat} {X:Cx} {E:XK} {pos:Pos}
theorem IU {e:Expr} {t:Option Expr} {n:Nat} {env:Env} (h:Gc e=true):swapsWith e t n env=pure false:=by
 cases e <;> first | rfl | cases h
theorem MK {q:List (Bool × Pu.E)}:∀ e ∈ q,∀ n ∈ e.2.need,n ∈ Gv q:=by
 induction q with
 | nil=>intro e he; cases he
 | cons a q ih =>
  intro e he n hn
  obtain ⟨b,e0⟩:=a
  rcases aai.mp he with rfl | he
  ·exact aaA _ hn
  ·exact aal _ (ih e he n hn)
theorem RA (C:Cs Z c lv X E) {x k:Nat} {e:Pu.E} {y:Str} {py:Pos} {e':Expr} (hn:∀ n ∈ e.need,NeedOk Z.p lv X n) (h1:(c.N[x]?==some y)=true) (h2:Gs c y=true) (h3:ckE c e e'=true):PS X (.Assign [.Name y py] e' pos) (lS Z (.asg x k e)):=by
 have hN:X.N[x]?=some y:=by rw [C.ct.N]; exact beq_iff_eq.mp h1
 obtain ⟨l1,l2⟩:=C.ct.loc h2
 intro pins s σ H D I h
 obtain ⟨τ,m,rfl,S,h⟩:=Vu h
 by_cases hc:Gc e'=true
 ·exact OR C.ct.nd hN l1 (snd e C.ct (tn:=tnM m) e' hn h3).1 (IU hc) l2 pins s _ H D I h
 ·cases e' with
  | ListComp elt' gens scope q =>
   have hsw:∃ b:Bool,swapsWith (.ListComp elt' gens scope q) (some (.Name y py)) pos.line X.env=pure b:=⟨_,rfl⟩
   obtain ⟨b,hsw⟩:=hsw
   cases b with
   | false=>exact OR C.ct.nd hN l1 (snd e C.ct (tn:=tnM m) _ hn h3).1 hsw l2 pins s _ H D I h
   | true =>
    cases e with
    | comp0 nl fr g it elt =>
     obtain ⟨tg,iter,ifs,rfl,h3⟩:=ET h3
     obtain ⟨h3,g7⟩:=Ad h3
     obtain ⟨h3,g6⟩:=Ad h3
     obtain ⟨h3,g5⟩:=Ad h3
     obtain ⟨h3,g4⟩:=Ad h3
     obtain ⟨h3,g3⟩:=Ad h3
     obtain ⟨h3,g2⟩:=Ad h3
     obtain ⟨h3,g1⟩:=Ad h3
     obtain ⟨gc,g0⟩:=Ad h3
     cases ifs with
     | cons _ _=>cases g0
     | nil =>
     have g2:=of_decide_eq_true g2
     subst g2
     obtain ⟨Sc,nd⟩:=Lc C.ct g1
     obtain ⟨n1,n2⟩:=Ax hn
     refine Oe (C.ct.calm gc) Sc (sndI it C.ct (tn:=tnM m) iter n1 g4) (fun i hi=>of_decide_eq_true (aaw.mp g3 i hi)) (fun z=>⟨?_,?_⟩) (Eh g5) C.ct.nd hN l1 l2 hsw pins s _ H D I h
     ·exact HU (C.ct.blk nd z) g6
     ·exact (snd elt (C.ct.blk nd z) elt' (fun n m=>(n2 n m).blk) g7).1
    | comp1 nl fr g it cond elt =>
     obtain ⟨tg,iter,ifs,rfl,h3⟩:=ET h3
     obtain ⟨cnd,rfl,h3⟩:=LV h3
     obtain ⟨h3,g9⟩:=Ad h3
     obtain ⟨h3,g8⟩:=Ad h3
     obtain ⟨h3,g7⟩:=Ad h3
     obtain ⟨h3,g6⟩:=Ad h3
     obtain ⟨h3,g5⟩:=Ad h3
     obtain ⟨h3,g4⟩:=Ad h3
     obtain ⟨h3,g3⟩:=Ad h3
     obtain ⟨h3,g2⟩:=Ad h3
     obtain ⟨gc,g1⟩:=Ad h3
     have g2:=of_decide_eq_true g2
     subst g2
     obtain ⟨Sc,nd⟩:=Lc C.ct g1
     obtain ⟨n1,n2⟩:=Ax hn
     obtain ⟨n2,n3⟩:=Ax n2
     refine Of (C.ct.calm gc) Sc (sndI it C.ct (tn:=tnM m) iter n1 g4) (fun i hi=>of_decide_eq_true (aaw.mp g3 i hi)) (fun z=>⟨?_,?_,?_⟩) (Eh g5) C.ct.nd hN l1 l2 hsw pins s _ H D I h
     ·exact HU (C.ct.blk nd z) g6
     ·exact (snd cond (C.ct.blk nd z) cnd (fun n m=>(n2 n m).blk) g7).2 g8
     ·exact (snd elt (C.ct.blk nd z) elt' (fun n m=>(n3 n m).blk) g9).1
    | mt m _ _=>cases m <;> exact nF h3
    | _=>exact nF h3
  | SetComp _ _ _ _ =>
   cases e with
   | mt m _ _=>cases m <;> exact nF h3
   | _=>exact nF h3
  | DictComp _ _ _ _ _ =>
   cases e with
   | mt m _ _=>cases m <;> exact nF h3
   | _=>exact nF h3
  | _=>exact absurd rfl hc
theorem PQ {ts:List Expr} {k:Nat} {q:Pos} {e':Expr} {env:Env} (h:G4 e'=true):swappedStores [.Tuple ts k q] e' env=pure none:=by
 cases e' <;> first | rfl | cases h
theorem RB (x:Str) (p:Pos):(Expr.Name x p).pos=p:=rfl
theorem PR {x y:Str} {px py q:Pos} {k:Nat} {e':Expr} {env:Env} (h:env.kindOf x=some .cell\/env.kindOf y=some .cell):swappedStores [.Tuple [.Name x px,.Name y py] k q] e' env=pure none:=by
 cases e' with
 | Tuple vs k2 q2 =>
  have key:([Expr.Name x px,.Name y py].filterMap fun | .Name id pos=>(if env.kindOf id==some .local && pos.line==px.line then some id else none) | _=>none).length ≠ 2:=by
   rcases h with h | h <;> simp only [abg,List.filterMap_nil,h] <;> simp <;> split <;> simp
  have key2:(([Expr.Name x px,.Name y py].filterMap fun | .Name id pos=>(if env.kindOf id==some .local && pos.line==px.line then some id else none) | _=>none).length != 2)=true:=by simpa using key
  unfold swappedStores
  simp only [aaJ,acd,List.head?_cons,aaY,Option.getD_some,RB,aaM,Nat.reduceAdd,key2,Bool.true_or,if_true,pure_bind]
  split
  ·rfl
  ·split
   ·rfl
   ·exact if_pos (acj.mpr (.inl key2))
 | _=>rfl
theorem RC {c:CkC} {ts:List Expr} {k:Nat} {q:Pos} {e':Expr} {env:Env} (hs:env.scope=c.sc) (h:(G4 e' || L8 c ts)=true):swappedStores [.Tuple ts k q] e' env=pure none:=by
 rcases acj.mp h with h | h
 ·exact PQ h
 ·unfold L8 at h
  split at h
  ·refine PR ?_
   rw [acj,beq_iff_eq,beq_iff_eq,<- hs] at h
   exact h
  ·cases h
theorem RE {ts:List Expr} {k:Nat} {q:Pos} {e':Expr} {env:Env} {n:Nat}:swapsWithSole [.Tuple ts k q] e' n env=pure false:=by
 cases e' <;> rfl
theorem PU (C:Cs Z c lv X E) {xs:List Nat} {e:Pu.E} {ts:List Expr} {k:Nat} {q:Pos} {e':Expr} (hn:∀ n ∈ e.need,NeedOk Z.p lv X n) (h1:ckG c (.tp xs) (.Tuple ts k q)=true) (h2:ckE c e e'=true) (h3:(G4 e' || L8 c ts)=true):PS X (.Assign [.Tuple ts k q] e' pos) (lS Z (.asgT xs e)):=by
 intro pins s σ H D I h
 obtain ⟨m,h⟩:=TR (K:=X.K) h
 exact UF (snd e C.ct (tn:=tnM m) e' hn h2).1 (HU C.ct h1) RE (RC C.ct.sc h3) rfl pins s σ H D I h
theorem PV (C:Cs Z c lv X E) {e:Pu.E} {e':Expr} (hn:∀ n ∈ e.need,NeedOk Z.p lv X n) (h1:ckE c e e'=true) (h2:Gc e'=true):PS X (.Expr e' pos) (lS Z (.expr e)):=by
 intro pins s σ H D I h
 obtain ⟨m,h⟩:=TV h
 exact C4 (snd e C.ct (tn:=tnM m) e' hn h1).1 (IU h2) pins s σ H D I h
theorem HX {p:Px} {EX:EXT} {tn:List Nat} {K:Frag} {u:V->List V->Hp->VK->Prop} {x:Nat} {q:List (Bool × Pu.E)} {σ:L2.St} {H:Hp} {Q:Hp->Prop} (h:lPl p EX tn x q σ H fun v H1=>tyV K "list" v H1/\lEs p EX tn .nil σ H1 fun vs H2=>u v vs H2 fun _ H3=>Q H3) :
  lPl p EX tn x q σ H fun v H1=>tyV K "list" v H1/\u v [] H1 fun _ H3=>Q H3:=by
 obtain ⟨τ,t,is,s,e1,e2,e3,e4,e5,e6,e7,h⟩:=h
 refine ⟨τ,t,is,s,e1,e2,e3,e4,e5,e6,e7,fun H' s'=>?_⟩
 obtain ⟨h1,τ2,rfl,hF,j,k,hj,h2⟩:=h H' s'
 exact ⟨h1,h2 [] H' rfl ⟨Same.refl _,trivial,by simp [T.rests],by simp [T.adrs],by simp [T.Nds,T.adrs]⟩⟩
theorem PX {x:Nat} {rp:List (Bool × Pu.E)} {o:Expr} {name:Str} {env:Env} (h:HW c x rp o=true):attributeBase o name env (eval o env)=eval o env:=by
 cases rp with
 | nil=>cases o <;> first | rfl | exact nF h
 | cons a r=>obtain ⟨b,e⟩:=a; cases o <;> first | rfl | exact nF h
theorem RF (C:Cs Z c lv X E) {x:Nat} {q:List (Bool × Pu.E)} {u:Um} {es:Es} {o:Expr} {xs:List Expr} {ap cp:Pos} (n1:∀ n ∈ Gv q,NeedOk Z.p lv X n) (n2:∀ n ∈ es.need,NeedOk Z.p lv X n)
  (h1:HW c x q.reverse o=true) (h2:ckEs c es xs=true) (h3:(ap.endLine==cp.line)=true) (h5:Rz u es.len=true):PS X (.Expr (.Call (.Attribute o (L7 u) ap) xs [] cp) pos) (lS Z (.mut x q u es)):=by
 intro pins s σ H D I h
 obtain ⟨τ,m,r,rfl,S,hr,h⟩:=h
 have A:PE X o (lPl Z.p Z.EX (tnM m) x q):=by
  have A:=Sy C.ct (tn:=tnM m) (x:=x) (rp:=q.reverse) (o:=o) (fun e he n hn=>n1 n (MK e (abd.mp he) n hn)) h1
  rwa [List.reverse_reverse] at A
 have hb:∀ name:Str,attributeBase o name X.env (eval o X.env)=eval o X.env:=fun name=>PX h1
 obtain ⟨st,sl⟩:=C8 h2
 simp only [msS] at hr
 split at hr
 ·rename_i k hmx
  split at hr
  ·rename_i hc
   obtain ⟨c1,c2,c3⟩:=hc
   cases hmv:es.mvOf m with
   | some yk =>
    obtain ⟨y,ky⟩:=yk
    rw [hmv] at hr
    obtain ⟨⟨d1,d2,d3,d4⟩,rfl⟩:=AF hr
    subst d1
    have hq:q=[]:=by cases q with | nil=>rfl | cons _ _=>cases d4
    subst hq
    have hes:es=.cons (.nm y) .nil/\m[y]?=some (.ow ky):=by
     unfold Es.mvOf at hmv
     split at hmv
     ·split at hmv
      ·cases hmv; exact ⟨rfl,‹_›⟩
      ·cases hmv
     ·cases hmv
    obtain ⟨rfl,hmy⟩:=hes
    cases xs with
    | nil=>cases sl
    | cons a xr =>
     cases xr with
     | cons _ _=>cases sl
     | nil =>
      obtain ⟨g,_⟩:=Ad (show (ckE c (.nm y) a && At a && ckEs c .nil [])=true from h2)
      obtain ⟨g1,g2⟩:=Ad g
      cases a with
      | Name z pz =>
       obtain ⟨g,g5⟩:=Ad (show ((c.N[y]?==some z) && FY c.sc z && B9 z)=true from g1)
       obtain ⟨g3,g4⟩:=Ad g
       obtain ⟨e1,e2⟩:=Cu g5
       have hv:PE X (.Name z pz) (QD y):=FZ (by rw [C.ct.N]; exact beq_iff_eq.mp g3) (C.ct.vis g4) e1 e2
       refine C4 (Go PySem.F.plainAttrs_list PySem.F.slot_list_append PySem.F.type_list_append Fz A (BE hv DM rfl) (hb _) rfl h3 rfl rfl) rfl pins s _ H D I ?_
       exact Vw (X:=X) S hmx hmy d2 (by simpa [lnE] using d3) rfl h
      | _=>exact nF g1
   | none =>
    rw [hmv] at hr
    obtain ⟨⟨j1,k1⟩,g1,hr⟩:=bS hr
    obtain ⟨hcc,rfl⟩:=AF hr
    have B:=(sndA es C.ct (tn:=tnM m) xs n2 h2).1
    have M:=TN (X:=X) C.ct.K S hmx c1 c2 g1 hcc rfl h
    have one:∀ {y:Expr},At y=true->((backTo cp (starEach [y] X.env)).all (fun x=>!x.1) && (backToKw cp (keywordEach [] X.env)).all (fun x=>x.1.isSome) && decide ([y].length + ([]:List Keyword).length + (if ([]:List Keyword).isEmpty then 0 else 1) < 30))=true:=by
     intro y hy
     rw [Am hy]; rfl
    cases u with
    | append =>
     have h5:es.len=1:=of_decide_eq_true h5
     match xs,sl,st with
     | [y],_,st =>
      have hy:At y=true:=by simpa using st
      exact C4 (Go PySem.F.plainAttrs_list PySem.F.slot_list_append PySem.F.type_list_append Fz A B (hb _) (one hy) h3 (Am hy) rfl) rfl pins s _ H D I M
     | [],sl,_=>rw [h5] at sl; cases sl
     | _ :: _ :: _,sl,_=>rw [h5] at sl; cases sl
    | extend =>
     have h5:es.len=1:=of_decide_eq_true h5
     match xs,sl,st with
     | [y],_,st =>
      have hy:At y=true:=by simpa using st
      exact C4 (Go PySem.F.plainAttrs_list PySem.F.slot_list_extend PySem.F.type_list_extend Om A B (hb _) (one hy) h3 (Am hy) rfl) rfl pins s _ H D I M
     | [],sl,_=>rw [h5] at sl; cases sl
     | _ :: _ :: _,sl,_=>rw [h5] at sl; cases sl
    | popAt =>
     have h5:es.len=1:=of_decide_eq_true h5
     match xs,sl,st with
     | [y],_,st =>
      have hy:At y=true:=by simpa using st
      exact C4 (Go PySem.F.plainAttrs_list PySem.F.slot_list_pop PySem.F.type_list_pop QR A B (hb _) (one hy) h3 (Am hy) rfl) rfl pins s _ H D I M
     | [],sl,_=>rw [h5] at sl; cases sl
     | _ :: _ :: _,sl,_=>rw [h5] at sl; cases sl
    | insert =>
     have h5:es.len=2:=of_decide_eq_true h5
     match xs,sl,st with
     | [y,y'],_,st =>
      have hy:At y=true/\At y'=true:=by simpa using st
      exact C4 (Go PySem.F.plainAttrs_list PySem.F.slot_list_insert PySem.F.type_list_insert Pi A B (hb _) (by rw [Am hy.1,Am hy.2]; rfl) h3 (Am hy.1) (by rw [Am hy.2]; rfl)) rfl pins s _ H D I M
     | [],sl,_=>rw [h5] at sl; cases sl
     | [_],sl,_=>rw [h5] at sl; cases sl
     | _ :: _ :: _ :: _,sl,_=>rw [h5] at sl; cases sl
    | pop =>
     have h5:es.len=0:=of_decide_eq_true h5
     rw [h5] at sl
     cases xs with
     | cons _ _=>cases sl
     | nil =>
      cases es with
      | cons _ _=>cases h5
      | nil =>
       refine C4 (Lu PySem.F.plainAttrs_list PySem.F.slot_list_pop PySem.F.type_list_pop UY A (hb _) h3) rfl pins s _ H D I ?_
       exact HX M
    | clear =>
     have h5:es.len=0:=of_decide_eq_true h5
     rw [h5] at sl
     cases xs with
     | cons _ _=>cases sl
     | nil =>
      cases es with
      | cons _ _=>cases h5
      | nil =>
       refine C4 (Lu PySem.F.plainAttrs_list PySem.F.slot_list_clear PySem.F.type_list_clear QS A (hb _) h3) rfl pins s _ H D I ?_
       exact HX M
    | reverse =>
     have h5:es.len=0:=of_decide_eq_true h5
     rw [h5] at sl
     cases xs with
     | cons _ _=>cases sl
     | nil =>
      cases es with
      | cons _ _=>cases h5
      | nil =>
       refine C4 (Lu PySem.F.plainAttrs_list PySem.F.slot_list_reverse PySem.F.type_list_reverse N2 A (hb _) h3) rfl pins s _ H D I ?_
       exact HX M
  ·cases hr
 ·cases hr
end
section
variable {Z:Zx} {c:CkC} {lv:Nat} {X:Cx} {E:XK} {pos:Pos}
theorem RG (C:Cs Z c lv X E) {e:Pu.E} {e':Expr} (hn:∀ n ∈ e.need,NeedOk Z.p lv X n) (h1:ckE c e e'=true):PS X (.Return (some e') pos) (lS Z (.ret e)):=by
 intro pins s σ H D I h
 rcases Vx h with ⟨i,t,rfl,hs,hq⟩ | ⟨m,h⟩
 ·cases e' with
  | Name y q =>
   obtain ⟨g,h3⟩:=Ad (show ((c.N[i]?==some y) && FY c.sc y && B9 y)=true from h1)
   obtain ⟨h1,h2⟩:=Ad g
   obtain ⟨d1,d2⟩:=Cu h3
   exact Lm (FZ (by rw [C.ct.N]; exact beq_iff_eq.mp h1) (C.ct.vis h2) d1 d2) pins s σ H D I ⟨_,hs,hq⟩
  | _=>exact nF h1
 ·exact Lm (snd e C.ct (tn:=tnM m) e' hn h1).1 pins s σ H D I h
theorem On (C:Cs Z c lv X E) {n:Nat} {es:Es} {xs:List Expr} {np cp:Pos} (hn:∀ n ∈ es.need,NeedOk Z.p lv X n) (hr:NeedOk Z.p lv X (.rs n)) (h1:glB c.sc (Bl n)=true) (h2:B9 (Bl n)=true) (h3:ckEs c es xs=true) (h4:0 < es.len) (h5:es.len<=1000) (hrz:c.rz=true) (hcm:c.cm=true) :
  PS X (.Raise (some (.Call (.Name (Bl n) np) xs [] cp)) none pos) (lS Z (.raise n es)):=by
 intro pins s σ H D I h
 obtain ⟨m,h⟩:=Ry h
 obtain ⟨r1,r2,r3⟩:=hr
 obtain ⟨s1,s2⟩:=C8 h3
 have A:=(sndA es C.ct (tn:=tnM m) xs hn h3).1
 cases xs with
 | nil=>rw [<- s2] at h4; cases h4
 | cons x xr =>
  rw [aaG,aah] at s1
  refine QZ (C.xw hrz) (C.ct.calm hcm) (C.ct.gl h1) r2 r3 A (Cu h2).1 (Am s1.1) (AB s1.2) pins s σ H D I ?_
  obtain ⟨τ,e,hF,j,k,hj,h⟩:=h
  refine ⟨τ,e,hF,j,k,hj,h.mono (Same.refl _) fun ds _ hd ts H1 ht R=>?_⟩
  obtain ⟨q1,q2⟩:=hd ts H1 ht R
  refine ⟨by rw [q1]; exact aaK h5 (by decide),?_⟩
  have:=q2 r1
  rw [C.ex hrz] at this
  exact this
end
section
variable {Z:Zx} {c:CkC} {lv:Nat} {X:Cx} {E:XK} {pos:Pos}
theorem Oo (C:Cs Z c lv X E) {m:Ms} {τ:Ft}:∀ (es:Es) {I:List Nat} (xs:List Expr),(∀ n ∈ es.need,NeedOk Z.p lv X n)->ckEs c es xs=true->PA X xs (lRO Z m τ I es)
 | .nil,I,xs,hn,h=>by
  cases xs with
  | nil =>
   refine PA.mono DM fun σ H Q h=>?_
   obtain ⟨rfl,S,k,hk,h⟩:=h
   exact h [] H rfl VC
  | cons _ _=>exact nF h
 | .cons e r,I,xs,hn,h=>by
  cases xs with
  | nil=>exact nF h
  | cons x xs =>
   obtain ⟨h,h3⟩:=Ad (show (ckE c e x && At x && ckEs c r xs)=true from h)
   obtain ⟨h1,h2⟩:=Ad h
   obtain ⟨n1,n2⟩:=Ax hn
   cases q:Ld m e with
   | some ik =>
    obtain ⟨i,k⟩:=ik
    obtain ⟨rfl,hm⟩:=Rt q
    cases x with
    | Name y py =>
     obtain ⟨g,g3⟩:=Ad (show ((c.N[i]?==some y) && FY c.sc y && B9 y)=true from h1)
     obtain ⟨g1,g2⟩:=Ad g
     obtain ⟨d1,d2⟩:=Cu g3
     refine PA.mono (BE (FZ (by rw [C.ct.N]; exact beq_iff_eq.mp g1) (C.ct.vis g2) d1 d2) (Oo C (m:=m) (τ:=τ) r (I:=i :: I) xs n2 h3) (Am h2)) fun σ H Q h=>?_
     obtain ⟨rfl,S,k0,hk,h⟩:=h
     rw [rkT,q] at hk
     simp only at hk
     split at hk
     ·cases hk
     ·rename_i hi
      obtain ⟨k2,hk2,hk⟩:=bS hk
      cases hk
      simp only [evs,ev] at h
      cases q2:get (dτ τ) i with
      | exc c=>unfold get at q2; split at q2 <;> cases q2
      | bad=>rw [q2] at h; exact nE h
      | ok d =>
       obtain ⟨t,ht,rfl⟩:=E9 q2
       rw [q2,Res.bind_ok] at h
       refine ⟨_,Eg ht,rfl,S,k2,hk2,h.bind.mono (Same.refl _) fun ds _ h ts H1 hts R=>?_⟩
       exact h (t :: ts) H1 (by simp [T.dats,hts]) (VD S ht hm hi R)
    | _=>exact nF h1
   | none =>
    refine PA.mono (BE (snd e C.ct (tn:=tnM m) x n1 h1).1 (Oo C (m:=m) (τ:=τ) r (I:=I) xs n2 h3) (Am h2)) fun σ H Q h=>?_
    obtain ⟨rfl,S,k0,hk,h⟩:=h
    rw [rkT,q] at hk
    simp only at hk
    obtain ⟨⟨j1,k1⟩,hj,hk⟩:=bS hk
    split at hk
    ·rename_i hz
     have hz:j1=0:=hz
     subst hz
     obtain ⟨k2,hk2,hk⟩:=bS hk
     cases hk
     simp only [evs] at h
     refine l1 S.ok hj h fun d t H1 ht R h=>?_
     subst ht
     refine ⟨rfl,S.grow R.same,k2,hk2,h.bind.mono R.same fun ds _ h ts H2 hts R2=>?_⟩
     exact h (t :: ts) H2 (by simp [T.dats,hts]) (VE S R R2)
    ·cases hk
end
mutual
theorem W4 {Z:Zx} {c:CkC} {lv:Nat} {X:Cx} {E:XK} (C:Cs Z c lv X E):∀ (s:S) (st:Stmt),(∀ n ∈ s.need,NeedOk Z.p lv X n)->ckS c s st=true->PS X st (lS Z s)
 | .asg x k e,st,hn,h=>by
  cases st with
  | Assign ts e' q =>
   match ts,h with
   | [t],h =>
    cases t with
    | Name y py =>
     obtain ⟨h,h3⟩:=Ad (show ((c.N[x]?==some y) && Gs c y && ckE c e e')=true from h)
     obtain ⟨h1,h2⟩:=Ad h
     exact RA C hn h1 h2 h3
    | _=>exact nF h
   | [],h=>exact nF h
   | t :: _ :: _,h=>cases t <;> exact nF h
  | _=>exact nF h
 | .dem _ _,st,hn,h=>by cases st <;> exact nF h
 | .dead _,st,hn,h=>by cases st <;> exact nF h
 | .asgT xs e,st,hn,h=>by
  cases st with
  | Assign ts e' q =>
   match ts,h with
   | [t],h =>
    cases t with
    | Tuple es k py =>
     obtain ⟨h,h3⟩:=Ad (show (ckG c (.tp xs) (.Tuple es k py) && ckE c e e' && (G4 e' || L8 c es))=true from h)
     obtain ⟨h1,h2⟩:=Ad h
     exact PU C hn h1 h2 h3
    | _=>exact nF h
   | [],h=>exact nF h
   | t :: _ :: _,h=>cases t <;> exact nF h
  | _=>exact nF h
 | .mut x q u es,st,hn,h=>by
  cases st with
  | Expr v q2 =>
   cases v with
   | Call f xs ks cp =>
    cases f with
    | Attribute o name ap =>
     cases ks with
     | nil =>
      obtain ⟨h,h8⟩:=Ad (show (HW c x q.reverse o && (name==L7 u) && ckEs c es xs && (ap.endLine==cp.line) && L9 o && decide (es.len < 20) && Rz u es.len)=true from h)
      obtain ⟨h,h7⟩:=Ad h
      obtain ⟨h,h5⟩:=Ad h
      obtain ⟨h,h4⟩:=Ad h
      obtain ⟨h,h3⟩:=Ad h
      obtain ⟨h1,h2⟩:=Ad h
      cases beq_iff_eq.mp h2
      obtain ⟨n1,n2⟩:=Ax hn
      exact RF C n1 n2 h1 h3 h4 h8
     | cons _ _=>exact nF h
    | _=>exact nF h
   | _=>exact nF h
  | _=>exact nF h
 | .expr e,st,hn,h=>by
  cases st with
  | Expr v q2 =>
   obtain ⟨h1,h2⟩:=Ad (show (ckE c e v && Gc v)=true from h)
   exact PV C hn h1 h2
  | _=>exact nF h
 | .iff t a b,st,hn,h=>by
  cases st with
  | If t' a' b' q =>
   obtain ⟨h,h4⟩:=Ad (show (ckE c t t' && t.tst && ckSs c a a' && ckSs c b b')=true from h)
   obtain ⟨h,h3⟩:=Ad h
   obtain ⟨h1,h2⟩:=Ad h
   obtain ⟨n1,n2⟩:=Ax hn
   obtain ⟨n2,n3⟩:=Ax n2
   intro pins s σ H D I h
   obtain ⟨m,h⟩:=Vy h
   exact Wa ((snd t C.ct (tn:=tnM m) t' n1 h1).2 h2) (sndSs C a a' n2 h3) (sndSs C b b' n3 h4) pins s σ H D I h
  | _=>exact nF h
 | .wh t b,st,hn,h=>by
  cases st with
  | While t' b' el q =>
   cases el with
   | nil =>
    obtain ⟨h,hrz⟩:=Ad (show (ckE c t t' && t.tst && ckSs c b b' && c.rz)=true from h)
    obtain ⟨h,h3⟩:=Ad h
    obtain ⟨h1,h2⟩:=Ad h
    obtain ⟨n1,n2⟩:=Ax hn
    intro pins s σ H D I h
    obtain ⟨m,h⟩:=Wy h
    exact QG (C.po hrz) ((snd t C.ct (tn:=tnM m) t' n1 h1).2 h2) (sndSs C b b' n2 h3) pins s σ H D I h
   | cons _ _=>exact nF h
  | _=>exact nF h
 | .for_ g it b,st,hn,h=>by
  cases st with
  | For tg it' b' el q =>
   cases el with
   | nil =>
    obtain ⟨h,hcm⟩:=Ad (show (ckG c g tg && ckI c tg it it' && Ev it' && ckSs c b b' && c.rz && c.cm)=true from h)
    obtain ⟨h,hrz⟩:=Ad h
    obtain ⟨h,h4⟩:=Ad h
    obtain ⟨h,h3⟩:=Ad h
    obtain ⟨h1,h2⟩:=Ad h
    obtain ⟨n1,n2⟩:=Ax hn
    have B:=sndSs C b b' n2 h4
    intro pins s σ H D I h
    rcases VB (K:=X.K) (X:=X) h with ⟨m,h⟩ | ⟨x,rfl,v,a,xs,e1,rfl,sq,hW⟩
    ·exact OX (C.po hrz) (C.ct.calm hcm) (sndI it C.ct (tn:=tnM m) it' n1 h2) (HU C.ct h1) B (Eh h3) pins s σ H D I h
    ·cases it' with
     | Name y q' =>
      obtain ⟨g,g3⟩:=Ad (show ((c.N[x]?==some y) && FY c.sc y && B9 y)=true from h2)
      obtain ⟨g1,g2⟩:=Ad g
      obtain ⟨d1,d2⟩:=Cu g3
      refine OX (C.po hrz) (C.ct.calm hcm) (LQ (FZ (by rw [C.ct.N]; exact beq_iff_eq.mp g1) (C.ct.vis g2) d1 d2)) (HU C.ct h1) B (Eh h3) pins s σ H D I ?_
      exact ⟨_,e1,a,rfl,.inl ⟨xs,sq,hW C.ct.K⟩⟩
     | _=>exact nF h2
   | cons _ _=>exact nF h
  | _=>exact nF h
 | .ret e,st,hn,h=>by
  cases st with
  | Return v q =>
   cases v with
   | some e'=>exact RG C hn h
   | none=>exact nF h
  | _=>exact nF h
 | .retT es,st,hn,h=>by
  cases st with
  | Return v q =>
   cases v with
   | none=>exact nF h
   | some e' =>
    cases e' with
    | Tuple xs k2 p2 =>
     obtain ⟨h1,h2⟩:=Ad (show (ckEs c es xs && decide (es.len<=1000))=true from h)
     intro pins s σ H D I hq
     obtain ⟨m,τ,hq⟩:=TX (of_decide_eq_true h2) hq
     exact Lm (O7 (Oo C es xs hn h1)) pins s σ H D I hq
    | _=>exact nF h
  | _=>exact nF h
 | .raise n es,st,hn,h=>by
  cases st with
  | Raise v w q =>
   cases v with
   | none=>exact nF h
   | some v =>
    cases v with
    | Call f xs ks cp =>
     cases f with
     | Name x np =>
      cases ks with
      | nil =>
       cases w with
       | none =>
        obtain ⟨h,hcm⟩:=Ad (show ((x==Bl n) && glB c.sc x && B9 x && ckEs c es xs && decide (0 < es.len) && decide (es.len<=1000) && c.rz && c.cm)=true from h)
        obtain ⟨h,hrz⟩:=Ad h
        obtain ⟨h,h6⟩:=Ad h
        obtain ⟨h,h5⟩:=Ad h
        obtain ⟨h,h4⟩:=Ad h
        obtain ⟨h,h3⟩:=Ad h
        obtain ⟨h1,h2⟩:=Ad h
        cases beq_iff_eq.mp h1
        exact On C (fun n m=>hn n (aaa _ m)) (hn _ (aab ..)) h2 h3 h4 (of_decide_eq_true h5) (of_decide_eq_true h6) hrz hcm
       | some _=>exact nF h
      | cons _ _=>exact nF h
     | _=>exact nF h
    | _=>exact nF h
  | _=>exact nF h
theorem sndSs {Z:Zx} {c:CkC} {lv:Nat} {X:Cx} {E:XK} (C:Cs Z c lv X E):∀ (s:Ss) (st:List Stmt),(∀ n ∈ s.need,NeedOk Z.p lv X n)->ckSs c s st=true->PSs X st (lSs Z s)
 | .nil,st,hn,h=>by
  cases st with
  | nil=>exact fun pins s σ H D I h=>SI pins s σ H D I (VA h)
  | cons _ _=>exact nF h
 | .cons s r,st,hn,h=>by
  obtain ⟨n1,n2⟩:=Ax hn
  have skip:(∃ x k,s=.dem x k)\/(∃ x,s=.dead x)->ckSs c r st=true->PSs X st (lSs Z (.cons s r)):=fun hs h=>PSs.mono (sndSs C r st n2 h) fun D σ H q=>TW hs q
  by_cases hd:(∃ x k,s=.dem x k)\/(∃ x,s=.dead x)
  ·refine skip hd ?_
   rcases hd with ⟨x,k,rfl⟩ | ⟨x,rfl⟩
   ·exact h
   ·exact h
  ·cases st with
   | nil=>cases s <;> first | exact nF h | exact absurd (.inl ⟨_,_,rfl⟩) hd | exact absurd (.inr ⟨_,rfl⟩) hd
   | cons x xs =>
    have h:(ckS c s x && ckSs c r xs)=true:=by
     cases s <;> first | exact h | exact absurd (.inl ⟨_,_,rfl⟩) hd | exact absurd (.inr ⟨_,rfl⟩) hd
    obtain ⟨h1,h2⟩:=Ad h
    exact PSs.mono (QE (W4 C s x n1 h1) (sndSs C r xs n2 h2)) fun D σ H q=>Vz q
end
structure Lw where
 p:Px
 P:Program
 w:World
 mg:Str->Option Value
 base:Heap
structure Lw.Ok (L:Lw):Prop where
 blt:∀ y ∈ Fk,L.mg y=none
 bt:∀ y ∈ (["bool", "dict", "ValueError"]:List Str),L.mg y=none
 kx:Kx L.p
noncomputable def RH (L:Lw) (F:Fn):Prop:=∃ ps:List Str,ps.length=F.ar/\Has L.P L.w L.p.K L.mg L.base F.name F.lv ps (spF L.p F)
noncomputable def NeedG (L:Lw) (lv:Nat):Nd1->Prop
 | .fn F=>F.lv<=lv/\RH L F
 | .cl n=>L.p.has n=true/\L.mg (Bl n)=some (.ref (L.p.cl n))
 | .rs n=>L.p.has n=true/\nsIn L.p.K mainGlobals (Bl n)=some (some (.ref (L.p.cl n)))/\excIn L.p.K (L.p.cl n) HP "ValueError.__new__" = true
 | .gl x d=>∃ u,L.mg x=some u/\RelV (dT d).val u
noncomputable def AllN (f:Nd1->Prop):List Nd1->Prop
 | []=>True
 | n :: r=>f n/\AllN f r
theorem AllN.mem {f:Nd1->Prop}:∀ {l:List Nd1},AllN f l->∀ n ∈ l,f n
 | [],_,n,h=>by cases h
 | m :: r,h,n,hn=>by
  rcases aai.mp hn with rfl | hn
  ·exact h.1
  ·exact AllN.mem h.2 n hn
noncomputable def An (name:Str) (ar lv dep n:Nat) (body:Ss):Fn:=⟨name,ar,lv,dep,fun ds=>if ds.length=ar then run n body ds else .bad⟩
theorem Af {x:Str} {ar lv dep n:Nat} {b:Ss} {ds:List D} (h:ds.length=ar):(An x ar lv dep n b).den ds=run n b ds:=if_pos h
noncomputable def m0 (ar n:Nat):Ms:=aam ar .sh ++ aam (n - ar) .dead
noncomputable def τ0 (n:Nat) (ts:List T):Ft:=ts.map some ++ aam (n - ts.length) none
theorem vτ0 (N:List Str) (ts:List T):vτ (τ0 N.length ts)=L2.AR N (ts.map T.val):=by
 unfold vτ τ0 L2.AR
 rw [aao,aaz,aaz,abe,aac]
 rfl
theorem dτ0 (n:Nat) (ts:List T):dτ (τ0 n ts)=Pu.AR n (T.dats ts):=by
 unfold dτ τ0 Pu.AR
 rw [aao,aaz,T.dats_map,aaz,abe,aac]
 rfl
theorem Ma {ar n i:Nat} {d:Md} (h:(m0 ar n)[i]?=some d):(i < ar/\d=.sh)\/(ar<=i/\d=.dead):=by
 unfold m0 at h
 by_cases hi:i < ar
 ·rw [aaN (by simpa using hi),aaS,if_pos hi] at h
  exact .inl ⟨hi,(Option.some.inj h).symm⟩
 ·rw [aaH (by simpa using hi),aaS] at h
  split at h
  ·exact .inr ⟨abc hi,(Option.some.inj h).symm⟩
  ·cases h
theorem Nq {n i:Nat} {ts:List T} {t:T} (h:(τ0 n ts)[i]?=some (some t)):t ∈ ts:=by
 unfold τ0 at h
 have:=aaf h
 rw [aag] at this
 rcases this with z | z
 ·obtain ⟨u,hu,e⟩:=aav.mp z
  cases e; exact hu
 ·have:=(abY.mp z).2; cases this
theorem Nr {p:Px} {H:Hp}:∀ {ts:List T},T.Oks p H ts->∀ t ∈ ts,t.Ok p H
 | [],_,t,h=>by cases h
 | u :: r,h,t,ht=>by
  rcases aai.mp ht with rfl | ht
  ·exact h.1
  ·exact Nr h.2 t ht
theorem sf0 {p:Px} {H:Hp} {ts:List T} {n ar:Nat} (ok:T.Oks p H ts) (hl:ts.length=ar) (hn:ar<=n):Sf p H (fun a=>a ∈ T.rests ts 0) (m0 ar n) (τ0 n ts) H:=by
 have noOw:∀ {i k:Nat},(m0 ar n)[i]? ≠ some (.ow k):=fun {i k} h=>by
  rcases Ma h with ⟨_,z⟩ | ⟨_,z⟩ <;> cases z
 refine ⟨?_,fun d hd=>?_,Same.refl _,fun i t j h1 h2 h3=>Nr ok t (Nq h1),fun i t k a h1 h2=>absurd h2 noOw,?_,fun i t k h1 h2=>absurd h2 noOw,fun i j t u k d h0 h1 h2=>absurd h2 noOw,fun i j t u k k2 h1 h2=>absurd h2 noOw⟩
 ·unfold τ0 m0
  simp [hl]
 ·obtain ⟨i,hi⟩:=acf hd
  rcases Ma hi with ⟨_,rfl⟩ | ⟨_,rfl⟩ <;> rfl
 ·rintro a ⟨i,t,j,h1,h2,h3,h4⟩
  obtain ⟨d,h5,rfl⟩:=Bx h2
  right
  refine T.mem_rests.mpr ⟨t,Nq h1,?_⟩
  rcases Ma h5 with ⟨_,rfl⟩ | ⟨_,rfl⟩
  ·exact h4
  ·exact absurd h3 (by decide)
theorem NeedG.to {L:Lw} {lv:Nat} {n:Nd1} (h:NeedG L lv n) {X:Cx} (e1:X.prog=L.P) (e2:X.w=L.w) (e3:X.K=L.p.K) (e4:X.mg=L.mg) (e5:X.base=L.base):NeedOk L.p lv X n:=by
 cases n with
 | fn F =>
  refine ⟨h.1,?_⟩
  unfold Oc
  rw [e1,e2,e3,e4,e5]
  exact h.2
 | cl n=>show _/\_; rw [e4]; exact h
 | rs n=>show _/\_/\_; rw [e3]; exact h
 | gl x d=>show ∃ u,_; rw [e4]; exact h
theorem PY {L:Lw} (O:L.Ok) {x:Str} {st:Stmt} {N ps:List Str} {ar lv dep:Nat} {body:Ss} {f:Addr} {fd:FuncData} (D:Fun L.p.K x x st f fd) (S:FnScope N ps (Au st)) (har:ps.length=ar)
  (hck:ckSs ⟨N,Au st,true,true,true⟩ body (AY st)=true) (hms:(msSs (aam N.length .dead) dep body (m0 ar N.length)).isSome=true) (hn:AllN (NeedG L lv) body.need):FnOk L.P L.w L.p.K L.mg L.base (CXe L.P L.w) (lv + 1) f fd ps (spF L.p (An x ar (lv + 1) dep N.length body)):=by
 have hpl:ps.length<=N.length:=by have:=congrArg abk S.pre; rw [abt] at this; omega
 refine Fun.okX D S (fun vs H Q E h=>?_) fun f cdv A outer s H vs Q E hr hsp=>?_
 ·obtain ⟨ts,rfl,_,h,_⟩:=h
  rw [aac,h]; exact har.symm
 ·obtain ⟨ts,rfl,ok,hl,h⟩:=hsp
  have hl:ts.length=ar:=hl
  obtain ⟨r,hr'⟩:=aaD.mp hms
  let Z:Zx:=⟨L.p,H,fun a=>a ∈ T.rests ts 0,fun _=>E,aam N.length .dead,dep⟩
  have C:Cs Z ⟨N,Au st,true,true,true⟩ lv (B6 (CXe L.P L.w) L.P L.w L.p.K L.mg L.base N x (Au st) f cdv A outer s H E) E:=by
   refine ⟨⟨rfl,rfl,rfl,S.nd,fun _=>rfl,fun _=>hr,hr.units,O.blt,O.bt,?_,fun _ _=>rfl,O.kx⟩,fun _=>rfl,fun _=>QY fun _ _ _ h=>h,fun _=>PassesOwn.leaving,S.kind,rfl,rfl⟩
   intro pins σ H' s' e s'' I h
   exact Wl (fun _ _ _ h=>h) pins σ H' s' e s'' I h
  refine ⟨_,sndSs C body (AY st) (fun n hnm=>(hn.mem n hnm).to rfl rfl rfl rfl rfl) hck,τ0 N.length ts,m0 ar N.length,r,(vτ0 N ts).symm,sf0 ok hl (by omega),hr',?_⟩
  have h:match (if (T.dats ts).length=ar then run N.length body (T.dats ts) else .bad) with
   | .ok d=>∀ t H',t.dat=d->Rs L.p (fun a=>a ∈ T.rests ts 0) H H' 0 dep t->Q t.val H'
   | .exc c=>L.p.has c=true->∀ H',Same H H'->E (.ref (L.p.cl c)) none H'
   | .bad=>False:=h
  rw [if_pos (by rw [T.dats_map,aac]; exact hl)] at h
  unfold run at h
  rw [dτ0]
  cases q:exs body (Pu.AR N.length (T.dats ts)) with
  | nxt δ =>
   rw [q] at h
   intro m' τ' H' e1 e2 S' P'
   exact h .non H' rfl (Rs.scal S'.same rfl)
  | ret d =>
   rw [q] at h
   exact h
  | exc c δ =>
   rw [q] at h
   intro hc τ' H' e S' P'
   exact h hc H' S'.same
  | bad=>rw [q] at h; exact h.elim
theorem TY {L:Lw} (O:L.Ok) {x:Str} {st:Stmt} {N ps:List Str} {ar lv dep:Nat} {body:Ss} (D:Df L.p.K L.mg x st ps) (S:FnScope N ps (Au st)) (har:ps.length=ar)
  (hck:ckSs ⟨N,Au st,true,true,true⟩ body (AY st)=true) (hms:(msSs (aam N.length .dead) dep body (m0 ar N.length)).isSome=true) (hn:AllN (NeedG L lv) body.need):RH L (An x ar (lv + 1) dep N.length body):=by
 obtain ⟨f,fd,F,m,b⟩:=D
 exact ⟨ps,har,f,fd,PY O F S har hck hms hn,m,F.kp,b⟩
noncomputable def W5:Value->Bool
 | .type x=>x == "list"
 | _=>false
noncomputable def noL (K:Frag):Bool:=K.all fun e=>!W5 e.2.cls
theorem PZ {a:Addr} {o:Obj}:∀ {K:Frag},K.lookup a=some o->(a,o) ∈ K
 | [],h=>by cases h
 | (b,u) :: r,h=>by
  by_cases e:a=b
  ·subst e
   rw [List.lookup_cons_self] at h
   cases h
   exact aab
  ·have:(a==b)=false:=by simpa using e
   rw [List.lookup_cons,this] at h
   exact aaa _ (PZ h)
theorem VF {K:Frag} (h:noL K=true) {a:Addr} {o:Obj} (e:K.lookup a=some o):o.cls ≠ .type "list" := fun z=>by
 have:=aaw.mp h (a,o) (PZ e)
 rw [z] at this
 cases this
noncomputable def spL (K:Frag):Sp:=fun vs H Q E=>∃ (a:Addr) (ns:List Int),vs=[.ref a]/\ns.length<=63/\SqL K H a (ns.map V.int)/\∀ H',Q (.bl true) H'
theorem Mb:∀ ns:List Int,(ns.map T.int).map T.val=ns.map V.int
 | []=>rfl
 | n :: r=>by rw [aax,aax,aax,Mb r]; rfl
theorem Mc:∀ ns:List Int,T.dats (ns.map T.int)=ns.map D.int
 | []=>rfl
 | n :: r=>by rw [aax,aax,T.dats,Mc r]; rfl
theorem Nt {p:Px} {H:Hp}:∀ ns:List Int,T.Oks p H (ns.map T.int)
 | []=>trivial
 | n :: r=>⟨trivial,Nt r⟩
theorem VG {P:Program} {w:World} {K:Frag} {mg:Str->Option Value} {base:Heap} {p:Px} {F:Fn} {f:Addr} {fd:FuncData} {ps:List Str} (hF:FnOk P w K mg base (CXe P w) F.lv f fd ps (spF p F)) (hp:p.K=K) (ha:F.ar=1) (hK:noL K=true)
  (hd:∀ ns:List Int,ns.length<=63->F.den [.lst (ns.map .int)]=.ok (.bl true)):FnOk P w K mg base (CXe P w) F.lv f fd ps (spL K):=by
 refine hF.imp fun vs H Q E h=>?_
 obtain ⟨a,ns,rfl,hl,hS,q⟩:=h
 have hR:Rd H a (.lst (ns.map V.int)):=by
  rcases hS with h | ⟨o,its,n,e,c,_⟩
  ·exact h
  ·exact absurd c (VF hK e)
 refine ⟨[.lst a (ns.map T.int)],rfl,⟨⟨by rw [Mb]; exact hR,Nt ns⟩,trivial⟩,ha.symm,?_⟩
 have e:T.dats [T.lst a (ns.map T.int)]=[.lst (ns.map .int)]:=by
  show [D.lst (T.dats (ns.map T.int))]=_
  rw [Mc]
 rw [e,hd ns hl]
 intro t H' ht R
 cases t <;> first | cases ht | skip
 exact q H'
theorem Wz {l:PySem.W.OpenLaw} {k:Nat} {q:Program} {loose:List Str} {XP:(Str->Option Value)->Heap->Prop} {YP:World->Heap->Prop} {d:DefRec} {K:Params->PySem.W.Frag} {x:Str} (hn:l.most=some 63) (hdf:d.params.defaults=[]) (hr:Room k callerA)
  (hY:∀ (w:World) (h:Heap),YP w h->(K w.params).In h)
  (F:∀ (w:World) (mg:Str->Option Value) (fa:Addr) (h:Heap),(K w.params).In h->h.Ns mainGlobals mg->mg d.name=some (.ref fa) ->
   ∃ fd:FuncData,(∀ (s:Shared) (u:Value),BindsTo s fd ⟨[u],[]⟩ [(x,u)])/\∀ base:Heap,(K w.params).In base->base.Ns mainGlobals mg->FnOk l.prog w (K w.params) mg base (CXe l.prog w) k fa fd [x] (spL (K w.params))) :
  PySem.W.WalkO q loose XP YP l.row.toRowW d [] (fun f vs=>PySem.call f vs) :=
 L2.ST (n:=63) (k:=k) (x:=x) (CX:=fun w=>CXe l.prog w) (sp:=fun w=>spL (K w.params)) hn (by decide) hdf hr hY F (fun _ _ a ns hl _ hS=>⟨a,ns,rfl,hl,hS,fun _=>rfl⟩) fun w H s e s' h=>by
  obtain ⟨_,_,_,_,_,_,_,_,_,_,_,_,_,_,_,_,_,_,z⟩:=h
  exact z
noncomputable def Ap (K:Frag) (x:Str) (st:Stmt):Prop:=∃ (f:Addr) (oc:Value) (od an:Option Addr) (sl:Array (Option Value)) (kV dc pm cd ct:Value),nsIn K mainGlobals x=some (some (.ref f))/\K.lookup f=some ⟨oc,od,.func (fnOf x x (Co st) (AY st) (Au st) .none kV dc pm an cd ct),sl⟩/\codeIn K cd x=true/\keepIn K (.ref f)=true
theorem Aq {K:Frag} {x:Str} {st:Stmt} {f:Addr} {oc:Value} {od an:Option Addr} {sl:Array (Option Value)} {kV dc pm cd ct:Value} (a:nsIn K mainGlobals x=some (some (.ref f))) (l:K.lookup f=some ⟨oc,od,.func (fnOf x x (Co st) (AY st) (Au st) .none kV dc pm an cd ct),sl⟩) (c:codeIn K cd x=true) (k:keepIn K (.ref f)=true):Ap K x st:=⟨f,oc,od,an,sl,kV,dc,pm,cd,ct,a,l,c,k⟩
theorem Ag {K:Frag} {h:Heap} {mg:Str->Option Value} {x:Str} {st:Stmt} {ps:List Str} (X:K.In h) (G:h.Ns mainGlobals mg) (t:Ap K x st) (hb:∀ (kV doc pm:Value) (an:Option Addr) (cdv ct:Value) (us:List Value),us.length=ps.length->bindArgs (fnOf x x (Co st) (AY st) (Au st) .none kV doc pm an cdv ct) ⟨us,[]⟩=pure (ps.zip us)):Df K mg x st ps:=by
 obtain ⟨f,oc,od,an,sl,kV,dc,pm,cd,ct,a,l,c,k⟩:=t
 exact Wn X G a l c k hb
theorem ba1 {fd:FuncData} {a0:Str} (h:∀ u0:Value,bindArgs fd ⟨[u0],[]⟩=pure [(a0,u0)]):∀ us:List Value,us.length=([a0]:List Str).length->bindArgs fd ⟨us,[]⟩=pure (([a0]:List Str).zip us)
 | [u0],_=>h u0
theorem ba2 {fd:FuncData} {a0 a1:Str} (h:∀ u0 u1:Value,bindArgs fd ⟨[u0,u1],[]⟩=pure [(a0,u0),(a1,u1)]):∀ us:List Value,us.length=([a0,a1]:List Str).length->bindArgs fd ⟨us,[]⟩=pure (([a0,a1]:List Str).zip us)
 | [u0,u1],_=>h u0 u1
theorem ba3 {fd:FuncData} {a0 a1 a2:Str} (h:∀ u0 u1 u2:Value,bindArgs fd ⟨[u0,u1,u2],[]⟩=pure [(a0,u0),(a1,u1),(a2,u2)]):∀ us:List Value,us.length=([a0,a1,a2]:List Str).length->bindArgs fd ⟨us,[]⟩=pure (([a0,a1,a2]:List Str).zip us)
 | [u0,u1,u2],_=>h u0 u1 u2
theorem ba4 {fd:FuncData} {a0 a1 a2 a3:Str} (h:∀ u0 u1 u2 u3:Value,bindArgs fd ⟨[u0,u1,u2,u3],[]⟩=pure [(a0,u0),(a1,u1),(a2,u2),(a3,u3)]):∀ us:List Value,us.length=([a0,a1,a2,a3]:List Str).length->bindArgs fd ⟨us,[]⟩=pure (([a0,a1,a2,a3]:List Str).zip us)
 | [u0,u1,u2,u3],_=>h u0 u1 u2 u3
theorem ba5 {fd:FuncData} {a0 a1 a2 a3 a4:Str} (h:∀ u0 u1 u2 u3 u4:Value,bindArgs fd ⟨[u0,u1,u2,u3,u4],[]⟩=pure [(a0,u0),(a1,u1),(a2,u2),(a3,u3),(a4,u4)]):∀ us:List Value,us.length=([a0,a1,a2,a3,a4]:List Str).length->bindArgs fd ⟨us,[]⟩=pure (([a0,a1,a2,a3,a4]:List Str).zip us)
 | [u0,u1,u2,u3,u4],_=>h u0 u1 u2 u3 u4
theorem ba6 {fd:FuncData} {a0 a1 a2 a3 a4 a5:Str} (h:∀ u0 u1 u2 u3 u4 u5:Value,bindArgs fd ⟨[u0,u1,u2,u3,u4,u5],[]⟩=pure [(a0,u0),(a1,u1),(a2,u2),(a3,u3),(a4,u4),(a5,u5)]):∀ us:List Value,us.length=([a0,a1,a2,a3,a4,a5]:List Str).length->bindArgs fd ⟨us,[]⟩=pure (([a0,a1,a2,a3,a4,a5]:List Str).zip us)
 | [u0,u1,u2,u3,u4,u5],_=>h u0 u1 u2 u3 u4 u5
structure ClsF (K:Frag) (x:Str) (C:Addr):Prop where
 q:nsIn K mainGlobals x=some (some (.ref C))
 x:XCls K C
 t:∀ T ∈ (["int", "bool", "str", "list", "tuple", "dict"]:List String),kitOne K (.ref C) (.type T)=some false
 v:kitOne K (.ref C) (.type "ValueError")=some true
theorem VH {K:Frag} {x:Str} {C:Addr} {cd:ClassData} (q:nsIn K mainGlobals x=some (some (.ref C)))
  (ga:findIn K (.ref C) "__getattribute__" = some (some (.builtin "BaseException.__getattribute__"))) (gn:findIn K (.ref C) "__getattr__" = some none) (sb:subIn K (.ref C) (.type "BaseException")=some true)
  (cl:findIn K (.ref C) "__class__" = some (some (.builtin "object.__class__"))) (mo:mroIn K C (.type "object")=some true) (ty:typeIn K (.ref C)=some (.type "type")) (cc:clsIn K C=some cd)
  (t1:kitOne K (.ref C) (.type "int")=some false) (t2:kitOne K (.ref C) (.type "bool")=some false) (t3:kitOne K (.ref C) (.type "str")=some false) (t4:kitOne K (.ref C) (.type "list")=some false) (t5:kitOne K (.ref C) (.type "tuple")=some false) (t6:kitOne K (.ref C) (.type "dict")=some false)
  (v:kitOne K (.ref C) (.type "ValueError")=some true):ClsF K x C:=by
 refine ⟨q,⟨ga,gn,sb,cl,mo,ty,by rw [cc]; rfl⟩,fun T hT=>?_,v⟩
 simp only [aai,abv,or_false] at hT
 rcases hT with rfl | rfl | rfl | rfl | rfl | rfl <;> assumption
noncomputable abbrev Cs':=List (Nat × Addr)
noncomputable def clA:Cs'->Nat->Addr
 | [],_=>0
 | (c,a) :: r,n=>if n=c then a else clA r n
noncomputable def DH:Cs'->Nat->Bool
 | [],_=>false
 | (c,_) :: r,n=>n==c || DH r n
noncomputable def AllC {α:Type} (f:α->Prop):List α->Prop
 | []=>True
 | q :: r=>f q/\AllC f r
theorem AllC.mem {α:Type} {f:α->Prop}:∀ {l:List α},AllC f l->∀ n ∈ l,f n
 | [],_,n,h=>by cases h
 | m :: r,h,n,hn=>by
  rcases aai.mp hn with rfl | hn
  ·exact h.1
  ·exact AllC.mem h.2 n hn
theorem Ek:∀ {cs:Cs'} {n:Nat},DH cs n=true->(n,clA cs n) ∈ cs
 | [],n,h=>by cases h
 | (c,a) :: r,n,h=>by
  unfold DH at h
  unfold clA
  by_cases e:n=c
  ·subst e; rw [if_pos rfl]; exact aab
  ·rw [if_neg e]
   have:(n==c)=false:=by simpa using e
   rw [this,Bool.false_or] at h
   exact aaa _ (Ek h)
theorem WA {K:Frag} {cs:Cs'} (h9:DH cs 999=false) (h:AllC (fun q=>ClsF K (Bl q.1) q.2) cs) (y:AllC (fun q=>AllC (fun r=>kitOne K (.ref q.2) (.ref r.2)=some (isa q.1 r.1)) cs) cs):Kx ⟨K,clA cs,DH cs⟩ :=
 ⟨h9,fun c hc=>(h.mem _ (Ek hc)).x,fun c hc=>(h.mem _ (Ek hc)).t,fun c hc=>(h.mem _ (Ek hc)).v,fun c d hc hd=>(y.mem _ (Ek hc)).mem _ (Ek hd)⟩
theorem WB {K:Frag} {P:Program} {w:World} {mg:Str->Option Value} {base h:Heap} {cs:Cs'} (h9:DH cs 999=false) (X:K.In h) (G:h.Ns mainGlobals mg) (nb:AllC (fun y=>nsIn K mainGlobals y=some none) (Fk ++ (["bool", "dict", "ValueError"]:List Str))) (hc:AllC (fun q=>ClsF K (Bl q.1) q.2) cs) (y:AllC (fun q=>AllC (fun r=>kitOne K (.ref q.2) (.ref r.2)=some (isa q.1 r.1)) cs) cs):Lw.Ok ⟨⟨K,clA cs,DH cs⟩,P,w,mg,base⟩ :=
 ⟨fun z hz=>mg_none_of X G (nb.mem z (aaA _ hz)),fun z hz=>mg_none_of X G (nb.mem z (aal _ hz)),WA h9 hc y⟩
noncomputable def dfB (N:List Str) (ps:List Str) (st:Stmt) (b:Ss) (dep:Nat):Bool :=
 decide ((Au st).kind=.function) && !(Au st).isCoroutine && !(Au st).isGenerator && decide N.Nodup && decide (N.take ps.length=ps) && ps.all (fun x=>decide ((Au st).names.lookup x=some .local\/(Au st).names.lookup x=some .cell)) && (Au st).names.all (fun y=>decide (y.2 ≠ .free)) && ckSs ⟨N,Au st,true,true,true⟩ b (AY st) && (msSs (aam N.length .dead) dep b (m0 ps.length N.length)).isSome
theorem Gd {N ps:List Str} {st:Stmt} {b:Ss} {dep:Nat} (h:dfB N ps st b dep=true):FnScope N ps (Au st)/\ckSs ⟨N,Au st,true,true,true⟩ b (AY st)=true/\(msSs (aam N.length .dead) dep b (m0 ps.length N.length)).isSome=true:=by
 unfold dfB at h
 simp only [aah,decide_eq_true_eq,aaw,acm] at h
 obtain ⟨⟨⟨⟨⟨⟨⟨⟨h1,h2⟩,h3⟩,h4⟩,h5⟩,h6⟩,h7⟩,h8⟩,h9⟩:=h
 exact ⟨⟨h1,h2,h3,h4,h5,h6,h7⟩,h8,h9⟩
theorem Ah {L:Lw} (O:L.Ok) {x:Str} {st:Stmt} {N ps:List Str} {lv dep:Nat} {b:Ss} (D:Df L.p.K L.mg x st ps) (h:dfB N ps st b dep=true) (hn:AllN (NeedG L lv) b.need):RH L (An x ps.length (lv + 1) dep N.length b) :=
 TY O D (Gd h).1 rfl (Gd h).2.1 (Gd h).2.2 hn
theorem TZ {l:PySem.W.OpenLaw} {w:World} {K:Frag} {h:Heap} {mg:Str->Option Value} {fa:Addr} {cs:Cs'} {x:Str} {st:Stmt} {N:List Str} {lv dep:Nat} {b:Ss} (X:K.In h) (G:h.Ns mainGlobals mg) (hfa:mg "law" = some (.ref fa)) (t:Ap K "law" st) (hck:dfB N [x] st b dep=true)
  (hb:∀ (kV dc pm:Value) (an:Option Addr) (cd ct:Value) (s:Shared) (v:Value),BindsTo s (fnOf "law" "law" (Co st) (AY st) (Au st) .none kV dc pm an cd ct) ⟨[v],[]⟩ [(x,v)])
  (O:∀ base:Heap,Lw.Ok ⟨⟨K,clA cs,DH cs⟩,l.prog,w,mg,base⟩) (hn:∀ base:Heap,AllN (NeedG ⟨⟨K,clA cs,DH cs⟩,l.prog,w,mg,base⟩ lv) b.need) (nl:noL K=true)
  (hden:∀ ns:List Int,ns.length<=63->(An "law" 1 (lv + 1) dep N.length b).den [.lst (ns.map .int)]=.ok (.bl true)) :
  ∃ fd:FuncData,(∀ (s:Shared) (v:Value),BindsTo s fd ⟨[v],[]⟩ [(x,v)])/\∀ base:Heap,K.In base->base.Ns mainGlobals mg->FnOk l.prog w K mg base (CXe l.prog w) (lv + 1) fa fd [x] (spL K):=by
 obtain ⟨f,oc,od,an,sl,kV,dc,pm,cd,ct,a,l',c,k⟩:=t
 have e:=hfa.symm.trans (mg_of X G a)
 cases e
 refine ⟨_,hb kV dc pm an cd ct,fun base _ _=>?_⟩
 exact VG (F:=An "law" 1 (lv + 1) dep N.length b) (PY (L:=⟨⟨K,clA cs,DH cs⟩,l.prog,w,mg,base⟩) (O base) (Pf (st:=st) l' c k) (Gd hck).1 rfl (Gd hck).2.1 (Gd hck).2.2 (hn base)) rfl rfl nl hden
end Pu
end
namespace Pu
open PySem PySem.Spec PyProof.Rows PySem.W L2
noncomputable def IV:Ss :=
 (.cons (.ret (.bo true (.cons (.isi (.nm 0) .int) (.cons (.not (.isi (.nm 0) .bool)) .nil))))
 .nil)
noncomputable def HI:Fn:=An "is_whole" 1 1 9 1 IV
noncomputable def DR:Ss :=
 (.cons (.ret (.bo true (.cons (.call HI (.cons (.nm 0) .nil)) (.cons (.chain .le .le (.nm 1) (.nm 0) (.nm 2)) .nil))))
 .nil)
noncomputable def Ci:Fn:=An "is_between" 3 2 9 3 DR
theorem KJ (ds:List D) (h:ds.length=3):Ci.den ds=run 3 DR ds:=Af h
noncomputable def Cv:Ss :=
 (.cons (.mut 2 [] .append (.cons (.nm 3) .nil))
 (.cons (.asg 3 0 (.bin .fdiv (.bin .sub (.bin .add (.nm 3) (.nm 1)) (.cI 1)) (.nm 1)))
 .nil))
noncomputable def Fo:Ss :=
 (.cons (.asg 1 0 (.ix (.nm 0) (.cI 1)))
 (.cons (.asg 2 2 (.lst .nil))
 (.cons (.asg 3 0 (.ix (.nm 0) (.cI 0)))
 (.cons (.dem 2 1)
 (.cons (.wh (.cmp .gt (.nm 3) (.cI 1))
 Cv)
 (.cons (.iff (.cmp .eq (.nm 3) (.cI 1))
 (.cons (.mut 2 [] .append (.cons (.nm 3) .nil))
 .nil)
 .nil)
 (.cons (.ret (.nm 2))
 .nil)))))))
noncomputable def CO:Fn:=An "levels" 1 1 1 4 Fo
theorem Ky (ds:List D) (h:ds.length=1):CO.den ds=run 4 Fo ds:=Af h
noncomputable def AZ:Ss :=
 (.cons (.iff (.bo false (.cons (.not (.isi (.nm 1) .tuple)) (.cons (.cmp .ne (.bi .len (.cons (.nm 1) .nil)) (.cI 2)) .nil)))
 (.cons (.ret (.cB false))
 .nil)
 .nil)
 (.cons (.iff (.not (.call Ci (.cons (.ix (.nm 1) (.cI 0)) (.cons (.cI 0) (.cons (.bin .sub (.bi .len (.cons (.nm 0) .nil)) (.cI 1)) .nil)))))
 (.cons (.ret (.cB false))
 .nil)
 .nil)
 (.cons (.ret (.call Ci (.cons (.ix (.nm 1) (.cI 1)) (.cons (.cI 0) (.cons (.bin .sub (.ix (.nm 0) (.ix (.nm 1) (.cI 0))) (.cI 1)) .nil)))))
 .nil)))
noncomputable def AN:Fn:=An "is_counted_node" 2 3 9 2 AZ
theorem EB (ds:List D) (h:ds.length=2):AN.den ds=run 2 AZ ds:=Af h
noncomputable def EC:Ss :=
 (.cons (.ret (.call AN (.cons (.call CO (.cons (.nm 0) .nil)) (.cons (.nm 1) .nil))))
 .nil)
noncomputable def DS:Fn:=An "is_node" 2 4 9 2 EC
theorem IW (ds:List D) (h:ds.length=2):DS.den ds=run 2 EC ds:=Af h
noncomputable def DT:Ss :=
 (.cons (.iff (.not (.call DS (.cons (.nm 0) (.cons (.nm 1) .nil))))
 (.cons (.raise 2 (.cons (.cS "this is no node of the shape") .nil))
 .nil)
 .nil)
 .nil)
noncomputable def Cj:Fn:=An "check_node" 2 5 9 2 DT
theorem KM (ds:List D) (h:ds.length=2):Cj.den ds=run 2 DT ds:=Af h
noncomputable def FJ:Ss :=
 (.cons (.asg 2 0 (.bin .mul (.nm 2) (.ix (.nm 0) (.cI 1))))
 .nil)
noncomputable def IX:Ss :=
 (.cons (.expr (.call Cj (.cons (.nm 0) (.cons (.nm 1) .nil))))
 (.cons (.asg 2 0 (.cI 1))
 (.cons (.for_ (.nm 3) (.r1 (.ix (.nm 1) (.cI 0)))
 FJ)
 (.cons (.asg 4 0 (.bin .mul (.ix (.nm 1) (.cI 1)) (.nm 2)))
 (.cons (.ret (.tup (.cons (.nm 4) (.cons (.bi .min (.cons (.bin .add (.nm 4) (.nm 2)) (.cons (.ix (.nm 0) (.cI 0)) .nil))) .nil))))
 .nil)))))
noncomputable def BG:Fn:=An "span" 2 6 0 5 IX
theorem T0 (ds:List D) (h:ds.length=2):BG.den ds=run 5 IX ds:=Af h
noncomputable def Le:Ss :=
 (.cons (.asg 1 1 (.call CO (.cons (.nm 0) .nil)))
 (.cons (.iff (.cmp .eq (.nm 1) (.lst .nil))
 (.cons (.ret .cN)
 .nil)
 .nil)
 (.cons (.ret (.tup (.cons (.bin .sub (.bi .len (.cons (.nm 1) .nil)) (.cI 1)) (.cons (.cI 0) .nil))))
 .nil)))
noncomputable def IY:Fn:=An "top" 1 2 1 2 Le
theorem VI (ds:List D) (h:ds.length=1):IY.den ds=run 2 Le ds:=Af h
noncomputable def Fp:Ss :=
 (.cons (.expr (.call Cj (.cons (.nm 0) (.cons (.nm 1) .nil))))
 (.cons (.iff (.cmp .eq (.nm 1) (.call IY (.cons (.nm 0) .nil)))
 (.cons (.ret .cN)
 .nil)
 .nil)
 (.cons (.ret (.tup (.cons (.bin .add (.ix (.nm 1) (.cI 0)) (.cI 1)) (.cons (.bin .fdiv (.ix (.nm 1) (.cI 1)) (.ix (.nm 0) (.cI 1))) .nil))))
 .nil)))
noncomputable def CP:Fn:=An "parent" 2 6 1 2 Fp
theorem Kz (ds:List D) (h:ds.length=2):CP.den ds=run 2 Fp ds:=Af h
noncomputable def DU:Ss :=
 (.cons (.expr (.call Cj (.cons (.nm 0) (.cons (.nm 1) .nil))))
 (.cons (.iff (.cmp .eq (.ix (.nm 1) (.cI 0)) (.cI 0))
 (.cons (.ret (.lst .nil))
 .nil)
 .nil)
 (.cons (.asg 2 0 (.bin .sub (.ix (.nm 1) (.cI 0)) (.cI 1)))
 (.cons (.asg 3 0 (.bin .mul (.ix (.nm 1) (.cI 1)) (.ix (.nm 0) (.cI 1))))
 (.cons (.asg 4 0 (.bi .min (.cons (.bin .add (.nm 3) (.ix (.nm 0) (.cI 1))) (.cons (.ix (.call CO (.cons (.nm 0) .nil)) (.nm 2)) .nil))))
 (.cons (.ret (.comp0 1 [2] (.nm 0) (.r2 (.nm 3) (.nm 4)) (.tup (.cons (.nm 1) (.cons (.nm 0) .nil)))))
 .nil))))))
noncomputable def Bw:Fn:=An "children" 2 6 1 5 DU
theorem HJ (ds:List D) (h:ds.length=2):Bw.den ds=run 5 DU ds:=Af h
noncomputable def Ew:Ss :=
 (.cons (.ret (.comp0 1 [] (.nm 0) (.seq (.nm 0)) (.bi .len (.cons (.nm 0) .nil))))
 .nil)
noncomputable def Fq:Fn:=An "counts_of" 1 1 9 1 Ew
theorem Me (ds:List D) (h:ds.length=1):Fq.den ds=run 1 Ew ds:=Af h
noncomputable def EW:Ss :=
 (.cons (.iff (.cmp .eq (.nm 0) (.lst .nil))
 (.cons (.ret (.lst .nil))
 .nil)
 .nil)
 (.cons (.ret (.bi .list (.cons (.ix (.nm 0) (.cI 0)) .nil)))
 .nil))
noncomputable def Cw:Fn:=An "rooms_of" 1 1 1 1 EW
theorem ML (ds:List D) (h:ds.length=1):Cw.den ds=run 1 EW ds:=Af h
noncomputable def EY:Ss :=
 (.cons (.ret (.tup (.cons (.bi .len (.cons (.call Cw (.cons (.nm 0) .nil)) .nil)) (.cons (.nm 1) .nil))))
 .nil)
noncomputable def AT:Fn:=An "shape_of" 2 2 0 2 EY
theorem MM (ds:List D) (h:ds.length=2):AT.den ds=run 2 EY ds:=Af h
noncomputable def DV:Ss :=
 (.cons (.ret (.call AN (.cons (.call Fq (.cons (.nm 0) .nil)) (.cons (.nm 1) .nil))))
 .nil)
noncomputable def Dr:Fn:=An "has_node" 2 4 9 2 DV
theorem HK (ds:List D) (h:ds.length=2):Dr.den ds=run 2 DV ds:=Af h
noncomputable def Ca:Ss :=
 (.cons (.iff (.not (.call Dr (.cons (.nm 0) (.cons (.nm 1) .nil))))
 (.cons (.raise 2 (.cons (.cS "this is no node of the tree") .nil))
 .nil)
 .nil)
 .nil)
noncomputable def Dj:Fn:=An "check_has_node" 2 5 9 2 Ca
theorem HB (ds:List D) (h:ds.length=2):Dj.den ds=run 2 Ca ds:=Af h
noncomputable def Ht:Ss :=
 (.cons (.expr (.call Dj (.cons (.nm 0) (.cons (.nm 1) .nil))))
 (.cons (.ret (.ix (.ix (.nm 0) (.ix (.nm 1) (.cI 0))) (.ix (.nm 1) (.cI 1))))
 .nil))
noncomputable def AL:Fn:=An "tells" 2 6 0 2 Ht
theorem RI (ds:List D) (h:ds.length=2):AL.den ds=run 2 Ht ds:=Af h
noncomputable def Ex:Ss :=
 (.cons (.ret (.comp0 1 [0] (.nm 0) (.seq (.nm 1)) (.tup (.cons (.ix (.nm 0) (.cI 0)) (.cons (.ix (.nm 0) (.cI 1)) (.cons (.call AL (.cons (.nm 1) (.cons (.nm 0) .nil))) .nil))))))
 .nil)
noncomputable def BT:Fn:=An "with_told" 2 7 1 2 Ex
theorem Mf (ds:List D) (h:ds.length=2):BT.den ds=run 2 Ex ds:=Af h
theorem Mg:BT.dep=1:=rfl
noncomputable def Ck:Ss :=
 (.cons (.iff (.isN false (.nm 2))
 (.cons (.ret (.tup (.cons (.nm 1) (.cons (.ix (.nm 0) (.cI 0)) .nil))))
 .nil)
 .nil)
 (.cons (.ret (.tup (.cons (.nm 1) (.cons (.nm 2) .nil))))
 .nil))
noncomputable def AG:Fn:=An "pages_up_to" 3 1 0 3 Ck
theorem JJ (ds:List D) (h:ds.length=3):AG.den ds=run 3 Ck ds:=Af h
theorem Ge:AG.dep=0:=rfl
noncomputable def A7:Ss :=
 (.cons (.asg 5 0 (.tup (.cons (.ix (.nm 4) (.cI 0)) (.cons (.ix (.nm 4) (.cI 1)) .nil))))
 (.cons (.iff (.bo false (.cons (.not (.call DS (.cons (.nm 0) (.cons (.nm 5) .nil)))) (.cons (.cmp .ne (.ix (.call BG (.cons (.nm 0) (.cons (.nm 5) .nil))) (.cI 0)) (.nm 3)) .nil)))
 (.cons (.ret (.cB false))
 .nil)
 .nil)
 (.cons (.asg 3 0 (.ix (.call BG (.cons (.nm 0) (.cons (.nm 5) .nil))) (.cI 1)))
 .nil)))
noncomputable def Ds:Ss :=
 (.cons (.asg 3 0 (.ix (.nm 1) (.cI 0)))
 (.cons (.for_ (.nm 4) (.seq (.nm 2))
 A7)
 (.cons (.ret (.cmp .eq (.nm 3) (.ix (.nm 1) (.cI 1))))
 .nil)))
noncomputable def CQ:Fn:=An "lies_over" 3 7 9 6 Ds
theorem Mh (ds:List D) (h:ds.length=3):CQ.den ds=run 6 Ds ds:=Af h
noncomputable def Dt:Ss :=
 (.cons (.ret (.bo true (.cons (.call CQ (.cons (.nm 0) (.cons (.nm 2) (.cons (.nm 3) .nil)))) (.cons (.bi .all (.cons (.comp0 1 [1] (.nm 0) (.seq (.nm 3)) (.cmp .lt (.ix (.nm 0) (.cI 2)) (.nm 1))) .nil)) .nil))))
 .nil)
noncomputable def Bf:Fn:=An "rules_out" 4 8 9 4 Dt
theorem Mi (ds:List D) (h:ds.length=4):Bf.den ds=run 4 Dt ds:=Af h
noncomputable def DA:Ss :=
 (.cons (.ret (.call Bf (.cons (.nm 0) (.cons (.nm 1) (.cons (.call AG (.cons (.nm 0) (.cons (.cI 0) (.cons (.nm 2) .nil)))) (.cons (.nm 3) .nil))))))
 .nil)
noncomputable def AO:Fn:=An "shows_first" 4 9 9 4 DA
theorem JK (ds:List D) (h:ds.length=4):AO.den ds=run 4 DA ds:=Af h
theorem JL:AO.dep=9:=rfl
noncomputable def CC:Ss :=
 (.cons (.ret (.call Bf (.cons (.nm 0) (.cons (.nm 1) (.cons (.call AG (.cons (.nm 0) (.cons (.nm 2) (.cons (.nm 3) .nil)))) (.cons (.nm 4) .nil))))))
 .nil)
noncomputable def AC:Fn:=An "shows_further" 5 9 9 5 CC
theorem HY (ds:List D) (h:ds.length=5):AC.den ds=run 5 CC ds:=Af h
theorem HZ:AC.dep=9:=rfl
noncomputable def By:Ss :=
 (.cons (.iff (.isN false (.nm 2))
 (.cons (.ret (.tup (.cons (.cI 0) (.cons (.ix (.nm 0) (.cI 0)) .nil))))
 .nil)
 .nil)
 (.cons (.asg 3 0 (.bi .abs (.cons (.bin .sub (.nm 2) (.nm 1)) .nil)))
 (.cons (.iff (.cmp .lt (.nm 2) (.nm 1))
 (.cons (.ret (.tup (.cons (.bin .add (.nm 2) (.cI 1)) (.cons (.bi .min (.cons (.bin .add (.nm 1) (.nm 3)) (.cons (.ix (.nm 0) (.cI 0)) .nil))) .nil))))
 .nil)
 .nil)
 (.cons (.ret (.tup (.cons (.bi .max (.cons (.bin .sub (.nm 1) (.nm 3)) (.cons (.cI 0) .nil))) (.cons (.nm 2) .nil))))
 .nil))))
noncomputable def Bm:Fn:=An "nearer_pages" 3 1 0 4 By
theorem IZ (ds:List D) (h:ds.length=3):Bm.den ds=run 4 By ds:=Af h
theorem I0:Bm.dep=0:=rfl
noncomputable def DW:Ss :=
 (.cons (.ret (.call Bf (.cons (.nm 0) (.cons (.nm 1) (.cons (.call Bm (.cons (.nm 0) (.cons (.nm 2) (.cons (.nm 3) .nil)))) (.cons (.nm 4) .nil))))))
 .nil)
noncomputable def A4:Fn:=An "shows_near" 5 9 9 5 DW
theorem KN (ds:List D) (h:ds.length=5):A4.den ds=run 5 DW ds:=Af h
theorem KO:A4.dep=9:=rfl
noncomputable def Du:Ss :=
 (.cons (.asg 2 1 (.comp1 1 [0] (.nm 0) (.seq (.nm 1)) (.bo true (.cons (.cmp .eq (.ix (.nm 0) (.cI 0)) (.cI 0)) (.cons (.cmp .ge (.ix (.nm 0) (.cI 2)) (.nm 1)) .nil))) (.nm 0)))
 (.cons (.iff (.cmp .eq (.nm 2) (.lst .nil))
 (.cons (.ret .cN)
 .nil)
 .nil)
 (.cons (.asg 3 0 (.bi .minL (.cons (.comp0 1 [] (.nm 0) (.seqL (.nm 2)) (.ix (.nm 0) (.cI 2))) .nil)))
 (.cons (.ret (.ix (.comp1 1 [3] (.nm 0) (.seqL (.nm 2)) (.cmp .eq (.ix (.nm 0) (.cI 2)) (.nm 1)) (.ix (.nm 0) (.cI 1))) (.cI 0)))
 .nil))))
noncomputable def Fs:Fn:=An "best_told" 2 1 0 4 Du
theorem G5 (ds:List D) (h:ds.length=2):Fs.den ds=run 4 Du ds:=Af h
noncomputable def DX:Ss :=
 (.cons (.iff (.not (.call CQ (.cons (.nm 0) (.cons (.tup (.cons (.cI 0) (.cons (.ix (.nm 0) (.cI 0)) .nil))) (.cons (.nm 3) .nil)))))
 (.cons (.ret (.cB false))
 .nil)
 .nil)
 (.cons (.iff (.not (.bi .all (.cons (.comp1 1 [1] (.nm 0) (.seq (.nm 3)) (.cmp .gt (.ix (.nm 0) (.cI 0)) (.cI 0)) (.cmp .lt (.ix (.nm 0) (.cI 2)) (.nm 1))) .nil)))
 (.cons (.ret (.cB false))
 .nil)
 .nil)
 (.cons (.ret (.cmp .eq (.nm 2) (.call Fs (.cons (.nm 1) (.cons (.nm 3) .nil)))))
 .nil)))
noncomputable def EH:Fn:=An "shows_best" 4 8 9 4 DX
theorem KP (ds:List D) (h:ds.length=4):EH.den ds=run 4 DX ds:=Af h
noncomputable def FK:Ss :=
 (.cons (.asg 2 0 (.tup (.cons (.ix (.nm 1) (.cI 0)) (.cons (.ix (.nm 1) (.cI 1)) .nil))))
 (.cons (.ret (.bo true (.cons (.call Dr (.cons (.nm 0) (.cons (.nm 2) .nil))) (.cons (.cmp .eq (.call AL (.cons (.nm 0) (.cons (.nm 2) .nil))) (.ix (.nm 1) (.cI 2))) .nil))))
 .nil))
noncomputable def C9:Fn:=An "is_true" 2 7 9 3 FK
theorem Op (ds:List D) (h:ds.length=2):C9.den ds=run 3 FK ds:=Af h
noncomputable def Gw:Ss :=
 (.cons (.ret (.bi .all (.cons (.comp0 1 [0] (.nm 0) (.seq (.nm 1)) (.call C9 (.cons (.nm 1) (.cons (.nm 0) .nil)))) .nil)))
 .nil)
noncomputable def BJ:Fn:=An "honest" 2 8 9 2 Gw
theorem P0 (ds:List D) (h:ds.length=2):BJ.den ds=run 2 Gw ds:=Af h
theorem P5:BJ.dep=9:=rfl
noncomputable def DB:Ss :=
 (.cons (.ret (.bo true (.cons (.cmp .le (.nm 1) (.ix (.nm 0) (.cI 0))) (.cons (.cmp .le (.ix (.nm 0) (.cI 1)) (.nm 2)) .nil))))
 .nil)
noncomputable def Bz:Fn:=An "lies_within" 3 1 9 3 DB
theorem JM (ds:List D) (h:ds.length=3):Bz.den ds=run 3 DB ds:=Af h
noncomputable def BC:Ss :=
 (.cons (.dem 4 0)
 (.cons (.asg 3 0 (.nm 4))
 (.cons (.asg 4 1 (.call CP (.cons (.nm 0) (.cons (.nm 3) .nil))))
 .nil)))
noncomputable def Cb:Ss :=
 (.cons (.asg 3 0 (.tup (.cons (.cI 0) (.cons (.nm 1) .nil))))
 (.cons (.asg 4 1 (.call CP (.cons (.nm 0) (.cons (.nm 3) .nil))))
 (.cons (.wh (.bo true (.cons (.isN true (.nm 4)) (.cons (.call Bz (.cons (.callB BG (.cons (.nm 0) (.cons (.nm 4) .nil))) (.cons (.nm 1) (.cons (.nm 2) .nil)))) .nil)))
 BC)
 (.cons (.ret (.nm 3))
 .nil))))
noncomputable def Dk:Fn:=An "highest_within" 3 7 0 5 Cb
theorem HC (ds:List D) (h:ds.length=3):Dk.den ds=run 5 Cb ds:=Af h
noncomputable def EZ:Ss :=
 (.cons (.asg 5 0 (.call Dk (.cons (.nm 0) (.cons (.nm 4) (.cons (.nm 2) .nil)))))
 (.cons (.mut 3 [] .append (.cons (.nm 5) .nil))
 (.cons (.asg 4 0 (.ix (.call BG (.cons (.nm 0) (.cons (.nm 5) .nil))) (.cI 1)))
 .nil)))
noncomputable def Hu:Ss :=
 (.cons (.iff (.bo false (.cons (.cmp .lt (.nm 1) (.cI 0)) (.cons (.cmp .gt (.nm 2) (.ix (.nm 0) (.cI 0))) (.cons (.cmp .gt (.nm 1) (.nm 2)) .nil))))
 (.cons (.raise 3 (.cons (.cS "these are no pages of the shape") .nil))
 .nil)
 .nil)
 (.cons (.asg 3 2 (.lst .nil))
 (.cons (.asg 4 0 (.nm 1))
 (.cons (.dem 3 1)
 (.cons (.wh (.cmp .lt (.nm 4) (.nm 2))
 EZ)
 (.cons (.ret (.nm 3))
 .nil))))))
noncomputable def DI:Fn:=An "cover" 3 8 1 6 Hu
theorem RJ (ds:List D) (h:ds.length=3):DI.den ds=run 6 Hu ds:=Af h
noncomputable def DY:Ss :=
 (.cons (.iff (.not (.call Ci (.cons (.nm 1) (.cons (.cI 0) (.cons (.bin .sub (.ix (.nm 0) (.cI 0)) (.cI 1)) .nil)))))
 (.cons (.raise 3 (.cons (.cS "this is no page of the shape") .nil))
 .nil)
 .nil)
 .nil)
noncomputable def EI:Fn:=An "check_page" 2 3 9 2 DY
theorem KQ (ds:List D) (h:ds.length=2):EI.den ds=run 2 DY ds:=Af h
noncomputable def AH:Ss :=
 (.cons (.mut 3 [] .append (.cons (.nm 4) .nil))
 (.cons (.iff (.cmp .ge (.call AL (.cons (.nm 0) (.cons (.nm 4) .nil))) (.nm 1))
 (.cons (.ret (.nm 3))
 .nil)
 .nil)
 .nil))
noncomputable def BU:Ss :=
 (.cons (.asg 3 2 (.lst .nil))
 (.cons (.dem 3 1)
 (.cons (.for_ (.nm 4) (.seq (.nm 2))
 AH)
 (.cons (.ret (.nm 3))
 .nil))))
noncomputable def CD:Fn:=An "up_to_enough" 3 7 1 5 BU
theorem Ja (ds:List D) (h:ds.length=3):CD.den ds=run 5 BU ds:=Af h
theorem Jb:CD.dep=1:=rfl
noncomputable def Cy:Ss :=
 (.cons (.asg 7 1 (.callB CD (.cons (.nm 0) (.cons (.nm 2) (.cons (.nm 6) .nil)))))
 (.cons (.dem 7 0)
 (.cons (.dem 5 1)
 (.cons (.mut 5 [] .extend (.cons (.nm 7) .nil))
 (.cons (.iff (.cmp .lt (.call AL (.cons (.nm 0) (.cons (.ix (.nm 7) (.neg (.cI 1))) .nil))) (.nm 2))
 (.cons (.ret (.nm 5))
 .nil)
 .nil)
 (.cons (.asg 6 1 (.call Bw (.cons (.nm 4) (.cons (.ix (.nm 7) (.neg (.cI 1))) .nil))))
 .nil))))))
noncomputable def Fu:Ss :=
 (.cons (.asg 4 0 (.call AT (.cons (.nm 0) (.cons (.nm 1) .nil))))
 (.cons (.asg 5 2 (.lst .nil))
 (.cons (.asg 6 1 (.call DI (.cons (.nm 4) (.cons (.nm 3) (.cons (.ix (.nm 4) (.cI 0)) .nil)))))
 (.cons (.dem 5 1)
 (.cons (.wh (.cmp .ne (.nm 6) (.lst .nil))
 Cy)
 (.cons (.ret (.nm 5))
 .nil))))))
noncomputable def FL:Fn:=An "walked" 4 9 1 8 Fu
theorem P6 (ds:List D) (h:ds.length=4):FL.den ds=run 8 Fu ds:=Af h
noncomputable def CS:Ss :=
 (.cons (.asg 4 1 (.call FL (.cons (.nm 0) (.cons (.nm 1) (.cons (.nm 2) (.cons (.nm 3) .nil))))))
 (.cons (.iff (.bo false (.cons (.cmp .eq (.nm 4) (.lst .nil)) (.cons (.cmp .lt (.call AL (.cons (.nm 0) (.cons (.ixL (.nm 4) (.neg (.cI 1))) .nil))) (.nm 2)) .nil)))
 (.cons (.ret .cN)
 .nil)
 .nil)
 (.cons (.ret (.ix (.ixL (.nm 4) (.neg (.cI 1))) (.cI 1)))
 .nil)))
noncomputable def Cl:Fn:=An "first_from" 4 10 0 5 CS
theorem KR (ds:List D) (h:ds.length=4):Cl.den ds=run 5 CS ds:=Af h
noncomputable def Hv:Ss :=
 (.cons (.ret (.call Cl (.cons (.nm 0) (.cons (.nm 1) (.cons (.nm 2) (.cons (.cI 0) .nil))))))
 .nil)
noncomputable def Cc:Fn:=An "first" 3 11 0 3 Hv
theorem RK (ds:List D) (h:ds.length=3):Cc.den ds=run 3 Hv ds:=Af h
theorem Mj:Cc.dep=0:=rfl
noncomputable def Az:Ss :=
 (.cons (.iff (.cmp .ge (.call AL (.cons (.nm 0) (.cons (.nm 3) .nil))) (.nm 1))
 (.cons (.ret (.nm 3))
 .nil)
 .nil)
 .nil)
noncomputable def Cm:Ss :=
 (.cons (.for_ (.nm 3) (.rv (.nm 2))
 Az)
 (.cons (.ret .cN)
 .nil))
noncomputable def A8:Fn:=An "last_enough" 3 7 0 4 Cm
theorem JN (ds:List D) (h:ds.length=3):A8.den ds=run 4 Cm ds:=Af h
noncomputable def CF:Ss :=
 (.cons (.asg 5 0 (.call A8 (.cons (.nm 0) (.cons (.nm 2) (.cons (.call Bw (.cons (.nm 4) (.cons (.nm 5) .nil))) .nil)))))
 .nil)
noncomputable def CT:Ss :=
 (.cons (.asg 4 0 (.call AT (.cons (.nm 0) (.cons (.nm 1) .nil))))
 (.cons (.asg 5 0 (.call A8 (.cons (.nm 0) (.cons (.nm 2) (.cons (.call DI (.cons (.nm 4) (.cons (.cI 0) (.cons (.nm 3) .nil)))) .nil)))))
 (.cons (.wh (.bo true (.cons (.isN true (.nm 5)) (.cons (.cmp .gt (.ix (.nm 5) (.cI 0)) (.cI 0)) .nil)))
 CF)
 (.cons (.iff (.isN false (.nm 5))
 (.cons (.ret .cN)
 .nil)
 .nil)
 (.cons (.ret (.ix (.nm 5) (.cI 1)))
 .nil)))))
noncomputable def Cn:Fn:=An "last_ahead" 4 9 0 6 CT
theorem GD (ds:List D) (h:ds.length=4):Cn.den ds=run 6 CT ds:=Af h
noncomputable def FM:Ss :=
 (.cons (.expr (.call EI (.cons (.call AT (.cons (.nm 0) (.cons (.nm 1) .nil))) (.cons (.nm 3) .nil))))
 (.cons (.ret (.call Cl (.cons (.nm 0) (.cons (.nm 1) (.cons (.nm 2) (.cons (.nm 3) .nil))))))
 .nil))
noncomputable def AJ:Fn:=An "further" 4 11 0 4 FM
theorem Oq (ds:List D) (h:ds.length=4):AJ.den ds=run 4 FM ds:=Af h
theorem Jc:AJ.dep=0:=rfl
noncomputable def Fv:Ss :=
 (.cons (.asg 4 0 (.call AJ (.cons (.nm 0) (.cons (.nm 1) (.cons (.nm 2) (.cons (.nm 3) .nil))))))
 (.cons (.asg 5 0 (.call Cn (.cons (.nm 0) (.cons (.nm 1) (.cons (.nm 2) (.cons (.nm 3) .nil))))))
 (.cons (.iff (.isN false (.nm 5))
 (.cons (.ret (.nm 4))
 .nil)
 .nil)
 (.cons (.iff (.bo false (.cons (.isN false (.nm 4)) (.cons (.cmp .le (.bin .sub (.nm 3) (.nm 5)) (.bin .sub (.nm 4) (.nm 3))) .nil)))
 (.cons (.ret (.nm 5))
 .nil)
 .nil)
 (.cons (.ret (.nm 4))
 .nil)))))
noncomputable def Da:Fn:=An "near" 4 12 0 6 Fv
theorem Hw (ds:List D) (h:ds.length=4):Da.den ds=run 6 Fv ds:=Af h
theorem Nu:Da.dep=0:=rfl
noncomputable def G6:Ss :=
 (.cons (.asg 3 1 (.call Cw (.cons (.nm 0) .nil)))
 (.cons (.asg 4 1 (.comp1 1 [2] (.nm 0) (.seqL (.nm 3)) (.cmp .ge (.nm 0) (.nm 1)) (.nm 0)))
 (.cons (.iff (.cmp .eq (.nm 4) (.lst .nil))
 (.cons (.ret .cN)
 .nil)
 .nil)
 (.cons (.ret (.mt .index (.nm 3) (.cons (.bi .minL (.cons (.nm 4) .nil)) .nil)))
 .nil))))
noncomputable def Gf:Fn:=An "best" 3 2 9 5 G6
theorem Nv (ds:List D) (h:ds.length=3):Gf.den ds=run 5 G6 ds:=Af h
noncomputable def DZ:Ss :=
 (.cons (.ret (.call BT (.cons (.nm 0) (.cons (.call DI (.cons (.call AT (.cons (.nm 0) (.cons (.nm 1) .nil))) (.cons (.ix (.nm 2) (.cI 0)) (.cons (.ix (.nm 2) (.cI 1)) .nil)))) .nil))))
 .nil)
noncomputable def BH:Fn:=An "paper_over" 3 9 1 3 DZ
theorem KS (ds:List D) (h:ds.length=3):BH.den ds=run 3 DZ ds:=Af h
noncomputable def DC:Ss :=
 (.cons (.asg 3 2 (.callB Cc (.cons (.nm 0) (.cons (.nm 1) (.cons (.nm 2) .nil)))))
 (.cons (.retT (.cons (.nm 3) (.cons (.call BH (.cons (.nm 0) (.cons (.nm 1) (.cons (.callB AG (.cons (.call AT (.cons (.nm 0) (.cons (.nm 1) .nil))) (.cons (.cI 0) (.cons (.nm 3) .nil)))) .nil)))) .nil)))
 .nil))
noncomputable def El:Fn:=An "first_paper" 3 12 1 4 DC
theorem JO (ds:List D) (h:ds.length=3):El.den ds=run 4 DC ds:=Af h
noncomputable def CG:Ss :=
 (.cons (.asg 4 2 (.callB AJ (.cons (.nm 0) (.cons (.nm 1) (.cons (.nm 2) (.cons (.nm 3) .nil))))))
 (.cons (.retT (.cons (.nm 4) (.cons (.call BH (.cons (.nm 0) (.cons (.nm 1) (.cons (.callB AG (.cons (.call AT (.cons (.nm 0) (.cons (.nm 1) .nil))) (.cons (.nm 3) (.cons (.nm 4) .nil)))) .nil)))) .nil)))
 .nil))
noncomputable def DJ:Fn:=An "further_paper" 4 12 1 5 CG
theorem Ia (ds:List D) (h:ds.length=4):DJ.den ds=run 5 CG ds:=Af h
noncomputable def D0:Ss :=
 (.cons (.asg 4 2 (.callB Da (.cons (.nm 0) (.cons (.nm 1) (.cons (.nm 2) (.cons (.nm 3) .nil))))))
 (.cons (.retT (.cons (.nm 4) (.cons (.call BH (.cons (.nm 0) (.cons (.nm 1) (.cons (.callB Bm (.cons (.call AT (.cons (.nm 0) (.cons (.nm 1) .nil))) (.cons (.nm 3) (.cons (.nm 4) .nil)))) .nil)))) .nil)))
 .nil))
noncomputable def EJ:Fn:=An "near_paper" 4 13 1 5 D0
theorem KT (ds:List D) (h:ds.length=4):EJ.den ds=run 5 D0 ds:=Af h
noncomputable def As:Ss :=
 (.cons (.asg 5 0 (.ix (.nm 4) (.cI 0)))
 (.cons (.asg 4 1 (.slc (.nm 4) (.cI 1) .cN))
 (.cons (.iff (.bo false (.cons (.cmp .eq (.ix (.nm 5) (.cI 0)) (.cI 0)) (.cons (.cmp .lt (.call AL (.cons (.nm 0) (.cons (.nm 5) .nil))) (.nm 2)) .nil)))
 (.cons (.mut 3 [] .append (.cons (.nm 5) .nil))
 .nil)
 (.cons (.asg 4 0 (.bin .add (.call Bw (.cons (.nm 1) (.cons (.nm 5) .nil))) (.nm 4)))
 .nil))
 .nil)))
noncomputable def AW:Ss :=
 (.cons (.iff (.cmp .eq (.ix (.nm 1) (.cI 0)) (.cI 0))
 (.cons (.ret (.lst .nil))
 .nil)
 .nil)
 (.cons (.asg 3 2 (.lst .nil))
 (.cons (.asg 4 2 (.lst (.cons (.call IY (.cons (.nm 1) .nil)) .nil)))
 (.cons (.dem 3 1)
 (.cons (.dem 4 0)
 (.cons (.wh (.cmp .ne (.nm 4) (.lst .nil))
 As)
 (.cons (.ret (.nm 3))
 .nil)))))))
noncomputable def Bu:Fn:=An "nodes_with_each_enough" 3 7 1 6 AW
theorem E0 (ds:List D) (h:ds.length=3):Bu.den ds=run 6 AW ds:=Af h
noncomputable def D1:Ss :=
 (.cons (.asg 3 1 (.call Bu (.cons (.nm 0) (.cons (.call AT (.cons (.nm 0) (.cons (.nm 1) .nil))) (.cons (.nm 2) .nil)))))
 (.cons (.ret (.tup (.cons (.call Gf (.cons (.nm 0) (.cons (.nm 1) (.cons (.nm 2) .nil)))) (.cons (.callB BT (.cons (.nm 0) (.cons (.nm 3) .nil))) .nil))))
 .nil))
noncomputable def EK:Fn:=An "best_paper" 3 8 1 4 D1
theorem KU (ds:List D) (h:ds.length=3):EK.den ds=run 4 D1 ds:=Af h
noncomputable def EL:Ss :=
 (.cons (.asg 2 0 (.bin .mod (.bin .add (.bin .add (.bin .mul (.nm 2) (.cI 48271)) (.bin .mod (.nm 3) (.cI 1000003))) (.cI 1)) (.cI 2147483647)))
 .nil)
noncomputable def D2:Ss :=
 (.cons (.iff (.cmp .lt (.nm 1) (.bi .len (.cons (.nm 0) .nil)))
 (.cons (.ret (.ix (.nm 0) (.nm 1)))
 .nil)
 .nil)
 (.cons (.asg 2 0 (.cI 5))
 (.cons (.for_ (.nm 3) (.seq (.slc (.nm 0) .cN (.cI 63)))
 EL)
 (.cons (.ret (.bin .mod (.bin .add (.nm 2) (.bin .mul (.cI 7919) (.nm 1))) (.cI 1000003)))
 .nil))))
noncomputable def Dv:Fn:=An "_law_cell" 2 1 0 4 D2
theorem MN (ds:List D) (h:ds.length=2):Dv.den ds=run 4 D2 ds:=Af h
noncomputable def DD:Ss :=
 (.cons (.asg 2 0 (.bin .mod (.bin .pow (.bin .add (.bin .add (.bin .mod (.nm 0) (.cI 2147483629)) (.bin .mul (.cI 1013) (.nm 1))) (.cI 7919)) (.cI 3)) (.cI 2147483647)))
 (.cons (.asg 3 0 (.bin .mod (.bin .add (.bin .add (.bin .mul (.nm 2) (.cI 40699)) (.bin .mul (.bin .mul (.cI 3793) (.nm 1)) (.nm 1))) (.cI 11)) (.cI 2147483399)))
 (.cons (.ret (.bin .fdiv (.nm 3) (.cI 101)))
 .nil)))
noncomputable def Db:Fn:=An "_law_mix" 2 1 1 4 DD
theorem JP (ds:List D) (h:ds.length=2):Db.den ds=run 4 DD ds:=Af h
noncomputable def AD:Ss :=
 (.cons (.iff (.cmp .lt (.nm 3) (.bin .pow (.cI 10) (.cI 18)))
 (.cons (.mut 5 [] .append (.cons (.bin .mod (.call Db (.cons (.nm 3) (.cons (.nm 6) .nil))) (.ix (.nm 2) (.nm 6))) .nil))
 .nil)
 (.cons (.iff (.cmp .gt (.nm 4) (.cI 0))
 (.cons (.mut 5 [] .append (.cons (.bin .mod (.nm 4) (.ix (.nm 2) (.nm 6))) .nil))
 (.cons (.asg 4 0 (.bin .fdiv (.nm 4) (.ix (.nm 2) (.nm 6))))
 .nil))
 (.cons (.asg 7 0 (.call Dv (.cons (.nm 0) (.cons (.bin .mod (.bin .add (.bin .add (.nm 1) (.cI 1)) (.nm 6)) (.cI 63)) .nil))))
 (.cons (.mut 5 [] .append (.cons (.bin .mod (.call Db (.cons (.nm 7) (.cons (.nm 6) .nil))) (.ix (.nm 2) (.nm 6))) .nil))
 .nil)))
 .nil))
 .nil)
noncomputable def DE:Ss :=
 (.cons (.asg 3 0 (.call Dv (.cons (.nm 0) (.cons (.nm 1) .nil))))
 (.cons (.asg 4 0 (.nm 3))
 (.cons (.asg 5 2 (.lst .nil))
 (.cons (.for_ (.nm 6) (.r1 (.bi .len (.cons (.nm 2) .nil)))
 AD)
 (.cons (.ret (.nm 5))
 .nil)))))
noncomputable def AQ:Fn:=An "_law_row" 3 2 2 8 DE
theorem JQ (ds:List D) (h:ds.length=3):AQ.den ds=run 8 DE ds:=Af h
noncomputable def Ay:Ss :=
 (.cons (.asg 7 0 (.ixL (.nm 3) (.bin .add (.cI 4) (.nm 6))))
 (.cons (.iff (.cmp .eq (.ixL (.nm 3) (.cI 2)) (.cI 1))
 (.cons (.asg 7 0 (.bin .mod (.nm 7) (.cI 3)))
 .nil)
 .nil)
 (.cons (.iff (.cmp .eq (.ixL (.nm 3) (.cI 2)) (.cI 2))
 (.cons (.asg 7 0 (.bin .mul (.ix (.lst (.cons (.cI 0) (.cons (.cI 0) (.cons (.cI 0) (.cons (.cI 1) .nil))))) (.bin .mod (.nm 7) (.cI 4))) (.bin .add (.cI 1) (.bin .fdiv (.nm 7) (.cI 4)))))
 .nil)
 .nil)
 (.cons (.iff (.cmp .eq (.ixL (.nm 3) (.cI 2)) (.cI 3))
 (.cons (.asg 7 0 (.bin .mod (.bin .add (.ixL (.nm 3) (.cI 3)) (.nm 6)) (.cI 13)))
 .nil)
 .nil)
 (.cons (.iff (.cmp .eq (.ixL (.nm 3) (.cI 2)) (.cI 4))
 (.cons (.asg 7 0 (.ixL (.nm 3) (.cI 3)))
 .nil)
 .nil)
 (.cons (.mut 5 [] .append (.cons (.bi .min (.cons (.bin .pow (.cI 10) (.cI 18)) (.cons (.bin .add (.bin .mul (.nm 7) (.nm 4)) (.bin .mul (.bi .int (.cons (.cmp .eq (.nm 7) (.cI 12)) .nil)) (.cI 4))) .nil))) .nil))
 .nil))))))
noncomputable def CI:Ss :=
 (.cons (.asg 3 2 (.call AQ (.cons (.nm 0) (.cons (.nm 1) (.cons (.bin .add (.lst (.cons (.bin .add (.nm 2) (.cI 1)) (.cons (.cI 5) (.cons (.cI 6) (.cons (.cI 13) .nil))))) (.bin .mul (.lst (.cons (.cI 13) .nil)) (.nm 2))) .nil)))))
 (.cons (.asg 4 0 (.ix (.lst (.cons (.cI 1) (.cons (.cI 1) (.cons (.cI 7) (.cons (.bin .pow (.cI 10) (.cI 6)) (.cons (.cI 83333333333333333) .nil)))))) (.ixL (.nm 3) (.cI 1))))
 (.cons (.asg 5 2 (.lst .nil))
 (.cons (.dem 3 1)
 (.cons (.for_ (.nm 6) (.r1 (.ixL (.nm 3) (.cI 0)))
 Ay)
 (.cons (.ret (.nm 5))
 .nil))))))
noncomputable def Cd:Fn:=An "_law_rooms" 3 3 2 8 CI
theorem Ib (ds:List D) (h:ds.length=3):Cd.den ds=run 8 CI ds:=Af h
noncomputable def DF:Ss :=
 (.cons (.ret (.bin .add (.cI 2) (.ix (.call AQ (.cons (.nm 0) (.cons (.nm 1) (.cons (.lst (.cons (.cI 7) .nil)) .nil)))) (.cI 0))))
 .nil)
noncomputable def Em:Fn:=An "_law_fan" 2 3 1 2 DF
theorem JR (ds:List D) (h:ds.length=2):Em.den ds=run 2 DF ds:=Af h
noncomputable def A9:Ss :=
 (.cons (.asg 3 2 (.call AQ (.cons (.nm 0) (.cons (.nm 1) (.cons (.lst (.cons (.cI 7) (.cons (.cI 200) (.cons (.cI 40) .nil)))) .nil)))))
 (.cons (.iff (.bo false (.cons (.cmp .eq (.ixL (.nm 3) (.cI 0)) (.cI 0)) (.cons (.cmp .eq (.bi .len (.cons (.nm 2) .nil)) (.cI 0)) .nil)))
 (.cons (.ret (.ix (.lst (.cons (.cI 0) (.cons (.cI 1) (.cons (.cI 2) (.cons (.bin .pow (.cI 10) (.cI 59)) .nil))))) (.bin .mod (.ixL (.nm 3) (.cI 1)) (.cI 4))))
 .nil)
 .nil)
 (.cons (.asg 4 0 (.ix (.nm 2) (.bin .mod (.ixL (.nm 3) (.cI 1)) (.bi .len (.cons (.nm 2) .nil)))))
 (.cons (.iff (.cmp .eq (.ixL (.nm 3) (.cI 0)) (.cI 1))
 (.cons (.ret (.bin .add (.bi .maxL (.cons (.nm 2) .nil)) (.bin .mod (.ixL (.nm 3) (.cI 2)) (.cI 2))))
 .nil)
 .nil)
 (.cons (.ret (.bi .max (.cons (.cI 0) (.cons (.bin .add (.nm 4) (.ixL (.lst (.cons (.cI 0) (.cons (.cI 0) (.cons (.cI 1) (.cons (.neg (.cI 1)) (.cons (.ixL (.nm 3) (.cI 2)) .nil)))))) (.bin .sub (.ixL (.nm 3) (.cI 0)) (.cI 2)))) .nil))))
 .nil)))))
noncomputable def D3:Fn:=An "_law_need" 3 3 0 5 A9
theorem CJ (ds:List D) (h:ds.length=3):D3.den ds=run 5 A9 ds:=Af h
noncomputable def A6:Ss :=
 (.cons (.mut 2 [] .append (.cons (.bin .fdiv (.bin .sub (.bin .add (.ixL (.nm 2) (.neg (.cI 1))) (.nm 1)) (.cI 1)) (.nm 1)) .nil))
 .nil)
noncomputable def Ce:Ss :=
 (.cons (.iff (.cmp .eq (.nm 0) (.cI 0))
 (.cons (.ret (.lst .nil))
 .nil)
 .nil)
 (.cons (.asg 2 1 (.lst (.cons (.nm 0) .nil)))
 (.cons (.wh (.cmp .gt (.ixL (.nm 2) (.neg (.cI 1))) (.cI 1))
 A6)
 (.cons (.ret (.nm 2))
 .nil))))
noncomputable def BQ:Fn:=An "_law_counts" 2 1 1 3 Ce
theorem HD (ds:List D) (h:ds.length=2):BQ.den ds=run 3 Ce ds:=Af h
noncomputable def BK:Ss :=
 (.cons (.asg 4 0 (.bin .mul (.nm 4) (.nm 1)))
 .nil)
noncomputable def CK:Ss :=
 (.cons (.asg 4 0 (.cI 1))
 (.cons (.for_ (.nm 5) (.r1 (.nm 2))
 BK)
 (.cons (.ret (.tup (.cons (.bin .mul (.nm 3) (.nm 4)) (.cons (.bi .min (.cons (.nm 0) (.cons (.bin .add (.bin .mul (.nm 3) (.nm 4)) (.nm 4)) .nil))) .nil))))
 .nil)))
noncomputable def DK:Fn:=An "_law_reach" 4 1 1 6 CK
theorem Ic (ds:List D) (h:ds.length=4):DK.den ds=run 6 CK ds:=Af h
noncomputable def Br:Ss :=
 (.cons (.asgT [7,8] (.call DK (.cons (.bi .len (.cons (.nm 0) .nil)) (.cons (.nm 1) (.cons (.nm 4) (.cons (.nm 6) .nil))))))
 (.cons (.mut 5 [] .append (.cons (.bi .maxL (.cons (.slc (.nm 0) (.nm 7) (.nm 8)) .nil)) .nil))
 .nil))
noncomputable def BR:Ss :=
 (.cons (.asg 5 2 (.lst .nil))
 (.cons (.for_ (.nm 6) (.r1 (.ixL (.nm 3) (.nm 4)))
 Br)
 (.cons (.mut 2 [] .append (.cons (.nm 5) .nil))
 .nil)))
noncomputable def Dc:Ss :=
 (.cons (.asg 2 2 (.lst .nil))
 (.cons (.asg 3 1 (.call BQ (.cons (.bi .len (.cons (.nm 0) .nil)) (.cons (.nm 1) .nil))))
 (.cons (.for_ (.nm 4) (.r1 (.bi .len (.cons (.nm 3) .nil)))
 BR)
 (.cons (.ret (.nm 2))
 .nil))))
noncomputable def Bo:Fn:=An "_law_tree" 2 2 2 9 Dc
theorem Jd (ds:List D) (h:ds.length=2):Bo.den ds=run 9 Dc ds:=Af h
theorem Je:Bo.dep=2:=rfl
noncomputable def AE:Ss :=
 (.cons (.asg 9 0 (.bi .min (.cons (.nm 0) (.cons (.bin .add (.nm 5) (.nm 6)) .nil))))
 (.cons (.iff (.bo true (.cons (.cmp .eq (.bin .mod (.nm 5) (.nm 6)) (.cI 0)) (.cons (.cmp .le (.nm 9) (.nm 3)) .nil)))
 (.cons (.asg 7 0 (.tup (.cons (.nm 8) (.cons (.bin .fdiv (.nm 5) (.nm 6)) (.cons (.nm 9) .nil)))))
 .nil)
 .nil)
 (.cons (.asg 6 0 (.bin .mul (.nm 6) (.nm 1)))
 .nil)))
noncomputable def BL:Ss :=
 (.cons (.asg 6 0 (.cI 1))
 (.cons (.asg 7 0 (.tup (.cons (.cI 0) (.cons (.nm 5) (.cons (.bin .add (.nm 5) (.cI 1)) .nil)))))
 (.cons (.for_ (.nm 8) (.r1 (.bi .len (.cons (.call BQ (.cons (.nm 0) (.cons (.nm 1) .nil))) .nil)))
 AE)
 (.cons (.mut 4 [] .append (.cons (.slc (.nm 7) .cN (.cI 2)) .nil))
 (.cons (.asg 5 0 (.ix (.nm 7) (.cI 2)))
 .nil)))))
noncomputable def CL:Ss :=
 (.cons (.asg 4 2 (.lst .nil))
 (.cons (.asg 5 0 (.nm 2))
 (.cons (.wh (.cmp .lt (.nm 5) (.nm 3))
 BL)
 (.cons (.ret (.nm 4))
 .nil))))
noncomputable def Ba:Fn:=An "_law_cover" 4 2 2 10 CL
theorem Id (ds:List D) (h:ds.length=4):Ba.den ds=run 10 CL ds:=Af h
noncomputable def CU:Ss :=
 (.cons (.iff (.isN false (.nm 2))
 (.cons (.ret (.tup (.cons (.cI 0) (.cons (.nm 0) .nil))))
 .nil)
 .nil)
 (.cons (.asg 3 0 (.bi .abs (.cons (.bin .sub (.nm 2) (.nm 1)) .nil)))
 (.cons (.asg 4 1 (.comp1 1 [3,2,1] (.nm 0) (.r1 (.nm 0)) (.bo false (.cons (.cmp .lt (.bi .abs (.cons (.bin .sub (.nm 0) (.nm 3)) .nil)) (.nm 1)) (.cons (.bo true (.cons (.cmp .eq (.bi .abs (.cons (.bin .sub (.nm 0) (.nm 3)) .nil)) (.nm 1)) (.cons (.cmp .lt (.nm 0) (.nm 2)) .nil))) .nil))) (.nm 0)))
 (.cons (.iff (.cmp .eq (.nm 4) (.lst .nil))
 (.cons (.ret (.tup (.cons (.cI 0) (.cons (.cI 0) .nil))))
 .nil)
 .nil)
 (.cons (.ret (.tup (.cons (.ixL (.nm 4) (.cI 0)) (.cons (.bin .add (.ixL (.nm 4) (.neg (.cI 1))) (.cI 1)) .nil))))
 .nil)))))
noncomputable def EM:Fn:=An "_law_nearer" 3 1 0 5 CU
theorem KW (ds:List D) (h:ds.length=3):EM.den ds=run 5 CU ds:=Af h
noncomputable def BV:Ss :=
 (.cons (.asg 3 1 (.comp1 1 [2,1,0] (.nm 0) (.r1 (.bi .len (.cons (.nm 0) .nil))) (.cmp .ge (.ix (.nm 3) (.nm 0)) (.nm 2)) (.tup (.cons (.bi .abs (.cons (.bin .sub (.nm 0) (.nm 1)) .nil)) (.cons (.nm 0) .nil)))))
 (.cons (.iff (.cmp .eq (.nm 3) (.lst .nil))
 (.cons (.ret .cN)
 .nil)
 .nil)
 (.cons (.ret (.ix (.bi .minP (.cons (.nm 3) .nil)) (.cI 1)))
 .nil)))
noncomputable def D4:Fn:=An "_law_near" 3 1 0 4 BV
theorem FN (ds:List D) (h:ds.length=3):D4.den ds=run 4 BV ds:=Af h
noncomputable def CM:Ss :=
 (.cons (.asg 4 2 (.call Bo (.cons (.nm 0) (.cons (.nm 1) .nil))))
 (.cons (.ret (.comp0 2 [4] (.tp [0,1]) (.seq (.call Ba (.cons (.bi .len (.cons (.nm 0) .nil)) (.cons (.nm 1) (.cons (.nm 2) (.cons (.nm 3) .nil)))))) (.tup (.cons (.nm 0) (.cons (.nm 1) (.cons (.ixL (.ixL (.nm 2) (.nm 0)) (.nm 1)) .nil))))))
 .nil))
noncomputable def Bb:Fn:=An "_law_paper" 4 3 1 5 CM
theorem Ie (ds:List D) (h:ds.length=4):Bb.den ds=run 5 CM ds:=Af h
noncomputable def A3:Ss :=
 (.cons (.iff (.cmp .ge (.ix (.nm 0) (.nm 3)) (.nm 1))
 (.cons (.ret (.nm 3))
 .nil)
 .nil)
 .nil)
noncomputable def BW:Ss :=
 (.cons (.for_ (.nm 3) (.r2 (.nm 2) (.bi .len (.cons (.nm 0) .nil)))
 A3)
 (.cons (.ret .cN)
 .nil))
noncomputable def BM:Fn:=An "_law_from" 3 1 0 4 BW
theorem Jf (ds:List D) (h:ds.length=3):BM.den ds=run 4 BW ds:=Af h
noncomputable def ED:Ss :=
 (.cons (.iff (.isN false (.nm 0))
 (.cons (.ret (.nm 1))
 .nil)
 .nil)
 (.cons (.ret (.nm 0))
 .nil))
noncomputable def Gx:Fn:=An "_law_end" 2 1 0 2 ED
theorem Os (ds:List D) (h:ds.length=2):Gx.den ds=run 2 ED ds:=Af h
noncomputable def CN:Ss :=
 (.cons (.asgT [5,6] (.call El (.cons (.nm 0) (.cons (.nm 1) (.cons (.nm 2) .nil)))))
 (.cons (.iff (.bo false (.cons (.not (.call BJ (.cons (.nm 0) (.cons (.nm 6) .nil)))) (.cons (.not (.call AO (.cons (.nm 4) (.cons (.nm 2) (.cons (.nm 5) (.cons (.nm 6) .nil)))))) .nil)))
 (.cons (.ret (.cB false))
 .nil)
 .nil)
 (.cons (.asgT [5,6] (.call DJ (.cons (.nm 0) (.cons (.nm 1) (.cons (.nm 2) (.cons (.nm 3) .nil))))))
 (.cons (.iff (.bo false (.cons (.not (.call BJ (.cons (.nm 0) (.cons (.nm 6) .nil)))) (.cons (.not (.call AC (.cons (.nm 4) (.cons (.nm 2) (.cons (.nm 3) (.cons (.nm 5) (.cons (.nm 6) .nil))))))) .nil)))
 (.cons (.ret (.cB false))
 .nil)
 .nil)
 (.cons (.asgT [5,6] (.call EJ (.cons (.nm 0) (.cons (.nm 1) (.cons (.nm 2) (.cons (.nm 3) .nil))))))
 (.cons (.iff (.bo false (.cons (.not (.call BJ (.cons (.nm 0) (.cons (.nm 6) .nil)))) (.cons (.not (.call A4 (.cons (.nm 4) (.cons (.nm 2) (.cons (.nm 3) (.cons (.nm 5) (.cons (.nm 6) .nil))))))) .nil)))
 (.cons (.ret (.cB false))
 .nil)
 .nil)
 (.cons (.asgT [5,6] (.call EK (.cons (.nm 0) (.cons (.nm 1) (.cons (.nm 2) .nil)))))
 (.cons (.ret (.bo true (.cons (.call BJ (.cons (.nm 0) (.cons (.nm 6) .nil))) (.cons (.call EH (.cons (.nm 4) (.cons (.nm 2) (.cons (.nm 5) (.cons (.nm 6) .nil))))) (.cons (.cmp .eq (.nm 5) (.call Gf (.cons (.nm 0) (.cons (.nm 1) (.cons (.nm 2) .nil))))) .nil)))))
 .nil))))))))
noncomputable def BB:Fn:=An "_law_told_ones" 5 14 9 7 CN
theorem Ig (ds:List D) (h:ds.length=5):BB.den ds=run 7 CN ds:=Af h
theorem Ih:BB.dep=9:=rfl
noncomputable def Dd:Ss :=
 (.cons (.asg 6 0 (.tup (.cons (.bi .len (.cons (.nm 1) .nil)) (.cons (.nm 2) .nil))))
 (.cons (.asg 7 0 (.bo false (.cons (.isN false (.nm 5)) (.cons (.cmp .ge (.ix (.nm 1) (.nm 5)) (.nm 3)) .nil))))
 (.cons (.asg 8 0 (.call Gx (.cons (.nm 5) (.cons (.bi .len (.cons (.nm 1) .nil)) .nil))))
 (.cons (.asg 9 1 (.call Bb (.cons (.nm 1) (.cons (.nm 2) (.cons (.cI 0) (.cons (.nm 8) .nil))))))
 (.cons (.iff (.not (.callB BJ (.cons (.nm 0) (.cons (.nm 9) .nil))))
 (.cons (.ret (.cB false))
 .nil)
 .nil)
 (.cons (.iff (.cmp .ne (.bo true (.cons (.nm 7) (.cons (.callB AO (.cons (.nm 6) (.cons (.nm 3) (.cons (.nm 5) (.cons (.nm 9) .nil))))) .nil))) (.cmp .eq (.call Cc (.cons (.nm 0) (.cons (.nm 2) (.cons (.nm 3) .nil)))) (.nm 5)))
 (.cons (.ret (.cB false))
 .nil)
 .nil)
 (.cons (.asg 9 1 (.call Bb (.cons (.nm 1) (.cons (.nm 2) (.cons (.bi .min (.cons (.nm 4) (.cons (.nm 8) .nil))) (.cons (.nm 8) .nil))))))
 (.cons (.iff (.cmp .ne (.bo true (.cons (.nm 7) (.cons (.callB AC (.cons (.nm 6) (.cons (.nm 3) (.cons (.nm 4) (.cons (.nm 5) (.cons (.nm 9) .nil)))))) .nil))) (.cmp .eq (.call AJ (.cons (.nm 0) (.cons (.nm 2) (.cons (.nm 3) (.cons (.nm 4) .nil))))) (.nm 5)))
 (.cons (.ret (.cB false))
 .nil)
 .nil)
 (.cons (.asgT [10,8] (.call EM (.cons (.bi .len (.cons (.nm 1) .nil)) (.cons (.nm 4) (.cons (.nm 5) .nil)))))
 (.cons (.asg 9 1 (.call Bb (.cons (.nm 1) (.cons (.nm 2) (.cons (.nm 10) (.cons (.nm 8) .nil))))))
 (.cons (.ret (.cmp .eq (.bo true (.cons (.nm 7) (.cons (.callB A4 (.cons (.nm 6) (.cons (.nm 3) (.cons (.nm 4) (.cons (.nm 5) (.cons (.nm 9) .nil)))))) .nil))) (.cmp .eq (.call Da (.cons (.nm 0) (.cons (.nm 2) (.cons (.nm 3) (.cons (.nm 4) .nil))))) (.nm 5))))
 .nil)))))))))))
noncomputable def BN:Fn:=An "_law_own_ones" 6 13 9 11 Dd
theorem Jg (ds:List D) (h:ds.length=6):BN.den ds=run 11 Dd ds:=Af h
theorem Jh:BN.dep=9:=rfl
noncomputable def D5:Ss :=
 (.cons (.iff (.not (.callB BN (.cons (.nm 3) (.cons (.nm 1) (.cons (.nm 2) (.cons (.nm 7) (.cons (.nm 4) (.cons (.nm 9) .nil))))))))
 (.cons (.ret (.cB false))
 .nil)
 .nil)
 .nil)
noncomputable def D6:Ss :=
 (.cons (.asg 7 0 (.call D3 (.cons (.nm 0) (.cons (.bin .add (.cI 2) (.nm 6)) (.cons (.nm 1) .nil)))))
 (.cons (.iff (.not (.callB BB (.cons (.nm 3) (.cons (.nm 2) (.cons (.nm 7) (.cons (.nm 4) (.cons (.tup (.cons (.bi .len (.cons (.nm 1) .nil)) (.cons (.nm 2) .nil))) .nil)))))))
 (.cons (.ret (.cB false))
 .nil)
 .nil)
 (.cons (.asg 8 1 (.lst (.cons (.call BM (.cons (.nm 1) (.cons (.nm 7) (.cons (.cI 0) .nil)))) (.cons (.call BM (.cons (.nm 1) (.cons (.nm 7) (.cons (.nm 4) .nil)))) (.cons (.call D4 (.cons (.nm 1) (.cons (.nm 7) (.cons (.nm 4) .nil)))) .nil)))))
 (.cons (.iff (.cmp .ne (.lst (.cons (.callB Cc (.cons (.nm 3) (.cons (.nm 2) (.cons (.nm 7) .nil)))) (.cons (.callB AJ (.cons (.nm 3) (.cons (.nm 2) (.cons (.nm 7) (.cons (.nm 4) .nil))))) (.cons (.callB Da (.cons (.nm 3) (.cons (.nm 2) (.cons (.nm 7) (.cons (.nm 4) .nil))))) .nil)))) (.nm 8))
 (.cons (.ret (.cB false))
 .nil)
 .nil)
 (.cons (.for_ (.nm 9) (.seq (.bin .add (.bin .add (.nm 8) (.lst (.cons .cN .nil))) (.comp0 1 [1] (.nm 0) (.seqL (.nm 5)) (.bin .mod (.nm 0) (.bi .len (.cons (.nm 1) .nil))))))
 D5)
 .nil)))))
noncomputable def FO:Ss :=
 (.cons (.asg 1 0 (.bin .add (.call Cd (.cons (.nm 0) (.cons (.cI 0) (.cons (.cI 29) .nil)))) (.lst (.cons (.ix (.call AQ (.cons (.nm 0) (.cons (.cI 5) (.cons (.lst (.cons (.cI 9) .nil)) .nil)))) (.cI 0)) .nil))))
 (.cons (.asg 2 1 (.call Em (.cons (.nm 0) (.cons (.cI 1) .nil))))
 (.cons (.asg 3 2 (.callB Bo (.cons (.nm 1) (.cons (.nm 2) .nil))))
 (.cons (.asg 4 0 (.bin .mod (.ix (.call AQ (.cons (.nm 0) (.cons (.cI 6) (.cons (.lst (.cons (.cI 50) .nil)) .nil)))) (.cI 0)) (.bi .len (.cons (.nm 1) .nil))))
 (.cons (.asg 5 2 (.call AQ (.cons (.nm 0) (.cons (.cI 7) (.cons (.lst (.cons (.cI 50) (.cons (.cI 50) .nil))) .nil)))))
 (.cons (.dem 5 1)
 (.cons (.for_ (.nm 6) (.r1 (.cI 3))
 D6)
 (.cons (.ret (.cB true))
 .nil))))))))
noncomputable def Gy:Fn:=An "law" 1 15 9 10 FO
theorem Ot (ds:List D) (h:ds.length=1):Gy.den ds=run 10 FO ds:=Af h
end Pu
section
namespace Pu
open PySem
theorem Bg {tg:Tg} {b:Fr->Out} (P:Nat->Fr->Prop):∀ {ds:List D} {δ:Fr} (n:Nat),P n δ->(∀ i d δ,ds[i]?=some d->P (n + i) δ->∃ δ' δ'',Dz tg d δ=some δ'/\b δ'=.nxt δ''/\P (n + i + 1) δ'')->∃ δ',AU tg b ds δ=.nxt δ'/\P (n + ds.length) δ'
 | [],δ,n,h0,_=>⟨δ,rfl,h0⟩
 | d :: ds,δ,n,h0,hs=>by
  obtain ⟨δ',δ'',e1,e2,h1⟩:=hs 0 d δ rfl h0
  obtain ⟨δ3,e3,h3⟩:=Bg P (ds:=ds) (δ:=δ'') (n + 1) h1 fun i d δ hd hP=>by
   have:=hs (i + 1) d δ (by simpa using hd) (by rw [show n + (i + 1)=n + 1 + i by omega]; exact hP)
   rw [show n + (i + 1) + 1=n + 1 + i + 1 by omega] at this
   exact this
  refine ⟨δ3,?_,by rw [aaJ,show n + (ds.length + 1)=n + 1 + ds.length by omega]; exact h3⟩
  unfold AU
  rw [e1]
  show (b δ').then _=_
  rw [e2]
  exact e3
theorem Dw (i j:Int):b2 .add (.int i) (.int j)=.ok (.int (i + j)):=rfl
theorem D7 (i j:Int):b2 .sub (.int i) (.int j)=.ok (.int (i - j)):=rfl
theorem Cz (i j:Int) (h1:-(18446744073709551616) < i) (h2:i < 18446744073709551616):b2 .mul (.int i) (.int j)=.ok (.int (i * j)):=by
 show (if _ then _ else _)=_; rw [if_pos (.inl ⟨h1,h2⟩)]
theorem CA (i j:Int) (h1:-(18446744073709551616) < j) (h2:j < 18446744073709551616):b2 .mul (.int i) (.int j)=.ok (.int (i * j)):=by
 show (if _ then _ else _)=_; rw [if_pos (.inr ⟨h1,h2⟩)]
theorem Dx (i j:Int) (h1:0 < j):b2 .mod (.int i) (.int j)=.ok (.int (i % j)):=by
 show (if _ then _ else _)=_; rw [if_pos h1]
theorem CB (i j:Int) (h1:0 < j) (h2:j < 1606938044258990275541962092341162602522202993782792835301376):b2 .fdiv (.int i) (.int j)=.ok (.int (i / j)):=by
 show (if _ then _ else _)=_; rw [if_pos ⟨h1,h2⟩]
theorem Fw (i j:Int) (h1:0<=j) (h2:j<=1000000) (h3:i.natAbs < 18446744073709551616):b2 .pow (.int i) (.int j)=.ok (.int (i ^ j.toNat)):=by
 show (if _ then _ else _)=_; rw [if_pos ⟨h1,h2,h3⟩]
theorem E2 (i j:Int):c2 .lt (.int i) (.int j)=.ok (.bl (decide (i < j))):=rfl
theorem E4 (i j:Int):c2 .le (.int i) (.int j)=.ok (.bl (decide (i<=j))):=rfl
theorem E5 (i j:Int):c2 .gt (.int i) (.int j)=.ok (.bl (decide (j < i))):=rfl
theorem E6 (i j:Int):c2 .ge (.int i) (.int j)=.ok (.bl (decide (j<=i))):=rfl
theorem Dy (i j:Int):c2 .eq (.int i) (.int j)=.ok (.bl (i==j)):=rfl
theorem D8 (i j:Int):c2 .ne (.int i) (.int j)=.ok (.bl (!(i==j))):=rfl
theorem Eo (d:D) (r:Fr):get (some d :: r) 0=.ok d:=rfl
theorem Ep (o:Option D) (r:Fr) (i:Nat):get (o :: r) (i + 1)=get r i:=by
 unfold get; rw [aaZ]
theorem Ae {n:Nat} {b:Ss} {ds:List D} {d:D} (h:exs b (Pu.AR n ds)=.ret d):run n b ds=.ok d:=by
 unfold run; rw [h]
noncomputable def G7 (c k:Int):Int:=((((c % 2147483629 + 1013 * k + 7919) ^ 3 % 2147483647) * 40699 + 3793 * k * k + 11) % 2147483399) / 101
theorem Nw (c k:Int) (hk0:0<=k) (hk:k<=100000):Db.den [.int c,.int k]=.ok (.int (G7 c k)):=by
 have h1:0<=c % 2147483629:=aa3 _ (by decide)
 have h2:c % 2147483629 < 2147483629:=abn _ (by decide)
 have h3:(c % 2147483629 + 1013 * k + 7919).natAbs < 18446744073709551616:=by omega
 have h4:-(18446744073709551616) < k:=by omega
 have h5:k < 18446744073709551616:=by omega
 rw [JP _ rfl]
 simp [run,DD,exs,ex,ev,evs,get,Dw,Cz,CA,Dx,CB,Fw,Pu.AR,h3,h4,h5,G7]
theorem D9 {ns:List Int} {d:D} (h:d ∈ ns.map D.int):∃ x,d=.int x:=by
 obtain ⟨x,_,e⟩:=aav.mp h
 exact ⟨x,e.symm⟩
theorem Ou {ns:List Int} {d:D} {lo hi:Option Int} {i:Nat} (h:(cut (ns.map D.int) lo hi)[i]?=some d):∃ x,d=.int x:=by
 have:=aaf h
 unfold cut at this
 exact D9 (abQ (abR this))
theorem Ii {ns:List Int} {i:Int} (h0:0<=i) (h1:i < ns.length):∃ x,ns[i.toNat]?=some x/\atD (ns.map D.int) i=.ok (.int x):=by
 have hl:i.toNat < ns.length:=by omega
 refine ⟨ns[i.toNat],aae hl,?_⟩
 unfold atD ixN
 rw [aac,if_pos h0,if_pos h1]
 simp [hl]
theorem Mk (ns:List Int) (p:Int) (hp:0<=p):∃ i,Dv.den [.lst (ns.map .int),.int p]=.ok (.int i):=by
 rw [MN _ rfl]
 by_cases h:p < ns.length
 ·obtain ⟨x,_,e⟩:=Ii hp h
  refine ⟨x,?_⟩
  simp -implicitDefEqProofs [run,exs,ex,ev,evs,evI,evBo,tv,get,BP,Dw,D7,Cz,CA,Dx,CB,Fw,E2,E4,E5,E6,Dy,D8,Pu.AR,biD,ixD,Fg,Gp,evP,upd,Di,umD,Eu,Dn,DG,C7,DN,E.isCN,DO,on1,on2,on3,Ed,BS,DP,Dm,Gq,Ee,FS,dI,dB,dS,dL,dT',un1,un0,D2,h,e]
 ·obtain ⟨δ',e,s,o,rfl⟩:=Bg (tg:=.nm 3) (b:=exs EL) (fun _ δ=>∃ (s:Int) (o:Option D),δ=[some (.lst (ns.map .int)),some (.int p),some (.int s),o]) (ds:=cut (ns.map D.int) none (some 63)) (δ:=[some (.lst (ns.map .int)),some (.int p),some (.int 5),none]) 0 ⟨5,none,rfl⟩ (by
   rintro i d δ hd ⟨s,o,rfl⟩
   obtain ⟨x,rfl⟩:=Ou hd
   refine ⟨_,_,rfl,?_,(s * 48271 + x % 1000003 + 1) % 2147483647,some (.int x),rfl⟩
   simp -implicitDefEqProofs [run,exs,ex,ev,evs,evI,evBo,tv,get,BP,Dw,D7,Cz,CA,Dx,CB,Fw,E2,E4,E5,E6,Dy,D8,Pu.AR,biD,ixD,Fg,Gp,evP,upd,Di,umD,Eu,Dn,DG,C7,DN,E.isCN,DO,on1,on2,on3,Ed,BS,DP,Dm,Gq,Ee,FS,dI,dB,dS,dL,dT',un1,un0,EL])
  refine ⟨(s + 7919 * p) % 1000003,?_⟩
  simp -implicitDefEqProofs [run,exs,ex,ev,evs,evI,evBo,tv,get,BP,Dw,D7,Cz,CA,Dx,CB,Fw,E2,E4,E5,E6,Dy,D8,Pu.AR,biD,ixD,Fg,Gp,evP,upd,Di,umD,Eu,Dn,DG,C7,DN,E.isCN,DO,on1,on2,on3,Ed,BS,DP,Dm,Gq,Ee,FS,dI,dB,dS,dL,dT',un1,un0,D2,h,e]
theorem De {a b:Int} {i:Nat} {d:D} (h:(Ar a b)[i]?=some d):d=.int (a + i)/\(i:Int) < b - a:=by
 unfold Ar at h
 rw [aaq] at h
 obtain ⟨j,hj,e⟩:=aas.mp h
 obtain ⟨h1,h2⟩:=aak.mp hj
 rw [List.getElem_range] at h2
 subst h2
 rw [abH] at h1
 exact ⟨e.symm,by omega⟩
theorem Cf (a b:Int):(Ar a b).length=(b - a).toNat:=by unfold Ar; simp
theorem BI {a b:Int} (h1:-1000000<=a) (h2:a<=1000000) (h3:-1000000<=b) (h4:b<=1000000):Ra (.int a) (.int b)=.ok (Ar a b):=by
 show (if _ then _ else _)=_
 rw [if_pos]
 unfold GL LIM
 simp -implicitDefEqProofs only [aah,decide_eq_true_eq]
 omega
theorem DL {ns:List Int} {i:Nat} {x:Int} (h:ns[i]?=some x):atD (ns.map D.int) (i:Int)=.ok (.int x):=by
 have hl:=(aak.mp h).1
 obtain ⟨y,e1,e2⟩:=Ii (ns:=ns) (i:=(i:Int)) (by omega) (by omega)
 rw [aau,h] at e1
 cases e1
 exact e2
theorem JS:b2 .pow (.int 10) (.int 18)=.ok (.int 1000000000000000000):=by
 rw [Fw _ _ (by decide) (by decide) (by decide)]; rfl
theorem JT:b2 .pow (.int 10) (.int 59)=.ok (.int 100000000000000000000000000000000000000000000000000000000000):=by
 rw [Fw _ _ (by decide) (by decide) (by decide)]; rfl
theorem BX (ds:List D) (d:D) (h:ds.length < 16777216):umD .append [d] ds=some (ds ++ [d]):=by
 show (if _ then _ else _)=_
 exact if_pos h
section
variable {ns S xs:List Int} {p c left:Int} {i:Nat} {s:Int} {o2:Option D} (hs:0 < s) (hat:atD (S.map D.int) (i:Int)=.ok (.int s)) (hi:i<=1000) (hx:xs.length<=1000)
include hs hat hi hx
theorem WC (h1:c < 1000000000000000000) :
  exs AD [some (.lst (ns.map .int)),some (.int p),some (.lst (S.map .int)),some (.int c),some (.int left),some (.lst (xs.map .int)),some (.int i),o2]=.nxt [some (.lst (ns.map .int)),some (.int p),some (.lst (S.map .int)),some (.int c),some (.int left),some (.lst ((xs ++ [G7 c i % s]).map .int)),some (.int i),o2]:=by
 have hmx:=Nw c i (by omega) (by omega)
 have hap:=BX (xs.map D.int) (.int (G7 c i % s)) (by rw [aac]; omega)
 simp -implicitDefEqProofs only [AD,exs,ex,tv,ev,evs,evI,evBo,Eo,Ep,Res.bind_ok,Res.out_ok,Out.then_nxt,Out.then_ret,aa8,aaZ,JS,JT,Dw,D7,Cz,CA,Dx,CB,E2,E4,E5,E6,Dy,D8,BP,decide_true,decide_false,if_true,if_false,aaO,abo,abz,abO,evP,ixD,Fg,Gp,upd,Di,aaY,acu,aao,abS,biD,Eu,Dn,DG,on1,on2,on3,Ed,BS,DP,Dm,Gq,Ee,FS,dI,dB,dS,dL,dT',un1,un0,C7,DN,E.isCN,DO,reduceCtorEq,Int.reduceLT,Int.reduceLE,Int.reduceNeg,Int.reduceBEq,h1,hmx,hat,hs,hap]
theorem WD (h1:¬ c < 1000000000000000000) (h2:0 < left) (h3:s < 1606938044258990275541962092341162602522202993782792835301376) :
  exs AD [some (.lst (ns.map .int)),some (.int p),some (.lst (S.map .int)),some (.int c),some (.int left),some (.lst (xs.map .int)),some (.int i),o2]=.nxt [some (.lst (ns.map .int)),some (.int p),some (.lst (S.map .int)),some (.int c),some (.int (left / s)),some (.lst ((xs ++ [left % s]).map .int)),some (.int i),o2]:=by
 have hap:=BX (xs.map D.int) (.int (left % s)) (by rw [aac]; omega)
 simp -implicitDefEqProofs only [AD,exs,ex,tv,ev,evs,evI,evBo,Eo,Ep,Res.bind_ok,Res.out_ok,Out.then_nxt,Out.then_ret,aa8,aaZ,JS,JT,Dw,D7,Cz,CA,Dx,CB,E2,E4,E5,E6,Dy,D8,BP,decide_true,decide_false,if_true,if_false,aaO,abo,abz,abO,evP,ixD,Fg,Gp,upd,Di,aaY,acu,aao,abS,biD,Eu,Dn,DG,on1,on2,on3,Ed,BS,DP,Dm,Gq,Ee,FS,dI,dB,dS,dL,dT',un1,un0,C7,DN,E.isCN,DO,reduceCtorEq,Int.reduceLT,Int.reduceLE,Int.reduceNeg,Int.reduceBEq,h1,h2,h3,hat,hs,hap]
theorem WE (h1:¬ c < 1000000000000000000) (h2:¬ 0 < left) {q:Int} (hq:Dv.den [.lst (ns.map .int),.int ((p + 1 + i) % 63)]=.ok (.int q)) :
  exs AD [some (.lst (ns.map .int)),some (.int p),some (.lst (S.map .int)),some (.int c),some (.int left),some (.lst (xs.map .int)),some (.int i),o2]=.nxt [some (.lst (ns.map .int)),some (.int p),some (.lst (S.map .int)),some (.int c),some (.int left),some (.lst ((xs ++ [G7 q i % s]).map .int)),some (.int i),some (.int q)]:=by
 have hmx:=Nw q i (by omega) (by omega)
 have hap:=BX (xs.map D.int) (.int (G7 q i % s)) (by rw [aac]; omega)
 simp -implicitDefEqProofs only [AD,exs,ex,tv,ev,evs,evI,evBo,Eo,Ep,Res.bind_ok,Res.out_ok,Out.then_nxt,Out.then_ret,aa8,aaZ,JS,JT,Dw,D7,Cz,CA,Dx,CB,E2,E4,E5,E6,Dy,D8,BP,decide_true,decide_false,if_true,if_false,aaO,abo,abz,abO,evP,ixD,Fg,Gp,upd,Di,aaY,acu,aao,abS,biD,Eu,Dn,DG,on1,on2,on3,Ed,BS,DP,Dm,Gq,Ee,FS,dI,dB,dS,dL,dT',un1,un0,C7,DN,E.isCN,DO,reduceCtorEq,Int.reduceLT,Int.reduceLE,Int.reduceNeg,Int.reduceBEq,h1,h2,hq,hmx,hat,hs,hap,Int.reduceLT]
end
theorem Fe (ns:List Int) (p:Int) (hp:0<=p) (S:List Int) (hl:S.length<=1000) (hS:∀ s ∈ S,0 < s/\s < 1606938044258990275541962092341162602522202993782792835301376) :
  ∃ xs:List Int,AQ.den [.lst (ns.map .int),.int p,.lst (S.map .int)]=.ok (.lst (xs.map .int))/\xs.length=S.length/\∀ (j:Nat) (x s:Int),xs[j]?=some x->S[j]?=some s->0<=x/\x < s:=by
 obtain ⟨c,hc⟩:=Mk ns p hp
 obtain ⟨δ',e,left,xs,o1,o2,rfl,hx,hb⟩:=Bg (tg:=.nm 6) (b:=exs AD) (fun i δ=>∃ (left:Int) (xs:List Int) (o1 o2:Option D),δ=[some (.lst (ns.map .int)),some (.int p),some (.lst (S.map .int)),some (.int c),some (.int left),some (.lst (xs.map .int)),o1,o2]/\xs.length=i/\∀ (j:Nat) (x s:Int),xs[j]?=some x->S[j]?=some s->0<=x/\x < s)
  (ds:=Ar 0 (S.length:Int)) (δ:=[some (.lst (ns.map .int)),some (.int p),some (.lst (S.map .int)),some (.int c),some (.int c),some (.lst []),none,none]) 0 ⟨c,[],none,none,rfl,rfl,by simp⟩ (by
   rintro i d δ hd ⟨left,xs,o1,o2,rfl,hx,hb⟩
   obtain ⟨rfl,hi⟩:=De hd
   have hx:xs.length=i:=by omega
   have hi':i < S.length:=by omega
   have hs:S[i]?=some S[i]:=aae hi'
   have hsp:=hS S[i] (acq hi')
   have hat:=DL hs
   generalize S[i]=s at hs hsp hat
   have fin:∀ z:Int,0<=z->z < s->∀ (j:Nat) (x s:Int),(xs ++ [z])[j]?=some x->S[j]?=some s->0<=x/\x < s:=by
    intro z h0 h1 j x s e1 e2
    by_cases hj:j < xs.length
    ·rw [aaN hj] at e1
     exact hb j x s e1 e2
    ·rw [aaH (by omega)] at e1
     have:j=i:=by
      have:=(aak.mp e1).1
      simp at this; omega
     subst this
     rw [hx,Nat.sub_self] at e1
     rw [hs] at e2
     cases e2; cases e1
     exact ⟨h0,h1⟩
   have md:∀ y:Int,0<=y % s/\y % s < s:=fun y=>⟨aa3 _ (by omega),abn _ hsp.1⟩
   have hz:(0:Int) + (i:Int)=(i:Int):=by omega
   rw [hz]
   have len:∀ z:Int,(xs ++ [z]).length=0 + i + 1:=fun z=>by rw [aaE,hx]; simp
   by_cases h1:c < 1000000000000000000
   ·exact ⟨_,_,rfl,WC hsp.1 hat (by omega) (by omega) h1,left,xs ++ [G7 c i % s],some (.int i),o2,rfl,len _,fin _ (md _).1 (md _).2⟩
   ·by_cases h2:0 < left
    ·exact ⟨_,_,rfl,WD hsp.1 hat (by omega) (by omega) h1 h2 hsp.2,left / s,xs ++ [left % s],some (.int i),o2,rfl,len _,fin _ (md _).1 (md _).2⟩
    ·obtain ⟨q,hq⟩:=Mk ns ((p + 1 + i) % 63) (aa3 _ (by decide))
     exact ⟨_,_,rfl,WE hsp.1 hat (by omega) (by omega) h1 h2 hq,left,xs ++ [G7 q i % s],some (.int i),some (.int q),rfl,len _,fin _ (md _).1 (md _).2⟩)
 refine ⟨xs,?_,by rw [hx,Cf]; omega,hb⟩
 have hr:=BI (a:=0) (b:=(S.length:Int)) (by omega) (by omega) (by omega) (by omega)
 refine (JQ _ rfl).trans (Ae ?_)
 simp -implicitDefEqProofs only [Pu.AR,abk,aam,aa0,aaW,DE,exs,ex,tv,ev,evs,evI,evBo,Eo,Ep,Res.bind_ok,Res.out_ok,Out.then_nxt,Out.then_ret,aa8,aaZ,JS,JT,Dw,D7,Cz,CA,Dx,CB,E2,E4,E5,E6,Dy,D8,BP,decide_true,decide_false,if_true,if_false,aaO,abo,abz,abO,evP,ixD,Fg,Gp,upd,Di,aaY,acu,aao,abS,biD,Eu,Dn,DG,on1,on2,on3,Ed,BS,DP,Dm,Gq,Ee,FS,dI,dB,dS,dL,dT',un1,un0,C7,DN,E.isCN,DO,reduceCtorEq,Int.reduceLT,Int.reduceLE,Int.reduceNeg,Int.reduceBEq,hc,aac,hr,e]
theorem Ml (i:Int):HI.den [.int i]=.ok (.bl true):=rfl
theorem BY (i a b:Int):Ci.den [.int i,.int a,.int b]=.ok (.bl (decide (a<=i/\i<=b))):=by
 refine (KJ _ rfl).trans (Ae ?_)
 by_cases h1:a<=i <;> by_cases h2:i<=b <;> simp -implicitDefEqProofs only [Pu.AR,abk,aam,aa0,aaW,DR,exs,ex,tv,ev,evs,evI,evBo,Eo,Ep,Res.bind_ok,Res.out_ok,Out.then_nxt,Out.then_ret,aa8,aaZ,JS,JT,Dw,D7,Cz,CA,Dx,CB,E2,E4,E5,E6,Dy,D8,BP,decide_true,decide_false,if_true,if_false,aaO,abo,abz,abO,evP,ixD,Fg,Gp,upd,Di,aaY,acu,aao,abS,biD,Eu,Dn,DG,on1,on2,on3,Ed,BS,DP,Dm,Gq,Ee,FS,dI,dB,dS,dL,dT',un1,un0,C7,DN,E.isCN,DO,reduceCtorEq,Int.reduceLT,Int.reduceLE,Int.reduceNeg,Int.reduceBEq,Ml,h1,h2,and_self,and_true,and_false]
theorem at0 (a b:D):atD [a,b] 0=.ok a:=rfl
theorem at1 (a b:D):atD [a,b] 1=.ok b:=rfl
theorem RL {xs:List Int} (h:xs.length=1):∃ a,xs=[a]:=by
 match xs,h with
 | [a],_=>exact ⟨a,rfl⟩
section
variable (a b c d e f:D)
theorem W6:atD [a] 0=.ok a:=rfl
end
theorem G8 {f:D->Res (Option D)} {g:D->Option D}:∀ {ds:List D},(∀ d ∈ ds,f d=.ok (g d))->Bq f ds=.ok (ds.filterMap g)
 | [],_=>rfl
 | d :: ds,h=>by
  unfold Bq
  rw [h d aab,G8 (ds:=ds) fun x hx=>h x (aaa _ hx)]
  show Res.ok _=_
  rw [abg]
  cases g d <;> rfl
theorem CW {nl:Nat} {fr:List Nat} {tg:Tg} {it:It} {elt:E} {δ:Fr} {ds:List D} {g:D->D} (hi:evI it δ=.ok ds) (h:∀ d ∈ ds,∃ δ',Dz tg d (blk nl fr δ)=some δ'/\ev elt δ'=.ok (g d)):ev (.comp0 nl fr tg it elt) δ=.ok (.lst (ds.map g)):=by
 rw [ev,hi,Res.bind_ok,G8 (g:=fun d=>some (g d)) (fun d hd=>by
  obtain ⟨δ',e1,e2⟩:=h d hd
  rw [e1]
  show (ev elt δ').bind _=_
  rw [e2]; rfl),Res.bind_ok,List.filterMap_eq_map']
theorem Er {nl:Nat} {fr:List Nat} {tg:Tg} {it:It} {cond elt:E} {δ:Fr} {ds:List D} {b:D->Bool} {g:D->D} (hi:evI it δ=.ok ds) (h:∀ d ∈ ds,∃ δ',Dz tg d (blk nl fr δ)=some δ'/\(ev cond δ').bind BP=.ok (b d)/\(b d=true->ev elt δ'=.ok (g d))):ev (.comp1 nl fr tg it cond elt) δ=.ok (.lst ((ds.filter b).map g)):=by
 rw [ev,hi,Res.bind_ok,G8 (g:=fun d=>if b d then some (g d) else none) (fun d hd=>by
  obtain ⟨δ',e1,e2,e3⟩:=h d hd
  rw [e1]
  show ((ev cond δ').bind BP).bind _=_
  rw [e2,Res.bind_ok]
  cases q:b d with
  | true=>rw [if_pos rfl,e3 q]; rfl
  | false=>rfl),Res.bind_ok]
 congr 2
 clear h hi
 induction ds with
 | nil=>rfl
 | cons d ds ih =>
  rw [abg,abP]
  cases q:b d with
  | true=>simp [ih]
  | false=>simp [ih]
theorem FP {c:Fr->Res Bool} {b:Fr->Out} (P:Nat->Fr->Prop):∀ (k n m:Nat) {δ:Fr},P m δ->(∀ i δ,m<=i->i < m + k->P i δ->c δ=.ok true/\∃ δ',b δ=.nxt δ'/\P (i + 1) δ')->(∀ δ,P (m + k) δ->c δ=.ok false)->k < n->∃ δ',AI c b n δ=.nxt δ'/\P (m + k) δ'
 | 0,n + 1,m,δ,h0,_,h2,_=>by
  refine ⟨δ,?_,h0⟩
  unfold AI
  rw [h2 δ h0]; rfl
 | k + 1,n + 1,m,δ,h0,h1,h2,hn=>by
  obtain ⟨e1,δ',e2,h3⟩:=h1 m δ (aaj _) (by omega) h0
  obtain ⟨δ2,e4,h4⟩:=FP P k n (m + 1) h3 (fun i δ hi hl=>h1 i δ (by omega) (by omega)) (fun δ hd=>h2 δ (by rw [show m + (k + 1)=m + 1 + k by omega]; exact hd)) (by omega)
  refine ⟨δ2,?_,by rw [show m + (k + 1)=m + 1 + k by omega]; exact h4⟩
  unfold AI
  rw [e1,Res.out_ok,if_pos rfl,e2]
  exact e4
theorem G9 (xs:List D) (h:xs.all (D.shp 7)=true):c2 .ne (.lst xs) (.lst [])=.ok (.bl (!xs.isEmpty)):=by
 show (if (D.shp 8 (.lst xs) && D.shp 8 (.lst [])) then _ else _)=_
 rw [show D.shp 8 (.lst xs)=true from h,show D.shp 8 (.lst [])=true from rfl]
 cases xs <;> rfl
theorem Gz {b:Int} {d:D} (h:d ∈ Ar 0 b):∃ i:Nat,d=.int i/\(i:Int) < b:=by
 obtain ⟨i,hi⟩:=acf h
 obtain ⟨rfl,h⟩:=De hi
 exact ⟨i,by rw [abZ],by omega⟩
theorem Gg (a b:List D) (h:a.length + b.length<=16777216):b2 .add (.lst a) (.lst b)=.ok (.lst (a ++ b)):=by
 show (if _ then _ else _)=_
 exact if_pos h
noncomputable def cnt (p f i:Nat):Nat:=(p + f ^ i - 1) / f ^ i
theorem GA (p f:Nat):cnt p f 0=p:=by unfold cnt; simp
theorem Mm {p f:Nat} (hf:1<=f) (i:Nat):cnt p f (i + 1)=(cnt p f i + f - 1) / f:=by
 unfold cnt
 have hw:0 < f ^ i:=aa7 (by omega)
 have h1:(p + f ^ i - 1) / f ^ i + f - 1=(p + f ^ (i + 1) - 1) / f ^ i:=by
  have e:p + f ^ (i + 1) - 1=(p + f ^ i - 1) + f ^ i * (f - 1):=by
   have:f ^ (i + 1)=f ^ i * (f - 1) + f ^ i:=by
    rw [abw,<- Nat.mul_succ]; congr 1; omega
   omega
  rw [e,Nat.add_mul_div_left _ _ hw]
  generalize (p + f ^ i - 1) / f ^ i=q
  omega
 rw [h1,acC,abw]
structure Hs (p f h:Nat):Prop where
 one:cnt p f h=1
 more:∀ i,i < h->1 < cnt p f i
theorem Nx {p f h:Nat} (hf:1<=f) (hh:p<=f ^ h) (hp:1<=p):cnt p f h=1:=by
 unfold cnt
 have hw:0 < f ^ h:=aa7 (by omega)
 apply acM <;> omega
theorem Sz {p f:Nat} (hf:2<=f) (hp:1<=p):∀ n:Nat,p<=f ^ n->∃ h,h<=n/\Hs p f h
 | 0,h=>⟨0,aaj _,Nx (by omega) h hp,fun i hi=>absurd hi (by omega)⟩
 | n + 1,h=>by
  by_cases hn:p<=f ^ n
  ·obtain ⟨k,h1,h2⟩:=Sz hf hp n hn
   exact ⟨k,by omega,h2⟩
  ·refine ⟨n + 1,aaj _,Nx (by omega) h hp,fun i hi=>?_⟩
   unfold cnt
   have hw:0 < f ^ i:=aa7 (by omega)
   have hm:f ^ i<=f ^ n:=ach (by omega) (by omega)
   have:2<=(p + f ^ i - 1) / f ^ i:=by
    rw [acH hw]; omega
   omega
theorem hs8 {p f:Nat} (hf:2<=f) (hp:1<=p) (hp2:p<=200):∃ h,h<=8/\Hs p f h:=by
 refine Sz hf hp 8 (aaK (show p<=2 ^ 8 by omega) (acN hf 8))
theorem RM {f l:Nat} (hf:f<=8) (hl:l<=9):f ^ l<=134217728 :=
 aaK (acN hf l) (aaK (ach (by decide) hl) (by decide))
theorem AX {p f l j:Nat} (hf:1<=f):j < cnt p f l ↔ j * f ^ l < p:=by
 unfold cnt
 have hw:0 < f ^ l:=aa7 (by omega)
 rw [<- Nat.succ_le_iff,acH hw,ace]
 omega
theorem Gh {p f l:Nat} (hf:1<=f):cnt p f l<=p:=by
 apply abc
 intro h
 have:=(AX hf).mp h
 have hw:0 < f ^ l:=aa7 (by omega)
 have:=acw p hw
 omega
noncomputable def mx (b:Nat->Bool):Nat->Nat
 | 0=>0
 | l + 1=>if b (l + 1) then l + 1 else mx b l
theorem Ji (b:Nat->Bool):∀ n,mx b n<=n
 | 0=>aaj _
 | l + 1=>by unfold mx; split; exact aaj _; exact Nat.le_succ_of_le (Ji b l)
theorem Lf {b:Nat->Bool} (h0:b 0=true):∀ n,b (mx b n)=true
 | 0=>h0
 | l + 1=>by unfold mx; split; assumption; exact Lf h0 l
theorem Ov {b:Nat->Bool}:∀ n l,mx b n < l->l<=n->b l=false
 | 0,l,h,h2=>by unfold mx at h; omega
 | n + 1,l,h,h2=>by
  unfold mx at h
  split at h
  ·omega
  ·rename_i hb
   by_cases e:l=n + 1
   ·subst e; simpa using hb
   ·exact Ov n l h (by omega)
noncomputable def okL (p f a e l:Nat):Bool:=a % f ^ l==0 && decide (min p (a + f ^ l)<=e)
theorem Gi {p f a e l:Nat}:okL p f a e l=true ↔ a % f ^ l=0/\min p (a + f ^ l)<=e:=by unfold okL; simp
theorem Mn {p f a e l k:Nat} (hf:1<=f) (h:okL p f a e l=true) (hk:k<=l):okL p f a e k=true:=by
 rw [Gi] at h ⊢
 refine ⟨Nat.mod_eq_zero_of_dvd (Nat.dvd_trans (Nat.pow_dvd_pow f hk) (Nat.dvd_of_mod_eq_zero h.1)),?_⟩
 have:f ^ k<=f ^ l:=ach hf hk
 omega
noncomputable def lvA (p f h e a:Nat):Nat:=mx (okL p f a e) h
noncomputable def nxA (p f h e a:Nat):Nat:=min p (a + f ^ lvA p f h e a)
noncomputable def cov (p f h e:Nat):Nat->Nat->List (Nat × Nat)
 | 0,_=>[]
 | n + 1,a=>if a < e then (lvA p f h e a,a / f ^ lvA p f h e a) :: cov p f h e n (nxA p f h e a) else []
theorem RN {p f a e:Nat} (h:a < e):okL p f a e 0=true:=by
 rw [Gi,ab0,Nat.mod_one]; omega
theorem Ha {p f h a e:Nat} (hae:a < e):a % f ^ lvA p f h e a=0/\nxA p f h e a<=e:=Gi.mp (Lf (RN hae) h)
theorem Mo {p f h a e:Nat} (hf:1<=f) (hae:a < e) (hep:e<=p):a < nxA p f h e a:=by
 unfold nxA
 have:0 < f ^ lvA p f h e a:=aa7 (by omega)
 omega
end Pu
end
section
open Pu
local macro_rules | `(tactic| simp_arith [$xs,*] $[at $h:ident]?)=>`(tactic| simp -implicitDefEqProofs only [Pu.AR,abk,aam,aa0,aaW,↓reduceIte,aaM,Nat.reduceAdd,Nat.reduceSub,acW,Int.reduceAdd,Int.reduceSub,Int.reduceMul,at0,at1,beq_self_eq_true,acJ,acL,abA,abi,acF,exs,ex,tv,ev,evs,evI,evBo,Eo,Ep,Res.bind_ok,Res.out_ok,Out.then_nxt,Out.then_ret,aa8,aaZ,JS,JT,Dw,D7,Cz,CA,Dx,CB,E2,E4,E5,E6,Dy,D8,BP,decide_true,decide_false,if_true,if_false,aaO,abo,abz,abO,evP,ixD,Fg,Gp,upd,Di,aaY,acu,aao,abS,biD,Eu,Dn,DG,on1,on2,on3,Ed,BS,DP,Dm,Gq,Ee,FS,dI,dB,dS,dL,dT',un1,un0,C7,DN,E.isCN,DO,reduceCtorEq,Int.reduceLT,Int.reduceLE,Int.reduceNeg,Int.reduceBEq,$xs,*] $[at $h:ident]?)
namespace Pu
open PySem
theorem Dg {c:Fr->Res Bool} {b:Fr->Out} {n:Nat} {δ δ':Fr} (h1:c δ=.ok true) (h2:b δ=.nxt δ'):AI c b (n + 1) δ=AI c b n δ':=by
 rw [AI,h1,Res.out_ok,if_pos rfl,h2,Out.then_nxt]
theorem Cg {c:Fr->Res Bool} {b:Fr->Out} {n:Nat} {δ:Fr} (h1:c δ=.ok false):AI c b (n + 1) δ=.nxt δ:=by
 rw [AI,h1,Res.out_ok]; rfl
noncomputable def iN (n:Nat):D:=.int n
noncomputable def AS (xs:List Nat):D:=.lst (xs.map iN)
noncomputable def lvD (p f h:Nat):List Nat:=(aar (h + 1)).map (cnt p f)
noncomputable def shD (p f:Nat):D:=.tup [.int p,.int f]
noncomputable def Ak (l j:Nat):D:=.tup [.int l,.int j]
theorem P7 {m f:Nat} (hf:1<=f):((m:Int) + (f:Int) - 1) / (f:Int)=(((m + f - 1) / f:Nat):Int):=by
 rw [acv]; congr 1; omega
theorem Jj {xs:List Nat} {i:Nat} (h:i < xs.length):atD (xs.map iN) (i:Int)=.ok (.int (xs[i]:Nat)):=by
 unfold atD ixN
 rw [aac,if_pos (by omega),if_pos (by omega)]
 simp [h,iN]
theorem Hx (p f i:Nat):((aar (i + 1)).map (cnt p f)).map iN=((aar i).map (cnt p f)).map iN ++ [.int (cnt p f i)]:=by
 rw [abq,aao,aao]; rfl
section
variable {p f h:Nat} (hf:2<=f) (hf8:f<=8) (H:Hs p f h) (hh:h<=8)
include hf hf8 H hh
theorem T1 (xs:List D) (hl:xs.length<=1000) (i:Nat):exs Cv [some (shD p f),some (.int f),some (.lst xs),some (.int (cnt p f i))]=.nxt [some (shD p f),some (.int f),some (.lst (xs ++ [.int (cnt p f i)])),some (.int (cnt p f (i + 1)))]:=by
 have hap:=BX xs (.int (cnt p f i)) (by omega)
 have h1:0 < (f:Int):=by omega
 have h2:(f:Int) < 1606938044258990275541962092341162602522202993782792835301376:=by omega
 rw [Mm (by omega),<- P7 (by omega)]
 simp_arith [Cv,hap,h1,h2]
theorem T2:AI (tv (.cmp .gt (.nm 3) (.cI 1))) (exs Cv) FU [some (shD p f),some (.int f),some (.lst []),some (.int p)]=.nxt [some (shD p f),some (.int f),some (.lst (((aar h).map (cnt p f)).map iN)),some (.int (1:Nat))]:=by
 obtain ⟨δ',e,rfl⟩:=FP (c:=tv (.cmp .gt (.nm 3) (.cI 1))) (b:=exs Cv) (fun i δ=>δ=[some (shD p f),some (.int f),some (.lst (((aar i).map (cnt p f)).map iN)),some (.int (cnt p f i))]) h FU 0 (δ:=[some (shD p f),some (.int f),some (.lst []),some (.int p)]) (by rw [GA]; rfl) (by
   rintro i δ _ hi rfl
   have:=H.more i (by omega)
   have h1:(1:Int) < (cnt p f i:Int):=by omega
   refine ⟨?_,_,T1 hf hf8 H hh _ (by simp; omega) i,by rw [Hx]⟩
   simp_arith [h1]) (by
   rintro δ rfl
   rw [aaM,H.one]
   rfl) (by unfold FU; omega)
 rw [e,aaM,H.one]
theorem E7:CO.den [shD p f]=.ok (AS (lvD p f h)):=by
 have hl:=T2 hf hf8 H hh
 have hap:=BX (((aar h).map (cnt p f)).map iN) (.int (1:Nat)) (by simp; omega)
 have e:=Hx p f h
 rw [H.one] at e
 refine (Ky _ rfl).trans (Ae ?_)
 unfold AS lvD
 rw [e]
 unfold shD at hl ⊢
 have h1:((1:Nat):Int)=1:=rfl
 rw [h1] at hap hl ⊢
 simp_arith [Fo,hl,hap]
end
theorem MO (f:Nat):CO.den [shD 0 f]=.ok (AS []):=by
 refine (Ky _ rfl).trans (Ae ?_)
 unfold shD AS
 have h1:((0:Nat):Int)=0:=rfl
 have hl:AI (tv (.cmp .gt (.nm 3) (.cI 1))) (exs Cv) FU [some (.tup [.int 0,.int f]),some (.int f),some (.lst []),some (.int 0)]=.nxt [some (.tup [.int 0,.int f]),some (.int f),some (.lst []),some (.int 0)]:=by
  unfold FU
  exact Cg rfl
 rw [h1]
 simp_arith [Fo,hl]
theorem BA (p f h:Nat):(lvD p f h).length=h + 1:=by unfold lvD; simp
theorem Gj {p f h i:Nat} (hi:i<=h):(lvD p f h)[i]'(by rw [BA]; omega)=cnt p f i:=by unfold lvD; simp
section
variable {p f h:Nat} (hf:2<=f) (hf8:f<=8) (H:Hs p f h) (hh:h<=8) {l j:Nat} (hl:l<=h) (hj:j < cnt p f l)
include hl hj
theorem JU:AN.den [AS (lvD p f h),Ak l j]=.ok (.bl true):=by
 have h1:=BY (l:Int) 0 (((lvD p f h).length:Int) - 1)
 rw [BA,decide_eq_true (by omega)] at h1
 have h2:=BY (j:Int) 0 ((cnt p f l:Int) - 1)
 rw [decide_eq_true (by omega)] at h2
 have h3:=Jj (xs:=lvD p f h) (i:=l) (by rw [BA]; omega)
 rw [Gj hl] at h3
 have h4:(h:Int) + 1 - 1=h:=by omega
 refine (EB _ rfl).trans (Ae ?_)
 unfold AS Ak
 have h5:=BA p f h
 simp_arith [AZ,h1,h2,h3,h5,aac,aaM,Nat.reduceAdd,acW]
end
theorem Ny {n:Nat} {b:Ss} {ds:List D} {δ:Fr} (h:exs b (Pu.AR n ds)=.nxt δ):run n b ds=.ok .non:=by
 unfold run; rw [h]
theorem P8 (a b c d:Int):c2 .eq (.tup [.int a,.int b]) (.tup [.int c,.int d])=.ok (.bl (a==c && (b==d && true))):=rfl
theorem RP (xs:List Nat) (k:Nat):(xs.map iN).all (D.shp k)=true:=by
 rw [aaw]
 intro d hd
 obtain ⟨n,_,rfl⟩:=aav.mp hd
 cases k <;> rfl
theorem CY (xs:List D) (h:xs.all (D.shp 7)=true):c2 .eq (.lst xs) (.lst [])=.ok (.bl xs.isEmpty):=by
 show (if (D.shp 8 (.lst xs) && D.shp 8 (.lst [])) then _ else _)=_
 rw [show D.shp 8 (.lst xs)=true from h,show D.shp 8 (.lst [])=true from rfl]
 cases xs <;> rfl
section
variable {p f h:Nat} (hf:2<=f) (hf8:f<=8) (H:Hs p f h) (hh:h<=8)
include hf hf8 H hh
section
variable {l j:Nat} (hl:l<=h) (hj:j < cnt p f l)
include hl hj
theorem MP:DS.den [shD p f,Ak l j]=.ok (.bl true):=by
 have h1:=E7 hf hf8 H hh
 have h2:=JU hl hj
 refine (IW _ rfl).trans (Ae ?_)
 simp_arith [EC,h1,h2]
theorem Dh:Cj.den [shD p f,Ak l j]=.ok .non:=by
 have h1:=MP hf hf8 H hh hl hj
 refine (KM _ rfl).trans (Ny (δ:=[some (shD p f),some (Ak l j)]) ?_)
 simp_arith [DT,h1]
end
theorem P9 (l j:Nat):∃ o,AU (.nm 3) (exs FJ) (Ar 0 (l:Int)) [some (shD p f),some (Ak l j),some (.int 1),none,none]=.nxt [some (shD p f),some (Ak l j),some (.int ((f ^ l:Nat):Int)),o,none]:=by
 obtain ⟨δ',e,o,rfl⟩:=Bg (tg:=.nm 3) (b:=exs FJ) (fun i δ=>∃ o,δ=[some (shD p f),some (Ak l j),some (.int ((f ^ i:Nat):Int)),o,none]) (ds:=Ar 0 (l:Int)) (δ:=[some (shD p f),some (Ak l j),some (.int 1),none,none]) 0 ⟨none,rfl⟩ (by
  rintro i d δ hd ⟨o,rfl⟩
  refine ⟨_,_,rfl,?_,some d,rfl⟩
  have h1:-(18446744073709551616) < (f:Int):=by omega
  have h2:(f:Int) < 18446744073709551616:=by omega
  rw [abw,aaM,aa4]
  unfold shD
  simp_arith [FJ,h1,h2])
 rw [Cf,acr,aau,aaM] at e
 exact ⟨o,e⟩
theorem Ij {l j:Nat} (hl:l<=h) (hj:j < cnt p f l):BG.den [shD p f,Ak l j]=.ok (Ak (j * f ^ l) (min p (j * f ^ l + f ^ l))):=by
 have hc:=Dh hf hf8 H hh hl hj
 obtain ⟨o,e⟩:=P9 hf hf8 H hh l j
 have hr:=BI (a:=0) (b:=(l:Int)) (by omega) (by omega) (by omega) (by omega)
 have hw:=RM (f:=f) (l:=l) hf8 (by omega)
 have h1:-(18446744073709551616) < ((f ^ l:Nat):Int):=by omega
 have h2:((f ^ l:Nat):Int) < 18446744073709551616:=by omega
 refine (T0 _ rfl).trans (Ae ?_)
 generalize f ^ l=w at *
 have h3:(((min p (j * w + w):Nat)):Int)=min ((j:Int) * w + w) p:=by rw [<- aa4]; omega
 unfold Ak at e hc ⊢
 unfold shD at e hc ⊢
 rw [h3,aa4]
 simp_arith [IX,hc,hr,e,h1,h2]
theorem Ik:IY.den [shD p f]=.ok (Ak h 0):=by
 have h1:=E7 hf hf8 H hh
 have h2:=CY ((lvD p f h).map iN) (RP _ _)
 have h3:((lvD p f h).map iN).isEmpty=false:=by
  rw [List.isEmpty_eq_false_iff_exists_mem]
  refine ⟨iN (cnt p f 0),aav.mpr ⟨cnt p f 0,?_,rfl⟩⟩
  exact aav.mpr ⟨0,by simp,rfl⟩
 rw [h3] at h2
 have h5:=BA p f h
 refine (VI _ rfl).trans (Ae ?_)
 unfold AS at h1
 unfold Ak
 have h6:(((h + 1:Nat):Int) - 1)=h:=by omega
 simp_arith [Le,h1,h2,h5,h6,aac]
theorem JV:CP.den [shD p f,Ak h 0]=.ok .non:=by
 have hc:=Dh hf hf8 H hh (l:=h) (j:=0) (aaj _) (by rw [H.one]; decide)
 have ht:=Ik hf hf8 H hh
 have h1:(((h:Int)==(h:Int)) && (((0:Int)==(0:Int)) && true))=true:=by simp
 refine (Kz _ rfl).trans (Ae ?_)
 unfold Ak at hc ht ⊢
 rw [show ((0:Nat):Int)=0 from rfl] at *
 simp_arith [Fp,hc,ht,P8,h1]
theorem Ow {l j:Nat} (hl:l < h) (hj:j < cnt p f l):CP.den [shD p f,Ak l j]=.ok (Ak (l + 1) (j / f)):=by
 have hc:=Dh hf hf8 H hh (l:=l) (j:=j) (by omega) hj
 have ht:=Ik hf hf8 H hh
 have h1:(((l:Int)==(h:Int)) && ((j:Int)==(0:Int)))=false:=by
  have:((l:Int)==(h:Int))=false:=by simp; omega
  rw [this]; rfl
 have h2:0 < (f:Int):=by omega
 have h3:(f:Int) < 1606938044258990275541962092341162602522202993782792835301376:=by omega
 refine (Kz _ rfl).trans (Ae ?_)
 unfold Ak shD at *
 rw [acv,Int.natCast_add]
 rw [show ((0:Nat):Int)=0 from rfl] at ht
 simp_arith [Fp,hc,ht,P8,h1,h2,h3,Int.natCast_one]
end
theorem RQ (a b c d:Int):Bz.den [.tup [.int a,.int b],.int c,.int d]=.ok (.bl (decide (c<=a/\b<=d))):=by
 refine (JM _ rfl).trans (Ae ?_)
 by_cases h1:c<=a <;> by_cases h2:b<=d <;> simp_arith [DB,h1,h2,and_self,and_true,and_false]
theorem T3 (a b k:Nat):D.flat 9 k (Ak a b)=true:=rfl
noncomputable def Ab (q:Nat × Nat):D:=Ak q.1 q.2
noncomputable def GB (p f h e n a:Nat):List D:=(cov p f h e n a).map Ab
section
variable {p f h:Nat} (hf:2<=f) (hf8:f<=8) (H:Hs p f h) (hh:h<=8)
include hf hf8 H hh
section
variable {a e:Nat} (hae:a < e) (hep:e<=p)
include hae hep
theorem Jk (l:Nat):a / f ^ l < cnt p f l:=by
 rw [AX (by omega)]
 have:=acO a (f ^ l)
 omega
theorem VJ (l:Nat) (hl:l < h):CP.den [shD p f,Ak l (a / f ^ l)]=.ok (Ak (l + 1) (a / f ^ (l + 1))):=by
 have:=Ow hf hf8 H hh hl (Jk hf hf8 H hh hae hep l)
 rw [acC,<- abw] at this
 exact this
theorem Qa (l:Nat) (hl:l<=h) (h0:a % f ^ l=0\/True):∃ b c:Nat,BG.den [shD p f,Ak l (a / f ^ l)]=.ok (Ak b c)/\Bz.den [Ak b c,.int a,.int e]=.ok (.bl (okL p f a e l)):=by
 refine ⟨_,_,Ij hf hf8 H hh hl (Jk hf hf8 H hh hae hep l),?_⟩
 unfold Ak
 rw [RQ]
 congr 2
 have hw:0 < f ^ l:=aa7 (by omega)
 have hm:=aci a (f ^ l)
 rw [abM] at hm
 rw [abC,decide_eq_true_eq,Gi]
 generalize f ^ l=w at *
 generalize a / w=q at *
 generalize a % w=r at *
 generalize q * w=x at *
 constructor
 ·rintro ⟨h1,h2⟩
  have:r=0:=by omega
  omega
 ·rintro ⟨h1,h2⟩
  omega
noncomputable def upD (p f h a l:Nat):D:=if l=h then .non else Ak (l + 1) (a / f ^ (l + 1))
theorem SA (l:Nat) (hl:l<=h):CP.den [shD p f,Ak l (a / f ^ l)]=.ok (upD p f h a l):=by
 unfold upD
 by_cases e':l=h
 ·rw [if_pos e']
  have h0:a / f ^ l=0:=by
   have:=Jk hf hf8 H hh hae hep l
   rw [e',H.one,<- e'] at this
   exact Nat.lt_one_iff.mp this
  rw [h0,e']
  exact JV hf hf8 H hh
 ·rw [if_neg e']
  exact VJ hf hf8 H hh hae hep l (by omega)
theorem Nz (l:Nat) (hl:l<=h):tv (.bo true (.cons (.isN true (.nm 4)) (.cons (.call Bz (.cons (.callB BG (.cons (.nm 0) (.cons (.nm 4) .nil))) (.cons (.nm 1) (.cons (.nm 2) .nil)))) .nil))) [some (shD p f),some (.int a),some (.int e),some (Ak l (a / f ^ l)),some (upD p f h a l)]=.ok (decide (l < h) && okL p f a e (l + 1)):=by
 unfold upD
 by_cases e':l=h
 ·have h1:decide (l < h)=false:=by simp; omega
  rw [if_pos e',h1]
  simp_arith []
 ·have h1:decide (l < h)=true:=by simp; omega
  rw [if_neg e',h1]
  obtain ⟨b,c,h2,h3⟩:=Qa hf hf8 H hh hae hep (l + 1) (by omega) (.inr trivial)
  have h4:=T3 b c BG.dep
  simp_arith [show (Ak (l + 1) (a / f ^ (l + 1)))=.tup [.int ((l + 1:Nat):Int),.int ((a / f ^ (l + 1):Nat):Int)] from rfl]
  rw [show D.tup [.int ((l + 1:Nat):Int),.int ((a / f ^ (l + 1):Nat):Int)]=(Ak (l + 1) (a / f ^ (l + 1))) from rfl,h2]
  simp_arith [h4,h3]
theorem T4 (l:Nat) (hl:l < h):exs BC [some (shD p f),some (.int a),some (.int e),some (Ak l (a / f ^ l)),some (upD p f h a l)]=.nxt [some (shD p f),some (.int a),some (.int e),some (Ak (l + 1) (a / f ^ (l + 1))),some (upD p f h a (l + 1))]:=by
 have h1:upD p f h a l=Ak (l + 1) (a / f ^ (l + 1)):=by unfold upD; rw [if_neg (by omega)]
 have h2:=SA hf hf8 H hh hae hep (l + 1) (by omega)
 rw [h1]
 simp_arith [BC,h2]
theorem VL:Dk.den [shD p f,.int a,.int e]=.ok (Ak (lvA p f h e a) (a / f ^ lvA p f h e a)):=by
 have hm:lvA p f h e a<=h:=Ji _ _
 obtain ⟨δ',e',rfl⟩:=FP (c:=tv (.bo true (.cons (.isN true (.nm 4)) (.cons (.call Bz (.cons (.callB BG (.cons (.nm 0) (.cons (.nm 4) .nil))) (.cons (.nm 1) (.cons (.nm 2) .nil)))) .nil)))) (b:=exs BC) (fun l δ=>δ=[some (shD p f),some (.int a),some (.int e),some (Ak l (a / f ^ l)),some (upD p f h a l)]) (lvA p f h e a) FU 0 (δ:=[some (shD p f),some (.int a),some (.int e),some (Ak 0 (a / f ^ 0)),some (upD p f h a 0)]) rfl (by
   rintro l δ _ hl rfl
   refine ⟨?_,_,T4 hf hf8 H hh hae hep l (by omega),rfl⟩
   rw [Nz hf hf8 H hh hae hep l (by omega),decide_eq_true (by omega),abA]
   congr 1
   exact Mn (by omega) (Lf (RN hae) h) (show l + 1<=lvA p f h e a by omega)) (by
   rintro δ rfl
   rw [aaM,Nz hf hf8 H hh hae hep _ hm]
   by_cases h1:lvA p f h e a < h
   ·rw [Ov (b:=okL p f a e) h (lvA p f h e a + 1) (ab9 _) h1,acF]
   ·rw [decide_eq_false h1,abi]) (by unfold FU; omega)
 rw [aaM] at e'
 have h1:=SA hf hf8 H hh hae hep 0 (by omega)
 rw [ab0,Nat.div_one] at h1 e'
 refine (HC _ rfl).trans (Ae ?_)
 unfold Ak at h1 e' ⊢
 rw [show ((0:Nat):Int)=0 from rfl] at h1 e'
 simp_arith [Cb,h1,e']
theorem T5:BG.den [shD p f,Ak (lvA p f h e a) (a / f ^ lvA p f h e a)]=.ok (Ak a (nxA p f h e a)):=by
 have h1:=Ij hf hf8 H hh (show lvA p f h e a<=h from Ji (okL p f a e) h) (Jk hf hf8 H hh hae hep (lvA p f h e a))
 rw [show a / f ^ lvA p f h e a * f ^ lvA p f h e a=a by
  have:=aci a (f ^ lvA p f h e a)
  rw [(Ha hae).1,abM] at this
  exact this] at h1
 exact h1
theorem T6 (b:Nat) (xs:List D) (hx:xs.length<=1000) (o:Option D):exs EZ [some (shD p f),some (.int b),some (.int e),some (.lst xs),some (.int a),o]=.nxt [some (shD p f),some (.int b),some (.int e),some (.lst (xs ++ [Ak (lvA p f h e a) (a / f ^ lvA p f h e a)])),some (.int (nxA p f h e a)),some (Ak (lvA p f h e a) (a / f ^ lvA p f h e a))]:=by
 have h1:=VL hf hf8 H hh hae hep
 have h2:=T5 hf hf8 H hh hae hep
 generalize Ak (lvA p f h e a) (a / f ^ lvA p f h e a)=nd at *
 have h3:=BX xs nd (by omega)
 unfold Ak at h2
 simp_arith [EZ,h1,h2,h3]
end
theorem NA {e:Nat} (hep:e<=p) (b:Nat):∀ (n m a:Nat) (xs:List D) (o:Option D),e - a<=n->n < m->a<=e->xs.length + n<=1000->∃ o',AI (tv (.cmp .lt (.nm 4) (.nm 2))) (exs EZ) m [some (shD p f),some (.int b),some (.int e),some (.lst xs),some (.int a),o]=.nxt [some (shD p f),some (.int b),some (.int e),some (.lst (xs ++ GB p f h e n a)),some (.int e),o']
 | n,m + 1,a,xs,o,h1,h2,h3,h4=>by
  by_cases hae:a < e
  ·obtain ⟨n,rfl⟩:∃ k,n=k + 1:=⟨n - 1,by omega⟩
   have c1:(a:Int) < e:=by omega
   have hn:=Mo (p:=p) (f:=f) (h:=h) (by omega) hae hep
   have hn2:=(Ha (p:=p) (f:=f) (h:=h) hae).2
   rw [Dg (by simp_arith [c1]) (T6 hf hf8 H hh hae hep b xs (by omega) o)]
   obtain ⟨o',e'⟩:=NA hep b n m (nxA p f h e a) (xs ++ [Ak (lvA p f h e a) (a / f ^ lvA p f h e a)]) (some (Ak (lvA p f h e a) (a / f ^ lvA p f h e a))) (by omega) (by omega) hn2 (by simp; omega)
   refine ⟨o',?_⟩
   rw [e',aba]
   unfold GB
   rw [cov,if_pos hae]
   rfl
  ·have ha:a=e:=by omega
   subst ha
   have c1:¬ (a:Int) < a:=by omega
   refine ⟨o,?_⟩
   rw [Cg (by simp_arith [c1])]
   unfold GB
   cases n with
   | zero=>simp [cov]
   | succ n=>rw [cov,if_neg hae]; simp
theorem Hb {a e:Nat} (hae:a<=e) (hep:e<=p) (hp:p<=200):DI.den [shD p f,.int a,.int e]=.ok (.lst (GB p f h e 200 a)):=by
 obtain ⟨o,e'⟩:=NA hf hf8 H hh hep a 200 FU a [] none (by omega) (by unfold FU; omega) hae (by simp)
 have c1:¬ (a:Int) < 0:=by omega
 have c2:¬ (p:Int) < e:=by omega
 have c3:¬ (e:Int) < a:=by omega
 rw [aaW] at e'
 refine (RJ _ rfl).trans (Ae ?_)
 unfold shD at e' ⊢
 simp_arith [Hu,c1,c2,c3,e']
end
theorem JW (xs:List D) (d:D):atD (xs ++ [d]) (-1)=.ok d:=by
 unfold atD ixN
 rw [if_neg (by decide),if_pos (by rw [aaE,abL]; omega),aaE,abL]
 show (match (xs ++ [d])[((-1:Int) + ((xs.length + 1:Nat):Int)).toNat]? with | some d=>Res.ok d | none=>Res.bad)=_
 rw [show ((-1:Int) + ((xs.length + 1:Nat):Int)).toNat=xs.length by omega,aaH (aaj _),Nat.sub_self]
 rfl
section
variable {p f h:Nat} (hf:2<=f) (hf8:f<=8) (H:Hs p f h) (hh:h<=8)
include hf hf8 H hh
noncomputable def cL (p f i:Nat):D:=.lst (((aar i).map (cnt p f)).map iN ++ [.int (cnt p f i)])
theorem T7 (i:Nat) (hi:i<=8):exs A6 [some (.int p),some (.int f),some (cL p f i)]=.nxt [some (.int p),some (.int f),some (cL p f (i + 1))]:=by
 have h0:=JW (((aar i).map (cnt p f)).map iN) (.int (cnt p f i))
 have hap:=BX (((aar i).map (cnt p f)).map iN ++ [.int (cnt p f i)]) (.int (cnt p f (i + 1))) (by simp; omega)
 have h1:0 < (f:Int):=by omega
 have h2:(f:Int) < 1606938044258990275541962092341162602522202993782792835301376:=by omega
 have e1:cL p f (i + 1)=.lst ((((aar i).map (cnt p f)).map iN ++ [.int (cnt p f i)]) ++ [.int (cnt p f (i + 1))]):=by
  unfold cL; rw [Hx]
 rw [e1]
 rw [Mm (by omega),<- P7 (by omega)] at hap ⊢
 unfold cL
 generalize ((aar i).map (cnt p f)).map iN=xs at *
 simp_arith [A6,h0,h1,h2,hap]
theorem T8:AI (tv (.cmp .gt (.ixL (.nm 2) (.neg (.cI 1))) (.cI 1))) (exs A6) FU [some (.int p),some (.int f),some (cL p f 0)]=.nxt [some (.int p),some (.int f),some (cL p f h)]:=by
 have cd:∀ i,tv (.cmp .gt (.ixL (.nm 2) (.neg (.cI 1))) (.cI 1)) [some (.int p),some (.int f),some (cL p f i)]=.ok (decide (1 < (cnt p f i:Int))):=fun i=>by
  have h0:=JW (((aar i).map (cnt p f)).map iN) (.int (cnt p f i))
  unfold cL
  simp_arith [h0]
 obtain ⟨δ',e,rfl⟩:=FP (c:=tv (.cmp .gt (.ixL (.nm 2) (.neg (.cI 1))) (.cI 1))) (b:=exs A6) (fun i δ=>δ=[some (.int p),some (.int f),some (cL p f i)]) h FU 0 (δ:=[some (.int p),some (.int f),some (cL p f 0)]) rfl (by
   rintro i δ _ hi rfl
   have:=H.more i (by omega)
   refine ⟨?_,_,T7 hf hf8 H hh i (by omega),rfl⟩
   rw [cd,decide_eq_true (by omega)]) (by
   rintro δ rfl
   rw [aaM,cd,H.one]
   rfl) (by unfold FU; omega)
 rw [e,aaM]
theorem Jl (hp:1<=p):BQ.den [.int p,.int f]=.ok (AS (lvD p f h)):=by
 have hl:=T8 hf hf8 H hh
 have e:AS (lvD p f h)=cL p f h:=by unfold AS lvD cL; rw [Hx]
 have c1:((p:Int)==0)=false:=by simp; omega
 have e0:cL p f 0=.lst [.int p]:=by unfold cL; rw [GA]; rfl
 rw [e0] at hl
 rw [e]
 refine (HD _ rfl).trans (Ae ?_)
 simp_arith [Ce,c1,hl]
end
theorem Ox (p f l j:Nat) (hf8:f<=8):∃ o,AU (.nm 5) (exs BK) (Ar 0 (l:Int)) [some (.int p),some (.int f),some (.int l),some (.int j),some (.int 1),none]=.nxt [some (.int p),some (.int f),some (.int l),some (.int j),some (.int ((f ^ l:Nat):Int)),o]:=by
 obtain ⟨δ',e,o,rfl⟩:=Bg (tg:=.nm 5) (b:=exs BK) (fun i δ=>∃ o,δ=[some (.int p),some (.int f),some (.int l),some (.int j),some (.int ((f ^ i:Nat):Int)),o]) (ds:=Ar 0 (l:Int)) (δ:=[some (.int p),some (.int f),some (.int l),some (.int j),some (.int 1),none]) 0 ⟨none,rfl⟩ (by
  rintro i d δ hd ⟨o,rfl⟩
  refine ⟨_,_,rfl,?_,some d,rfl⟩
  have h1:-(18446744073709551616) < (f:Int):=by omega
  have h2:(f:Int) < 18446744073709551616:=by omega
  rw [abw,aaM,aa4]
  simp_arith [BK,h1,h2])
 rw [Cf,acr,aau,aaM] at e
 exact ⟨o,e⟩
theorem Qb (p f l j:Nat) (hf8:f<=8) (hl:l<=8):DK.den [.int p,.int f,.int l,.int j]=.ok (Ak (j * f ^ l) (min p (j * f ^ l + f ^ l))):=by
 obtain ⟨o,e⟩:=Ox p f l j hf8
 have hr:=BI (a:=0) (b:=(l:Int)) (by omega) (by omega) (by omega) (by omega)
 have hw:=RM (f:=f) (l:=l) hf8 (by omega)
 have h1:-(18446744073709551616) < ((f ^ l:Nat):Int):=by omega
 have h2:((f ^ l:Nat):Int) < 18446744073709551616:=by omega
 refine (Ic _ rfl).trans (Ae ?_)
 generalize f ^ l=w at *
 have h3:(((min p (j * w + w):Nat)):Int)=min (p:Int) ((j:Int) * w + w):=by rw [<- aa4]; omega
 unfold Ak
 rw [h3,aa4]
 simp_arith [CK,hr,e,h1,h2]
mutual
theorem Il:∀ {n:Nat} {d:D},D.shp n d=true->D.eqv d d=true
 | _,.non,_=>by simp [D.eqv]
 | _,.bl b,_=>by simp [D.eqv]
 | _,.int i,_=>by simp [D.eqv]
 | _,.str x,_=>by simp [D.eqv]
 | n + 1,.tup ds,h=>by rw [D.eqv]; exact eqvs_refl (n:=n) h
 | n + 1,.lst ds,h=>by rw [D.eqv]; exact eqvs_refl (n:=n) h
 | 0,.tup ds,h=>by cases h
 | 0,.lst ds,h=>by cases h
 | _,.exn _,h=>by simp [D.shp] at h
theorem eqvs_refl:∀ {n:Nat} {ds:List D},ds.all (D.shp n)=true->D.eqvs ds ds=true
 | _,[],_=>by simp [D.eqvs]
 | n,d :: ds,h=>by
  rw [aaG,aah] at h
  rw [D.eqvs,Il h.1,eqvs_refl h.2]; rfl
end
theorem Oy (d:D) (h:D.shp 8 d=true):c2 .eq d d=.ok (.bl true):=by
 show (if _ then _ else _)=_
 rw [h,Il h]; rfl
theorem Oz (d:D) (h:D.shp 8 d=true):c2 .ne d d=.ok (.bl false):=by
 show (if _ then _ else _)=_
 rw [h,Il h]; rfl
theorem KA (qs:List (Nat × Nat)) (k:Nat):(qs.map Ab).all (D.shp (k + 1))=true:=by
 rw [aaw]
 intro d hd
 obtain ⟨n,_,rfl⟩:=aav.mp hd
 cases k <;> rfl
theorem NB (i j:Nat) (a b:D) (δ:Fr):Dz (.tp [i,j]) (.tup [a,b]) δ=some ((δ.set i (some a)).set j (some b)):=rfl
theorem VM (ds es:List D) (h:ds.length + es.length<=16777216):umD .extend [.lst es] ds=some (ds ++ es):=by
 show (if _ then _ else _)=_
 exact if_pos h
theorem W7 {xs:List Int} (h:xs.length=3):∃ a b c,xs=[a,b,c]:=by
 match xs,h with
 | [a,b,c],_=>exact ⟨a,b,c,rfl⟩
section
variable (a b c d e f g h:D)
theorem Im:atD [a,b,c] 0=.ok a:=rfl
theorem Io:atD [a,b,c] 1=.ok b:=rfl
theorem Mp:atD [a,b,c] 2=.ok c:=rfl
end
structure Sp (p f h:Nat):Prop where
 hf:2<=f
 hf8:f<=8
 hp:p<=200
 hh:h<=8
 hs:p=0\/Hs p f h
theorem pw6:b2 .pow (.int 10) (.int 6)=.ok (.int 1000000):=by
 rw [Fw _ _ (by decide) (by decide) (by decide)]; rfl
theorem Mq (d:D):∀ n,(aam n [d]).flatten=aam n d
 | 0=>rfl
 | n + 1=>by rw [abh,abG,Mq d n]; rfl
theorem VN (d:D) (n:Nat) (h:n<=1000):b2 .mul (.lst [d]) (.int n)=.ok (.lst (aam n d)):=by
 rw [b2,LF,if_pos]
 ·rw [aau,Mq]
 ·rw [aau,abL]
  unfold LIM
  omega
section
variable {xs rs:List Int} {k:Nat} {s p m:D} {sc x c e:Int} {o7:Option D} (h0:0<=sc) (h1:sc<=100000000000000000) (x0:0<=x) (x1:x < 13) (e0:0<=e) (e1:e < 13) (a2:atD (xs.map D.int) 2=.ok (.int c)) (a3:atD (xs.map D.int) 3=.ok (.int e)) (ak:atD (xs.map D.int) (4 + (k:Int))=.ok (.int x)) (hr:rs.length<=1000)
include h0 h1 x0 x1 e0 e1 a2 a3 ak hr
theorem T9:∃ (r:Int) (o7':Option D),0<=r/\r<=1000000000000000000/\exs Ay [some s,some p,some m,some (.lst (xs.map .int)),some (.int sc),some (.lst (rs.map .int)),some (.int k),o7]=.nxt [some s,some p,some m,some (.lst (xs.map .int)),some (.int sc),some (.lst ((rs ++ [r]).map .int)),some (.int k),o7']:=by
 have hap:=fun r=>BX (rs.map D.int) (.int r) (by rw [aac]; omega)
 have fin:∀ w:Int,0<=w->0<=min 1000000000000000000 (w * sc + (if (w==12)=true then 1 else 0) * 4):=fun w hw=>by
  have:=Int.mul_nonneg hw h0
  split <;> omega
 have big:∀ w:Int,min 1000000000000000000 (w * sc + (if (w==12)=true then 1 else 0) * 4)<=1000000000000000000:=fun w=>by omega
 have l3:(0:Int) < 3:=by decide
 have l4:(0:Int) < 4:=by decide
 have l5:(0:Int) < 13:=by decide
 have l6:(4:Int) < 1606938044258990275541962092341162602522202993782792835301376:=by decide
 have s1:-18446744073709551616 < sc:=by omega
 have s2:sc < 18446744073709551616:=by omega
 have m3:=aa3 x (show (3:Int) ≠ 0 by decide)
 have m4:=aa3 x (show (4:Int) ≠ 0 by decide)
 have m4':=abn x l4
 have m13:=aa3 (e + (k:Int)) (show (13:Int) ≠ 0 by decide)
 by_cases c1:c=1
 ·subst c1
  refine ⟨_,some (.int (x % 3)),fin (x % 3) m3,big _,?_⟩
  simp_arith [Ay,a2,ak,l3,hap,s1,s2]
 by_cases c2:c=2
 ·subst c2
  obtain ⟨v,hv,v0,v1⟩:∃ v:Int,atD [.int 0,.int 0,.int 0,.int 1] (x % 4)=.ok (.int v)/\0<=v/\v<=1:=by
   have:x % 4=0\/x % 4=1\/x % 4=2\/x % 4=3:=by omega
   rcases this with h | h | h | h <;> rw [h] <;> refine ⟨_,rfl,?_,?_⟩ <;> decide
  have v2:-18446744073709551616 < v:=by omega
  have v3:v < 18446744073709551616:=by omega
  refine ⟨_,some (.int (v * (1 + x / 4))),fin (v * (1 + x / 4)) (Int.mul_nonneg v0 (by omega)),big _,?_⟩
  simp_arith [Ay,a2,ak,l4,l6,hv,v2,v3,hap,s1,s2]
 by_cases c3:c=3
 ·subst c3
  refine ⟨_,some (.int ((e + (k:Int)) % 13)),fin ((e + (k:Int)) % 13) m13,big _,?_⟩
  simp_arith [Ay,a2,a3,ak,l5,hap,s1,s2]
 by_cases c4:c=4
 ·subst c4
  refine ⟨_,some (.int e),fin e e0,big _,?_⟩
  simp_arith [Ay,a2,a3,ak,hap,s1,s2]
 ·have d1:(c==1)=false:=beq_eq_false_iff_ne.mpr c1
  have d2:(c==2)=false:=beq_eq_false_iff_ne.mpr c2
  have d3:(c==3)=false:=beq_eq_false_iff_ne.mpr c3
  have d4:(c==4)=false:=beq_eq_false_iff_ne.mpr c4
  refine ⟨_,some (.int x),fin x x0,big _,?_⟩
  simp_arith [Ay,a2,ak,d1,d2,d3,d4,hap,s1,s2]
end
theorem Qc (ns:List Int) (p:Int) (hp:0<=p) (m:Nat) (hm:m<=200):∃ rs:List Int,rs.length<=m/\(∀ r ∈ rs,0<=r/\r<=1000000000000000000)/\Cd.den [.lst (ns.map .int),.int p,.int m]=.ok (.lst (rs.map .int)):=by
 obtain ⟨xs,hrow,hl,hb⟩:=Fe ns p hp ([(m:Int) + 1,5,6,13] ++ aam m 13) (by simp; omega) (by
  intro s hs
  rcases aag.mp hs with h | h
  ·simp only [aai,abv,or_false] at h
   rcases h with rfl | rfl | rfl | rfl <;> omega
  ·rw [(abY.mp h).2]; decide)
 have hl:xs.length=m + 4:=by rw [hl,aaE,aa5]; simp; omega
 have g:∀ i,i < m + 4->∃ x,xs[i]?=some x:=fun i hi=>⟨_,aae (by omega)⟩
 obtain ⟨c0,g0⟩:=g 0 (by omega)
 obtain ⟨c1,g1⟩:=g 1 (by omega)
 obtain ⟨c2,g2⟩:=g 2 (by omega)
 obtain ⟨c3,g3⟩:=g 3 (by omega)
 have b0:=hb 0 c0 ((m:Int) + 1) g0 (by simp)
 have b1:=hb 1 c1 5 g1 (by simp)
 have b3:=hb 3 c3 13 g3 (by simp)
 have bk:∀ i:Nat,i < m->∃ x,xs[4 + i]?=some x/\0<=x/\x < 13:=fun i hi=>by
  obtain ⟨x,gx⟩:=g (4 + i) (by omega)
  refine ⟨x,gx,hb (4 + i) x 13 gx ?_⟩
  rw [aaH (by simp)]
  simp [hi]
 have a0:=DL g0
 have a1:=DL g1
 have a2:=DL g2
 have a3:=DL g3
 obtain ⟨sc,hsc,s0,s1⟩:∃ v:Int,atD [.int 1,.int 1,.int 7,.int 1000000,.int 83333333333333333] c1=.ok (.int v)/\0<=v/\v<=100000000000000000:=by
  have:c1=0\/c1=1\/c1=2\/c1=3\/c1=4:=by omega
  rcases this with rfl | rfl | rfl | rfl | rfl <;> refine ⟨_,rfl,?_,?_⟩ <;> decide
 obtain ⟨n,rfl⟩:∃ n:Nat,c0=n:=⟨c0.toNat,by omega⟩
 obtain ⟨δ',e,rs,o6,o7,rfl,hrl,hrb⟩:=Bg (tg:=.nm 6) (b:=exs Ay) (fun i δ=>∃ (rs:List Int) (o6 o7:Option D),δ=[some (.lst (ns.map .int)),some (.int p),some (.int m),some (.lst (xs.map .int)),some (.int sc),some (.lst (rs.map .int)),o6,o7]/\rs.length=i/\∀ r ∈ rs,0<=r/\r<=1000000000000000000) (ds:=Ar 0 (n:Int)) (δ:=[some (.lst (ns.map .int)),some (.int p),some (.int m),some (.lst (xs.map .int)),some (.int sc),some (.lst []),none,none]) 0 ⟨[],none,none,rfl,rfl,fun _ h=>nomatch h⟩ (by
  rintro i d δ hd ⟨rs,o6,o7,rfl,hrl,hrb⟩
  obtain ⟨rfl,hi⟩:=De hd
  rw [abZ]
  obtain ⟨x,gx,x0,x1⟩:=bk i (by omega)
  have ak:=DL gx
  rw [show ((4 + i:Nat):Int)=4 + (i:Int) by omega] at ak
  obtain ⟨r,o7',r0,r1,e⟩:=T9 (s:=.lst (ns.map .int)) (p:=.int p) (m:=.int m) (o7:=o7) s0 s1 x0 x1 b3.1 b3.2 a2 a3 ak (rs:=rs) (by omega)
  refine ⟨_,_,rfl,e,rs ++ [r],some (.int i),o7',rfl,by simp; omega,fun y hy=>?_⟩
  rcases aag.mp hy with h | h
  ·exact hrb y h
  ·rw [aaF.mp h]; exact ⟨r0,r1⟩)
 rw [Cf] at hrl
 refine ⟨rs,by omega,hrb,?_⟩
 have hr:=BI (a:=0) (b:=(n:Int)) (by omega) (by omega) (by omega) (by omega)
 have hrep:=VN (.int 13) m (by omega)
 have hadd:=Gg [.int ((m:Int) + 1),.int 5,.int 6,.int 13] (aam m (.int 13)) (by simp; omega)
 rw [aao,abe] at hrow
 refine (Ib _ rfl).trans (Ae ?_)
 have a0':atD (xs.map D.int) 0=.ok (.int n):=a0
 have a1':atD (xs.map D.int) 1=.ok (.int c1):=a1
 generalize aam m (D.int 13)=zs at *
 simp only [abS,aa0,aaW] at hrow hadd
 simp_arith [CI,hrep,hadd,hrow,pw6,hsc,a0',a1',hr,e]
theorem Ua (ns:List Int) (p:Int) (hp:0<=p):∃ f:Nat,2<=f/\f<=8/\Em.den [.lst (ns.map .int),.int p]=.ok (.int f):=by
 obtain ⟨xs,hrow,hl,hb⟩:=Fe ns p hp [7] (by decide) (by decide)
 obtain ⟨a,rfl⟩:=RL hl
 have ha:=hb 0 a 7 rfl rfl
 simp only [abS] at hrow
 refine ⟨(2 + a).toNat,by omega,by omega,?_⟩
 rw [acP (by omega)]
 refine (JR _ rfl).trans (Ae ?_)
 simp_arith [DF,hrow,W6]
theorem Ub {rs:List Int} {a b:Nat} (ha:a<=rs.length) (hb:b<=rs.length):cut (rs.map D.int) (some (a:Int)) (some (b:Int))=((rs.drop a).take (b - a)).map D.int:=by
 have e1:sIx rs.length 0 (some (a:Int))=a:=by
  show (if (a:Int) < 0 then _ else _:Int).toNat=a
  rw [if_neg (by omega)]; omega
 have e2:sIx rs.length rs.length (some (b:Int))=b:=by
  show (if (b:Int) < 0 then _ else _:Int).toNat=b
  rw [if_neg (by omega)]; omega
 unfold cut
 rw [aac,e1,e2,<- ab8,<- ab7]
theorem Ea:∀ ys:List Int,Be (ys.map .int)=some ys
 | []=>rfl
 | y :: r=>by rw [aax,Be,Ea r]; rfl
noncomputable def mxR (rs:List Int) (a b:Nat):Int:=((rs.drop a).take (b - a)).max?.getD 0
theorem Mr {ys:List Int} (h:ys ≠ []):ys.max?=some (ys.max?.getD 0):=by
 cases q:ys.max? with
 | none=>exact absurd (List.max?_eq_none_iff.mp q) h
 | some m=>rfl
theorem Qd {rs:List Int} {a b:Nat} (hab:a < b) (hb:b<=rs.length):((rs.drop a).take (b - a)).max?=some (mxR rs a b):=by
 apply Mr
 intro h
 have:=congrArg abk h
 rw [abt,abu] at this
 simp at this
 omega
noncomputable def Bv (rs:List Int) (f l n:Nat):List Int:=(aar n).map fun j=>mxR rs (j * f ^ l) (min rs.length (j * f ^ l + f ^ l))
noncomputable def Aa (rs:List Int) (f n:Nat):List (List Int):=(aar n).map fun l=>Bv rs f l (cnt rs.length f l)
noncomputable def Ai (xs:List Int):D:=.lst (xs.map .int)
noncomputable def Ac (tr:List (List Int)):D:=.lst (tr.map Ai)
theorem RR (rs:List Int) (f l n:Nat):Bv rs f l (n + 1)=Bv rs f l n ++ [mxR rs (n * f ^ l) (min rs.length (n * f ^ l + f ^ l))]:=by
 unfold Bv; rw [abq,aao]; rfl
theorem Qe (rs:List Int) (f n:Nat):Aa rs f (n + 1)=Aa rs f n ++ [Bv rs f n (cnt rs.length f n)]:=by
 unfold Aa; rw [abq,aao]; rfl
section
variable {rs:List Int} {f h:Nat} (hf:2<=f) (hf8:f<=8) (H:Hs rs.length f h) (hh:h<=8) (hn:rs.length<=200)
include hf hf8 H hh hn
theorem Uc (tr co:D) (l j:Nat) (hl:l<=h) (hj:j < cnt rs.length f l) (o7 o8:Option D):∃ o7' o8',exs Br [some (Ai rs),some (.int f),some tr,some co,some (.int l),some (Ai (Bv rs f l j)),some (.int j),o7,o8]=.nxt [some (Ai rs),some (.int f),some tr,some co,some (.int l),some (Ai (Bv rs f l (j + 1))),some (.int j),o7',o8']:=by
 have hr:=Qb rs.length f l j hf8 (by omega)
 have hlt:=(AX (show 1<=f by omega)).mp hj
 have hw:0 < f ^ l:=aa7 (by omega)
 have hc:=Ub (rs:=rs) (a:=j * f ^ l) (b:=min rs.length (j * f ^ l + f ^ l)) (by omega) (by omega)
 have hm:=Qd (rs:=rs) (a:=j * f ^ l) (b:=min rs.length (j * f ^ l + f ^ l)) (by omega) (by omega)
 have hcl:=Gh (p:=rs.length) (f:=f) (l:=l) (by omega)
 have hap:=BX ((Bv rs f l j).map .int) (.int (mxR rs (j * f ^ l) (min rs.length (j * f ^ l + f ^ l)))) (by unfold Bv; simp; omega)
 have hi:=Ea ((rs.drop (j * f ^ l)).take (min rs.length (j * f ^ l + f ^ l) - j * f ^ l))
 refine ⟨some (.int ((j * f ^ l:Nat):Int)),some (.int ((min rs.length (j * f ^ l + f ^ l):Nat):Int)),?_⟩
 rw [RR]
 unfold Ai
 rw [aao]
 generalize mxR rs (j * f ^ l) (min rs.length (j * f ^ l + f ^ l))=M at *
 generalize (rs.drop (j * f ^ l)).take (min rs.length (j * f ^ l + f ^ l) - j * f ^ l)=ys at *
 generalize min rs.length (j * f ^ l + f ^ l)=e at *
 generalize j * f ^ l=a at *
 unfold Ak at hr
 generalize (Bv rs f l j).map D.int=zs at *
 simp_arith [Br,aac,hr,Dz,F7,hc,hi,AA,hm,hap]
theorem VO (tr:D) (l:Nat) (hl:l<=h) (o6 o7 o8:Option D):∃ o6' o7' o8',AU (.nm 6) (exs Br) (Ar 0 (cnt rs.length f l)) [some (Ai rs),some (.int f),some tr,some (AS (lvD rs.length f h)),some (.int l),some (Ai []),o6,o7,o8]=.nxt [some (Ai rs),some (.int f),some tr,some (AS (lvD rs.length f h)),some (.int l),some (Ai (Bv rs f l (cnt rs.length f l))),o6',o7',o8']:=by
 obtain ⟨δ',e,o6',o7',o8',rfl⟩:=Bg (tg:=.nm 6) (b:=exs Br) (fun j δ=>∃ o6 o7 o8,δ=[some (Ai rs),some (.int f),some tr,some (AS (lvD rs.length f h)),some (.int l),some (Ai (Bv rs f l j)),o6,o7,o8]) (ds:=Ar 0 (cnt rs.length f l)) (δ:=[some (Ai rs),some (.int f),some tr,some (AS (lvD rs.length f h)),some (.int l),some (Ai []),o6,o7,o8]) 0 ⟨o6,o7,o8,rfl⟩ (by
  rintro j d δ hd ⟨o6,o7,o8,rfl⟩
  obtain ⟨rfl,hj⟩:=De hd
  rw [abZ,aaM]
  obtain ⟨q7,q8,e⟩:=Uc hf hf8 H hh hn tr (AS (lvD rs.length f h)) l j hl (by omega) o7 o8
  exact ⟨_,_,rfl,e,some (.int j),q7,q8,rfl⟩)
 rw [Cf,acr,aau,aaM] at e
 exact ⟨o6',o7',o8',e⟩
theorem RS (l:Nat) (hl:l<=h) (o5 o6 o7 o8:Option D):∃ o5' o6' o7' o8',exs BR [some (Ai rs),some (.int f),some (Ac (Aa rs f l)),some (AS (lvD rs.length f h)),some (.int l),o5,o6,o7,o8]=.nxt [some (Ai rs),some (.int f),some (Ac (Aa rs f (l + 1))),some (AS (lvD rs.length f h)),some (.int l),o5',o6',o7',o8']:=by
 obtain ⟨o6',o7',o8',e⟩:=VO hf hf8 H hh hn (Ac (Aa rs f l)) l hl o6 o7 o8
 have h5:=Jj (xs:=lvD rs.length f h) (i:=l) (by rw [BA]; omega)
 rw [Gj hl] at h5
 have hcl:=Gh (p:=rs.length) (f:=f) (l:=l) (by omega)
 have hr:=BI (a:=0) (b:=(cnt rs.length f l:Int)) (by omega) (by omega) (by omega) (by omega)
 have hap:=BX ((Aa rs f l).map Ai) (Ai (Bv rs f l (cnt rs.length f l))) (by unfold Aa; simp; omega)
 refine ⟨some (Ai (Bv rs f l (cnt rs.length f l))),o6',o7',o8',?_⟩
 rw [Qe]
 unfold Ac AS at *
 rw [aao]
 generalize Bv rs f l (cnt rs.length f l)=zs at *
 unfold Ai at e hap ⊢
 rw [abb] at e
 simp_arith [BR,h5,hr,e,hap]
theorem Mu (hn1:1<=rs.length):Bo.den [Ai rs,.int f]=.ok (Ac (Aa rs f (h + 1))):=by
 have hc:=Jl hf hf8 H hh hn1
 have hr:=BI (a:=0) (b:=((h + 1:Nat):Int)) (by omega) (by omega) (by omega) (by omega)
 obtain ⟨δ',e,o4,o5,o6,o7,o8,rfl⟩:=Bg (tg:=.nm 4) (b:=exs BR) (fun l δ=>∃ o4 o5 o6 o7 o8,δ=[some (Ai rs),some (.int f),some (Ac (Aa rs f l)),some (AS (lvD rs.length f h)),o4,o5,o6,o7,o8]) (ds:=Ar 0 ((h + 1:Nat):Int)) (δ:=[some (Ai rs),some (.int f),some (Ac []),some (AS (lvD rs.length f h)),none,none,none,none,none]) 0 ⟨none,none,none,none,none,rfl⟩ (by
  rintro l d δ hd ⟨o4,o5,o6,o7,o8,rfl⟩
  obtain ⟨rfl,hl⟩:=De hd
  rw [abZ,aaM]
  obtain ⟨q5,q6,q7,q8,e⟩:=RS hf hf8 H hh hn l (by omega) o5 o6 o7 o8
  exact ⟨_,_,rfl,e,some (.int l),q5,q6,q7,q8,rfl⟩)
 rw [Cf,show 0 + (((h + 1:Nat):Int) - 0).toNat=h + 1 by omega] at e
 have hll:=BA rs.length f h
 refine (Jd _ rfl).trans (Ae ?_)
 unfold AS at hc e
 unfold Ac at e ⊢
 rw [abb] at e
 unfold Ai at e ⊢
 simp_arith [Dc,aac,hc,hll,hr,e]
end
theorem Qf (xs:List Int) (m k:Nat):D.flat (m + 2) (k + 1) (Ai xs)=true:=by
 unfold Ai
 show (xs.map D.int).all (D.flat (m + 1) k)=true
 rw [aaw]
 intro d hd
 obtain ⟨x,rfl⟩:=D9 hd
 rfl
theorem Qg (tr:List (List Int)):D.flat 9 2 (Ac tr)=true:=by
 show (tr.map Ai).all (D.flat 8 1)=true
 rw [aaw]
 intro d hd
 obtain ⟨x,_,rfl⟩:=aav.mp hd
 exact Qf x 6 0
theorem RT (xs:List Int) (k:Nat):D.shp (k + 1) (Ai xs)=true:=by
 show (xs.map D.int).all (D.shp k)=true
 rw [aaw]
 intro d hd
 obtain ⟨x,rfl⟩:=D9 hd
 cases k <;> rfl
theorem RU (tr:List (List Int)):D.shp 8 (Ac tr)=true:=by
 show (tr.map Ai).all (D.shp 7)=true
 rw [aaw]
 intro d hd
 obtain ⟨x,_,rfl⟩:=aav.mp hd
 exact RT x 6
theorem Ud {rs:List Int} {i:Int} (h0:0<=i) (h1:i < rs.length):∃ x,x ∈ rs/\atD (rs.map D.int) i=.ok (.int x):=by
 obtain ⟨x,e1,e2⟩:=Ii h0 h1
 exact ⟨x,aaf e1,e2⟩
theorem RV (ns:List Int) (p:Int) (hp:0<=p) (rs:List Int) (hr:∀ r ∈ rs,0<=r) (hl:rs.length<=200):∃ q:Int,0<=q/\D3.den [.lst (ns.map .int),.int p,Ai rs]=.ok (.int q):=by
 obtain ⟨xs,hrow,hl,hb⟩:=Fe ns p hp [7,200,40] (by decide) (by decide)
 obtain ⟨a,b,c,rfl⟩:=W7 hl
 have ha:=hb 0 a 7 rfl rfl
 have hb':=hb 1 b 200 rfl rfl
 have hc:=hb 2 c 40 rfl rfl
 clear hb hl
 simp only [abS] at hrow
 have l4:(0:Int) < 4:=by decide
 obtain ⟨v,hv,hv0⟩:∃ v:Int,atD [.int 0,.int 1,.int 2,.int 100000000000000000000000000000000000000000000000000000000000] (b % 4)=.ok (.int v)/\0<=v:=by
  have m0:=aa3 b (show (4:Int) ≠ 0 by decide)
  have m1:=abn b l4
  have:b % 4=0\/b % 4=1\/b % 4=2\/b % 4=3:=by omega
  rcases this with h | h | h | h <;> rw [h] <;> refine ⟨_,rfl,?_⟩ <;> decide
 by_cases a0:a=0
 ·subst a0
  refine ⟨v,hv0,(CJ _ rfl).trans (Ae ?_)⟩
  unfold Ai
  simp_arith [A9,hrow,Im,Io,Mp,hv,l4]
 have d0:(a==0)=false:=beq_eq_false_iff_ne.mpr a0
 by_cases n0:rs.length=0
 ·have z:rs=[]:=abf n0
  subst z
  refine ⟨v,hv0,(CJ _ rfl).trans (Ae ?_)⟩
  unfold Ai
  simp_arith [A9,hrow,Im,Io,Mp,d0,hv,l4,Int.natCast_zero]
 have n1:((rs.length:Int)==0)=false:=by rw [beq_eq_false_iff_ne]; omega
 have n2:0 < (rs.length:Int):=by omega
 obtain ⟨x,hx,hat⟩:=Ud (rs:=rs) (i:=b % (rs.length:Int)) (aa3 _ (by omega)) (abn _ n2)
 have hx0:=hr x hx
 by_cases a1:a=1
 ·subst a1
  have hne:rs ≠ []:=fun z=>n0 (by rw [z]; rfl)
  have hm:=Mr hne
  have hm0:0<=rs.max?.getD 0:=by
   have:=List.max?_mem (xs:=rs) hm
   exact hr _ this
  have hi:=Ea rs
  have l2:(0:Int) < 2:=by decide
  have m0:=aa3 c (show (2:Int) ≠ 0 by decide)
  refine ⟨rs.max?.getD 0 + c % 2,by omega,(CJ _ rfl).trans (Ae ?_)⟩
  generalize rs.max?.getD 0=M at *
  unfold Ai
  simp_arith [A9,hrow,Im,Io,Mp,n1,n2,aac,hat,hi,AA,hm,l2]
 ·have d1:(a==1)=false:=beq_eq_false_iff_ne.mpr a1
  obtain ⟨w,hw⟩:∃ w:Int,atD [.int 0,.int 0,.int 1,.int (-1),.int c] (a - 2)=.ok (.int w):=by
   have:a - 2=0\/a - 2=1\/a - 2=2\/a - 2=3\/a - 2=4:=by omega
   rcases this with h | h | h | h | h <;> rw [h] <;> exact ⟨_,rfl⟩
  refine ⟨max 0 (x + w),by omega,(CJ _ rfl).trans (Ae ?_)⟩
  unfold Ai
  simp_arith [A9,hrow,Im,Io,Mp,d0,d1,n1,n2,aac,hat,hw]
noncomputable def tl (tr:List (List Int)) (l j:Nat):Int:=(tr.getD l []).getD j 0
noncomputable def Dim (tr:List (List Int)) (p f h:Nat):Prop:=tr.map abk=lvD p f h
theorem AM (rs:List Int) (f h:Nat):Dim (Aa rs f (h + 1)) rs.length f h:=by
 unfold Dim Aa lvD
 rw [aaz]
 apply aaR
 intro l _
 show (Bv rs f l (cnt rs.length f l)).length=_
 unfold Bv; simp
section
variable {tr:List (List Int)} {p f h:Nat} (hd:Dim tr p f h)
include hd
theorem JX:tr.length=h + 1:=by
 have:=congrArg abk hd
 rwa [aac,BA] at this
theorem JY {l:Nat} (hl:l<=h):(tr.getD l []).length=cnt p f l/\tr[l]?=some (tr.getD l []):=by
 have h1:=JX hd
 have h2:tr[l]?=some tr[l]:=aae (by omega)
 have h3:tr.getD l []=tr[l]:=by rw [aap,h2]; rfl
 rw [h3]
 refine ⟨?_,h2⟩
 have h4:(tr.map abk)[l]?=some tr[l].length:=by rw [aaq,h2]; rfl
 rw [hd] at h4
 have h5:(lvD p f h)[l]?=some (cnt p f l):=by rw [aae (by rw [BA]; omega),Gj hl]
 rw [h5] at h4
 exact (Option.some.inj h4).symm
theorem JZ {l:Nat} (hl:l<=h):atD (tr.map Ai) (l:Int)=.ok (Ai (tr.getD l [])):=by
 have h1:=JX hd
 unfold atD ixN
 rw [aac,if_pos (by omega),if_pos (by omega)]
 show (match (tr.map Ai)[(l:Int).toNat]? with | some d=>Res.ok d | none=>Res.bad)=_
 rw [aau,aaq,(JY hd hl).2]
 rfl
theorem Qh {l j:Nat} (hl:l<=h) (hj:j < cnt p f l):atD ((tr.getD l []).map D.int) (j:Int)=.ok (.int (tl tr l j)):=by
 apply DL
 unfold tl
 rw [aap (l:=tr.getD l []),aae (by rw [(JY hd hl).1]; exact hj)]
 rfl
theorem GF:Fq.den [Ac tr]=.ok (AS (lvD p f h)):=by
 have h2:=CW (nl:=1) (fr:=[]) (tg:=.nm 0) (it:=.seq (.nm 0)) (elt:=.bi .len (.cons (.nm 0) .nil)) (δ:=[some (Ac tr)]) (ds:=tr.map Ai) (g:=fun d=>match d with | .lst ds=>.int ds.length | d=>d) (by unfold Ac; simp_arith []) (fun d hd=>by
  obtain ⟨x,_,rfl⟩:=aav.mp hd
  refine ⟨[some (Ai x)],rfl,?_⟩
  unfold Ai
  simp_arith [])
 have e:(tr.map Ai).map (fun d=>match d with | .lst ds=>D.int ds.length | d=>d)=(lvD p f h).map iN:=by
  rw [<- hd,aaz,aaz]
  apply aaR
  intro x _
  show D.int ((x.map D.int).length:Int)=iN x.length
  rw [aac]; rfl
 rw [e] at h2
 refine (Me _ rfl).trans (Ae ?_)
 unfold Ac AS at *
 simp_arith [] at h2
 simp_arith [Ew,h2]
theorem CZ {l j:Nat} (hl:l<=h) (hj:j < cnt p f l):AL.den [Ac tr,Ak l j]=.ok (.int (tl tr l j)):=by
 have h1:=GF hd
 have h2:=JU hl hj
 have h3:Dr.den [Ac tr,Ak l j]=.ok (.bl true):=by
  refine (HK _ rfl).trans (Ae ?_)
  simp_arith [DV,h1,h2]
 have h4:Dj.den [Ac tr,Ak l j]=.ok .non:=by
  refine (HB _ rfl).trans (Ny (δ:=[some (Ac tr),some (Ak l j)]) ?_)
  simp_arith [Ca,h3]
 have h5:=JZ hd hl
 have h6:=Qh hd hl hj
 refine (RI _ rfl).trans (Ae ?_)
 unfold Ac Ai Ak at *
 simp_arith [Ht,h4,h5,h6]
theorem Ue:(tr.map Ai).isEmpty=false:=by
 have h1:=JX hd
 cases tr with
 | nil=>cases h1
 | cons a r=>rfl
theorem Hc:Cw.den [Ac tr]=.ok (Ai (tr.getD 0 [])):=by
 have h1:=CY (tr.map Ai) (RU tr)
 rw [Ue hd] at h1
 have h2:=JZ hd (aat h)
 rw [show ((0:Nat):Int)=0 from rfl] at h2
 refine (ML _ rfl).trans (Ae ?_)
 unfold Ac Ai at *
 simp_arith [EW,h1,h2]
theorem Bh:AT.den [Ac tr,.int f]=.ok (shD p f):=by
 have h1:=Hc hd
 have h2:=(JY hd (aat h)).1
 rw [GA] at h2
 refine (MM _ rfl).trans (Ae ?_)
 unfold Ai at h1
 unfold shD
 simp_arith [EY,h1,aac,h2]
end
theorem J0 (a b:Nat):∀ c,(aar c).filter (fun k=>decide (a<=k) && decide (k < b))=(aar (min b c - a)).map (a + ·)
 | 0=>by simp
 | c + 1=>by
  rw [abq,acX,J0 a b c]
  by_cases h:a<=c/\c < b
  ·rw [abj h.2,abj (abK h.2),Nat.succ_sub h.1,abq,aao]
   congr 1
   simp only [abP,List.filter_nil,decide_eq_true h.1,decide_eq_true h.2,acJ,if_true,aax,abb]
   congr 1; exact (Nat.add_sub_cancel' h.1).symm
  ·have h':(decide (a<=c) && decide (c < b))=false:=by
    rw [<- Bool.not_eq_true,aah,decide_eq_true_eq,decide_eq_true_eq]; exact h
   simp only [abP,List.filter_nil,h']
   have e:min b (c + 1) - a=min b c - a:=by
    rcases acp c b with z | z
    ·have z2:c < a:=Nat.lt_of_not_le fun y=>h ⟨y,z⟩
     rw [abj z,abj (abK z),aaX z2,aaX (abK z2)]
    ·rw [abr z,abr (Nat.le_succ_of_le z)]
   rw [e]
   simp
noncomputable def chN (p f l j:Nat):List (Nat × Nat):=match l with
 | 0=>[]
 | l + 1=>((aar (cnt p f l)).filter fun k=>k / f==j).map fun k=>(l,k)
theorem KB {f:Nat} (hf:1<=f) (c j:Nat):(aar c).filter (fun k=>k / f==j)=(aar (min (j * f + f) c - j * f)).map (j * f + ·):=by
 rw [<- J0]
 apply ab4
 intro k _
 rw [abC,beq_iff_eq,aah,decide_eq_true_eq,decide_eq_true_eq]
 constructor
 ·rintro rfl
  have:=aci k f
  have h2:=Nat.mod_lt k (show 0 < f by omega)
  rw [abM] at this
  generalize k % f=r at *
  omega
 ·rintro ⟨h1,h2⟩
  exact acM h1 (by rw [ace]; omega)
theorem Fx {p f h:Nat} (hf:2<=f) (hf8:f<=8) (H:Hs p f h) (hh:h<=8) (hp:p<=200) {l j:Nat} (hl:l<=h) (hj:j < cnt p f l):Bw.den [shD p f,Ak l j]=.ok (.lst ((chN p f l j).map Ab)):=by
 have hc:=Dh hf hf8 H hh hl hj
 cases l with
 | zero =>
  refine (HJ _ rfl).trans (Ae ?_)
  show _=Out.ret (.lst [])
  unfold Ak shD at *
  rw [show ((0:Nat):Int)=0 from rfl] at *
  simp_arith [DU,hc]
 | succ l =>
  have hlv:=E7 hf hf8 H hh
  have h5:=Jj (xs:=lvD p f h) (i:=l) (by rw [BA]; omega)
  rw [Gj (by omega)] at h5
  have hcl:=Gh (p:=p) (f:=f) (l:=l) (by omega)
  have hjl:=Gh (p:=p) (f:=f) (l:=l + 1) (by omega)
  have hjf:j * f<=200 * 8:=Nat.mul_le_mul (by omega) hf8
  have f1:-(18446744073709551616) < (f:Int):=by omega
  have f2:(f:Int) < 18446744073709551616:=by omega
  have e1:((l + 1:Nat):Int) - 1=(l:Int):=by omega
  have c1:(((l + 1:Nat):Int)==0)=false:=by rw [beq_eq_false_iff_ne]; omega
  have e2:min ((j:Int) * f + f) (cnt p f l:Int)=((min (j * f + f) (cnt p f l):Nat):Int):=by rw [<- aa4]; omega
  have hr:=BI (a:=((j * f:Nat):Int)) (b:=((min (j * f + f) (cnt p f l):Nat):Int)) (by omega) (by omega) (by omega) (by omega)
  rw [aa4] at hr
  have h2:=CW (nl:=1) (fr:=[2]) (tg:=.nm 0) (it:=.r2 (.nm 3) (.nm 4)) (elt:=.tup (.cons (.nm 1) (.cons (.nm 0) .nil))) (δ:=[some (shD p f),some (Ak (l + 1) j),some (.int l),some (.int ((j:Int) * f)),some (.int ((min (j * f + f) (cnt p f l):Nat):Int))]) (ds:=Ar ((j:Int) * f) ((min (j * f + f) (cnt p f l):Nat):Int)) (g:=fun d=>.tup [.int l,d]) (by simp_arith [hr]) (fun d hd=>by
   refine ⟨[some d,some (.int l)],rfl,?_⟩
   simp_arith [])
  have e3:(Ar ((j:Int) * f) ((min (j * f + f) (cnt p f l):Nat):Int)).map (fun d=>D.tup [.int l,d])=(chN p f (l + 1) j).map Ab:=by
   show _=(((aar (cnt p f l)).filter fun k=>k / f==j).map fun k=>(l,k)).map Ab
   rw [KB (by omega)]
   unfold Ar
   rw [aaz,aaz,aaz,<- aa4,show (((min (j * f + f) (cnt p f l):Nat):Int) - ((j * f:Nat):Int)).toNat=min (j * f + f) (cnt p f l) - j * f by omega]
   apply aaR
   intro i _
   show D.tup [.int l,.int (((j * f:Nat):Int) + (i:Int))]=Ak l (j * f + i)
   rw [<- Int.natCast_add]; rfl
  rw [e3] at h2
  refine (HJ _ rfl).trans (Ae ?_)
  unfold Ak shD AS at *
  simp_arith [hr] at h2
  simp_arith [DU,hc,c1,e1,f1,f2,hlv,h5,e2,hr,h2]
theorem OA {rs:List Int} {i:Nat} (h:i < rs.length):atD (rs.map D.int) (i:Int)=.ok (.int (rs.getD i 0)):=by
 apply DL
 rw [aap,aae h]; rfl
theorem RW (xs:List D) (a:Nat):cut xs (some (a:Int)) none=xs.drop a:=by
 have e2:sIx xs.length 0 (some (a:Int))=min a xs.length:=by
  show (if (a:Int) < 0 then _ else _:Int).toNat=_
  rw [if_neg (by omega)]; omega
 unfold cut
 rw [e2]
 show (xs.drop (min a xs.length)).take (xs.length - min a xs.length)=_
 rw [ab5 (by rw [abu]; omega)]
 by_cases h:a<=xs.length
 ·rw [abr h]
 ·rw [abj (by omega),acs,List.drop_eq_nil_of_le (by omega)]
theorem J1 {y:Int} {n:Nat} (hn:0 < n):∃ k:Nat,k < n/\y % (n:Int)=k:=by
 have h1:=aa3 y (show (n:Int) ≠ 0 by omega)
 have h2:=abn y (show 0 < (n:Int) by omega)
 exact ⟨(y % (n:Int)).toNat,by omega,by omega⟩
noncomputable def tri (l q r:Nat):D:=.tup [.int l,.int q,.int r]
theorem Uf (l q r:Nat):DO (tri l q r) none (some 2)=.ok (Ak l q):=rfl
theorem WF (a b c:D):atD [a,b,c] 2=.ok c:=rfl
noncomputable def cvN (p f a m:Nat):D:=tri m (a / f ^ m) (min p (a + f ^ m))
section
variable {p f h:Nat} (hf:2<=f) (hf8:f<=8) (H:Hs p f h) (hh:h<=8)
include hf hf8 H hh
section
variable {a e:Nat} (hae:a < e) (hep:e<=p)
include hae hep
theorem RX (b:D) (xs:D) (i:Nat) (hi:i<=h) (nd:D) (o9:Option D) :
  ∃ o9',exs AE [some (.int p),some (.int f),some b,some (.int e),some xs,some (.int a),some (.int ((f ^ i:Nat):Int)),some nd,some (.int i),o9]=.nxt [some (.int p),some (.int f),some b,some (.int e),some xs,some (.int a),some (.int ((f ^ (i + 1):Nat):Int)),some (if okL p f a e i then cvN p f a i else nd),some (.int i),o9']:=by
 refine ⟨some (.int (min (p:Int) (a + ((f ^ i:Nat):Int)))),?_⟩
 have hw0:0 < f ^ i:=aa7 (by omega)
 have hw:=RM (f:=f) (l:=i) hf8 (by omega)
 have ok:=Gi (p:=p) (f:=f) (a:=a) (e:=e) (l:=i)
 rw [abw,aa4]
 unfold cvN tri
 generalize okL p f a e i=t at *
 generalize f ^ i=w at *
 have h1:0 < (w:Int):=by omega
 have h2:(w:Int) < 1606938044258990275541962092341162602522202993782792835301376:=by omega
 have h3:-(18446744073709551616) < (f:Int):=by omega
 have h4:(f:Int) < 18446744073709551616:=by omega
 have e1:((a:Int) % (w:Int)==0)=(a % w==0):=by
  rw [<- Int.natCast_emod,abC,beq_iff_eq,beq_iff_eq]
  omega
 have e2:((min p (a + w):Nat):Int)=min (p:Int) (a + (w:Int)):=by omega
 by_cases c1:a % w=0
 ·have d1:(a % w==0)=true:=by simpa using c1
  by_cases c2:min p (a + w)<=e
  ·have d2:min (p:Int) (a + (w:Int))<=e:=by omega
   have d3:t=true:=ok.mpr ⟨c1,c2⟩
   subst d3
   rw [if_pos rfl,acv,e2]
   simp_arith [AE,h1,h2,h3,h4,e1,d1,d2]
  ·have d2:¬ min (p:Int) (a + (w:Int))<=e:=by omega
   have d3:t=false:=by cases t; rfl; exact absurd (ok.mp rfl).2 c2
   subst d3
   rw [if_neg aaU]
   simp_arith [AE,h1,h2,h3,h4,e1,d1,d2]
 ·have d1:(a % w==0)=false:=by simpa using c1
  have d3:t=false:=by cases t; rfl; exact absurd (ok.mp rfl).1 c1
  subst d3
  rw [if_neg aaU]
  simp_arith [AE,h1,h2,h3,h4,e1,d1]
theorem VP (i:Nat) (hi:i<=h):okL p f a e i=decide (i<=lvA p f h e a):=by
 rw [abC,decide_eq_true_eq]
 constructor
 ·intro h1
  apply abc
  intro h2
  have:=Ov (b:=okL p f a e) h i h2 hi
  rw [this] at h1; cases h1
 ·intro h1
  exact Mn (by omega) (Lf (RN hae) h) h1
theorem RY (b:D) (xs:D) (o8 o9:Option D):∃ o8' o9',AU (.nm 8) (exs AE) (Ar 0 ((h + 1:Nat):Int)) [some (.int p),some (.int f),some b,some (.int e),some xs,some (.int a),some (.int 1),some (tri 0 a (a + 1)),o8,o9]=.nxt [some (.int p),some (.int f),some b,some (.int e),some xs,some (.int a),some (.int ((f ^ (h + 1):Nat):Int)),some (cvN p f a (lvA p f h e a)),o8',o9']:=by
 obtain ⟨δ',e',o8',o9',rfl⟩:=Bg (tg:=.nm 8) (b:=exs AE) (fun i δ=>∃ o8 o9,δ=[some (.int p),some (.int f),some b,some (.int e),some xs,some (.int a),some (.int ((f ^ i:Nat):Int)),some (cvN p f a (min (i - 1) (lvA p f h e a))),o8,o9]) (ds:=Ar 0 ((h + 1:Nat):Int)) (δ:=[some (.int p),some (.int f),some b,some (.int e),some xs,some (.int a),some (.int 1),some (tri 0 a (a + 1)),o8,o9]) 0 ⟨o8,o9,by
   rw [show min (0 - 1) (lvA p f h e a)=0 by omega]
   unfold cvN
   rw [ab0,Nat.div_one,show min p (a + 1)=a + 1 by omega]; rfl⟩ (by
  rintro i d δ hd ⟨o8,o9,rfl⟩
  obtain ⟨rfl,hi⟩:=De hd
  rw [abZ,aaM]
  obtain ⟨o9',e'⟩:=RX hf hf8 H hh hae hep b xs i (by omega) (cvN p f a (min (i - 1) (lvA p f h e a))) o9
  refine ⟨_,_,rfl,e',some (.int i),o9',?_⟩
  rw [VP hf hf8 H hh hae hep i (by omega)]
  by_cases c:i<=lvA p f h e a
  ·rw [decide_eq_true c,if_pos rfl,show min (i + 1 - 1) (lvA p f h e a)=i by omega]
  ·rw [decide_eq_false c,if_neg aaU,show min (i + 1 - 1) (lvA p f h e a)=min (i - 1) (lvA p f h e a) by omega])
 have hm:lvA p f h e a<=h:=Ji _ _
 rw [Cf,show 0 + (((h + 1:Nat):Int) - 0).toNat=h + 1 by omega] at e'
 rw [show min (h + 1 - 1) (lvA p f h e a)=lvA p f h e a by omega] at e'
 exact ⟨o8',o9',e'⟩
theorem Qi (b:D) (xs:List D) (hx:xs.length<=1000) (o6 o7 o8 o9:Option D):∃ o6' o7' o8' o9',exs BL [some (.int p),some (.int f),some b,some (.int e),some (.lst xs),some (.int a),o6,o7,o8,o9]=.nxt [some (.int p),some (.int f),some b,some (.int e),some (.lst (xs ++ [Ak (lvA p f h e a) (a / f ^ lvA p f h e a)])),some (.int (nxA p f h e a)),o6',o7',o8',o9']:=by
 obtain ⟨o8',o9',hl⟩:=RY hf hf8 H hh hae hep b (.lst xs) o8 o9
 refine ⟨some (.int ((f ^ (h + 1):Nat):Int)),some (cvN p f a (lvA p f h e a)),o8',o9',?_⟩
 have hc:=Jl hf hf8 H hh (by omega)
 have hr:=BI (a:=0) (b:=((h + 1:Nat):Int)) (by omega) (by omega) (by omega) (by omega)
 have hap:=BX xs (Ak (lvA p f h e a) (a / f ^ lvA p f h e a)) (by omega)
 have hcut:=Uf (lvA p f h e a) (a / f ^ lvA p f h e a) (min p (a + f ^ lvA p f h e a))
 unfold AS at hc
 unfold cvN at *
 unfold nxA
 have hll:=BA p f h
 unfold tri at *
 rw [show ((0:Nat):Int)=0 from rfl,show ((a + 1:Nat):Int)=(a:Int) + 1 by omega] at hl
 simp_arith [BL,hc,hll,aac,hr,hl,hcut,hap,WF,-DO]
end
theorem KC {e:Nat} (hep:e<=p) (b:D):∀ (n m a:Nat) (xs:List D) (o6 o7 o8 o9:Option D),e - a<=n->n < m->a<=e->xs.length + n<=1000->∃ o6' o7' o8' o9',AI (tv (.cmp .lt (.nm 5) (.nm 3))) (exs BL) m [some (.int p),some (.int f),some b,some (.int e),some (.lst xs),some (.int a),o6,o7,o8,o9]=.nxt [some (.int p),some (.int f),some b,some (.int e),some (.lst (xs ++ GB p f h e n a)),some (.int e),o6',o7',o8',o9']
 | n,m + 1,a,xs,o6,o7,o8,o9,h1,h2,h3,h4=>by
  by_cases hae:a < e
  ·obtain ⟨n,rfl⟩:∃ k,n=k + 1:=⟨n - 1,by omega⟩
   have c1:(a:Int) < e:=by omega
   have hn:=Mo (p:=p) (f:=f) (h:=h) (by omega) hae hep
   have hn2:=(Ha (p:=p) (f:=f) (h:=h) hae).2
   obtain ⟨q6,q7,q8,q9,ht⟩:=Qi hf hf8 H hh hae hep b xs (by omega) o6 o7 o8 o9
   rw [Dg (by simp_arith [c1]) ht]
   obtain ⟨q6',q7',q8',q9',e'⟩:=KC hep b n m (nxA p f h e a) (xs ++ [Ak (lvA p f h e a) (a / f ^ lvA p f h e a)]) q6 q7 q8 q9 (by omega) (by omega) hn2 (by simp; omega)
   refine ⟨q6',q7',q8',q9',?_⟩
   rw [e',aba]
   unfold GB
   rw [cov,if_pos hae]
   rfl
  ·have ha:a=e:=by omega
   subst ha
   have c1:¬ (a:Int) < a:=by omega
   refine ⟨o6,o7,o8,o9,?_⟩
   rw [Cg (by simp_arith [c1])]
   unfold GB
   cases n with
   | zero=>simp [cov]
   | succ n=>rw [cov,if_neg hae]; simp
theorem OB {a e:Nat} (hae:a<=e) (hep:e<=p) (hp:p<=200):Ba.den [.int p,.int f,.int a,.int e]=.ok (.lst (GB p f h e 200 a)):=by
 obtain ⟨o6,o7,o8,o9,e'⟩:=KC hf hf8 H hh hep (.int a) 200 FU a [] none none none none (by omega) (by unfold FU; omega) hae (by simp)
 rw [aaW] at e'
 refine (Id _ rfl).trans (Ae ?_)
 simp_arith [CL,e']
end
theorem Hy {rs:List Int} {a b:Nat} {x:Int}:x ∈ (rs.drop a).take (b - a) ↔ ∃ k,a<=k/\k < b/\rs[k]?=some x:=by
 rw [List.mem_iff_getElem?]
 constructor
 ·rintro ⟨n,h⟩
  rw [acY] at h
  split at h
  ·rw [acZ] at h
   exact ⟨a + n,by omega,by omega,h⟩
  ·cases h
 ·rintro ⟨k,h1,h2,h3⟩
  refine ⟨k - a,?_⟩
  rw [acY,if_pos (by omega),acZ,show a + (k - a)=k by omega,h3]
theorem WG {rs:List Int} {a b:Nat} {M:Int} (h1:∃ k,a<=k/\k < b/\rs[k]?=some M) (h2:∀ k x,a<=k->k < b->rs[k]?=some x->x<=M):mxR rs a b=M:=by
 have:((rs.drop a).take (b - a)).max?=some M:=aca.mpr ⟨Hy.mpr h1,fun x hx=>by
  obtain ⟨k,q1,q2,q3⟩:=Hy.mp hx
  exact h2 k x q1 q2 q3⟩
 unfold mxR
 rw [this]; rfl
theorem SB {rs:List Int} {a b:Nat} (hab:a < b) (hb:b<=rs.length):(∃ k,a<=k/\k < b/\rs[k]?=some (mxR rs a b))/\∀ k x,a<=k->k < b->rs[k]?=some x->x<=mxR rs a b:=by
 obtain ⟨h1,h2⟩:=aca.mp (Qd hab hb)
 exact ⟨Hy.mp h1,fun k x q1 q2 q3=>h2 x (Hy.mpr ⟨k,q1,q2,q3⟩)⟩
theorem Qj (rs:List Int) (f l:Nat) {c j:Nat} (h:j < c):(Bv rs f l c)[j]?=some (mxR rs (j * f ^ l) (min rs.length (j * f ^ l + f ^ l))):=by
 unfold Bv
 rw [aaq,abV h]; rfl
theorem RZ (rs:List Int) (f:Nat):Bv rs f 0 (cnt rs.length f 0)=rs:=by
 rw [GA]
 apply acl
 intro j
 by_cases h:j < rs.length
 ·rw [Qj rs f 0 h,aae h]
  congr 1
  rw [ab0,acD]
  refine WG ⟨j,aaj _,by omega,aae h⟩ fun k x h1 h2 h3=>?_
  have:k=j:=by omega
  subst this
  rw [aae h] at h3
  cases h3
  exact Int.le_refl _
 ·rw [abN (show (Bv rs f 0 rs.length).length<=j by unfold Bv; simp; omega),abN (by omega)]
theorem Qk {c:Fr->Res Bool} {b:Fr->Out} {n:Nat} {δ:Fr} {d:D} (h1:c δ=.ok true) (h2:b δ=.ret d):AI c b (n + 1) δ=.ret d:=by
 rw [AI,h1,Res.out_ok,if_pos rfl,h2,Out.then_ret]
noncomputable abbrev Nd:=Nat × Nat
noncomputable def BO (t:Nd->Bool):List Nd->List Nd
 | []=>[]
 | q :: r=>q :: if t q then [] else BO t r
theorem Ip (t:Nd->Bool):∀ qs,(BO t qs).length<=qs.length
 | []=>aaj _
 | q :: r=>by
  unfold BO
  split
  ·simp
  ·have:=Ip t r; simp only [aaJ]; omega
theorem Hd (t:Nd->Bool):∀ {qs},qs ≠ []->∃ pre q,BO t qs=pre ++ [q]/\q ∈ qs/\((qs.find? t=some q/\t q=true)\/(qs.find? t=none/\t q=false))
 | [],h=>absurd rfl h
 | q :: r,_=>by
  unfold BO
  by_cases hq:t q=true
  ·exact ⟨[],q,by rw [if_pos hq]; rfl,aab,.inl ⟨abl hq,hq⟩⟩
  ·rw [if_neg hq,abm hq]
   by_cases hr:r=[]
   ·subst hr
    exact ⟨[],q,rfl,aab,.inr ⟨rfl,by simpa using hq⟩⟩
   ·obtain ⟨pre,q',h1,h2,h3⟩:=Hd t hr
    exact ⟨q :: pre,q',by rw [h1]; rfl,aaa _ h2,h3⟩
noncomputable def wk (t:Nd->Bool) (p f:Nat):Nat->List Nd->List Nd
 | 0,_=>[]
 | n + 1,qs=>BO t qs ++ match qs.find? t with
  | none=>[]
  | some q=>wk t p f n (chN p f q.1 q.2)
noncomputable def tst (tr:List (List Int)) (need:Int) (q:Nd):Bool:=decide (need<=tl tr q.1 q.2)
noncomputable def Val (p f h:Nat) (qs:List Nd):Prop:=∀ q ∈ qs,q.1<=h/\q.2 < cnt p f q.1
theorem OC (qs:List Nd):D.flat 9 1 (.lst (qs.map Ab))=true:=by
 show (qs.map Ab).all (D.flat 8 0)=true
 rw [aaw]
 intro d hd
 obtain ⟨q,_,rfl⟩:=aav.mp hd
 rfl
theorem Jm {p f h l j:Nat} (hl:l<=h):Val p f h (chN p f l j):=by
 intro q hq
 cases l with
 | zero=>cases hq
 | succ l =>
  obtain ⟨k,hk,rfl⟩:=aav.mp hq
  exact ⟨by show l<=h; omega,abJ.mp (abp.mp hk).1⟩
theorem Lh {p f l j:Nat}:∀ q ∈ chN p f l j,q.1 < l:=by
 intro q hq
 cases l with
 | zero=>cases hq
 | succ l =>
  obtain ⟨k,hk,rfl⟩:=aav.mp hq
  exact ab9 l
theorem Ql {p f l j:Nat} (hf:1<=f) (hp:p<=200):(chN p f l j).length<=200:=by
 cases l with
 | zero=>simp [chN]
 | succ l =>
  show (((aar (cnt p f l)).filter fun k=>k / f==j).map fun k=>(l,k)).length<=200
  rw [aac]
  have:=List.length_filter_le (fun k=>k / f==j) (aar (cnt p f l))
  rw [abH] at this
  have:=Gh (p:=p) (f:=f) (l:=l) hf
  omega
section
variable {tr:List (List Int)} {p f h:Nat} (hd:Dim tr p f h) (need:Int)
include hd
theorem NC (nodes:D):∀ (qs:List Nd) (xs:List D) (o4:Option D),Val p f h qs->xs.length + qs.length<=100000->∃ o4',AU (.nm 4) (exs AH) (qs.map Ab) [some (Ac tr),some (.int need),some nodes,some (.lst xs),o4]=if (qs.find? (tst tr need)).isSome then .ret (.lst (xs ++ (BO (tst tr need) qs).map Ab)) else .nxt [some (Ac tr),some (.int need),some nodes,some (.lst (xs ++ (BO (tst tr need) qs).map Ab)),o4']
 | [],xs,o4,_,_=>⟨o4,by simp [AU,BO]⟩
 | q :: r,xs,o4,hv,hl=>by
  rw [aaJ] at hl
  have hv0:=hv q aab
  have ht:=CZ hd hv0.1 hv0.2
  have hap:=BX xs (Ab q) (by omega)
  rw [aax,AU]
  show ∃ o4',(exs AH [some (Ac tr),some (.int need),some nodes,some (.lst xs),some (Ab q)]).then _=_
  unfold BO
  by_cases hq:tst tr need q=true
  ·have hq':need<=tl tr q.1 q.2:=of_decide_eq_true hq
   have e:exs AH [some (Ac tr),some (.int need),some nodes,some (.lst xs),some (Ab q)]=.ret (.lst (xs ++ [Ab q])):=by
    unfold Ab at *
    simp_arith [AH,hap,ht,hq']
   rw [e,abl hq,if_pos hq]
   exact ⟨none,rfl⟩
  ·have hq':¬ need<=tl tr q.1 q.2:=fun z=>hq (decide_eq_true z)
   have e:exs AH [some (Ac tr),some (.int need),some nodes,some (.lst xs),some (Ab q)]=.nxt [some (Ac tr),some (.int need),some nodes,some (.lst (xs ++ [Ab q])),some (Ab q)]:=by
    unfold Ab at *
    simp_arith [AH,hap,ht,hq']
   rw [e,abm hq,if_neg hq,Out.then_nxt]
   obtain ⟨o4',e'⟩:=NC nodes r (xs ++ [Ab q]) (some (Ab q)) (fun x hx=>hv x (aaa _ hx)) (by simp; omega)
   refine ⟨o4',?_⟩
   rw [e',aba]
   rfl
theorem VQ {qs:List Nd} (hv:Val p f h qs) (hl:qs.length<=200):CD.den [Ac tr,.int need,.lst (qs.map Ab)]=.ok (.lst ((BO (tst tr need) qs).map Ab)):=by
 obtain ⟨o4,e⟩:=NC hd need (.lst (qs.map Ab)) qs [] none hv (by simp; omega)
 rw [aaW] at e
 refine (Ja _ rfl).trans (Ae ?_)
 cases q:(qs.find? (tst tr need)).isSome with
 | true =>
  rw [q,if_pos rfl] at e
  simp_arith [BU,e]
 | false =>
  rw [q,if_neg aaU] at e
  simp_arith [BU,e]
variable (hf:2<=f) (hf8:f<=8) (H:Hs p f h) (hh:h<=8) (hp:p<=200)
include hf hf8 H hh hp
theorem Ug (b:D) {qs:List Nd} (hq:qs ≠ []) (hv:Val p f h qs) (hl:qs.length<=200) (xs:List D) (hx:xs.length<=100000) (o7:Option D):exs Cy [some (Ac tr),some (.int f),some (.int need),some b,some (shD p f),some (.lst xs),some (.lst (qs.map Ab)),o7]=match qs.find? (tst tr need) with
  | none=>.ret (.lst (xs ++ (BO (tst tr need) qs).map Ab))
  | some q=>.nxt [some (Ac tr),some (.int f),some (.int need),some b,some (shD p f),some (.lst (xs ++ (BO (tst tr need) qs).map Ab)),some (.lst ((chN p f q.1 q.2).map Ab)),some (.lst ((BO (tst tr need) qs).map Ab))]:=by
 have hu:=VQ hd need hv hl
 have hfl:=OC (BO (tst tr need) qs)
 have hdp:=Jb
 have hul:=Ip (tst tr need) qs
 have hex:=VM xs ((BO (tst tr need) qs).map Ab) (by rw [aac]; omega)
 obtain ⟨pre,q,e1,e2,e3⟩:=Hd (tst tr need) hq
 have hq0:=hv q e2
 have ht:=CZ hd hq0.1 hq0.2
 have hc:=Fx hf hf8 H hh hp hq0.1 hq0.2
 have hla:=JW (pre.map Ab) (Ab q)
 have e4:(BO (tst tr need) qs).map Ab=pre.map Ab ++ [Ab q]:=by rw [e1,aao]; rfl
 rw [<- e4] at hla
 generalize (BO (tst tr need) qs).map Ab=us at *
 have ht:AL.den [Ac tr,Ab q]=.ok (.int (tl tr q.1 q.2)):=ht
 have hc:Bw.den [shD p f,Ab q]=.ok (.lst ((chN p f q.1 q.2).map Ab)):=hc
 rcases e3 with ⟨h1,h2⟩ | ⟨h1,h2⟩
 ·have hlt:¬ tl tr q.1 q.2 < need:=by have:need<=tl tr q.1 q.2:=of_decide_eq_true h2; omega
  rw [h1]
  simp_arith [Cy,hu,hdp,hfl,hex,hla,ht,hlt,hc]
 ·have hlt:tl tr q.1 q.2 < need:=by have:¬ need<=tl tr q.1 q.2:=of_decide_eq_false h2; omega
  rw [h1]
  simp_arith [Cy,hu,hdp,hfl,hex,hla,ht,hlt]
theorem ND (b:D):∀ (n m:Nat) (qs:List Nd) (xs:List D) (o7:Option D),Val p f h qs->qs.length<=200->(∀ q ∈ qs,q.1 < n)->n < m->xs.length + 200 * n<=10000->∃ o6 o7',(AI (tv (.cmp .ne (.nm 6) (.lst .nil))) (exs Cy) m [some (Ac tr),some (.int f),some (.int need),some b,some (shD p f),some (.lst xs),some (.lst (qs.map Ab)),o7]=.ret (.lst (xs ++ (wk (tst tr need) p f n qs).map Ab)))\/(AI (tv (.cmp .ne (.nm 6) (.lst .nil))) (exs Cy) m [some (Ac tr),some (.int f),some (.int need),some b,some (shD p f),some (.lst xs),some (.lst (qs.map Ab)),o7]=.nxt [some (Ac tr),some (.int f),some (.int need),some b,some (shD p f),some (.lst (xs ++ (wk (tst tr need) p f n qs).map Ab)),o6,o7'])
 | n,m + 1,qs,xs,o7,hv,hl,hlv,hm,hx=>by
  have hcd:=G9 (qs.map Ab) (KA qs 6)
  by_cases hq:qs=[]
  ·subst hq
   refine ⟨some (.lst []),o7,.inr ?_⟩
   rw [abb] at hcd
   rw [abb,Cg (by simp_arith [hcd,List.isEmpty])]
   cases n <;> simp [wk,BO]
  ·cases n with
   | zero =>
    obtain ⟨q,r,rfl⟩:=List.exists_cons_of_ne_nil hq
    exact absurd (hlv q aab) (by omega)
   | succ n =>
    have hc1:tv (.cmp .ne (.nm 6) (.lst .nil)) [some (Ac tr),some (.int f),some (.int need),some b,some (shD p f),some (.lst xs),some (.lst (qs.map Ab)),o7]=.ok true:=by
     have:(qs.map Ab).isEmpty=false:=by
      cases qs with
      | nil=>exact absurd rfl hq
      | cons a r=>rfl
     rw [this] at hcd
     simp_arith [hcd]
    have ht:=Ug hd need hf hf8 H hh hp b hq hv hl xs (by omega) o7
    have hul:=Ip (tst tr need) qs
    rw [wk]
    cases q:qs.find? (tst tr need) with
    | none =>
     rw [q] at ht
     refine ⟨none,none,.inl ?_⟩
     rw [Qk hc1 ht,aaP]
    | some w =>
     rw [q] at ht
     have hw:=hv w (acn q)
     have hwl:=hlv w (acn q)
     rw [Dg hc1 ht]
     obtain ⟨o6,o7',e⟩:=ND b n m (chN p f w.1 w.2) (xs ++ (BO (tst tr need) qs).map Ab) (some (.lst ((BO (tst tr need) qs).map Ab))) (Jm hw.1) (Ql (by omega) hp) (fun x hx=>by have:=Lh x hx; omega) (by omega) (by rw [aaE,aac]; omega)
     rw [aba,<- aao] at e
     exact ⟨o6,o7',e⟩
end
theorem BZ {p f h e:Nat} (hf:1<=f) (hep:e<=p):∀ n a,Val p f h (cov p f h e n a)
 | 0,a=>fun q hq=>nomatch hq
 | n + 1,a=>by
  intro q hq
  rw [cov] at hq
  by_cases hae:a < e
  ·rw [if_pos hae] at hq
   rcases aai.mp hq with rfl | hq
   ·refine ⟨Ji _ _,?_⟩
    show a / f ^ lvA p f h e a < cnt p f (lvA p f h e a)
    rw [AX hf]
    have:=acO a (f ^ lvA p f h e a)
    omega
   ·exact BZ hf hep n _ q hq
  ·rw [if_neg hae] at hq; cases hq
theorem NE {p f h e:Nat}:∀ n a,(cov p f h e n a).length<=n
 | 0,a=>aaj _
 | n + 1,a=>by
  rw [cov]
  split
  ·have:=NE (p:=p) (f:=f) (h:=h) (e:=e) n (nxA p f h e a)
   simp only [aaJ]; omega
  ·simp
section
variable {tr:List (List Int)} {p f h:Nat} (hd:Dim tr p f h) (need:Int) (hf:2<=f) (hf8:f<=8) (H:Hs p f h) (hh:h<=8) (hp:p<=200)
include hd hf hf8 H hh hp
noncomputable def wkD (tr:List (List Int)) (p f h:Nat) (need:Int) (a:Nat):List Nd:=wk (tst tr need) p f (h + 1) (cov p f h p 200 a)
theorem OD {a:Nat} (ha:a<=p):FL.den [Ac tr,.int f,.int need,.int a]=.ok (.lst ((wkD tr p f h need a).map Ab)):=by
 have hs:=Bh hd
 have hc:=Hb hf hf8 H hh ha (aaj p) hp
 have hv:=BZ (p:=p) (f:=f) (h:=h) (show 1<=f by omega) (aaj p) 200 a
 obtain ⟨o6,o7,e⟩:=ND hd need hf hf8 H hh hp (.int a) (h + 1) FU (cov p f h p 200 a) [] none hv (NE 200 a) (fun q hq=>by have:=(hv q hq).1; omega) (by unfold FU; omega) (by simp; omega)
 rw [aaW] at e
 unfold GB at hc
 refine (P6 _ rfl).trans (Ae ?_)
 unfold wkD
 generalize (wk (tst tr need) p f (h + 1) (cov p f h p 200 a)).map Ab=ws at *
 generalize (cov p f h p 200 a).map Ab=qs at *
 unfold shD at *
 rcases e with e | e
 ·simp_arith [Fu,hs,hc,e]
 ·simp_arith [Fu,hs,hc,e]
noncomputable def R0:Option Nd->D
 | none=>.non
 | some q=>Ab q
end
theorem NF {ms:List Int} {f h l j:Nat} (hl:l<=h) (hj:j < cnt ms.length f l):tl (Aa ms f (h + 1)) l j=mxR ms (j * f ^ l) (min ms.length (j * f ^ l + f ^ l)):=by
 unfold tl
 have e1:(Aa ms f (h + 1)).getD l []=Bv ms f l (cnt ms.length f l):=by
  unfold Aa
  rw [aap,aaq,abV (by omega)]; rfl
 rw [e1,aap,Qj ms f l hj]; rfl
noncomputable def Til (p f:Nat):List Nd->Nat->Nat->Prop
 | [],a,e=>a=e
 | q :: r,a,e=>q.2 * f ^ q.1=a/\Til p f r (min p (q.2 * f ^ q.1 + f ^ q.1)) e
theorem Hz {p f h e:Nat} (hf:1<=f) (hep:e<=p):∀ n a,e - a<=n->a<=e->Til p f (cov p f h e n a) a e
 | 0,a,h1,h2=>by show a=e; omega
 | n + 1,a,h1,h2=>by
  rw [cov]
  by_cases hae:a < e
  ·rw [if_pos hae]
   have hs:a / f ^ lvA p f h e a * f ^ lvA p f h e a=a:=by
    have:=aci a (f ^ lvA p f h e a)
    rw [(Ha hae).1,abM] at this
    exact this
   have hn:=Mo (p:=p) (f:=f) (h:=h) hf hae hep
   have hn2:=(Ha (p:=p) (f:=f) (h:=h) hae).2
   refine ⟨hs,?_⟩
   show Til p f _ (min p (a / f ^ lvA p f h e a * f ^ lvA p f h e a + f ^ lvA p f h e a)) e
   rw [hs]
   exact Hz hf hep n (nxA p f h e a) (by omega) hn2
  ·rw [if_neg hae]; show a=e; omega
theorem NG {p f l:Nat} (hf:1<=f):∀ m s,0 < m->s + m<=cnt p f l->Til p f ((abF s m).map fun k=>(l,k)) (s * f ^ l) (min p ((s + m) * f ^ l))
 | 0,s,h,_=>absurd h (by omega)
 | 1,s,_,_=>⟨rfl,by show min p (s * f ^ l + f ^ l)=_; rw [ace]⟩
 | m + 2,s,_,h2=>by
  have ih:=NG (p:=p) (f:=f) (l:=l) hf (m + 1) (s + 1) (by omega) (by omega)
  refine ⟨rfl,?_⟩
  show Til p f ((abF (s + 1) (m + 1)).map fun k=>(l,k)) (min p (s * f ^ l + f ^ l)) _
  have h3:=(AX (p:=p) (f:=f) (l:=l) (j:=s + 1) hf).mp (by omega)
  rw [ace] at h3 ih
  rw [show min p (s * f ^ l + f ^ l)=s * f ^ l + f ^ l by omega,show s + (m + 2)=s + 1 + (m + 1) by omega]
  exact ih
theorem Qm {p f l j:Nat} (hf:1<=f):chN p f (l + 1) j=(abF (j * f) (min (j * f + f) (cnt p f l) - j * f)).map fun k=>(l,k):=by
 show ((aar (cnt p f l)).filter fun k=>k / f==j).map (fun k=>(l,k))=_
 rw [KB hf,List.range'_eq_map_range]
theorem Mv {p f l j:Nat} (hf:1<=f) (hj:j < cnt p f (l + 1)):chN p f (l + 1) j ≠ []/\Til p f (chN p f (l + 1) j) (j * f ^ (l + 1)) (min p (j * f ^ (l + 1) + f ^ (l + 1))):=by
 have h1:=(AX hf).mp hj
 have e1:j * f ^ (l + 1)=j * f * f ^ l:=by rw [abw,abM (f ^ l) f,Nat.mul_assoc]
 have e2:j * f ^ (l + 1) + f ^ (l + 1)=(j * f + f) * f ^ l:=by rw [e1,Nat.add_mul,abw,abM f]
 have h2:j * f < cnt p f l:=(AX hf).mpr (by omega)
 have r:=NG (p:=p) (f:=f) (l:=l) hf (min (j * f + f) (cnt p f l) - j * f) (j * f) (by omega) (by omega)
 rw [<- Qm hf,<- e1,show j * f + (min (j * f + f) (cnt p f l) - j * f)=min (j * f + f) (cnt p f l) by omega] at r
 have e3:min p (min (j * f + f) (cnt p f l) * f ^ l)=min p (j * f ^ (l + 1) + f ^ (l + 1)):=by
  rw [e2]
  by_cases c:j * f + f<=cnt p f l
  ·rw [abr c]
  ·have h3:¬ cnt p f l * f ^ l < p:=fun z=>absurd ((AX hf).mpr z) (aaT _)
   have h4:cnt p f l * f ^ l<=(j * f + f) * f ^ l:=Nat.mul_le_mul_right _ (by omega)
   rw [abj (by omega:cnt p f l<=j * f + f)]
   omega
 rw [e3] at r
 refine ⟨fun z=>?_,r⟩
 have:=congrArg abk z
 rw [Qm hf,aac,List.length_range'] at this
 simp at this
 omega
section
variable {ms:List Int} {f h:Nat} (hf:2<=f) (μ:Int)
include hf
theorem FQ {q:Nd} (hl:q.1<=h) (hj:q.2 < cnt ms.length f q.1):(tst (Aa ms f (h + 1)) μ q=true->∃ k x,q.2 * f ^ q.1<=k/\k < min ms.length (q.2 * f ^ q.1 + f ^ q.1)/\ms[k]?=some x/\μ<=x)/\(tst (Aa ms f (h + 1)) μ q=false->∀ k x,q.2 * f ^ q.1<=k->k < min ms.length (q.2 * f ^ q.1 + f ^ q.1)->ms[k]?=some x->x < μ):=by
 unfold tst
 rw [NF hl hj]
 have hw:0 < f ^ q.1:=aa7 (by omega)
 have hlt:=(AX (show 1<=f by omega)).mp hj
 obtain ⟨⟨k,a1,a2,a3⟩,b1⟩:=SB (rs:=ms) (a:=q.2 * f ^ q.1) (b:=min ms.length (q.2 * f ^ q.1 + f ^ q.1)) (by omega) (by omega)
 refine ⟨fun z=>⟨k,_,a1,a2,a3,of_decide_eq_true z⟩,fun z k x c1 c2 c3=>?_⟩
 have:=of_decide_eq_false z
 have:=b1 k x c1 c2 c3
 omega
theorem Et:∀ (qs:List Nd) (a e:Nat),Val ms.length f h qs->Til ms.length f qs a e->(∀ q ∈ qs,tst (Aa ms f (h + 1)) μ q=false)->∀ k x,a<=k->k < e->ms[k]?=some x->x < μ
 | [],a,e,_,ht,_,k,x,h1,h2,_=>absurd (show a=e from ht) (by omega)
 | q :: r,a,e,hv,ht,hq,k,x,h1,h2,h3=>by
  obtain ⟨t1,t2⟩:=ht
  obtain ⟨v1,v2⟩:=hv q aab
  by_cases c:k < min ms.length (q.2 * f ^ q.1 + f ^ q.1)
  ·exact (FQ hf μ v1 v2).2 (hq q aab) k x (by omega) c h3
  ·exact Et r _ e (fun q' h=>hv q' (aaa _ h)) t2 (fun q' h=>hq q' (aaa _ h)) k x (by omega) h2 h3
theorem Gk:∀ (qs:List Nd) (a e:Nat),Val ms.length f h qs->Til ms.length f qs a e->a<=e
 | [],a,e,_,ht=>aco ht
 | q :: r,a,e,hv,ht=>by
  obtain ⟨t1,t2⟩:=ht
  obtain ⟨v1,v2⟩:=hv q aab
  have hlt:=(AX (show 1<=f by omega)).mp v2
  have:=Gk r _ e (fun q' h=>hv q' (aaa _ h)) t2
  omega
theorem Mw:∀ (qs:List Nd) (a e:Nat) (q:Nd),Val ms.length f h qs->Til ms.length f qs a e->qs.find? (tst (Aa ms f (h + 1)) μ)=some q->a<=q.2 * f ^ q.1/\min ms.length (q.2 * f ^ q.1 + f ^ q.1)<=e/\∀ k x,a<=k->k < q.2 * f ^ q.1->ms[k]?=some x->x < μ
 | [],a,e,q,_,_,h=>nomatch h
 | q0 :: r,a,e,q,hv,ht,hq=>by
  obtain ⟨t1,t2⟩:=ht
  obtain ⟨v1,v2⟩:=hv q0 aab
  have hlt:=(AX (show 1<=f by omega)).mp v2
  have hv':Val ms.length f h r:=fun q' h=>hv q' (aaa _ h)
  have hle:=Gk hf r _ e hv' t2
  by_cases c:tst (Aa ms f (h + 1)) μ q0=true
  ·rw [abl c] at hq
   cases hq
   exact ⟨by omega,hle,fun k x z1 z2=>absurd z2 (by omega)⟩
  ·rw [abm c] at hq
   obtain ⟨z1,z2,z3⟩:=Mw r _ e q hv' t2 hq
   refine ⟨by omega,z2,fun k x k1 k2 k3=>?_⟩
   by_cases c2:k < min ms.length (q0.2 * f ^ q0.1 + f ^ q0.1)
   ·exact (FQ hf μ v1 v2).2 (by simpa using c) k x (by omega) c2 k3
   ·exact z3 k x (by omega) k2 k3
theorem Mx:∀ (n:Nat) (qs:List Nd) (a e:Nat),Val ms.length f h qs->(∀ q ∈ qs,q.1 < n)->Til ms.length f qs a e->qs ≠ []->∃ pre q,wk (tst (Aa ms f (h + 1)) μ) ms.length f n qs=pre ++ [q]/\q.1<=h/\q.2 < cnt ms.length f q.1/\((tst (Aa ms f (h + 1)) μ q=false/\∀ k x,a<=k->k < e->ms[k]?=some x->x < μ)\/(q.1=0/\tst (Aa ms f (h + 1)) μ q=true/\a<=q.2/\q.2 < e/\(∃ x,ms[q.2]?=some x/\μ<=x)/\∀ k x,a<=k->k < q.2->ms[k]?=some x->x < μ))
 | 0,qs,a,e,hv,hn,ht,hne=>by
  cases qs with
  | nil=>exact absurd rfl hne
  | cons q r=>exact absurd (hn q aab) (by omega)
 | n + 1,qs,a,e,hv,hn,ht,hne=>by
  obtain ⟨pre,q,h1,h2,h3⟩:=Hd (tst (Aa ms f (h + 1)) μ) hne
  obtain ⟨v1,v2⟩:=hv q h2
  rw [wk,h1]
  rcases h3 with ⟨g1,g2⟩ | ⟨g1,g2⟩
  ·rw [g1]
   obtain ⟨z1,z2,z3⟩:=Mw hf μ qs a e q hv ht g1
   obtain ⟨l,j⟩:=q
   cases l with
   | zero =>
    refine ⟨pre,(0,j),?_,v1,v2,.inr ⟨rfl,g2,?_⟩⟩
    ·have:wk (tst (Aa ms f (h + 1)) μ) ms.length f n (chN ms.length f 0 j)=[]:=by
      cases n with
      | zero=>rfl
      | succ m=>rfl
     show pre ++ [(0,j)] ++ wk (tst (Aa ms f (h + 1)) μ) ms.length f n (chN ms.length f 0 j)=_
     rw [this,aaP]
    ·obtain ⟨k,x,k1,k2,k3,k4⟩:=(FQ hf μ v1 v2).1 g2
     simp only [ab0,acD] at k1 k2 z1 z2 z3
     have:k=j:=by omega
     subst this
     exact ⟨z1,by omega,⟨x,k3,k4⟩,z3⟩
   | succ l =>
    obtain ⟨c1,c2⟩:=Mv (p:=ms.length) (f:=f) (l:=l) (j:=j) (by omega) v2
    have hn':=hn _ h2
    obtain ⟨pre',q',w1,w2,w3,w4⟩:=Mx n (chN ms.length f (l + 1) j) _ _ (Jm v1) (fun q hq=>by
     have:=Lh q hq
     have:l + 1 < n + 1:=hn'
     omega) c2 c1
    refine ⟨pre ++ [(l + 1,j)] ++ pre',q',?_,w2,w3,?_⟩
    ·show pre ++ [(l + 1,j)] ++ wk (tst (Aa ms f (h + 1)) μ) ms.length f n (chN ms.length f (l + 1) j)=_
     rw [w1,aba,aba,aba]
    ·rcases w4 with ⟨u1,u2⟩ | ⟨u1,u2,u3,u4,u5,u6⟩
     ·obtain ⟨k,x,k1,k2,k3,k4⟩:=(FQ hf μ v1 v2).1 g2
      have:=u2 k x k1 k2 k3
      omega
     ·refine .inr ⟨u1,u2,?_,?_,u5,fun k x k1 k2 k3=>?_⟩
      ·exact aaK z1 u3
      ·exact aay u4 z2
      ·by_cases c:k < j * f ^ (l + 1)
       ·exact z3 k x k1 c k3
       ·exact u6 k x (by omega) k2 k3
  ·rw [g1]
   refine ⟨pre,q,by rw [aaP],v1,v2,.inl ⟨g2,?_⟩⟩
   exact Et hf μ qs a e hv ht (fun q' hq'=>by
    have:=ab1.mp g1 q' hq'
    simpa using this)
end
theorem SC {xs:List D} {d:D}:atD (xs ++ [d]) (-1)=.ok d:=by
 unfold atD ixN
 rw [if_neg (by decide),aaE,if_pos (by simp; omega)]
 show (match (xs ++ [d])[((-1:Int) + ((xs.length + [d].length:Nat):Int)).toNat]? with | some d=>Res.ok d | none=>Res.bad)=_
 rw [show ((-1:Int) + ((xs.length + [d].length:Nat):Int)).toNat=xs.length by simp; omega]
 simp
noncomputable def pgD:Option Nat->D
 | none=>.non
 | some k=>.int k
noncomputable def FsA (ms:List Int) (μ:Int) (a:Nat):Option Nat->Prop
 | none=>∀ (k:Nat) (x:Int),a<=k->ms[k]?=some x->x < μ
 | some j=>a<=j/\(∃ x:Int,ms[j]?=some x/\μ<=x)/\∀ (k:Nat) (x:Int),a<=k->k < j->ms[k]?=some x->x < μ
theorem HA {ms:List Int} {μ:Int} {a:Nat}:∀ {o o':Option Nat},FsA ms μ a o->FsA ms μ a o'->o=o'
 | none,none,_,_=>rfl
 | none,some j,h,⟨h1,⟨x,h2,h3⟩,_⟩=>by have:=h j x h1 h2; omega
 | some j,none,⟨h1,⟨x,h2,h3⟩,_⟩,h=>by have:=h j x h1 h2; omega
 | some i,some j,⟨h1,⟨x,h2,h3⟩,h4⟩,⟨g1,⟨y,g2,g3⟩,g4⟩=>by
  rcases Nat.lt_trichotomy i j with c | c | c
  ·have:=g4 i x h1 c h2; omega
  ·rw [c]
  ·have:=h4 j y g1 c g2; omega
theorem MQ {a b:Int} (h:a < b):Ar a b=.int a :: Ar (a + 1) b:=by
 unfold Ar
 rw [show (b - a).toNat=(b - (a + 1)).toNat + 1 by omega,abE,aax,aaz]
 congr 1
 ·show D.int (a + 0)=_; rw [Int.add_zero]
 ·apply aaR
  intro k _
  show D.int (a + ((k + 1:Nat):Int))=D.int (a + 1 + (k:Int))
  congr 1
  omega
theorem MR {a b:Int} (h:b<=a):Ar a b=[]:=by
 unfold Ar
 rw [show (b - a).toNat=0 by omega]; rfl
section
variable {ms:List Int} {f h:Nat} (hf:2<=f) (hf8:f<=8) (H:Hs ms.length f h) (hh:h<=8) (hn:ms.length<=200) (μ:Int)
include hf hf8 H hh hn
theorem Qn {a:Nat} (ha:a < ms.length):∃ o,Cl.den [Ac (Aa ms f (h + 1)),.int f,.int μ,.int a]=.ok (pgD o)/\FsA ms μ a o:=by
 have hd:=AM ms f h
 have hw:=OD hd μ hf hf8 H hh hn (a:=a) (by omega)
 have ht:=Hz (p:=ms.length) (f:=f) (h:=h) (e:=ms.length) (by omega) (aaj _) 200 a (by omega) (by omega)
 have hv:=BZ (p:=ms.length) (f:=f) (h:=h) (e:=ms.length) (by omega) (aaj _) 200 a
 have hne:cov ms.length f h ms.length 200 a ≠ []:=by
  rw [cov,if_pos ha]
  exact List.cons_ne_nil _ _
 obtain ⟨pre,⟨l,j⟩,w1,w2,w3,w4⟩:=Mx (ms:=ms) (h:=h) hf μ (h + 1) _ a ms.length hv (fun q hq=>by
  have:=(hv q hq).1
  omega) ht hne
 have w1:wkD (Aa ms f (h + 1)) ms.length f h μ a=pre ++ [(l,j)]:=w1
 rw [w1,aao] at hw
 have hw:FL.den [Ac (Aa ms f (h + 1)),.int f,.int μ,.int a]=.ok (.lst (pre.map Ab ++ [.tup [.int l,.int j]])):=hw
 have htl:=CZ hd w2 w3
 unfold Ak at htl
 have hm:=SC (xs:=pre.map Ab) (d:=.tup [.int l,.int j])
 have hnil:=CY (pre.map Ab ++ [.tup [.int l,.int j]]) (by
  rw [aaw]
  intro d hd
  rcases aag.mp hd with hd | hd
  ·obtain ⟨q,_,rfl⟩:=aav.mp hd
   rfl
  ·rw [aaF.mp hd]; rfl)
 rw [show (pre.map Ab ++ [D.tup [.int l,.int j]]).isEmpty=false by cases pre <;> rfl] at hnil
 refine ⟨if tst (Aa ms f (h + 1)) μ (l,j)=true then some j else none,(KR _ rfl).trans (Ae ?_),?_⟩
 ·have hts:tst (Aa ms f (h + 1)) μ (l,j)=decide (μ<=tl (Aa ms f (h + 1)) l j):=rfl
  rw [hts]
  clear w4 hts w1 hd
  generalize tl (Aa ms f (h + 1)) l j=x at *
  generalize Ac (Aa ms f (h + 1))=T at *
  generalize pre.map Ab ++ [D.tup [.int l,.int j]]=W at *
  by_cases c:μ<=x
  ·rw [if_pos (decide_eq_true c)]
   have c':¬ x < μ:=by omega
   unfold pgD
   simp_arith [CS,hw,hnil,hm,htl,c']
  ·rw [if_neg (by rw [decide_eq_true_eq]; exact c)]
   have c':x < μ:=by omega
   unfold pgD
   simp_arith [CS,hw,hnil,hm,htl,c']
 ·rcases w4 with ⟨u1,u2⟩ | ⟨u1,u2,u3,u4,u5,u6⟩
  ·rw [u1,if_neg (by decide)]
   intro k x ha hk
   exact u2 k x ha ((aak.mp hk).1) hk
  ·rw [u2,if_pos rfl]
   exact ⟨u3,u5,u6⟩
theorem HL {a:Nat} (ha:a < ms.length):∃ o,AJ.den [Ac (Aa ms f (h + 1)),.int f,.int μ,.int a]=.ok (pgD o)/\FsA ms μ a o:=by
 obtain ⟨o,h1,h2⟩:=Qn hf hf8 H hh hn μ ha
 refine ⟨o,(Oq _ rfl).trans (Ae ?_),h2⟩
 have hs:=Bh (AM ms f h)
 have hb:=BY (a:Int) 0 ((ms.length:Int) - 1)
 rw [decide_eq_true (by omega)] at hb
 have hc:EI.den [shD ms.length f,.int a]=.ok .non:=by
  refine (KQ _ rfl).trans ?_
  unfold shD
  simp_arith [DY,hb,run]
 clear h2
 generalize Ac (Aa ms f (h + 1))=T at *
 generalize shD ms.length f=s at *
 generalize pgD o=d at *
 simp_arith [FM,hs,hc,h1]
end
theorem Jn (p:Nat):Ar 0 (p:Int)=(aar p).map iN:=by
 unfold Ar
 rw [show ((p:Int) - 0).toNat=p by omega]
 apply aaR
 intro k _
 show D.int (0 + (k:Int))=D.int k
 rw [abZ]
theorem Ff (o:Option Nat):D.flat 9 0 (pgD o)=true:=by cases o <;> rfl
noncomputable def LsA (ms:List Int) (μ:Int) (e:Nat):Option Nat->Prop
 | none=>∀ (k:Nat) (x:Int),k < e->ms[k]?=some x->x < μ
 | some j=>j < e/\(∃ x:Int,ms[j]?=some x/\μ<=x)/\∀ (k:Nat) (x:Int),j < k->k < e->ms[k]?=some x->x < μ
section
variable {ms:List Int} {f h:Nat} (hf:2<=f) (μ:Int)
include hf
theorem He:∀ (qs:List Nd) (a e:Nat) (q:Nd),Val ms.length f h qs->Til ms.length f qs a e->qs.reverse.find? (tst (Aa ms f (h + 1)) μ)=some q->q ∈ qs/\tst (Aa ms f (h + 1)) μ q=true/\a<=q.2 * f ^ q.1/\min ms.length (q.2 * f ^ q.1 + f ^ q.1)<=e/\∀ k x,min ms.length (q.2 * f ^ q.1 + f ^ q.1)<=k->k < e->ms[k]?=some x->x < μ
 | [],a,e,q,_,_,h=>nomatch h
 | q0 :: r,a,e,q,hv,ht,hq=>by
  obtain ⟨t1,t2⟩:=ht
  obtain ⟨v1,v2⟩:=hv q0 aab
  have hlt:=(AX (show 1<=f by omega)).mp v2
  have hv':Val ms.length f h r:=fun q' h=>hv q' (aaa _ h)
  have hle:=Gk hf r _ e hv' t2
  rw [ab2,List.find?_append] at hq
  cases c:r.reverse.find? (tst (Aa ms f (h + 1)) μ) with
  | some q1 =>
   rw [c,Option.some_or] at hq
   cases hq
   obtain ⟨z0,z00,z1,z2,z3⟩:=He r _ e q hv' t2 c
   exact ⟨aaa _ z0,z00,by omega,z2,z3⟩
  | none =>
   rw [c,Option.none_or] at hq
   by_cases c2:tst (Aa ms f (h + 1)) μ q0=true
   ·rw [abl c2] at hq
    cases hq
    refine ⟨aab,c2,by omega,hle,?_⟩
    exact Et hf μ r _ e hv' t2 (fun q' hq'=>by
     have:=ab1.mp c q' (abd.mpr hq')
     simpa using this)
   ·rw [abm c2] at hq
    cases hq
end
section
variable {tr:List (List Int)} {p f h:Nat} (hd:Dim tr p f h) (need:Int)
include hd
theorem NH (nodes:D):∀ (qs:List Nd) (o3:Option D),Val p f h qs->∃ o3',AU (.nm 3) (exs Az) (qs.map Ab) [some (Ac tr),some (.int need),some nodes,o3]=match qs.find? (tst tr need) with
  | some q=>.ret (Ab q)
  | none=>.nxt [some (Ac tr),some (.int need),some nodes,o3']
 | [],o3,_=>⟨o3,rfl⟩
 | q :: r,o3,hv=>by
  have hv0:=hv q aab
  have ht:=CZ hd hv0.1 hv0.2
  rw [aax,AU]
  show ∃ o3',(exs Az [some (Ac tr),some (.int need),some nodes,some (Ab q)]).then _=_
  by_cases hq:tst tr need q=true
  ·have hq':need<=tl tr q.1 q.2:=of_decide_eq_true hq
   have e:exs Az [some (Ac tr),some (.int need),some nodes,some (Ab q)]=.ret (Ab q):=by
    unfold Ab at *
    simp_arith [Az,ht,hq']
   rw [e,abl hq]
   exact ⟨none,rfl⟩
  ·have hq':¬ need<=tl tr q.1 q.2:=fun z=>hq (decide_eq_true z)
   have e:exs Az [some (Ac tr),some (.int need),some nodes,some (Ab q)]=.nxt [some (Ac tr),some (.int need),some nodes,some (Ab q)]:=by
    unfold Ab at *
    simp_arith [Az,ht,hq']
   rw [e,abm hq,Out.then_nxt]
   exact NH nodes r (some (Ab q)) (fun x hx=>hv x (aaa _ hx))
theorem Qo {qs:List Nd} (hv:Val p f h qs):A8.den [Ac tr,.int need,.lst (qs.map Ab)]=.ok (R0 (qs.reverse.find? (tst tr need))):=by
 obtain ⟨o3,e⟩:=NH hd need (.lst (qs.map Ab)) qs.reverse none (fun q hq=>hv q (abd.mp hq))
 rw [act] at e
 have hrv:Vb (.lst (qs.map Ab))=.ok (qs.map Ab).reverse:=rfl
 refine (JN _ rfl).trans (Ae ?_)
 cases q:qs.reverse.find? (tst tr need) with
 | some w =>
  rw [q] at e
  unfold R0
  have e:AU (.nm 3) (exs Az) (qs.map Ab).reverse [some (Ac tr),some (.int need),some (.lst (qs.map Ab)),none]=.ret (Ab w):=e
  generalize (qs.map Ab).reverse=R at *
  generalize qs.map Ab=Q at *
  simp_arith [Cm,hrv,e]
 | none =>
  rw [q] at e
  unfold R0
  have e:AU (.nm 3) (exs Az) (qs.map Ab).reverse [some (Ac tr),some (.int need),some (.lst (qs.map Ab)),none]=.nxt [some (Ac tr),some (.int need),some (.lst (qs.map Ab)),o3]:=e
  generalize (qs.map Ab).reverse=R at *
  generalize qs.map Ab=Q at *
  simp_arith [Cm,hrv,e]
end
section
variable {ms:List Int} {f h:Nat} (hf:2<=f) (hf8:f<=8) (H:Hs ms.length f h) (hh:h<=8) (hn:ms.length<=200) (μ:Int)
include hf hf8 H hh hn
theorem NI (b:D) {e:Nat}:∀ (n l j m:Nat),l<=n->n < m->l<=h->j < cnt ms.length f l->tst (Aa ms f (h + 1)) μ (l,j)=true->min ms.length (j * f ^ l + f ^ l)<=e->(∀ k x,min ms.length (j * f ^ l + f ^ l)<=k->k < e->ms[k]?=some x->x < μ)->∃ j',LsA ms μ e (some j')/\AI (tv (.bo true (.cons (.isN true (.nm 5)) (.cons (.cmp .gt (.ix (.nm 5) (.cI 0)) (.cI 0)) .nil)))) (exs CF) m [some (Ac (Aa ms f (h + 1))),some (.int f),some (.int μ),some b,some (shD ms.length f),some (.tup [.int l,.int j])]=.nxt [some (Ac (Aa ms f (h + 1))),some (.int f),some (.int μ),some b,some (shD ms.length f),some (.tup [.int 0,.int j'])]
 | n,0,j,m + 1,_,_,hl,hj,ht,he,hx=>by
  refine ⟨j,?_,?_⟩
  ·obtain ⟨k,x,k1,k2,k3,k4⟩:=(FQ hf μ (q:=(0,j)) hl hj).1 ht
   simp only [ab0,acD] at k1 k2 he hx
   have:k=j:=by omega
   subst this
   exact ⟨by omega,⟨x,k3,k4⟩,fun i y i1 i2 i3=>hx i y (by omega) i2 i3⟩
  ·rw [show ((0:Nat):Int)=0 from rfl]
   generalize Ac (Aa ms f (h + 1))=T
   have c0:¬ (0:Int) < 0:=by decide
   exact Cg (by simp_arith [c0])
 | n + 1,l + 1,j,m + 1,hln,hnm,hl,hj,ht,he,hx=>by
  obtain ⟨c1,c2⟩:=Mv (p:=ms.length) (f:=f) (l:=l) (j:=j) (by omega) hj
  have hv:=Jm (p:=ms.length) (f:=f) (h:=h) (l:=l + 1) (j:=j) hl
  have hle:=Qo (AM ms f h) μ hv
  have hch:=Fx hf hf8 H hh hn hl hj
  cases q:(chN ms.length f (l + 1) j).reverse.find? (tst (Aa ms f (h + 1)) μ) with
  | none =>
   obtain ⟨k,x,k1,k2,k3,k4⟩:=(FQ hf μ (q:=(l + 1,j)) hl hj).1 ht
   have:=Et hf μ _ _ _ hv c2 (fun q' hq'=>by
    have:=ab1.mp q q' (abd.mpr hq')
    simpa using this) k x k1 k2 k3
   omega
  | some w =>
   obtain ⟨l',j'⟩:=w
   obtain ⟨z0,z00,z1,z2,z3⟩:=He hf μ _ _ _ _ hv c2 q
   obtain ⟨v1,v2⟩:=hv _ z0
   have hlv:=Lh _ z0
   simp only at z1 z2 z3 v1 v2 hlv
   obtain ⟨i,g1,g2⟩:=NI (e:=e) b n l' j' m (by omega) (by omega) v1 v2 z00 (by omega) (fun k x k1 k2 k3=>by
    by_cases ck:k < min ms.length (j * f ^ (l + 1) + f ^ (l + 1))
    ·exact z3 k x k1 ck k3
    ·exact hx k x (by omega) k2 k3)
   refine ⟨i,g1,?_⟩
   rw [q] at hle
   have hle:A8.den [Ac (Aa ms f (h + 1)),.int μ,.lst ((chN ms.length f (l + 1) j).map Ab)]=.ok (.tup [.int l',.int j']):=hle
   have hch:Bw.den [shD ms.length f,.tup [.int ((l + 1:Nat):Int),.int j]]=.ok (.lst ((chN ms.length f (l + 1) j).map Ab)):=hch
   have c0:(0:Int) < ((l + 1:Nat):Int):=by omega
   rw [<- g2]
   clear g1 g2 z3 z1 z2 hx he ht
   generalize (chN ms.length f (l + 1) j).map Ab=C at *
   generalize Ac (Aa ms f (h + 1))=T at *
   generalize shD ms.length f=s at *
   generalize ((l + 1:Nat):Int)=L at *
   exact Dg (by simp_arith [c0]) (by simp_arith [CF,hch,hle])
theorem J2 {e:Nat} (he:e<=ms.length):∃ o,Cn.den [Ac (Aa ms f (h + 1)),.int f,.int μ,.int e]=.ok (pgD o)/\LsA ms μ e o:=by
 have hs:=Bh (AM ms f h)
 have hc:=Hb hf hf8 H hh (aat e) he hn
 have ht:=Hz (p:=ms.length) (f:=f) (h:=h) (e:=e) (by omega) he 200 0 (by omega) (by omega)
 have hv:=BZ (p:=ms.length) (f:=f) (h:=h) (e:=e) (by omega) he 200 0
 have hle:=Qo (AM ms f h) μ hv
 have hc:DI.den [shD ms.length f,.int 0,.int e]=.ok (.lst ((cov ms.length f h e 200 0).map Ab)):=hc
 cases q:(cov ms.length f h e 200 0).reverse.find? (tst (Aa ms f (h + 1)) μ) with
 | none =>
  refine ⟨none,(GD _ rfl).trans (Ae ?_),fun k x k1 k2=>Et hf μ _ _ _ hv ht (fun q' hq'=>by
    have:=ab1.mp q q' (abd.mpr hq')
    simpa using this) k x (by omega) k1 k2⟩
  rw [q] at hle
  have hle:A8.den [Ac (Aa ms f (h + 1)),.int μ,.lst ((cov ms.length f h e 200 0).map Ab)]=.ok .non:=hle
  clear ht hv q
  show _=Out.ret .non
  generalize (cov ms.length f h e 200 0).map Ab=C at *
  generalize Ac (Aa ms f (h + 1))=T at *
  generalize shD ms.length f=s at *
  have hw:AI (tv (.bo true (.cons (.isN true (.nm 5)) (.cons (.cmp .gt (.ix (.nm 5) (.cI 0)) (.cI 0)) .nil)))) (exs CF) FU [some T,some (.int f),some (.int μ),some (.int e),some s,some .non]=.nxt [some T,some (.int f),some (.int μ),some (.int e),some s,some .non]:=by
   unfold FU
   exact Cg (by simp_arith [])
  simp_arith [CT,hs,hc,hle,hw]
 | some w =>
  obtain ⟨l,j⟩:=w
  obtain ⟨z0,z00,z1,z2,z3⟩:=He hf μ _ _ _ _ hv ht q
  obtain ⟨v1,v2⟩:=hv _ z0
  obtain ⟨i,g1,g2⟩:=NI hf hf8 H hh hn μ (e:=e) (.int e) l l j FU (aaj _) (by simp only at v1; unfold FU; omega) v1 v2 z00 z2 z3
  refine ⟨some i,(GD _ rfl).trans (Ae ?_),g1⟩
  rw [q] at hle
  have hle:A8.den [Ac (Aa ms f (h + 1)),.int μ,.lst ((cov ms.length f h e 200 0).map Ab)]=.ok (.tup [.int l,.int j]):=hle
  clear ht hv q g1 z0 z00 z1 z2 z3 v1 v2
  show _=Out.ret (.int i)
  generalize (cov ms.length f h e 200 0).map Ab=C at *
  generalize Ac (Aa ms f (h + 1))=T at *
  generalize shD ms.length f=s at *
  simp_arith [CT,hs,hc,hle,g2]
noncomputable def NrA (ms:List Int) (μ:Int) (a:Nat):Option Nat->Prop
 | none=>∀ (k:Nat) (x:Int),ms[k]?=some x->x < μ
 | some j=>(∃ x:Int,ms[j]?=some x/\μ<=x)/\∀ (k:Nat) (x:Int),ms[k]?=some x->μ<=x->(a - j) + (j - a) < (a - k) + (k - a)\/((a - j) + (j - a)=(a - k) + (k - a)/\j<=k)
theorem R1 {a:Nat} (ha:a < ms.length):∃ o,Da.den [Ac (Aa ms f (h + 1)),.int f,.int μ,.int a]=.ok (pgD o)/\NrA ms μ a o:=by
 obtain ⟨ob,hb,FB⟩:=HL hf hf8 H hh hn μ ha
 obtain ⟨oa,h1,FA⟩:=J2 hf hf8 H hh hn μ (e:=a) (by omega)
 generalize Ac (Aa ms f (h + 1))=T at *
 cases oa with
 | none =>
  refine ⟨ob,(Hw _ rfl).trans (Ae ?_),?_⟩
  ·have h1:Cn.den [T,.int f,.int μ,.int a]=.ok .non:=h1
   generalize pgD ob=B at *
   simp_arith [Fv,hb,h1]
  ·cases ob with
   | none =>
    intro k x hk
    by_cases c:k < a
    ·exact FA k x c hk
    ·exact FB k x (by omega) hk
   | some j =>
    obtain ⟨g1,g2,g3⟩:=FB
    refine ⟨g2,fun k x hk hx=>?_⟩
    by_cases c:k < a
    ·have:=FA k x c hk; omega
    ·by_cases c2:k < j
     ·have:=g3 k x (by omega) c2 hk; omega
     ·omega
 | some i =>
  obtain ⟨a1,a2,a3⟩:=FA
  have h1:Cn.den [T,.int f,.int μ,.int a]=.ok (.int i):=h1
  cases ob with
  | none =>
   refine ⟨some i,(Hw _ rfl).trans (Ae ?_),a2,fun k x hk hx=>?_⟩
   ·have hb:AJ.den [T,.int f,.int μ,.int a]=.ok .non:=hb
    show _=Out.ret (.int i)
    simp_arith [Fv,hb,h1]
   ·by_cases c:k < a
    ·by_cases c2:i < k
     ·have:=a3 k x c2 c hk; omega
     ·omega
    ·have:=FB k x (by omega) hk; omega
  | some j =>
   obtain ⟨g1,g2,g3⟩:=FB
   have hb:AJ.den [T,.int f,.int μ,.int a]=.ok (.int j):=hb
   by_cases cc:(a:Int) - i<=(j:Int) - a
   ·refine ⟨some i,(Hw _ rfl).trans (Ae ?_),a2,fun k x hk hx=>?_⟩
    ·show _=Out.ret (.int i)
     simp_arith [Fv,hb,h1,cc]
    ·by_cases c:k < a
     ·by_cases c2:i < k
      ·have:=a3 k x c2 c hk; omega
      ·omega
     ·by_cases c2:k < j
      ·have:=g3 k x (by omega) c2 hk; omega
      ·omega
   ·refine ⟨some j,(Hw _ rfl).trans (Ae ?_),g2,fun k x hk hx=>?_⟩
    ·show _=Out.ret (.int j)
     simp_arith [Fv,hb,h1,cc]
    ·by_cases c:k < a
     ·by_cases c2:i < k
      ·have:=a3 k x c2 c hk; omega
      ·omega
     ·by_cases c2:k < j
      ·have:=g3 k x (by omega) c2 hk; omega
      ·omega
end
noncomputable def Eb (rs:List Int) (q:Int):List Int:=rs.filter fun x=>decide (q<=x)
theorem NJ {v:Int}:∀ {ns:List Int},v ∈ ns->∃ j,Ef v ns=some j
 | [],h=>nomatch h
 | x :: r,h=>by
  rw [Ef]
  by_cases c:x=v
  ·exact ⟨0,by rw [if_pos c]⟩
  ·rw [if_neg c]
   rcases aai.mp h with rfl | h
   ·exact absurd rfl c
   ·obtain ⟨j,e⟩:=NJ h
    exact ⟨j + 1,by rw [e]; rfl⟩
theorem Qp {v:Int}:∀ {ns:List Int} {j:Nat},Ef v ns=some j->ns[j]?=some v/\∀ m,m < j->ns[m]? ≠ some v
 | [],j,h=>nomatch h
 | x :: r,j,h=>by
  rw [Ef] at h
  split at h
  ·rename_i c
   cases h
   exact ⟨by rw [c]; rfl,fun m hm=>absurd hm (by omega)⟩
  ·rename_i c
   obtain ⟨i,h1,rfl⟩:=aas.mp h
   obtain ⟨h2,h3⟩:=Qp h1
   refine ⟨by simpa using h2,fun m hm=>?_⟩
   cases m with
   | zero=>intro z; cases z; exact c rfl
   | succ m =>
    have:=h3 m (by omega)
    simpa using this
theorem VR {rs:List Int} {v:Int} {j:Nat} (h:Ef v rs=some j):mtD .index (.lst (rs.map .int)) [.int v]=.ok (.int j):=by
 show (AA (Be (rs.map .int))).bind _=_
 rw [Ea]
 show (AA (Ef v rs)).bind _=_
 rw [h]; rfl
theorem R3 (xs:List Int):(xs.map D.int).all (D.shp 7)=true:=by
 rw [aaw]
 intro d hd
 obtain ⟨x,rfl⟩:=D9 hd
 rfl
theorem OE (rs:List Int) (q:Int):((rs.map D.int).filter fun d=>match d with | .int r=>decide (q<=r) | _=>false).map (fun d=>d)=(Eb rs q).map .int:=by
 unfold Eb
 rw [List.map_id',abD]; rfl
structure Tri where
 l:Int
 j:Int
 t:Int
noncomputable def Dl (q:Tri):D:=.tup [.int q.l,.int q.j,.int q.t]
noncomputable def nlv (p h:Nat):Nat:=if p=0 then 0 else h + 1
noncomputable def lvS (p f h:Nat):List Nat:=if p=0 then [] else lvD p f h
noncomputable def Ec (p f h:Nat) (l j:Int):Bool:=decide (0<=l/\l < nlv p h/\0<=j/\j < cnt p f l.toNat)
theorem Uh (p f h:Nat):(lvS p f h).length=nlv p h:=by
 unfold lvS nlv
 split
 ·rfl
 ·rw [BA]
theorem Ey {α:Type} (g:α->Bool):∀ xs:List α,Bj (xs.map fun x=>.bl (g x))=some (xs.map g)
 | []=>rfl
 | x :: r=>by rw [aax,Bj,Ey g r]; rfl
section
variable {p f h:Nat} (S:Sp p f h)
include S
theorem MS:CO.den [shD p f]=.ok (AS (lvS p f h)):=by
 unfold lvS
 rcases S.hs with h0 | H
 ·subst h0; rw [if_pos rfl]; exact MO f
 ·have:=H.one
  have h1:=Gh (p:=p) (f:=f) (l:=h) (by have:=S.hf; omega)
  rw [if_neg (by omega)]
  exact E7 S.hf S.hf8 H S.hh
theorem VS {l:Nat} (hl:l < nlv p h):atD ((lvS p f h).map iN) (l:Int)=.ok (.int (cnt p f l)):=by
 unfold nlv at hl
 unfold lvS
 split at hl
 ·omega
 ·rename_i h0
  rw [if_neg h0]
  have h3:=Jj (xs:=lvD p f h) (i:=l) (by rw [BA]; omega)
  rw [Gj (by omega)] at h3
  exact h3
theorem R4 (l j:Int):DS.den [shD p f,.tup [.int l,.int j]]=.ok (.bl (Ec p f h l j)):=by
 have h1:=MS S
 have hl:=Uh p f h
 have b1:=BY l 0 (((lvS p f h).length:Int) - 1)
 rw [hl] at b1
 have h2:AN.den [AS (lvS p f h),.tup [.int l,.int j]]=.ok (.bl (Ec p f h l j)):=by
  refine (EB _ rfl).trans (Ae ?_)
  by_cases c1:0<=l/\l < nlv p h
  ·rw [decide_eq_true (by omega)] at b1
   have h3:=VS S (l:=l.toNat) (by omega)
   rw [acP c1.1] at h3
   have b2:=BY j 0 ((cnt p f l.toNat:Int) - 1)
   have e:Ec p f h l j=decide (0<=j/\j<=(cnt p f l.toNat:Int) - 1):=by
    unfold Ec
    rw [decide_eq_decide]; omega
   rw [e]
   unfold AS
   simp_arith [AZ,aac,hl,b1,h3,b2]
  ·rw [decide_eq_false (by omega)] at b1
   have e:Ec p f h l j=false:=by unfold Ec; rw [decide_eq_false_iff_not]; omega
   rw [e]
   unfold AS
   simp_arith [AZ,aac,hl,b1]
 refine (IW _ rfl).trans (Ae ?_)
 simp_arith [EC,h1,h2]
theorem VT {l j:Int} (h1:Ec p f h l j=true):∃ a b:Nat,l=a/\j=b/\a<=h/\b < cnt p f a/\p ≠ 0:=by
 have h2:=of_decide_eq_true h1
 have:p ≠ 0:=fun z=>by
  have:=h2.2.1
  unfold nlv at this
  rw [if_pos z] at this
  omega
 refine ⟨l.toNat,j.toNat,by omega,by omega,?_,by omega,this⟩
 have:=h2.2.1
 unfold nlv at this
 rw [if_neg (by assumption)] at this
 omega
noncomputable def spB (f:Nat) (l j:Int):Int:=((j.toNat * f ^ l.toNat:Nat):Int)
noncomputable def spE (p f:Nat) (l j:Int):Int:=((min p (j.toNat * f ^ l.toNat + f ^ l.toNat):Nat):Int)
theorem Qq {l j:Int} (h1:Ec p f h l j=true):BG.den [shD p f,.tup [.int l,.int j]]=.ok (.tup [.int (spB f l j),.int (spE p f l j)]):=by
 obtain ⟨a,b,rfl,rfl,h2,h3,h4⟩:=VT S h1
 rcases S.hs with h0 | H
 ·exact absurd h0 h4
 ·exact Ij S.hf S.hf8 H S.hh h2 h3
noncomputable def lo (p f h:Nat):List Tri->Int->Option Int
 | [],r=>some r
 | q :: qs,r=>if Ec p f h q.l q.j=true/\spB f q.l q.j=r then lo p f h qs (spE p f q.l q.j) else none
theorem NK (pg pa:D):∀ (qs:List Tri) (r:Int) (o4 o5:Option D),∃ o4' o5',AU (.nm 4) (exs A7) (qs.map Dl) [some (shD p f),some pg,some pa,some (.int r),o4,o5]=match lo p f h qs r with
  | none=>.ret (.bl false)
  | some r'=>.nxt [some (shD p f),some pg,some pa,some (.int r'),o4',o5']
 | [],r,o4,o5=>⟨o4,o5,rfl⟩
 | q :: qs,r,o4,o5=>by
  have hn:=R4 S q.l q.j
  rw [aax,AU,lo]
  show ∃ o4' o5',(exs A7 [some (shD p f),some pg,some pa,some (.int r),some (Dl q),o5]).then _=_
  by_cases c1:Ec p f h q.l q.j=true
  ·have hs:=Qq S c1
   rw [c1] at hn
   by_cases c2:spB f q.l q.j=r
   ·rw [if_pos ⟨c1,c2⟩]
    have d2:(spB f q.l q.j==r)=true:=beq_iff_eq.mpr c2
    have e:exs A7 [some (shD p f),some pg,some pa,some (.int r),some (Dl q),o5]=.nxt [some (shD p f),some pg,some pa,some (.int (spE p f q.l q.j)),some (Dl q),some (.tup [.int q.l,.int q.j])]:=by
     unfold Dl
     simp_arith [A7,Im,Io,hn,hs,d2]
    rw [e,Out.then_nxt]
    exact NK pg pa qs _ _ _
   ·rw [if_neg (fun z=>c2 z.2)]
    have d2:(spB f q.l q.j==r)=false:=beq_eq_false_iff_ne.mpr c2
    refine ⟨none,none,?_⟩
    unfold Dl
    simp_arith [A7,Im,Io,hn,hs,d2]
  ·rw [if_neg (fun z=>c1 z.1)]
   have c1':Ec p f h q.l q.j=false:=by simpa using c1
   rw [c1'] at hn
   refine ⟨none,none,?_⟩
   unfold Dl
   simp_arith [A7,Im,Io,hn]
theorem NL (qs:List Tri) (b e:Int):CQ.den [shD p f,.tup [.int b,.int e],.lst (qs.map Dl)]=.ok (.bl (lo p f h qs b==some e)):=by
 obtain ⟨o4,o5,hl⟩:=NK S (.tup [.int b,.int e]) (.lst (qs.map Dl)) qs b none none
 refine (Mh _ rfl).trans (Ae ?_)
 cases q:lo p f h qs b with
 | none =>
  rw [q] at hl
  show _=Out.ret (.bl false)
  simp_arith [Ds,hl]
 | some r =>
  rw [q] at hl
  have e1:((some r:Option Int)==some e)=(r==e):=rfl
  rw [e1]
  simp_arith [Ds,hl]
theorem Qr (need:Int) (qs:List Tri) (b e:Int):Bf.den [shD p f,.int need,.tup [.int b,.int e],.lst (qs.map Dl)]=.ok (.bl (lo p f h qs b==some e && qs.all fun q=>decide (q.t < need))):=by
 have h1:=NL S qs b e
 refine (Mi _ rfl).trans (Ae ?_)
 cases c:(lo p f h qs b==some e) with
 | false =>
  rw [c] at h1
  rw [abi]
  simp_arith [Dt,h1]
 | true =>
  rw [c] at h1
  rw [abA]
  have h2:=CW (nl:=1) (fr:=[1]) (tg:=.nm 0) (it:=.seq (.nm 3)) (elt:=.cmp .lt (.ix (.nm 0) (.cI 2)) (.nm 1)) (δ:=[some (shD p f),some (.int need),some (.tup [.int b,.int e]),some (.lst (qs.map Dl))]) (ds:=qs.map Dl) (g:=fun d=>match d with | .tup [_,_,.int t]=>.bl (decide (t < need)) | d=>d) (by simp_arith []) (fun d hd=>by
   obtain ⟨q,_,rfl⟩:=aav.mp hd
   refine ⟨[some (Dl q),some (.int need)],rfl,?_⟩
   unfold Dl
   simp_arith [Mp])
  have e1:(qs.map Dl).map (fun d=>match d with | .tup [_,_,.int t]=>D.bl (decide (t < need)) | d=>d)=qs.map fun q=>.bl (decide (q.t < need)):=by
   rw [aaz]; rfl
  rw [e1] at h2
  have h3:=Ey (fun q:Tri=>decide (q.t < need)) qs
  have h4:((qs.map fun q:Tri=>decide (q.t < need)).all id)=qs.all fun q=>decide (q.t < need):=by
   rw [acS]; rfl
  simp_arith [] at h2
  simp_arith [Dt,h1,h2,h3,AA,h4]
end
theorem NM:∀ (r:List (Int × Int)) (x:Int × Int),r.foldl (fun b y=>if BD y b then y else b) x ∈ x :: r/\∀ y ∈ x :: r,BD y (r.foldl (fun b y=>if BD y b then y else b) x)=false
 | [],x=>⟨aab,fun y hy=>by
  rw [aaF.mp hy]
  show BD x x=false
  unfold BD
  rw [if_pos rfl]; simp⟩
 | z :: r,x=>by
  rw [abB]
  obtain ⟨h1,h2⟩:=NM r (if BD z x then z else x)
  generalize r.foldl (fun b y=>if BD y b then y else b) (if BD z x then z else x)=m at *
  have hb:=h2 _ aab
  have key:BD x m=false/\BD z m=false/\(m=x\/m=z\/m ∈ r):=by
   by_cases c:BD z x=true
   ·rw [if_pos c] at h1 hb
    refine ⟨?_,hb,.inr (aai.mp h1)⟩
    unfold BD at *
    split at c <;> split at hb <;> split <;> simp only [decide_eq_true_eq,decide_eq_false_iff_not] at * <;> omega
   ·rw [if_neg c] at h1 hb
    refine ⟨hb,?_,?_⟩
    ·unfold BD at *
     split at c <;> split at hb <;> split <;> simp only [decide_eq_true_eq,decide_eq_false_iff_not] at * <;> omega
    ·rcases aai.mp h1 with z1 | z1
     ·exact .inl z1
     ·exact .inr (.inr z1)
  obtain ⟨k1,k2,k3⟩:=key
  refine ⟨?_,fun y hy=>?_⟩
  ·simp only [aai]; exact k3
  ·rcases aai.mp hy with rfl | hy
   ·exact k1
   ·rcases aai.mp hy with rfl | hy
    ·exact k2
    ·exact h2 y (aaa _ hy)
theorem NN:∀ ps:List (Int × Int),EQ (ps.map fun q=>D.tup [.int q.1,.int q.2])=some ps
 | []=>rfl
 | q :: r=>by
  show (EQ (r.map fun q=>D.tup [.int q.1,.int q.2])).map ((q.1,q.2) :: ·)=_
  rw [NN r]; rfl
theorem WH (p:Nat) (o:Option Nat):Gx.den [pgD o,.int p]=.ok (.int (o.getD p:Nat)):=by
 refine (Os _ rfl).trans (Ae ?_)
 cases o with
 | none =>
  unfold pgD
  simp_arith [ED,acE]
 | some k =>
  unfold pgD
  simp_arith [ED,acE]
theorem Jo (p f:Nat) (b:Int) (o:Option Nat):AG.den [shD p f,.int b,pgD o]=.ok (.tup [.int b,.int (o.getD p:Nat)]):=by
 refine (JJ _ rfl).trans (Ae ?_)
 cases o with
 | none =>
  unfold pgD shD
  simp_arith [Ck,acE]
 | some k =>
  unfold pgD shD
  simp_arith [Ck,acE]
theorem KD {rs:List Int} {q:Int} (pg:D):∀ (m a:Nat),rs.length - a=m->a<=rs.length->∀ o3:Option D,∃ o,FsA rs q a o/\∃ o3',AU (.nm 3) (exs A3) (Ar a rs.length) [some (Ai rs),some (.int q),some pg,o3]=match o with
  | some k=>.ret (.int k)
  | none=>.nxt [some (Ai rs),some (.int q),some pg,o3']
 | 0,a,h1,h2,o3=>by
  refine ⟨none,fun k x k1 k2=>?_,o3,?_⟩
  ·have:=(aak.mp k2).1
   omega
  ·rw [MR (by omega)]; rfl
 | m + 1,a,h1,h2,o3=>by
  have ha:a < rs.length:=by omega
  have hat:=OA ha
  have hge:rs[a]?=some (rs.getD a 0):=by rw [aap,aae ha]; rfl
  rw [MQ (by omega),AU]
  show ∃ o,FsA rs q a o/\∃ o3',(exs A3 [some (Ai rs),some (.int q),some pg,some (.int a)]).then _=_
  by_cases c:q<=rs.getD a 0
  ·refine ⟨some a,⟨aaj _,⟨_,hge,c⟩,fun k x k1 k2=>absurd k1 (by omega)⟩,none,?_⟩
   unfold Ai
   clear hge
   generalize rs.map D.int=R at *
   generalize rs.getD a 0=r at *
   simp_arith [A3,hat,c]
  ·obtain ⟨o,f1,o3',e⟩:=KD (rs:=rs) (q:=q) pg m (a + 1) (by omega) (by omega) (some (.int a))
   have st:exs A3 [some (Ai rs),some (.int q),some pg,some (.int a)]=.nxt [some (Ai rs),some (.int q),some pg,some (.int a)]:=by
    unfold Ai
    clear hge e f1
    generalize rs.map D.int=R at *
    generalize rs.getD a 0=r at *
    simp_arith [A3,hat,c]
   refine ⟨o,?_,o3',?_⟩
   ·cases o with
    | none =>
     intro k x k1 k2
     by_cases ck:k=a
     ·subst ck; rw [hge] at k2; cases k2; omega
     ·exact f1 k x (by omega) k2
    | some j =>
     obtain ⟨g1,g2,g3⟩:=f1
     refine ⟨by omega,g2,fun k x k1 k2 k3=>?_⟩
     by_cases ck:k=a
     ·subst ck; rw [hge] at k3; cases k3; omega
     ·exact g3 k x (by omega) k2 k3
   ·rw [st,Out.then_nxt]; exact e
theorem My (rs:List Int) (q:Int) (hn:rs.length<=200) {a:Nat} (ha:a<=rs.length):∃ o,FsA rs q a o/\BM.den [Ai rs,.int q,.int a]=.ok (pgD o):=by
 obtain ⟨o,h1,o3,e⟩:=KD (rs:=rs) (q:=q) (.int a) _ a rfl ha none
 have r1:=BI (a:=a) (b:=rs.length) (by omega) (by omega) (by omega) (by omega)
 have hlen:(((rs.map D.int).length:Nat):Int)=(rs.length:Int):=by rw [aac]
 refine ⟨o,h1,(Jf _ rfl).trans (Ae ?_)⟩
 unfold Ai at *
 generalize rs.map D.int=R at *
 generalize Ar a rs.length=G at *
 cases o with
 | none =>
  unfold pgD
  simp_arith [BW,hlen,r1,e]
 | some k =>
  unfold pgD
  simp_arith [BW,hlen,r1,e]
theorem NO {ms:List Int} {μ:Int} {a:Nat}:∀ {o o':Option Nat},NrA ms μ a o->NrA ms μ a o'->o=o'
 | none,none,_,_=>rfl
 | none,some j,h,⟨⟨x,h1,h2⟩,_⟩=>absurd (h j x h1) (by omega)
 | some j,none,⟨⟨x,h1,h2⟩,_⟩,h=>absurd (h j x h1) (by omega)
 | some j,some k,⟨⟨x,h1,h2⟩,h3⟩,⟨⟨y,g1,g2⟩,g3⟩=>by
  have u:=h3 k y g1 g2
  have v:=g3 j x h1 h2
  clear h1 h2 h3 g1 g2 g3
  generalize (a - j) + (j - a)=d at *
  generalize (a - k) + (k - a)=e at *
  congr 1; omega
noncomputable def abI (i:Int):Int:=if i < 0 then -i else i
theorem Jp (k a:Nat):abI ((k:Int) - a)=(((a - k) + (k - a):Nat):Int):=by
 unfold abI
 split <;> omega
theorem Qs (rs:List Int) (q:Int) (hn:rs.length<=200) (a:Nat):∃ o,NrA rs q a o/\D4.den [Ai rs,.int q,.int a]=.ok (pgD o):=by
 have r1:=BI (a:=0) (b:=rs.length) (by omega) (by omega) (by omega) (by omega)
 have hlen:(((rs.map D.int).length:Nat):Int)=(rs.length:Int):=by rw [aac]
 have hc:=Er (nl:=1) (fr:=[2,1,0]) (tg:=.nm 0) (it:=.r1 (.bi .len (.cons (.nm 0) .nil))) (cond:=.cmp .ge (.ix (.nm 3) (.nm 0)) (.nm 2)) (elt:=.tup (.cons (.bi .abs (.cons (.bin .sub (.nm 0) (.nm 1)) .nil)) (.cons (.nm 0) .nil))) (δ:=[some (Ai rs),some (.int q),some (.int a),none]) (ds:=Ar 0 rs.length) (b:=fun d=>match d with | .int k=>decide (q<=rs.getD k.toNat 0) | _=>false) (g:=fun d=>match d with | .int k=>.tup [.int (abI (k - a)),.int k] | d=>d) (by
   unfold Ai
   generalize rs.map D.int=R at *
   simp_arith [hlen,r1]) (fun d hd=>by
  obtain ⟨i,rfl,hi⟩:=Gz hd
  have hi:i < rs.length:=by omega
  have hat:=OA hi
  refine ⟨[some (.int i),some (.int a),some (.int q),some (Ai rs)],rfl,?_,fun _=>?_⟩
  ·show _=Res.ok (decide (q<=rs.getD (i:Int).toNat 0))
   rw [aau]
   unfold Ai
   generalize rs.getD i 0=r at *
   generalize rs.map D.int=R at *
   simp_arith [hat]
  ·show _=Res.ok (D.tup [.int (abI ((i:Int) - a)),.int i])
   unfold abI
   generalize Ai rs=R at *
   simp_arith [])
 rw [Jn,abD,aaz] at hc
 obtain ⟨ks,hks⟩:∃ ks,ks=(aar rs.length).filter fun k=>decide (q<=rs.getD k 0):=⟨_,rfl⟩
 have ee:((aar rs.length).filter ((fun d=>match d with | .int k=>decide (q<=rs.getD k.toNat 0) | _=>false) ∘ iN)).map ((fun d=>match d with | .int k=>D.tup [.int (abI (k - a)),.int k] | d=>d) ∘ iN)=(ks.map fun k:Nat=>(abI ((k:Int) - a),(k:Int))).map fun q=>D.tup [.int q.1,.int q.2]:=by
  rw [hks,aaz]; rfl
 rw [ee] at hc
 have hmem:∀ k,k ∈ ks ↔ ∃ x,rs[k]?=some x/\q<=x:=fun k=>by
  rw [hks,abp,abJ]
  constructor
  ·rintro ⟨h1,h2⟩
   have hge:rs[k]?=some (rs.getD k 0):=by rw [aap,aae h1]; rfl
   exact ⟨_,hge,of_decide_eq_true h2⟩
  ·rintro ⟨x,h1,h2⟩
   refine ⟨(aak.mp h1).1,decide_eq_true ?_⟩
   rw [aap,h1]; exact h2
 have hnil:=CY ((ks.map fun k:Nat=>(abI ((k:Int) - a),(k:Int))).map fun q=>D.tup [.int q.1,.int q.2]) (by
  rw [aaw]
  intro d hd
  obtain ⟨w,_,rfl⟩:=aav.mp hd
  rfl)
 have hp:=NN (ks.map fun k:Nat=>(abI ((k:Int) - a),(k:Int)))
 clear ee hks
 generalize hC:E.comp1 1 [2,1,0] (.nm 0) (.r1 (.bi .len (.cons (.nm 0) .nil))) (.cmp .ge (.ix (.nm 3) (.nm 0)) (.nm 2)) (.tup (.cons (.bi .abs (.cons (.bin .sub (.nm 0) (.nm 1)) .nil)) (.cons (.nm 0) .nil)))=C at *
 cases ks with
 | nil =>
  refine ⟨none,fun k x hk=>?_,(FN _ rfl).trans (Ae ?_)⟩
  ·by_cases c:q<=x
   ·have:=(hmem k).mpr ⟨x,hk,c⟩; cases this
   ·omega
  ·show _=Out.ret .non
   rw [BV,hC]
   simp only [abb,List.isEmpty_nil] at hc hnil
   generalize Ai rs=R at *
   simp_arith [hc,hnil]
 | cons k0 kr =>
  obtain ⟨m1,m2⟩:=NM (kr.map fun k:Nat=>(abI ((k:Int) - a),(k:Int))) (abI ((k0:Int) - a),(k0:Int))
  generalize hM:(kr.map fun k:Nat=>(abI ((k:Int) - a),(k:Int))).foldl (fun b y=>if BD y b then y else b) (abI ((k0:Int) - a),(k0:Int))=M at *
  have m1:M ∈ (k0 :: kr).map fun k:Nat=>(abI ((k:Int) - a),(k:Int)):=m1
  have m2:∀ y ∈ (k0 :: kr).map fun k:Nat=>(abI ((k:Int) - a),(k:Int)),BD y M=false:=m2
  obtain ⟨j,hj,rfl⟩:=aav.mp m1
  refine ⟨some j,⟨(hmem j).mp hj,fun k x hk hx=>?_⟩,(FN _ rfl).trans (Ae ?_)⟩
  ·have:=m2 _ (aav.mpr ⟨k,(hmem k).mpr ⟨x,hk,hx⟩,rfl⟩)
   rw [Jp,Jp] at this
   by_cases c:((((a - k) + (k - a):Nat):Int))=(((a - j) + (j - a):Nat):Int)
   ·rw [BD,if_pos c] at this
    have:=of_decide_eq_false this
    omega
   ·rw [BD,if_neg c] at this
    have:=of_decide_eq_false this
    omega
  ·show _=Out.ret (.int j)
   rw [BV,hC]
   have hmp:So (.lst (((k0 :: kr).map fun k:Nat=>(abI ((k:Int) - a),(k:Int))).map fun q=>D.tup [.int q.1,.int q.2]))=.ok (.tup [.int (abI ((j:Int) - a)),.int j]):=by
    show (AA (EQ (((k0 :: kr).map fun k:Nat=>(abI ((k:Int) - a),(k:Int))).map fun q=>D.tup [.int q.1,.int q.2]))).bind (fun ps=>(AA (IJ ps)).bind fun q=>.ok (D.tup [.int q.1,.int q.2]))=_
    rw [hp]
    show (AA (some ((kr.map fun k:Nat=>(abI ((k:Int) - a),(k:Int))).foldl (fun b y=>if BD y b then y else b) (abI ((k0:Int) - a),(k0:Int))))).bind (fun q=>Res.ok (D.tup [.int q.1,.int q.2]))=_
    rw [hM]; rfl
   have hnil:c2 .eq (.lst (((k0 :: kr).map fun k:Nat=>(abI ((k:Int) - a),(k:Int))).map fun q=>D.tup [.int q.1,.int q.2])) (.lst [])=.ok (.bl false):=hnil
   clear hM m1 m2 hp hmem
   generalize ((k0 :: kr).map fun k:Nat=>(abI ((k:Int) - a),(k:Int))).map (fun q=>D.tup [.int q.1,.int q.2])=F at *
   generalize abI ((j:Int) - a)=A at *
   generalize Ai rs=R at *
   simp_arith [hc,hnil,hmp]
noncomputable def Ao (tr:List (List Int)) (q:Nat × Nat):D:=.tup [.int q.1,.int q.2,.int (tl tr q.1 q.2)]
noncomputable def nrR (p a:Nat):Option Nat->Nat × Nat
 | none=>(0,p)
 | some j=>if j < a then (j + 1,min (a + (a - j)) p) else (a - (j - a),j)
noncomputable def nrL (p a:Nat):Option Nat->Nat × Nat
 | none=>(0,p)
 | some j=>if j=a then (0,0) else nrR p a (some j)
theorem Gm {p a j:Nat} (c:j < a):nrR p a (some j)=(j + 1,min (a + (a - j)) p):=if_pos c
theorem EF {p a j:Nat} (c:¬ j < a):nrR p a (some j)=(a - (j - a),j):=if_neg c
theorem Mz (p f a:Nat) (o:Option Nat):Bm.den [shD p f,.int a,pgD o]=.ok (.tup [.int (nrR p a o).1,.int (nrR p a o).2]):=by
 refine (IZ _ rfl).trans (Ae ?_)
 cases o with
 | none =>
  show _=Out.ret (.tup [.int 0,.int p])
  unfold pgD shD
  simp_arith [By]
 | some j =>
  unfold pgD shD
  by_cases c:j < a
  ·rw [Gm c]
   have c1:((j:Int) < (a:Int)):=by omega
   have c2:((j:Int) - (a:Int) < 0):=by omega
   have e1:(((j + 1:Nat):Int))=(j:Int) + 1:=by omega
   have e2:((min (a + (a - j)) p:Nat):Int)=min ((a:Int) + -((j:Int) - a)) p:=by omega
   show _=Out.ret (.tup [.int ((j + 1:Nat):Int),.int ((min (a + (a - j)) p:Nat):Int)])
   rw [e1,e2]
   simp_arith [By,c1,c2]
  ·rw [EF c]
   have c1:¬ ((j:Int) < (a:Int)):=by omega
   have c2:¬ ((j:Int) - (a:Int) < 0):=by omega
   have e2:((a - (j - a):Nat):Int)=max ((a:Int) - ((j:Int) - a)) 0:=by omega
   show _=Out.ret (.tup [.int ((a - (j - a):Nat):Int),.int j])
   rw [e2]
   simp_arith [By,c1,c2]
theorem bo3 {x y z:E} {δ:Fr} {a b c:Bool} (h1:ev x δ=.ok (.bl a)) (h2:ev y δ=.ok (.bl b)) (h3:ev z δ=.ok (.bl c)):(ev (.bo false (.cons x (.cons (.bo true (.cons y (.cons z .nil))) .nil))) δ).bind BP=.ok (a || (b && c)):=by
 cases a <;> cases b <;> simp_arith [h1,h2,h3] <;> rfl
theorem WI {p a j k:Nat} (c:j < a) (hk:k < p):(a - k + (k - a) < a - j + (j - a)\/a - k + (k - a)=a - j + (j - a)/\k < j) ↔ j + 1<=k/\k < min (a + (a - j)) p:=by
 obtain ⟨x,rfl⟩:∃ x,a=j + x:=⟨a - j,by omega⟩
 rw [aa9,aaX (Nat.le_add_right j x),Nat.lt_min]
 rcases Nat.le_total k (j + x) with h | h
 ·obtain ⟨y,hy⟩:∃ y,j + x=k + y:=⟨j + x - k,by omega⟩
  rw [aaX h,hy,aa9]
  clear h; omega
 ·obtain ⟨y,rfl⟩:∃ y,k=j + x + y:=⟨k - (j + x),by omega⟩
  rw [aaX h,aa9]
  clear h; omega
theorem WJ {a j k:Nat} (c:¬ j < a):(a - k + (k - a) < a - j + (j - a)\/a - k + (k - a)=a - j + (j - a)/\k < j) ↔ a - (j - a)<=k/\k < j:=by
 obtain ⟨x,rfl⟩:∃ x,j=a + x:=⟨j - a,by omega⟩
 rw [aa9,aaX (Nat.le_add_right a x),Nat.sub_le_iff_le_add]
 rcases Nat.le_total k a with h | h
 ·obtain ⟨y,rfl⟩:∃ y,a=k + y:=⟨a - k,by omega⟩
  rw [aaX h,aa9]
  clear h; omega
 ·obtain ⟨y,rfl⟩:∃ y,k=a + y:=⟨k - a,by omega⟩
  rw [aaX h,aa9]
  clear h; omega
theorem Qt {p a:Nat} (hp:p<=200) (ha:a < p) (o:Option Nat) (ho:∀ j,o=some j->j < p):EM.den [.int p,.int a,pgD o]=.ok (.tup [.int (nrL p a o).1,.int (nrL p a o).2]):=by
 refine (KW _ rfl).trans (Ae ?_)
 cases o with
 | none =>
  show _=Out.ret (.tup [.int 0,.int p])
  unfold pgD
  simp_arith [CU]
 | some j =>
  have hj:=ho j rfl
  have r1:=BI (a:=0) (b:=p) (by omega) (by omega) (by omega) (by omega)
  obtain ⟨F,hF⟩:∃ F:Int,F=abI ((j:Int) - a):=⟨_,rfl⟩
  have hc:=Er (nl:=1) (fr:=[3,2,1]) (tg:=.nm 0) (it:=.r1 (.nm 0)) (cond:=.bo false (.cons (.cmp .lt (.bi .abs (.cons (.bin .sub (.nm 0) (.nm 3)) .nil)) (.nm 1)) (.cons (.bo true (.cons (.cmp .eq (.bi .abs (.cons (.bin .sub (.nm 0) (.nm 3)) .nil)) (.nm 1)) (.cons (.cmp .lt (.nm 0) (.nm 2)) .nil))) .nil))) (elt:=.nm 0) (δ:=[some (.int p),some (.int a),some (.int j),some (.int F),none]) (ds:=Ar 0 p) (b:=fun d=>match d with | .int k=>decide (abI (k - a) < F) || (abI (k - a)==F && decide (k < (j:Int))) | _=>false) (g:=fun d=>d) (by
    simp_arith [r1]) (fun d hd=>by
   obtain ⟨i,rfl,hi⟩:=Gz hd
   refine ⟨[some (.int i),some (.int F),some (.int j),some (.int a)],rfl,?_,fun _=>by simp_arith []⟩
   show _=Res.ok (decide (abI ((i:Int) - a) < F) || (abI ((i:Int) - a)==F && decide ((i:Int) < (j:Int))))
   obtain ⟨A,hA⟩:∃ A,(if (i:Int) - a < 0 then -((i:Int) - a) else (i:Int) - a)=A:=⟨_,rfl⟩
   rw [show abI ((i:Int) - a)=A from hA]
   exact bo3 (by simp_arith [hA]) (by simp_arith [hA]) (by simp_arith []))
  rw [Jn,abD,aaz] at hc
  have hab:F=(((a - j) + (j - a):Nat):Int):=by rw [hF,Jp]
  have hfl:(aar p).filter ((fun d=>match d with | .int k=>decide (abI (k - a) < F) || (abI (k - a)==F && decide (k < (j:Int))) | _=>false) ∘ iN)=(aar (min (nrR p a (some j)).2 p - (nrR p a (some j)).1)).map ((nrR p a (some j)).1 + ·):=by
   rw [<- J0]
   apply ab4
   intro k hk
   have hk:=abJ.mp hk
   show (decide (abI ((k:Int) - a) < F) || (abI ((k:Int) - a)==F && decide ((k:Int) < (j:Int))))=_
   rw [Jp,hab,abC]
   simp only [Bool.or_eq_true,aah,decide_eq_true_eq,beq_iff_eq]
   rw [acU,Int.ofNat_inj,acU]
   by_cases c:j < a
   ·rw [Gm c]; exact WI c hk
   ·rw [EF c]; exact WJ c
  rw [hfl] at hc
  have eL:nrL p a (some j)=if j=a then (0,0) else nrR p a (some j):=rfl
  rw [eL]
  generalize hC:E.comp1 1 [3,2,1] (.nm 0) (.r1 (.nm 0)) (.bo false (.cons (.cmp .lt (.bi .abs (.cons (.bin .sub (.nm 0) (.nm 3)) .nil)) (.nm 1)) (.cons (.bo true (.cons (.cmp .eq (.bi .abs (.cons (.bin .sub (.nm 0) (.nm 3)) .nil)) (.nm 1)) (.cons (.cmp .lt (.nm 0) (.nm 2)) .nil))) .nil))) (.nm 0)=C at *
  rw [CU,hC]
  have hF':(if (j:Int) - a < 0 then -((j:Int) - a) else (j:Int) - a)=F:=hF.symm
  by_cases c:j=a
  ·rw [if_pos c]
   have e0:min (nrR p a (some j)).2 p - (nrR p a (some j)).1=0:=by
    rw [EF (by omega)]; show min j p - (a - (j - a))=0; omega
   rw [e0] at hc
   have hc:ev C [some (.int p),some (.int a),some (.int j),some (.int F),none]=.ok (.lst []):=hc
   have hn:=Oy (.lst []) rfl
   show _=Out.ret (.tup [.int 0,.int 0])
   unfold pgD
   simp_arith [hF',hc,hn]
  ·rw [if_neg c]
   have hb:(nrR p a (some j)).1 < (nrR p a (some j)).2/\(nrR p a (some j)).2<=p:=by
    by_cases c2:j < a
    ·rw [Gm c2]; show j + 1 < min (a + (a - j)) p/\min (a + (a - j)) p<=p; omega
    ·rw [EF c2]; show a - (j - a) < j/\j<=p; omega
   generalize nrR p a (some j)=w at *
   obtain ⟨b,e⟩:=w
   obtain ⟨h1,h2⟩:=hb
   have h1:b < e:=h1
   have h2:e<=p:=h2
   have hc:ev C [some (.int p),some (.int a),some (.int j),some (.int F),none]=.ok (.lst (((aar (min e p - b)).map (b + ·)).map ((fun d=>d) ∘ iN))):=hc
   rw [abr h2,aaz] at hc
   obtain ⟨n,hn⟩:∃ n,e - b=n + 1:=⟨e - b - 1,by omega⟩
   rw [hn] at hc
   have hl:(aar (n + 1)).map (((fun d=>d) ∘ iN) ∘ (b + ·))=(aar n).map (((fun d=>d) ∘ iN) ∘ (b + ·)) ++ [.int ((b + n:Nat):Int)]:=by
    rw [abq,aao]; rfl
   have hm:atD ((aar (n + 1)).map (((fun d=>d) ∘ iN) ∘ (b + ·))) (-1)=.ok (.int ((b + n:Nat):Int)):=by
    rw [hl]; exact SC
   have h0:atD ((aar (n + 1)).map (((fun d=>d) ∘ iN) ∘ (b + ·))) 0=.ok (.int b):=by
    rw [abE]
    unfold atD ixN
    rw [if_pos (by omega),if_pos (by simp)]; rfl
   have hne:=CY ((aar (n + 1)).map (((fun d=>d) ∘ iN) ∘ (b + ·))) (by
    rw [aaw]
    intro d hd
    obtain ⟨w,_,rfl⟩:=aav.mp hd
    rfl)
   rw [show ((aar (n + 1)).map (((fun d=>d) ∘ iN) ∘ (b + ·))).isEmpty=false by rw [abE]; rfl] at hne
   have ee:((b + n:Nat):Int) + 1=(e:Int):=by omega
   show _=Out.ret (.tup [.int b,.int e])
   clear hl
   generalize (aar (n + 1)).map (((fun d=>d) ∘ iN) ∘ (b + ·))=G at *
   generalize ((b + n:Nat):Int)=z at *
   unfold pgD
   simp_arith [hF',hc,hne,h0,hm,ee]
section
variable {rs:List Int} {f h:Nat} (hf:2<=f) (hf8:f<=8) (H:Hs rs.length f h) (hh:h<=8) (hn:rs.length<=200)
include hf hf8 H hh hn
theorem VU {qs:List (Nat × Nat)} (hv:∀ q ∈ qs,q.1<=h/\q.2 < cnt rs.length f q.1):BT.den [Ac (Aa rs f (h + 1)),.lst (qs.map Ab)]=.ok (.lst (qs.map (Ao (Aa rs f (h + 1))))):=by
 have hd:=AM rs f h
 have hc:=CW (nl:=1) (fr:=[0]) (tg:=.nm 0) (it:=.seq (.nm 1)) (elt:=.tup (.cons (.ix (.nm 0) (.cI 0)) (.cons (.ix (.nm 0) (.cI 1)) (.cons (.call AL (.cons (.nm 1) (.cons (.nm 0) .nil))) .nil)))) (δ:=[some (Ac (Aa rs f (h + 1))),some (.lst (qs.map Ab))]) (ds:=qs.map Ab) (g:=fun d=>match d with | .tup [.int a,.int c]=>Ao (Aa rs f (h + 1)) (a.toNat,c.toNat) | d=>d) (by
   generalize qs.map Ab=CV at *
   simp_arith []) (fun d hd'=>by
  obtain ⟨⟨a,c⟩,hm,rfl⟩:=aav.mp hd'
  obtain ⟨v1,v2⟩:=hv _ hm
  have ht:=CZ hd v1 v2
  have ht:AL.den [Ac (Aa rs f (h + 1)),.tup [.int a,.int c]]=.ok (.int (tl (Aa rs f (h + 1)) a c)):=ht
  refine ⟨[some (.tup [.int a,.int c]),some (Ac (Aa rs f (h + 1)))],rfl,?_⟩
  show _=Res.ok (D.tup [.int (((a:Int).toNat:Nat):Int),.int (((c:Int).toNat:Nat):Int),.int (tl (Aa rs f (h + 1)) (a:Int).toNat (c:Int).toNat)])
  simp only [aau]
  generalize tl (Aa rs f (h + 1)) a c=B at *
  generalize Ac (Aa rs f (h + 1))=T at *
  simp_arith [ht])
 rw [aaz] at hc
 refine (Mf _ rfl).trans (Ae ?_)
 have ee:qs.map ((fun d=>match d with | D.tup [.int a,.int c]=>Ao (Aa rs f (h + 1)) (a.toNat,c.toNat) | d=>d) ∘ Ab)=qs.map (Ao (Aa rs f (h + 1))):=by
  apply aaR
  intro q _
  show Ao _ (((q.1:Int)).toNat,((q.2:Int)).toNat)=_
  rw [aau,aau]
 rw [ee] at hc
 generalize hC:E.comp0 1 [0] (.nm 0) (.seq (.nm 1)) (.tup (.cons (.ix (.nm 0) (.cI 0)) (.cons (.ix (.nm 0) (.cI 1)) (.cons (.call AL (.cons (.nm 1) (.cons (.nm 0) .nil))) .nil))))=C at *
 rw [Ex,hC]
 generalize qs.map (Ao (Aa rs f (h + 1)))=PP at *
 generalize qs.map Ab=CV at *
 generalize Ac (Aa rs f (h + 1))=T at *
 simp_arith [hc]
theorem OF {b e:Nat} (hb:b<=e) (he:e<=rs.length):BH.den [Ac (Aa rs f (h + 1)),.int f,.tup [.int b,.int e]]=.ok (.lst ((cov rs.length f h e 200 b).map (Ao (Aa rs f (h + 1))))):=by
 have hs:=Bh (AM rs f h)
 have hco:DI.den [shD rs.length f,.int b,.int e]=.ok (.lst ((cov rs.length f h e 200 b).map Ab)):=Hb hf hf8 H hh hb he hn
 have hw:=VU hf hf8 H hh hn (BZ (h:=h) (show 1<=f by omega) he 200 b)
 refine (KS _ rfl).trans (Ae ?_)
 generalize (cov rs.length f h e 200 b).map (Ao (Aa rs f (h + 1)))=PP at *
 generalize (cov rs.length f h e 200 b).map Ab=CV at *
 generalize Ac (Aa rs f (h + 1))=T at *
 generalize shD rs.length f=s at *
 simp_arith [DZ,hs,hco,hw]
theorem MA (hn1:1<=rs.length) {b e:Nat} (hb:b<=e) (he:e<=rs.length):Bb.den [Ai rs,.int f,.int b,.int e]=.ok (.lst ((cov rs.length f h e 200 b).map (Ao (Aa rs f (h + 1))))):=by
 have hd:=AM rs f h
 have htr:=Mu hf hf8 H hh hn hn1
 have hco:Ba.den [.int rs.length,.int f,.int b,.int e]=.ok (.lst ((cov rs.length f h e 200 b).map Ab)):=OB hf hf8 H hh hb he hn
 have hv:=BZ (h:=h) (show 1<=f by omega) he 200 b
 have h2:=CW (nl:=2) (fr:=[4]) (tg:=.tp [0,1]) (it:=.seq (.call Ba (.cons (.bi .len (.cons (.nm 0) .nil)) (.cons (.nm 1) (.cons (.nm 2) (.cons (.nm 3) .nil)))))) (elt:=.tup (.cons (.nm 0) (.cons (.nm 1) (.cons (.ixL (.ixL (.nm 2) (.nm 0)) (.nm 1)) .nil)))) (δ:=[some (Ai rs),some (.int f),some (.int b),some (.int e),some (Ac (Aa rs f (h + 1)))]) (ds:=(cov rs.length f h e 200 b).map Ab) (g:=fun d=>match d with | .tup [.int a,.int c]=>Ao (Aa rs f (h + 1)) (a.toNat,c.toNat) | d=>d) (by
   unfold Ai
   simp_arith [aac,hco]) (fun d hd'=>by
   obtain ⟨⟨l,j⟩,hq,rfl⟩:=aav.mp hd'
   obtain ⟨v1,v2⟩:=hv _ hq
   have e1:=JZ hd v1
   have e2:=Qh hd v1 v2
   refine ⟨[some (.int l),some (.int j),some (Ac (Aa rs f (h + 1)))],rfl,?_⟩
   show _=Res.ok (D.tup [.int (((l:Int).toNat:Nat):Int),.int (((j:Int).toNat:Nat):Int),.int (tl (Aa rs f (h + 1)) (l:Int).toNat (j:Int).toNat)])
   simp only [aau]
   unfold Ac Ai at *
   generalize ((Aa rs f (h + 1)).getD l []).map D.int=r at *
   generalize tl (Aa rs f (h + 1)) l j=x at *
   generalize (Aa rs f (h + 1)).map (fun xs=>D.lst (xs.map D.int))=w at *
   simp_arith [e1,e2])
 rw [aaz] at h2
 have ee:(cov rs.length f h e 200 b).map ((fun d=>match d with | D.tup [.int a,.int c]=>Ao (Aa rs f (h + 1)) (a.toNat,c.toNat) | d=>d) ∘ Ab)=(cov rs.length f h e 200 b).map (Ao (Aa rs f (h + 1))):=by
  apply aaR
  intro q _
  show Ao _ (((q.1:Int)).toNat,((q.2:Int)).toNat)=_
  rw [aau,aau]
 rw [ee] at h2
 refine (Ie _ rfl).trans (Ae ?_)
 generalize (cov rs.length f h e 200 b).map (Ao (Aa rs f (h + 1)))=Y at *
 generalize hE:E.comp0 2 [4] (.tp [0,1]) (.seq (.call Ba (.cons (.bi .len (.cons (.nm 0) .nil)) (.cons (.nm 1) (.cons (.nm 2) (.cons (.nm 3) .nil)))))) (.tup (.cons (.nm 0) (.cons (.nm 1) (.cons (.ixL (.ixL (.nm 2) (.nm 0)) (.nm 1)) .nil))))=EE at *
 rw [CM,hE]
 clear ee hv
 generalize Ac (Aa rs f (h + 1))=T at *
 generalize Ai rs=R at *
 simp_arith [htr,h2]
end
theorem b30 (a b c:D):atD [a,b,c] 0=.ok a:=rfl
theorem b31 (a b c:D):atD [a,b,c] 1=.ok b:=rfl
theorem b32 (a b c:D):atD [a,b,c] 2=.ok c:=rfl
theorem c20 (a b:D):atD [a,b] 0=.ok a:=rfl
theorem c21 (a b:D):atD [a,b] 1=.ok b:=rfl
noncomputable def GC (tr:List (List Int)) (o:Option Nat) (qs:List (Nat × Nat)):D:=.tup [pgD o,.lst (qs.map (Ao tr))]
section
variable {rs:List Int} {f h:Nat} (hf:2<=f) (hf8:f<=8) (H:Hs rs.length f h) (hh:h<=8) (hn:rs.length<=200)
include hf hf8 H hh hn
theorem Hf {a:Nat} (ha:a < rs.length) (u:Option Nat) (hu:∀ j,u=some j->j < rs.length):(nrR rs.length a u).1<=(nrR rs.length a u).2/\(nrR rs.length a u).2<=rs.length:=by
 cases u with
 | none=>exact ⟨aat _,aaj _⟩
 | some j =>
  have:=hu j rfl
  by_cases c:j < a
  ·rw [Gm c]; show j + 1<=min (a + (a - j)) rs.length/\min (a + (a - j)) rs.length<=rs.length; omega
  ·rw [EF c]; show a - (j - a)<=j/\j<=rs.length; omega
theorem VV {a:Nat} (ha:a < rs.length) (u:Option Nat) (hu:∀ j,u=some j->j < rs.length):cov rs.length f h (nrL rs.length a u).2 200 (nrL rs.length a u).1=cov rs.length f h (nrR rs.length a u).2 200 (nrR rs.length a u).1/\(nrL rs.length a u).1<=(nrL rs.length a u).2/\(nrL rs.length a u).2<=rs.length:=by
 have hrn:=Hf hf hf8 H hh hn ha u hu
 cases u with
 | none=>exact ⟨rfl,hrn⟩
 | some j =>
  have eL:nrL rs.length a (some j)=if j=a then (0,0) else nrR rs.length a (some j):=rfl
  by_cases c:j=a
  ·rw [eL,if_pos c,EF (by omega)]
   refine ⟨?_,by show 0<=0; omega,by show 0<=rs.length; omega⟩
   show cov rs.length f h 0 200 0=cov rs.length f h j 200 (a - (j - a))
   rw [cov,if_neg (by omega),cov,if_neg (by omega)]
  ·rw [eL,if_neg c]; exact ⟨rfl,hrn⟩
theorem Li {q:Int} {a:Nat} (ha:a < rs.length) {o:Option Nat} (F:FsA rs q a o):a<=o.getD rs.length/\o.getD rs.length<=rs.length:=by
 cases o with
 | none=>exact ⟨by show a<=rs.length; omega,aaj _⟩
 | some j =>
  obtain ⟨g1,⟨x,g2,_⟩,_⟩:=F
  have:=(aak.mp g2).1
  exact ⟨g1,by show j<=rs.length; omega⟩
theorem OG {q:Int} {a:Nat} {u:Option Nat} (N:NrA rs q a u):∀ j,u=some j->j < rs.length:=fun j e=>by
 subst e
 obtain ⟨⟨x,g2,_⟩,_⟩:=N
 exact (aak.mp g2).1
theorem R5 (q:Int) {a:Nat} (ha:a < rs.length):∃ o,FsA rs q a o/\AJ.den [Ac (Aa rs f (h + 1)),.int f,.int q,.int a]=.ok (pgD o)/\DJ.den [Ac (Aa rs f (h + 1)),.int f,.int q,.int a]=.ok (GC (Aa rs f (h + 1)) o (cov rs.length f h (o.getD rs.length) 200 a)):=by
 have hs:=Bh (AM rs f h)
 obtain ⟨o,hfu,F⟩:=HL hf hf8 H hh hn q ha
 have ho:=Li hf hf8 H hh hn ha F
 have hup:=Jo rs.length f a o
 have hp1:=OF hf hf8 H hh hn ho.1 ho.2
 have d1:AJ.dep=0:=Jc
 have d3:AG.dep=0:=Ge
 have g1:=Ff o
 have g3:∀ x y:Int,D.flat 9 0 (.tup [.int x,.int y])=true:=fun x y=>rfl
 refine ⟨o,F,hfu,(Ia _ rfl).trans (Ae ?_)⟩
 unfold GC
 generalize (cov rs.length f h (o.getD rs.length) 200 a).map (Ao (Aa rs f (h + 1)))=P1 at *
 generalize Ac (Aa rs f (h + 1))=T at *
 generalize ((o.getD rs.length:Nat):Int)=e at *
 generalize shD rs.length f=s at *
 generalize pgD o=O at *
 simp_arith [CG,hfu,d1,g1,hs,hup,d3,g3,hp1]
theorem R6 (q:Int) {a:Nat} (ha:a < rs.length):∃ u,NrA rs q a u/\Da.den [Ac (Aa rs f (h + 1)),.int f,.int q,.int a]=.ok (pgD u)/\EJ.den [Ac (Aa rs f (h + 1)),.int f,.int q,.int a]=.ok (GC (Aa rs f (h + 1)) u (cov rs.length f h (nrR rs.length a u).2 200 (nrR rs.length a u).1)):=by
 have hs:=Bh (AM rs f h)
 obtain ⟨u,hne,N⟩:=R1 hf hf8 H hh hn q ha
 have hu:=OG hf hf8 H hh hn N
 have hnr:=Mz rs.length f a u
 have hrn:=Hf hf hf8 H hh hn ha u hu
 have hp2:=OF hf hf8 H hh hn hrn.1 hrn.2
 have d2:Da.dep=0:=Nu
 have d4:Bm.dep=0:=I0
 have g2:=Ff u
 have g3:∀ x y:Int,D.flat 9 0 (.tup [.int x,.int y])=true:=fun x y=>rfl
 refine ⟨u,N,hne,(KT _ rfl).trans (Ae ?_)⟩
 unfold GC
 generalize (cov rs.length f h (nrR rs.length a u).2 200 (nrR rs.length a u).1).map (Ao (Aa rs f (h + 1)))=P1 at *
 generalize Ac (Aa rs f (h + 1))=T at *
 generalize (((nrR rs.length a u).2:Nat):Int)=e at *
 generalize (((nrR rs.length a u).1:Nat):Int)=b at *
 generalize shD rs.length f=s at *
 generalize pgD u=O at *
 simp_arith [D0,hne,d2,g2,hs,hnr,d4,g3,hp2]
end
noncomputable def Iq (tr:List (List Int)) (q:Nat × Nat):Tri:=⟨q.1,q.2,tl tr q.1 q.2⟩
theorem NP (tr:List (List Int)) (qs:List (Nat × Nat)):qs.map (Ao tr)=(qs.map (Iq tr)).map Dl:=by
 rw [aaz]; rfl
noncomputable def FR (ms:List Int) (μ:Int) (a e:Nat):Prop:=∀ (k:Nat) (x:Int),a<=k->k < e->ms[k]?=some x->x < μ
section
variable {ms:List Int} {f h:Nat} (hf:2<=f) (hf8:f<=8) (H:Hs ms.length f h) (hh:h<=8) (hn:ms.length<=200) (hn1:1<=ms.length) (μ:Int)
include hf hf8 H hh hn hn1
theorem R7:Sp ms.length f h:=⟨hf,hf8,hn,hh,.inr H⟩
theorem MB:∀ (qs:List Nd) (a e:Nat),Val ms.length f h qs->Til ms.length f qs a e->lo ms.length f h (qs.map (Iq (Aa ms f (h + 1)))) (a:Int)=some (e:Int)
 | [],a,e,_,ht=>by
  have ht:a=e:=ht
  rw [ht]; rfl
 | q :: r,a,e,hv,ht=>by
  obtain ⟨t1,t2⟩:=ht
  obtain ⟨v1,v2⟩:=hv q aab
  have ih:=MB r _ e (fun q' h=>hv q' (aaa _ h)) t2
  have c1:Ec ms.length f h (q.1:Int) (q.2:Int)=true:=by
   unfold Ec nlv
   rw [if_neg (by omega),aau]
   exact decide_eq_true (by omega)
  have c2:spB f (q.1:Int) (q.2:Int)=(a:Int):=by
   unfold spB
   rw [aau,aau,t1]
  have c3:spE ms.length f (q.1:Int) (q.2:Int)=((min ms.length (q.2 * f ^ q.1 + f ^ q.1):Nat):Int):=by
   unfold spE
   rw [aau,aau]
  rw [aax,lo]
  show (if Ec ms.length f h (q.1:Int) (q.2:Int)=true/\spB f (q.1:Int) (q.2:Int)=(a:Int) then lo ms.length f h (r.map (Iq (Aa ms f (h + 1)))) (spE ms.length f (q.1:Int) (q.2:Int)) else none)=_
  rw [if_pos ⟨c1,c2⟩,c3]
  exact ih
theorem Qu:∀ (qs:List Nd) (a e:Nat) (q:Nd),Val ms.length f h qs->Til ms.length f qs a e->q ∈ qs->a<=q.2 * f ^ q.1/\min ms.length (q.2 * f ^ q.1 + f ^ q.1)<=e
 | [],a,e,q,_,_,hq=>nomatch hq
 | p :: r,a,e,q,hv,ht,hq=>by
  obtain ⟨t1,t2⟩:=ht
  obtain ⟨v1,v2⟩:=hv p aab
  have hv':=fun q' h=>hv q' (aaa _ h)
  have hlt:=(AX (show 1<=f by omega)).mp v2
  rcases aai.mp hq with rfl | hq
  ·have:=Gk hf r _ e hv' t2
   omega
  ·have:=Qu r _ e q hv' t2 hq
   omega
theorem NQ {qs:List Nd} {a e:Nat} (hv:Val ms.length f h qs) (ht:Til ms.length f qs a e):((qs.map (Iq (Aa ms f (h + 1)))).all fun q=>decide (q.t < μ))=true ↔ FR ms μ a e:=by
 rw [acS,aaw]
 constructor
 ·intro z k x h1 h2 h3
  refine Et hf μ qs a e hv ht (fun q hq=>?_) k x h1 h2 h3
  have:=z q hq
  have:tl (Aa ms f (h + 1)) q.1 q.2 < μ:=of_decide_eq_true this
  unfold tst
  exact decide_eq_false (by omega)
 ·intro z q hq
  obtain ⟨v1,v2⟩:=hv q hq
  obtain ⟨i1,i2⟩:=Qu hf hf8 H hh hn hn1 qs a e q hv ht hq
  cases c:tst (Aa ms f (h + 1)) μ q with
  | true =>
   obtain ⟨k,x,k1,k2,k3,k4⟩:=(FQ hf μ v1 v2).1 c
   have:=z k x (by omega) (by omega) k3
   omega
  | false =>
   have:¬ μ<=tl (Aa ms f (h + 1)) q.1 q.2:=of_decide_eq_false c
   show decide (tl (Aa ms f (h + 1)) q.1 q.2 < μ)=true
   exact decide_eq_true (by omega)
theorem R8 {b e:Nat} (hb:b<=e) (he:e<=ms.length):∃ v:Bool,(v=true ↔ FR ms μ b e)/\Bf.den [shD ms.length f,.int μ,.tup [.int b,.int e],.lst ((cov ms.length f h e 200 b).map (Ao (Aa ms f (h + 1))))]=.ok (.bl v):=by
 have hv:=BZ (h:=h) (show 1<=f by omega) he 200 b
 have ht:=Hz (h:=h) (show 1<=f by omega) he 200 b (by omega) hb
 have h1:=Qr (R7 hf hf8 H hh hn hn1) μ ((cov ms.length f h e 200 b).map (Iq (Aa ms f (h + 1)))) b e
 rw [MB hf hf8 H hh hn hn1 _ _ _ hv ht,<- NP] at h1
 refine ⟨_,?_,h1⟩
 rw [aah]
 constructor
 ·rintro ⟨_,z⟩; exact (NQ hf hf8 H hh hn hn1 μ hv ht).mp z
 ·intro z; exact ⟨by simp,(NQ hf hf8 H hh hn hn1 μ hv ht).mpr z⟩
theorem Jq {qs:List Nd} (hv:Val ms.length f h qs):BJ.den [Ac (Aa ms f (h + 1)),.lst (qs.map (Ao (Aa ms f (h + 1))))]=.ok (.bl true):=by
 have hd:=AM ms f h
 have h2:=CW (nl:=1) (fr:=[0]) (tg:=.nm 0) (it:=.seq (.nm 1)) (elt:=.call C9 (.cons (.nm 1) (.cons (.nm 0) .nil))) (δ:=[some (Ac (Aa ms f (h + 1))),some (.lst (qs.map (Ao (Aa ms f (h + 1)))))]) (ds:=qs.map (Ao (Aa ms f (h + 1)))) (g:=fun _=>.bl true) (by simp_arith []) (fun d hd'=>by
  obtain ⟨q,hq,rfl⟩:=aav.mp hd'
  obtain ⟨v1,v2⟩:=hv q hq
  have ht:AL.den [Ac (Aa ms f (h + 1)),.tup [.int q.1,.int q.2]]=.ok (.int (tl (Aa ms f (h + 1)) q.1 q.2)):=CZ hd v1 v2
  have hh:Dr.den [Ac (Aa ms f (h + 1)),.tup [.int q.1,.int q.2]]=.ok (.bl true):=by
   have h1:=GF hd
   have h2:AN.den [AS (lvD ms.length f h),.tup [.int q.1,.int q.2]]=.ok (.bl true):=JU v1 v2
   refine (HK _ rfl).trans (Ae ?_)
   simp_arith [DV,h1,h2]
  have hi:C9.den [Ac (Aa ms f (h + 1)),Ao (Aa ms f (h + 1)) q]=.ok (.bl true):=by
   refine (Op _ rfl).trans (Ae ?_)
   unfold Ao
   generalize tl (Aa ms f (h + 1)) q.1 q.2=t at *
   generalize Ac (Aa ms f (h + 1))=T at *
   simp_arith [FK,b30,b31,b32,hh,ht,beq_self_eq_true]
  refine ⟨[some (Ao (Aa ms f (h + 1)) q),some (Ac (Aa ms f (h + 1)))],rfl,?_⟩
  generalize Ac (Aa ms f (h + 1))=T at *
  generalize Ao (Aa ms f (h + 1)) q=P at *
  simp_arith [hi])
 rw [aaz] at h2
 have h3:=Ey (fun _:Nd=>true) qs
 have h4:((qs.map fun _:Nd=>true).all id)=true:=by simp
 have h2:ev (.comp0 1 [0] (.nm 0) (.seq (.nm 1)) (.call C9 (.cons (.nm 1) (.cons (.nm 0) .nil)))) [some (Ac (Aa ms f (h + 1))),some (.lst (qs.map (Ao (Aa ms f (h + 1)))))]=.ok (.lst (qs.map fun _=>.bl true)):=h2
 generalize hC:E.comp0 1 [0] (.nm 0) (.seq (.nm 1)) (.call C9 (.cons (.nm 1) (.cons (.nm 0) .nil)))=C at *
 refine (P0 _ rfl).trans (Ae ?_)
 rw [Gw,hC]
 generalize Ac (Aa ms f (h + 1))=T at *
 generalize qs.map (Ao (Aa ms f (h + 1)))=P at *
 generalize hB:(qs.map fun _=>D.bl true)=B at *
 simp_arith [h2,h3,AA,h4]
end
theorem J3 {p f:Nat}:∀ (xs ys:List Nd) (a m e:Nat),Til p f xs a m->Til p f ys m e->Til p f (xs ++ ys) a e
 | [],ys,a,m,e,h1,h2=>by
  have h1:a=m:=h1
  subst h1; exact h2
 | q :: r,ys,a,m,e,h1,h2=>⟨h1.1,J3 r ys _ m e h1.2 h2⟩
noncomputable def spn (p f:Nat) (q:Nd):Nat:=min p (q.2 * f ^ q.1 + f ^ q.1) - q.2 * f ^ q.1
noncomputable def wt (p f:Nat):List Nd->Nat
 | []=>0
 | q :: r=>spn p f q * (q.1 + 1) + wt p f r
theorem Qv {p f:Nat}:∀ xs ys:List Nd,wt p f (xs ++ ys)=wt p f xs + wt p f ys
 | [],ys=>by simp [wt]
 | q :: r,ys=>by rw [aa0,wt,wt,Qv r ys]; omega
section
variable {ms:List Int} {f h:Nat} (hf:2<=f) (hf8:f<=8) (H:Hs ms.length f h) (hh:h<=8) (hn:ms.length<=200) (hn1:1<=ms.length) (μ:Int)
include hf hf8 H hh hn hn1
theorem MC (l:Nat):∀ (qs:List Nd) (a e:Nat),Val ms.length f h qs->Til ms.length f qs a e->(∀ q ∈ qs,q.1<=l)->wt ms.length f qs<=(e - a) * (l + 1)
 | [],a,e,_,_,_=>aat _
 | q :: r,a,e,hv,ht,hl=>by
  obtain ⟨t1,t2⟩:=ht
  obtain ⟨v1,v2⟩:=hv q aab
  have hv':=fun q' h=>hv q' (aaa _ h)
  have ih:=MC l r _ e hv' t2 (fun q' h=>hl q' (aaa _ h))
  have hlt:=(AX (show 1<=f by omega)).mp v2
  have hle:=Gk hf r _ e hv' t2
  have hq:=hl q aab
  rw [wt]
  unfold spn
  obtain ⟨b,hb⟩:∃ b,b=min ms.length (q.2 * f ^ q.1 + f ^ q.1):=⟨_,rfl⟩
  rw [<- hb] at ih hle ⊢
  rw [t1] at hb ⊢
  have h1:(b - a) * (q.1 + 1)<=(b - a) * (l + 1):=Nat.mul_le_mul_left _ (by omega)
  have h2:(b - a) * (l + 1) + (e - b) * (l + 1)=(e - a) * (l + 1):=by
   rw [<- Nat.add_mul]; congr 1; omega
  omega
theorem J4:∀ (qs:List Nd) (a e:Nat),Val ms.length f h qs->Til ms.length f qs a e->qs.length + a<=e
 | [],a,e,_,ht=>by
  have ht:a=e:=ht
  simp [ht]
 | q :: r,a,e,hv,ht=>by
  obtain ⟨t1,t2⟩:=ht
  obtain ⟨v1,v2⟩:=hv q aab
  have hv':=fun q' h=>hv q' (aaa _ h)
  have ih:=J4 r _ e hv' t2
  have hlt:=(AX (show 1<=f by omega)).mp v2
  have:0 < f ^ q.1:=aa7 (by omega)
  simp only [aaJ]
  omega
theorem J5:∀ (n m:Nat) (xs ws:List Nd) (a:Nat) (o5:Option D),Val ms.length f h xs->Val ms.length f h ws->Til ms.length f xs 0 a->Til ms.length f ws a ms.length->(∀ q ∈ xs,q.1=0\/tst (Aa ms f (h + 1)) μ q=false)->wt ms.length f ws<=n->n < m->∃ (ys:List Nd) (o5':Option D),Val ms.length f h ys/\Til ms.length f ys 0 ms.length/\(∀ q ∈ ys,q.1=0\/tst (Aa ms f (h + 1)) μ q=false)/\AI (tv (.cmp .ne (.nm 4) (.lst .nil))) (exs As) m [some (Ac (Aa ms f (h + 1))),some (shD ms.length f),some (.int μ),some (.lst (xs.map Ab)),some (.lst (ws.map Ab)),o5]=.nxt [some (Ac (Aa ms f (h + 1))),some (shD ms.length f),some (.int μ),some (.lst (ys.map Ab)),some (.lst []),o5']
 | n,m + 1,xs,[],a,o5,hx,hw,tx,tw,hp,hwt,hm=>by
  have hcd:=G9 (([]:List Nd).map Ab) rfl
  have tw:a=ms.length:=tw
  subst tw
  refine ⟨xs,o5,hx,tx,hp,?_⟩
  rw [abb] at hcd ⊢
  exact Cg (by simp_arith [hcd,List.isEmpty])
 | n,m + 1,xs,q :: r,a,o5,hx,hw,tx,tw,hp,hwt,hm=>by
  have hcd:=G9 ((q :: r).map Ab) (KA _ 6)
  have hcd:c2 .ne (.lst (Ab q :: r.map Ab)) (.lst [])=.ok (.bl true):=hcd
  have hc1:tv (.cmp .ne (.nm 4) (.lst .nil)) [some (Ac (Aa ms f (h + 1))),some (shD ms.length f),some (.int μ),some (.lst (xs.map Ab)),some (.lst (Ab q :: r.map Ab)),o5]=.ok true:=by
   generalize Ab q :: r.map Ab=W at *
   simp_arith [hcd]
  obtain ⟨t1,t2⟩:=tw
  obtain ⟨v1,v2⟩:=hw q aab
  have hw':Val ms.length f h r:=fun q' h=>hw q' (aaa _ h)
  have hlt:=(AX (show 1<=f by omega)).mp v2
  have hpw:0 < f ^ q.1:=aa7 (by omega)
  have lx:=J4 hf hf8 H hh hn hn1 xs 0 a hx tx
  have lr:=J4 hf hf8 H hh hn hn1 r _ _ hw' t2
  have hsp:0 < spn ms.length f q:=by unfold spn; omega
  have ht:AL.den [Ac (Aa ms f (h + 1)),.tup [.int q.1,.int q.2]]=.ok (.int (tl (Aa ms f (h + 1)) q.1 q.2)):=CZ (AM ms f h) v1 v2
  have hcu:=RW (D.tup [.int q.1,.int q.2] :: r.map Ab) 1
  have hcu:cut (D.tup [.int q.1,.int q.2] :: r.map Ab) (some 1) none=r.map Ab:=hcu
  have h0:atD (D.tup [.int q.1,.int q.2] :: r.map Ab) 0=.ok (.tup [.int q.1,.int q.2]):=by
   unfold atD ixN
   rw [if_pos (by omega),if_pos (by simp)]; rfl
  have hap:=BX (xs.map Ab) (.tup [.int q.1,.int q.2]) (by rw [aac]; omega)
  rw [wt] at hwt
  have hm1:spn ms.length f q<=spn ms.length f q * (q.1 + 1):=acw _ (by omega)
  rw [aax]
  by_cases c:q.1=0\/tst (Aa ms f (h + 1)) μ q=false
  ·have st:exs As [some (Ac (Aa ms f (h + 1))),some (shD ms.length f),some (.int μ),some (.lst (xs.map Ab)),some (.lst (Ab q :: r.map Ab)),o5]=.nxt [some (Ac (Aa ms f (h + 1))),some (shD ms.length f),some (.int μ),some (.lst ((xs ++ [q]).map Ab)),some (.lst (r.map Ab)),some (Ab q)]:=by
    rw [aao,List.map_singleton]
    unfold Ab Ak at *
    generalize hX:xs.map (fun q:Nd=>D.tup [.int q.1,.int q.2])=X at *
    by_cases c0:q.1=0
    ·have c0':((q.1:Int)==0)=true:=by rw [c0]; rfl
     generalize D.tup [.int q.1,.int q.2] :: r.map _=W at *
     generalize r.map _=R at *
     simp_arith [As,h0,hcu,c20,c21,c0',hap]
    ·have c0':((q.1:Int)==0)=false:=by
      rw [beq_eq_false_iff_ne]; omega
     have hlt:tl (Aa ms f (h + 1)) q.1 q.2 < μ:=by
      have c:=c.resolve_left c0
      have:¬ μ<=tl (Aa ms f (h + 1)) q.1 q.2:=of_decide_eq_false c
      omega
     generalize D.tup [.int q.1,.int q.2] :: r.map _=W at *
     generalize r.map _=R at *
     simp_arith [As,h0,hcu,c20,c21,c0',ht,hlt,hap]
   rw [Dg hc1 st]
   refine J5 (n - 1) m (xs ++ [q]) r _ _ ?_ hw' (J3 xs [q] 0 a _ tx ⟨t1,rfl⟩) t2 ?_ (by omega) (by omega)
   ·intro q' hq'
    rcases aag.mp hq' with z | z
    ·exact hx q' z
    ·rw [aaF.mp z]; exact ⟨v1,v2⟩
   ·intro q' hq'
    rcases aag.mp hq' with z | z
    ·exact hp q' z
    ·rw [aaF.mp z]; exact c
  ·have c0:¬ q.1=0:=fun z=>c (.inl z)
   have c1:¬ tst (Aa ms f (h + 1)) μ q=false:=fun z=>c (.inr z)
   obtain ⟨l,hl⟩:∃ l,q.1=l + 1:=⟨q.1 - 1,by omega⟩
   have hch:Bw.den [shD ms.length f,.tup [.int q.1,.int q.2]]=.ok (.lst ((chN ms.length f q.1 q.2).map Ab)):=Fx hf hf8 H hh hn v1 v2
   have chl:=Ql (p:=ms.length) (f:=f) (l:=q.1) (j:=q.2) (by omega) hn
   have hadd:=Gg ((chN ms.length f q.1 q.2).map Ab) (r.map Ab) (by rw [aac,aac]; omega)
   rw [<- aao] at hadd
   have st:exs As [some (Ac (Aa ms f (h + 1))),some (shD ms.length f),some (.int μ),some (.lst (xs.map Ab)),some (.lst (Ab q :: r.map Ab)),o5]=.nxt [some (Ac (Aa ms f (h + 1))),some (shD ms.length f),some (.int μ),some (.lst (xs.map Ab)),some (.lst ((chN ms.length f q.1 q.2 ++ r).map Ab)),some (Ab q)]:=by
    have c0':((q.1:Int)==0)=false:=by
     rw [beq_eq_false_iff_ne]; omega
    have hge:¬ tl (Aa ms f (h + 1)) q.1 q.2 < μ:=by
     have c1:tst (Aa ms f (h + 1)) μ q=true:=by simpa using c1
     have:μ<=tl (Aa ms f (h + 1)) q.1 q.2:=of_decide_eq_true c1
     omega
    have eq:Ab q=.tup [.int q.1,.int q.2]:=rfl
    rw [eq]
    generalize (chN ms.length f q.1 q.2 ++ r).map Ab=CR at *
    generalize (chN ms.length f q.1 q.2).map Ab=CH at *
    generalize xs.map Ab=X at *
    generalize D.tup [.int q.1,.int q.2] :: r.map Ab=W at *
    generalize r.map Ab=R at *
    simp_arith [As,h0,hcu,c20,c21,c0',ht,hge,hch,hadd]
   rw [Dg hc1 st]
   have htc:Til ms.length f (chN ms.length f q.1 q.2) a (min ms.length (q.2 * f ^ q.1 + f ^ q.1)):=by
    have v2':=v2
    rw [hl] at v2' t1 ⊢
    rw [<- t1]
    exact (Mv (show 1<=f by omega) v2').2
   have hcv:Val ms.length f h (chN ms.length f q.1 q.2):=Jm v1
   have hwc:=MC hf hf8 H hh hn hn1 l _ _ _ hcv htc (fun x hx=>by have:=Lh x hx; omega)
   have e1:spn ms.length f q * (q.1 + 1)=(min ms.length (q.2 * f ^ q.1 + f ^ q.1) - a) * (l + 1) + spn ms.length f q:=by
    unfold spn; rw [t1,Nat.mul_add,acD,hl]
   refine J5 (n - 1) m xs (chN ms.length f q.1 q.2 ++ r) a _ hx ?_ tx (J3 _ r a _ _ htc t2) hp (by rw [Qv]; omega) (by omega)
   intro q' hq'
   rcases aag.mp hq' with z | z
   ·exact hcv q' z
   ·exact hw' q' z
theorem W8:∃ ys:List Nd,Val ms.length f h ys/\Til ms.length f ys 0 ms.length/\(∀ q ∈ ys,q.1=0\/tst (Aa ms f (h + 1)) μ q=false)/\Bu.den [Ac (Aa ms f (h + 1)),shD ms.length f,.int μ]=.ok (.lst (ys.map Ab)):=by
 have htop:=Ik hf hf8 H hh
 have hone:=H.one
 have tv:Til ms.length f [(h,0)] 0 ms.length:=by
  refine ⟨by show 0 * f ^ h=0; omega,?_⟩
  show min ms.length (0 * f ^ h + f ^ h)=ms.length
  have:¬ 1 < cnt ms.length f h:=by omega
  have:¬ 1 * f ^ h < ms.length:=fun z=>this ((AX (show 1<=f by omega)).mpr z)
  omega
 have vv:Val ms.length f h [(h,0)]:=fun q hq=>by
  rw [aaF.mp hq]
  exact ⟨aaj _,by show 0 < cnt ms.length f h; omega⟩
 have hw:=MC hf hf8 H hh hn hn1 h _ _ _ vv tv (fun q hq=>by rw [aaF.mp hq]; exact aaj _)
 have hw2:(ms.length - 0) * (h + 1)<=200 * 9:=Nat.mul_le_mul (by omega) (by omega)
 obtain ⟨ys,o5,g1,g2,g3,g4⟩:=J5 hf hf8 H hh hn hn1 μ 1800 FU [] [(h,0)] 0 none (fun q hq=>nomatch hq) vv rfl tv (fun q hq=>nomatch hq) (by omega) (by unfold FU; omega)
 refine ⟨ys,g1,g2,g3,(E0 _ rfl).trans (Ae ?_)⟩
 have g4:AI (Pu.tv (.cmp .ne (.nm 4) (.lst .nil))) (exs As) FU [some (Ac (Aa ms f (h + 1))),some (shD ms.length f),some (.int μ),some (.lst []),some (.lst [Ak h 0]),none]=.nxt [some (Ac (Aa ms f (h + 1))),some (shD ms.length f),some (.int μ),some (.lst (ys.map Ab)),some (.lst []),o5]:=g4
 have c0:((ms.length:Int)==0)=false:=by rw [beq_eq_false_iff_ne]; omega
 generalize Ac (Aa ms f (h + 1))=T at *
 generalize ys.map Ab=Y at *
 generalize Ak h 0=Z at *
 unfold shD at *
 simp_arith [AW,c20,c0,htop,g4]
end
theorem W9 {xs:List D} {d:D} (h:xs.head?=some d):atD xs 0=.ok d:=by
 cases xs with
 | nil=>cases h
 | cons a r =>
  cases h
  unfold atD ixN
  rw [if_pos (by omega),if_pos (by simp)]; rfl
noncomputable def B4 (ms:List Int) (μ:Int):List Nat:=(aar ms.length).filter fun k=>decide (μ<=ms.getD k 0)
noncomputable def B5 (ms:List Int) (k:Nat):D:=.tup [.int 0,.int k,.int (ms.getD k 0)]
theorem OH (ms:List Int):(aar ms.length).map (fun k=>ms.getD k 0)=ms:=by
 apply List.ext_getElem
 ·simp
 ·intro i h1 h2
  simp [aap,aae h2]
theorem VW (ms:List Int) (μ:Int):Eb ms μ=(B4 ms μ).map fun k=>ms.getD k 0:=by
 have:=congrArg (List.filter fun x=>decide (μ<=x)) (OH ms)
 rw [abD] at this
 exact this.symm
noncomputable def R9:E:=.comp1 1 [0] (.nm 0) (.seq (.nm 1)) (.bo true (.cons (.cmp .eq (.ix (.nm 0) (.cI 0)) (.cI 0)) (.cons (.cmp .ge (.ix (.nm 0) (.cI 2)) (.nm 1)) .nil))) (.nm 0)
theorem VX (ms:List Int) (μ:Int) (f:Nat) (T:D) (hT:Cw.den [T]=.ok (Ai ms)) (P:D) (hc:ev R9 [some (.int μ),some P,none,none]=.ok (.lst ((B4 ms μ).map (B5 ms)))):∃ o:Option Nat,Gf.den [T,.int f,.int μ]=.ok (pgD o)/\Fs.den [.int μ,P]=.ok (pgD o):=by
 have cB:=Er (nl:=1) (fr:=[2]) (tg:=.nm 0) (it:=.seqL (.nm 3)) (cond:=.cmp .ge (.nm 0) (.nm 1)) (elt:=.nm 0) (δ:=[some T,some (.int f),some (.int μ),some (.lst (ms.map .int)),none]) (ds:=ms.map .int) (b:=fun d=>match d with | .int r=>decide (μ<=r) | _=>false) (g:=fun d=>d) (by simp_arith []) (fun d hd=>by
  obtain ⟨r,rfl⟩:=D9 hd
  refine ⟨[some (.int r),some (.int μ)],rfl,?_,fun _=>?_⟩
  ·simp_arith []
  ·simp_arith [])
 have cB:ev (.comp1 1 [2] (.nm 0) (.seqL (.nm 3)) (.cmp .ge (.nm 0) (.nm 1)) (.nm 0)) [some T,some (.int f),some (.int μ),some (.lst (ms.map .int)),none]=.ok (.lst ((Eb ms μ).map .int)):=cB.trans (congrArg (fun l=>Res.ok (D.lst l)) (OE ms μ))
 have hnil:=CY ((Eb ms μ).map D.int) (R3 _)
 have hnil2:=CY ((B4 ms μ).map (B5 ms)) (by
  rw [aaw]
  intro d hd
  obtain ⟨k,_,rfl⟩:=aav.mp hd
  rfl)
 have hfk:=VW ms μ
 unfold Ai at hT
 generalize hE1:E.comp1 1 [2] (.nm 0) (.seqL (.nm 3)) (.cmp .ge (.nm 0) (.nm 1)) (.nm 0)=E1 at *
 by_cases hK:B4 ms μ=[]
 ·rw [hfk,hK] at hnil cB
  rw [hK] at hnil2 hc
  simp only [abb,List.isEmpty_nil] at hnil cB hnil2 hc
  refine ⟨none,(Nv _ rfl).trans (Ae ?_),(G5 _ rfl).trans (Ae ?_)⟩
  ·rw [G6,hE1]
   unfold pgD
   generalize ms.map D.int=R at *
   simp_arith [hT,cB,hnil]
  ·unfold R9 at hc
   generalize hF:E.comp1 1 [0] (.nm 0) (.seq (.nm 1)) (.bo true (.cons (.cmp .eq (.ix (.nm 0) (.cI 0)) (.cI 0)) (.cons (.cmp .ge (.ix (.nm 0) (.cI 2)) (.nm 1)) .nil))) (.nm 0)=FE at *
   rw [Du,hF]
   unfold pgD
   simp_arith [hc,hnil2]
 ·have hem:((Eb ms μ).map D.int).isEmpty=false:=by
   rw [hfk]
   cases h:B4 ms μ with
   | nil=>exact absurd h hK
   | cons a r=>rfl
  have hem2:((B4 ms μ).map (B5 ms)).isEmpty=false:=by
   cases h:B4 ms μ with
   | nil=>exact absurd h hK
   | cons a r=>rfl
  rw [hem] at hnil
  rw [hem2] at hnil2
  have hF0:Eb ms μ ≠ []:=by
   rw [hfk]
   intro z
   exact hK (List.map_eq_nil_iff.mp z)
  obtain ⟨mn,hmn⟩:∃ m,(Eb ms μ).min?=some m:=by
   cases h:(Eb ms μ).min? with
   | none=>exact absurd (List.min?_eq_none_iff.mp h) hF0
   | some m=>exact ⟨m,rfl⟩
  have mn1:mn ∈ Eb ms μ:=List.min?_mem hmn
  have mnμ:μ<=mn:=of_decide_eq_true (abp.mp mn1).2
  obtain ⟨i,hi⟩:=NJ (abp.mp mn1).1
  obtain ⟨ii1,ii2⟩:=Qp hi
  have hio:=Ea (Eb ms μ)
  have hi':=VR hi
  have c2:=CW (nl:=1) (fr:=[]) (tg:=.nm 0) (it:=.seqL (.nm 2)) (elt:=.ix (.nm 0) (.cI 2)) (δ:=[some (.int μ),some P,some (.lst ((B4 ms μ).map (B5 ms))),none]) (ds:=(B4 ms μ).map (B5 ms)) (g:=fun d=>match d with | .tup [_,_,.int t]=>.int t | d=>d) (by simp_arith []) (fun d hd=>by
   obtain ⟨k,_,rfl⟩:=aav.mp hd
   refine ⟨[some (B5 ms k)],rfl,?_⟩
   unfold B5
   simp_arith [b32])
  have e2:((B4 ms μ).map (B5 ms)).map (fun d=>match d with | .tup [_,_,.int t]=>D.int t | d=>d)=(Eb ms μ).map .int:=by
   rw [hfk,aaz,aaz]; rfl
  rw [e2] at c2
  have c3:=Er (nl:=1) (fr:=[3]) (tg:=.nm 0) (it:=.seqL (.nm 2)) (cond:=.cmp .eq (.ix (.nm 0) (.cI 2)) (.nm 1)) (elt:=.ix (.nm 0) (.cI 1)) (δ:=[some (.int μ),some P,some (.lst ((B4 ms μ).map (B5 ms))),some (.int mn)]) (ds:=(B4 ms μ).map (B5 ms)) (b:=fun d=>match d with | .tup [_,_,.int t]=>t==mn | _=>false) (g:=fun d=>match d with | .tup [_,k,_]=>k | d=>d) (by simp_arith []) (fun d hd=>by
   obtain ⟨k,_,rfl⟩:=aav.mp hd
   refine ⟨[some (B5 ms k),some (.int mn)],rfl,?_,fun _=>?_⟩
   ·unfold B5
    simp_arith [b32]
   ·unfold B5
    simp_arith [b31])
  rw [abD,aaz] at c3
  have hhd:(((B4 ms μ).filter ((fun d=>match d with | .tup [_,_,.int t]=>t==mn | _=>false) ∘ B5 ms)).map ((fun d=>match d with | .tup [_,k,_]=>k | d=>d) ∘ B5 ms)).head?=some (.int i):=by
   rw [List.head?_map]
   have e3:(B4 ms μ).filter ((fun d=>match d with | .tup [_,_,.int t]=>t==mn | _=>false) ∘ B5 ms)=(aar ms.length).filter fun k=>ms.getD k 0==mn:=by
    unfold B4
    rw [List.filter_filter]
    apply ab4
    intro k hk
    show ((ms.getD k 0==mn) && decide (μ<=ms.getD k 0))=(ms.getD k 0==mn)
    by_cases c:ms.getD k 0=mn
    ·rw [c,decide_eq_true mnμ,acL]
    ·rw [beq_eq_false_iff_ne.mpr c,abi]
   rw [e3,List.head?_filter]
   have e4:(aar ms.length).find? (fun k=>ms.getD k 0==mn)=some i:=by
    have hil:=(aak.mp ii1).1
    rw [List.find?_range_eq_some]
    refine ⟨?_,abJ.mpr hil,fun j hj=>?_⟩
    ·rw [aap,ii1]; simp
    ·have hjl:j < ms.length:=by omega
     have:=ii2 j hj
     rw [aap]
     rw [aae hjl] at this ⊢
     simpa using this
   rw [e4]; rfl
  have hat:=W9 hhd
  refine ⟨some i,(Nv _ rfl).trans (Ae ?_),(G5 _ rfl).trans (Ae ?_)⟩
  ·rw [G6,hE1]
   unfold pgD
   clear hfk hF0 hK hc c2 c3 e2
   generalize ms.map D.int=R at *
   generalize (Eb ms μ).map D.int=FF at *
   simp_arith [hT,cB,hnil,hio,hmn,AA,hi']
  ·unfold R9 at hc
   clear hfk hF0 hK e2 hhd cB hT
   generalize hF:E.comp1 1 [0] (.nm 0) (.seq (.nm 1)) (.bo true (.cons (.cmp .eq (.ix (.nm 0) (.cI 0)) (.cI 0)) (.cons (.cmp .ge (.ix (.nm 0) (.cI 2)) (.nm 1)) .nil))) (.nm 0)=FE at *
   generalize hG:E.comp0 1 [] (.nm 0) (.seqL (.nm 2)) (.ix (.nm 0) (.cI 2))=GE at *
   generalize hI:E.comp1 1 [3] (.nm 0) (.seqL (.nm 2)) (.cmp .eq (.ix (.nm 0) (.cI 2)) (.nm 1)) (.ix (.nm 0) (.cI 1))=IE at *
   rw [Du,hF,hG,hI]
   unfold pgD
   generalize ((B4 ms μ).filter ((fun d=>match d with | .tup [_,_,.int t]=>t==mn | _=>false) ∘ B5 ms)).map ((fun d=>match d with | .tup [_,k,_]=>k | d=>d) ∘ B5 ms)=L at *
   generalize (B4 ms μ).map (B5 ms)=KK at *
   generalize (Eb ms μ).map D.int=FF at *
   simp_arith [hc,hnil2,c2,hio,hmn,AA,c3,hat]
section
variable {ms:List Int} {f h:Nat} (hf:2<=f) (hf8:f<=8) (H:Hs ms.length f h) (hh:h<=8) (hn:ms.length<=200) (hn1:1<=ms.length) (μ:Int)
include hf hf8 H hh hn hn1
theorem tl0 {k:Nat} (hk:k < ms.length):tl (Aa ms f (h + 1)) 0 k=ms.getD k 0:=by
 have hj:k < cnt ms.length f 0:=by rw [AX (by omega)]; simpa using hk
 rw [NF (aat h) hj]
 obtain ⟨⟨j,a1,a2,a3⟩,_⟩:=SB (rs:=ms) (a:=k * f ^ 0) (b:=min ms.length (k * f ^ 0 + f ^ 0)) (by simp; omega) (by omega)
 have e:j=k:=by simp at a1 a2; omega
 subst e
 rw [aap,a3]; rfl
theorem NR:∀ (ys:List Nd) (a e:Nat),Val ms.length f h ys->Til ms.length f ys a e->e<=ms.length->(∀ q ∈ ys,q.1=0\/tst (Aa ms f (h + 1)) μ q=false)->ys.filter (fun q=>decide (q.1=0) && tst (Aa ms f (h + 1)) μ q)=((abF a (e - a)).filter fun k=>decide (μ<=ms.getD k 0)).map fun k=>(0,k)
 | [],a,e,_,ht,_,_=>by
  have ht:a=e:=ht
  subst ht
  simp
 | q :: r,a,e,hv,ht,he,hp=>by
  obtain ⟨t1,t2⟩:=ht
  obtain ⟨v1,v2⟩:=hv q aab
  have hv':=fun q' h=>hv q' (aaa _ h)
  have ih:=NR r _ e hv' t2 he (fun q' h=>hp q' (aaa _ h))
  have hlt:=(AX (show 1<=f by omega)).mp v2
  have hle:=Gk hf r _ e hv' t2
  have hpw:0 < f ^ q.1:=aa7 (by omega)
  have tt:=FQ (ms:=ms) hf μ v1 v2
  obtain ⟨b,hb⟩:∃ b,b=min ms.length (q.2 * f ^ q.1 + f ^ q.1):=⟨_,rfl⟩
  rw [<- hb] at ih hle tt
  have hab:a < b:=by omega
  have er:abF a (e - a)=abF a (b - a) ++ abF b (e - b):=by
   have:=List.range'_append_1 (s:=a) (m:=b - a) (n:=e - b)
   rw [show a + (b - a)=b by omega,show b - a + (e - b)=e - a by omega] at this
   exact this.symm
  rw [er,acX,aao,<- ih]
  by_cases c0:q.1=0
  ·have eq:q=(0,a):=by
    have:q.2=a:=by rw [c0] at t1; simpa using t1
    rw [<- this,<- c0]
   have eb:b - a=1:=by rw [hb,t1,c0]; simp; omega
   have hts:tst (Aa ms f (h + 1)) μ q=decide (μ<=ms.getD a 0):=by
    rw [eq]
    show decide (μ<=tl (Aa ms f (h + 1)) 0 a)=_
    rw [tl0 hf hf8 H hh hn hn1 (by omega)]
   by_cases c:μ<=ms.getD a 0
   ·have e2:[a].filter (fun k=>decide (μ<=ms.getD k 0))=[a]:=by
     rw [acx (by simpa using c)]; rfl
    rw [eb,List.range'_one,e2,acx (by rw [hts,decide_eq_true c0,decide_eq_true c]; rfl),eq]; rfl
   ·have e2:[a].filter (fun k=>decide (μ<=ms.getD k 0))=[]:=by
     rw [acy (by simpa using c)]; rfl
    rw [eb,List.range'_one,e2,acy (by rw [hts,decide_eq_false c]; simp)]; rfl
  ·have c1:=(hp q aab).resolve_left c0
   have e1:(abF a (b - a)).filter (fun k=>decide (μ<=ms.getD k 0))=[]:=by
    rw [List.filter_eq_nil_iff]
    intro k hk
    rw [List.mem_range'_1] at hk
    have hkl:k < ms.length:=by omega
    have:=tt.2 c1 k (ms.getD k 0) (by omega) (by omega) (by rw [aap,aae hkl]; rfl)
    simp only [decide_eq_true_eq]
    omega
   rw [e1,abP,c1]
   simp
end
theorem Jr (o u:Option Nat):c2 .eq (pgD o) (pgD u)=.ok (.bl (decide (o=u))):=by
 cases o with
 | none=>cases u <;> rfl
 | some i =>
  cases u with
  | none=>rfl
  | some j =>
   show c2 .eq (.int i) (.int j)=_
   rw [Dy]
   by_cases c:i=j
   ·subst c; simp
   ·have:((i:Int)==(j:Int))=false:=by rw [beq_eq_false_iff_ne]; omega
    rw [this,decide_eq_false (by simpa using c)]
section
variable {ms:List Int} {f h:Nat} (hf:2<=f) (hf8:f<=8) (H:Hs ms.length f h) (hh:h<=8) (hn:ms.length<=200) (hn1:1<=ms.length) (μ:Int)
include hf hf8 H hh hn hn1
theorem J6:∃ o,FsA ms μ 0 o/\Cc.den [Ac (Aa ms f (h + 1)),.int f,.int μ]=.ok (pgD o)/\El.den [Ac (Aa ms f (h + 1)),.int f,.int μ]=.ok (GC (Aa ms f (h + 1)) o (cov ms.length f h (o.getD ms.length) 200 0)):=by
 have hs:=Bh (AM ms f h)
 obtain ⟨o,hff,F⟩:=Qn hf hf8 H hh hn μ (a:=0) hn1
 have ho:=Li hf hf8 H hh hn hn1 F
 have hup:=Jo ms.length f 0 o
 have hp1:=OF hf hf8 H hh hn ho.1 ho.2
 have hff:Cl.den [Ac (Aa ms f (h + 1)),.int f,.int μ,.int 0]=.ok (pgD o):=hff
 have hp1:BH.den [Ac (Aa ms f (h + 1)),.int f,.tup [.int 0,.int ((o.getD ms.length:Nat):Int)]]=_:=hp1
 have d1:Cc.dep=0:=Mj
 have d3:AG.dep=0:=Ge
 have g1:=Ff o
 have g3:∀ x y:Int,D.flat 9 0 (.tup [.int x,.int y])=true:=fun x y=>rfl
 have hfi:Cc.den [Ac (Aa ms f (h + 1)),.int f,.int μ]=.ok (pgD o):=by
  refine (RK _ rfl).trans (Ae ?_)
  generalize Ac (Aa ms f (h + 1))=T at *
  generalize pgD o=O at *
  simp_arith [Hv,hff]
 refine ⟨o,F,hfi,(JO _ rfl).trans (Ae ?_)⟩
 unfold GC
 generalize (cov ms.length f h (o.getD ms.length) 200 0).map (Ao (Aa ms f (h + 1)))=P1 at *
 generalize Ac (Aa ms f (h + 1))=T at *
 generalize ((o.getD ms.length:Nat):Int)=e at *
 generalize shD ms.length f=s at *
 generalize pgD o=O at *
 simp_arith [DC,hfi,d1,g1,hs,hup,d3,g3,hp1]
theorem VY (o:Option Nat) (ho:o.getD ms.length<=ms.length):∃ v:Bool,(v=true ↔ FR ms μ 0 (o.getD ms.length))/\AO.den [shD ms.length f,.int μ,pgD o,.lst ((cov ms.length f h (o.getD ms.length) 200 0).map (Ao (Aa ms f (h + 1))))]=.ok (.bl v):=by
 obtain ⟨v,h1,h2⟩:=R8 hf hf8 H hh hn hn1 μ (aat _) ho
 have hup:=Jo ms.length f 0 o
 have h2:Bf.den [shD ms.length f,.int μ,.tup [.int 0,.int ((o.getD ms.length:Nat):Int)],_]=_:=h2
 refine ⟨v,h1,(JK _ rfl).trans (Ae ?_)⟩
 generalize (cov ms.length f h (o.getD ms.length) 200 0).map (Ao (Aa ms f (h + 1)))=P1 at *
 generalize ((o.getD ms.length:Nat):Int)=e at *
 generalize shD ms.length f=s at *
 generalize pgD o=O at *
 simp_arith [DA,hup,h2]
theorem SD (o:Option Nat) (a:Nat) (ho:o.getD ms.length<=ms.length):∃ v:Bool,(v=true ↔ a<=o.getD ms.length/\FR ms μ a (o.getD ms.length))/\AC.den [shD ms.length f,.int μ,.int a,pgD o,.lst ((cov ms.length f h (o.getD ms.length) 200 (min a (o.getD ms.length))).map (Ao (Aa ms f (h + 1))))]=.ok (.bl v):=by
 obtain ⟨v,h1,h2⟩:∃ v:Bool,(v=true ↔ a<=o.getD ms.length/\FR ms μ a (o.getD ms.length))/\Bf.den [shD ms.length f,.int μ,.tup [.int a,.int ((o.getD ms.length:Nat):Int)],.lst ((cov ms.length f h (o.getD ms.length) 200 (min a (o.getD ms.length))).map (Ao (Aa ms f (h + 1))))]=.ok (.bl v):=by
  by_cases c:a<=o.getD ms.length
  ·rw [abr c]
   obtain ⟨v,h1,h2⟩:=R8 hf hf8 H hh hn hn1 μ c ho
   exact ⟨v,⟨fun z=>⟨c,h1.mp z⟩,fun z=>h1.mpr z.2⟩,h2⟩
  ·rw [abj (by omega)]
   have e0:cov ms.length f h (o.getD ms.length) 200 (o.getD ms.length)=[]:=by rw [cov,if_neg (by omega)]
   rw [e0]
   have h1:=Qr (R7 hf hf8 H hh hn hn1) μ [] a ((o.getD ms.length:Nat):Int)
   refine ⟨false,⟨(fun z=>nomatch z),fun z=>absurd z.1 c⟩,?_⟩
   have e1:(lo ms.length f h [] (a:Int)==some ((o.getD ms.length:Nat):Int))=false:=by
    show ((a:Int)==((o.getD ms.length:Nat):Int))=false
    rw [beq_eq_false_iff_ne]; omega
   rw [e1,abi] at h1
   exact h1
 have hup:=Jo ms.length f a o
 refine ⟨v,h1,(HY _ rfl).trans (Ae ?_)⟩
 generalize (cov ms.length f h (o.getD ms.length) 200 (min a (o.getD ms.length))).map (Ao (Aa ms f (h + 1)))=P1 at *
 generalize ((o.getD ms.length:Nat):Int)=e at *
 generalize shD ms.length f=s at *
 generalize pgD o=O at *
 simp_arith [CC,hup,h2]
theorem VZ {a:Nat} (ha:a < ms.length) (u:Option Nat) (hu:∀ j,u=some j->j < ms.length):∃ v:Bool,(v=true ↔ FR ms μ (nrR ms.length a u).1 (nrR ms.length a u).2)/\A4.den [shD ms.length f,.int μ,.int a,pgD u,.lst ((cov ms.length f h (nrR ms.length a u).2 200 (nrR ms.length a u).1).map (Ao (Aa ms f (h + 1))))]=.ok (.bl v):=by
 have hrn:=Hf hf hf8 H hh hn ha u hu
 obtain ⟨v,h1,h2⟩:=R8 hf hf8 H hh hn hn1 μ hrn.1 hrn.2
 have hnr:=Mz ms.length f a u
 refine ⟨v,h1,(KN _ rfl).trans (Ae ?_)⟩
 generalize (cov ms.length f h (nrR ms.length a u).2 200 (nrR ms.length a u).1).map (Ao (Aa ms f (h + 1)))=P1 at *
 generalize (((nrR ms.length a u).2:Nat):Int)=e at *
 generalize (((nrR ms.length a u).1:Nat):Int)=b at *
 generalize shD ms.length f=s at *
 generalize pgD u=O at *
 simp_arith [DW,hnr,h2]
theorem Xa:∃ (o:Option Nat) (ys:List Nd),Val ms.length f h ys/\Gf.den [Ac (Aa ms f (h + 1)),.int f,.int μ]=.ok (pgD o)/\EK.den [Ac (Aa ms f (h + 1)),.int f,.int μ]=.ok (GC (Aa ms f (h + 1)) o ys)/\EH.den [shD ms.length f,.int μ,pgD o,.lst (ys.map (Ao (Aa ms f (h + 1))))]=.ok (.bl true):=by
 have hs:=Bh (AM ms f h)
 obtain ⟨ys,v1,t1,p1,hnw⟩:=W8 hf hf8 H hh hn hn1 μ
 have hT:Cw.den [Ac (Aa ms f (h + 1))]=.ok (Ai ms):=by
  have:=Hc (AM ms f h)
  have e:(Aa ms f (h + 1)).getD 0 []=ms:=by
   have e1:(Aa ms f (h + 1)).getD 0 []=Bv ms f 0 (cnt ms.length f 0):=by
    unfold Aa
    rw [aap,aaq,abV (by omega)]; rfl
   rw [e1,RZ]
  rw [e] at this
  exact this
 have hft:=NR hf hf8 H hh hn hn1 μ ys 0 ms.length v1 t1 (aaj _) p1
 have hc:=Er (nl:=1) (fr:=[0]) (tg:=.nm 0) (it:=.seq (.nm 1)) (cond:=.bo true (.cons (.cmp .eq (.ix (.nm 0) (.cI 0)) (.cI 0)) (.cons (.cmp .ge (.ix (.nm 0) (.cI 2)) (.nm 1)) .nil))) (elt:=.nm 0) (δ:=[some (.int μ),some (.lst (ys.map (Ao (Aa ms f (h + 1))))),none,none]) (ds:=ys.map (Ao (Aa ms f (h + 1)))) (b:=fun d=>match d with | .tup [.int l,_,.int t]=>decide (l.toNat=0) && decide (μ<=t) | _=>false) (g:=fun d=>d) (by simp_arith []) (fun d hd=>by
  obtain ⟨q,_,rfl⟩:=aav.mp hd
  refine ⟨[some (Ao (Aa ms f (h + 1)) q),some (.int μ)],rfl,?_,fun _=>?_⟩
  ·show _=Res.ok (decide ((q.1:Int).toNat=0) && decide (μ<=tl (Aa ms f (h + 1)) q.1 q.2))
   rw [aau]
   unfold Ao
   generalize tl (Aa ms f (h + 1)) q.1 q.2=t at *
   by_cases c:q.1=0
   ·have c1:((q.1:Int)==0)=true:=by rw [c]; rfl
    rw [decide_eq_true c,abA]
    simp_arith [b30,b32,c1]
   ·have c1:((q.1:Int)==0)=false:=by rw [beq_eq_false_iff_ne]; omega
    rw [decide_eq_false c,abi]
    simp_arith [b30,b32,c1]
  ·generalize Ao (Aa ms f (h + 1)) q=P at *
   simp_arith [])
 rw [List.map_id',abD] at hc
 have ef:ys.filter ((fun d=>match d with | .tup [.int l,_,.int t]=>decide (l.toNat=0) && decide (μ<=t) | _=>false) ∘ Ao (Aa ms f (h + 1)))=(B4 ms μ).map fun k=>(0,k):=by
  have e:ys.filter ((fun d=>match d with | .tup [.int l,_,.int t]=>decide (l.toNat=0) && decide (μ<=t) | _=>false) ∘ Ao (Aa ms f (h + 1)))=ys.filter (fun q=>decide (q.1=0) && tst (Aa ms f (h + 1)) μ q):=by
   apply ab4
   intro q _
   show (decide ((q.1:Int).toNat=0) && decide (μ<=tl (Aa ms f (h + 1)) q.1 q.2))=_
   rw [aau]; rfl
  rw [e,hft,Nat.sub_zero,<- List.range_eq_range']; rfl
 rw [ef,aaz] at hc
 have eg:(B4 ms μ).map (Ao (Aa ms f (h + 1)) ∘ fun k=>(0,k))=(B4 ms μ).map (B5 ms):=by
  apply aaR
  intro k hk
  have hk:k < ms.length:=abJ.mp (abp.mp hk).1
  show D.tup [.int ((0:Nat):Int),.int k,.int (tl (Aa ms f (h + 1)) 0 k)]=_
  rw [tl0 hf hf8 H hh hn hn1 hk]; rfl
 rw [eg] at hc
 obtain ⟨o,hb1,hb2⟩:=VX ms μ f _ hT (.lst (ys.map (Ao (Aa ms f (h + 1))))) hc
 have hw:=VU hf hf8 H hh hn v1
 have d1:BT.dep=1:=Mg
 have g1:D.flat 9 1 (.lst (ys.map (Ao (Aa ms f (h + 1)))))=true:=by
  show (ys.map (Ao (Aa ms f (h + 1)))).all (D.flat 8 0)=true
  rw [aaw]
  intro d hd
  obtain ⟨q,_,rfl⟩:=aav.mp hd
  rfl
 have hlo:=NL (R7 hf hf8 H hh hn hn1) (ys.map (Iq (Aa ms f (h + 1)))) 0 ms.length
 have hl0:lo ms.length f h (ys.map (Iq (Aa ms f (h + 1)))) 0=some (ms.length:Int):=MB hf hf8 H hh hn hn1 ys 0 ms.length v1 t1
 rw [hl0,<- NP] at hlo
 have hlo:CQ.den [shD ms.length f,.tup [.int 0,.int ms.length],.lst (ys.map (Ao (Aa ms f (h + 1))))]=.ok (.bl true):=by
  rw [hlo]; simp
 have hc2:=Er (nl:=1) (fr:=[1]) (tg:=.nm 0) (it:=.seq (.nm 3)) (cond:=.cmp .gt (.ix (.nm 0) (.cI 0)) (.cI 0)) (elt:=.cmp .lt (.ix (.nm 0) (.cI 2)) (.nm 1)) (δ:=[some (shD ms.length f),some (.int μ),some (pgD o),some (.lst (ys.map (Ao (Aa ms f (h + 1)))))]) (ds:=ys.map (Ao (Aa ms f (h + 1)))) (b:=fun d=>match d with | .tup [.int l,_,_]=>decide (0 < l) | _=>false) (g:=fun _=>.bl true) (by simp_arith []) (fun d hd=>by
  obtain ⟨q,hq,rfl⟩:=aav.mp hd
  refine ⟨[some (Ao (Aa ms f (h + 1)) q),some (.int μ)],rfl,?_,fun hb=>?_⟩
  ·show _=Res.ok (decide (0 < (q.1:Int)))
   unfold Ao
   simp_arith [b30]
  ·have hb:0 < (q.1:Int):=of_decide_eq_true hb
   have c:=(p1 q hq).resolve_left (by omega)
   have:¬ μ<=tl (Aa ms f (h + 1)) q.1 q.2:=of_decide_eq_false c
   have hlt:tl (Aa ms f (h + 1)) q.1 q.2 < μ:=by omega
   unfold Ao
   generalize tl (Aa ms f (h + 1)) q.1 q.2=t at *
   simp_arith [b32,hlt])
 obtain ⟨zs,hzs⟩:∃ zs:List D,zs=(ys.map (Ao (Aa ms f (h + 1)))).filter (fun d=>match d with | .tup [.int l,_,_]=>decide (0 < l) | _=>false):=⟨_,rfl⟩
 rw [<- hzs] at hc2
 have h3:=Ey (fun _:D=>true) zs
 have h4:((zs.map fun _:D=>true).all id)=true:=by simp
 have hpe:=Jr o o
 rw [decide_eq_true rfl] at hpe
 refine ⟨o,ys,v1,hb1,(KU _ rfl).trans (Ae ?_),(KP _ rfl).trans (Ae ?_)⟩
 ·unfold GC
  clear hc hc2 hlo hb2 ef eg hft hzs h3 h4 hl0
  generalize ys.map (Ao (Aa ms f (h + 1)))=P1 at *
  generalize ys.map Ab=Y at *
  generalize Ac (Aa ms f (h + 1))=T at *
  generalize shD ms.length f=s at *
  generalize pgD o=O at *
  simp_arith [D1,hs,hnw,hb1,hw,d1,g1]
 ·clear hc ef eg hft hzs hw hl0
  generalize hC:E.comp1 1 [1] (.nm 0) (.seq (.nm 3)) (.cmp .gt (.ix (.nm 0) (.cI 0)) (.cI 0)) (.cmp .lt (.ix (.nm 0) (.cI 2)) (.nm 1))=C at *
  rw [DX,hC]
  generalize ys.map (Ao (Aa ms f (h + 1)))=P1 at *
  generalize hZ:(zs.map fun _=>D.bl true)=Z at *
  unfold shD at *
  generalize pgD o=O at *
  simp_arith [c20,hlo,hc2,h3,AA,h4,hb2,hpe]
end
noncomputable def Sa (ms:List Int) (μ:Int):Option Nat->Prop
 | none=>True
 | some j=>∃ x,ms[j]?=some x/\μ<=x
theorem Js {ms:List Int} {μ:Int} {a:Nat} (ha:a<=ms.length) (o:Option Nat):FsA ms μ a o ↔ Sa ms μ o/\a<=o.getD ms.length/\FR ms μ a (o.getD ms.length):=by
 cases o with
 | none =>
  constructor
  ·intro F
   exact ⟨trivial,ha,fun k x h1 _ h3=>F k x h1 h3⟩
  ·rintro ⟨_,_,h⟩ k x h1 h3
   exact h k x h1 (aak.mp h3).1 h3
 | some j =>
  constructor
  ·rintro ⟨g1,g2,g3⟩
   exact ⟨g2,g1,fun k x h1 h2 h3=>g3 k x h1 h2 h3⟩
  ·rintro ⟨g2,g1,g3⟩
   exact ⟨g1,g2,fun k x h1 h2 h3=>g3 k x h1 h2 h3⟩
theorem Qw {ms:List Int} {μ:Int} {a:Nat} (ha:a < ms.length) (o:Option Nat) (ho:∀ j,o=some j->j < ms.length):NrA ms μ a o ↔ Sa ms μ o/\FR ms μ (nrR ms.length a o).1 (nrR ms.length a o).2:=by
 cases o with
 | none =>
  constructor
  ·intro F
   exact ⟨trivial,fun k x _ _ h3=>F k x h3⟩
  ·rintro ⟨_,h⟩ k x h3
   exact h k x (aat _) (aak.mp h3).1 h3
 | some j =>
  have hj:=ho j rfl
  constructor
  ·rintro ⟨g2,g3⟩
   refine ⟨g2,fun k x h1 h2 h3=>?_⟩
   refine Int.not_le.mp fun c=>?_
   have:=g3 k x h3 c
   by_cases c2:j < a
   ·rw [Gm c2] at h1 h2
    have h1:j + 1<=k:=h1
    have h2:k < min (a + (a - j)) ms.length:=h2
    omega
   ·rw [EF c2] at h1 h2
    have h1:a - (j - a)<=k:=h1
    have h2:k < j:=h2
    omega
  ·rintro ⟨g2,g3⟩
   refine ⟨g2,fun k x h3 hx=>?_⟩
   have hk:=(aak.mp h3).1
   have g3:=g3 k x
   by_cases c2:j < a
   ·rw [Gm c2] at g3
    have g3:j + 1<=k->k < min (a + (a - j)) ms.length->ms[k]?=some x->x < μ:=g3
    by_cases c3:j + 1<=k/\k < min (a + (a - j)) ms.length
    ·have:=g3 c3.1 c3.2 h3; omega
    ·omega
   ·rw [EF c2] at g3
    have g3:a - (j - a)<=k->k < j->ms[k]?=some x->x < μ:=g3
    by_cases c3:a - (j - a)<=k/\k < j
    ·have:=g3 c3.1 c3.2 h3; omega
    ·omega
theorem J7 {e v:Bool} {P:Prop} [Decidable P] (h:e=true/\v=true ↔ P):(e && v)=decide P:=by
 rw [abC,aah,decide_eq_true_eq]; exact h
theorem SE (b:Bool):c2 .ne (.bl b) (.bl b)=.ok (.bl false):=by cases b <;> rfl
theorem WK (b:Bool):c2 .eq (.bl b) (.bl b)=.ok (.bl true):=by cases b <;> rfl
section
variable {ms:List Int} {f h:Nat} (hf:2<=f) (hf8:f<=8) (H:Hs ms.length f h) (hh:h<=8) (hn:ms.length<=200) (hn1:1<=ms.length) (μ:Int)
include hf hf8 H hh hn hn1
theorem V0 {a:Nat} (ha:a < ms.length):BB.den [Ac (Aa ms f (h + 1)),.int f,.int μ,.int a,shD ms.length f]=.ok (.bl true):=by
 obtain ⟨o1,F1,_,hp1⟩:=J6 hf hf8 H hh hn hn1 μ
 obtain ⟨o2,F2,_,hp2⟩:=R5 hf hf8 H hh hn μ ha
 obtain ⟨o3,F3,_,hp3⟩:=R6 hf hf8 H hh hn μ ha
 obtain ⟨o4,ys,v4,hb4,hp4,hs4⟩:=Xa hf hf8 H hh hn hn1 μ
 have i1:=Li hf hf8 H hh hn hn1 F1
 have i2:=Li hf hf8 H hh hn ha F2
 have i3:=OG hf hf8 H hh hn F3
 have r3:=Hf hf hf8 H hh hn ha o3 i3
 obtain ⟨w1,z1,s1⟩:=VY hf hf8 H hh hn hn1 μ o1 i1.2
 obtain ⟨w2,z2,s2⟩:=SD hf hf8 H hh hn hn1 μ o2 a i2.2
 obtain ⟨w3,z3,s3⟩:=VZ hf hf8 H hh hn hn1 μ ha o3 i3
 rw [z1.mpr ((Js (aat _) o1).mp F1).2.2] at s1
 rw [z2.mpr ((Js (by omega) o2).mp F2).2,abr i2.1] at s2
 rw [z3.mpr ((Qw ha o3 i3).mp F3).2] at s3
 have n1:=Jq hf hf8 H hh hn hn1 (BZ (h:=h) (show 1<=f by omega) i1.2 200 0)
 have n2:=Jq hf hf8 H hh hn hn1 (BZ (h:=h) (show 1<=f by omega) i2.2 200 a)
 have n3:=Jq hf hf8 H hh hn hn1 (BZ (h:=h) (show 1<=f by omega) r3.2 200 (nrR ms.length a o3).1)
 have n4:=Jq hf hf8 H hh hn hn1 v4
 have hpe:=Jr o4 o4
 rw [decide_eq_true rfl] at hpe
 refine (Ig _ rfl).trans (Ae ?_)
 unfold GC at *
 clear z1 z2 z3 v4 i3
 generalize (cov ms.length f h (o1.getD ms.length) 200 0).map (Ao (Aa ms f (h + 1)))=P1 at *
 generalize (cov ms.length f h (o2.getD ms.length) 200 a).map (Ao (Aa ms f (h + 1)))=P2 at *
 generalize (cov ms.length f h (nrR ms.length a o3).2 200 (nrR ms.length a o3).1).map (Ao (Aa ms f (h + 1)))=P3 at *
 generalize ys.map (Ao (Aa ms f (h + 1)))=P4 at *
 generalize Ac (Aa ms f (h + 1))=T at *
 generalize shD ms.length f=s at *
 generalize pgD o1=O1 at *
 generalize pgD o2=O2 at *
 generalize pgD o3=O3 at *
 generalize pgD o4=O4 at *
 simp_arith [CN,hp1,NB,n1,s1,hp2,n2,s2,hp3,n3,s3,hp4,n4,hs4,hb4,hpe]
theorem WL {a:Nat} (ha:a < ms.length) (o:Option Nat) (ho:∀ j,o=some j->j < ms.length):BN.den [Ac (Aa ms f (h + 1)),Ai ms,.int f,.int μ,.int a,pgD o]=.ok (.bl true):=by
 obtain ⟨o1,F1,hf1,_⟩:=J6 hf hf8 H hh hn hn1 μ
 obtain ⟨o2,F2,hf2,_⟩:=R5 hf hf8 H hh hn μ ha
 obtain ⟨o3,F3,hf3,_⟩:=R6 hf hf8 H hh hn μ ha
 have io:o.getD ms.length<=ms.length:=by
  cases o with
  | none=>exact aaj _
  | some j=>have:=ho j rfl; show j<=ms.length; omega
 have r3:=Hf hf hf8 H hh hn ha o ho
 have l3:=VV hf hf8 H hh hn ha o ho
 obtain ⟨w1,z1,s1⟩:=VY hf hf8 H hh hn hn1 μ o io
 obtain ⟨w2,z2,s2⟩:=SD hf hf8 H hh hn hn1 μ o a io
 obtain ⟨w3,z3,s3⟩:=VZ hf hf8 H hh hn hn1 μ ha o ho
 have n1:=Jq hf hf8 H hh hn hn1 (BZ (h:=h) (show 1<=f by omega) io 200 0)
 have p1:=MA hf hf8 H hh hn hn1 (aat _) io
 have p2:=MA hf hf8 H hh hn hn1 (aaQ a (o.getD ms.length)) io
 have p3:=MA hf hf8 H hh hn hn1 l3.2.1 l3.2.2
 rw [l3.1] at p3
 have p1:Bb.den [Ai ms,.int f,.int 0,.int ((o.getD ms.length:Nat):Int)]=_:=p1
 have em:((min a (o.getD ms.length):Nat):Int)=min (a:Int) ((o.getD ms.length:Nat):Int):=by omega
 rw [em] at p2
 have hen:=WH ms.length o
 have hlr:=Qt hn ha o ho
 have e1:=Jr o1 o
 have e2:=Jr o2 o
 have e3:=Jr o3 o
 obtain ⟨en,hE,hev⟩:∃ en:Bool,(en=true ↔ Sa ms μ o)/\∀ o0 o2 o4 o6 o7 o8 o9 o10:Option D,ev (.bo false (.cons (.isN false (.nm 5)) (.cons (.cmp .ge (.ix (.nm 1) (.nm 5)) (.nm 3)) .nil))) [o0,some (Ai ms),o2,some (.int μ),o4,some (pgD o),o6,o7,o8,o9,o10]=.ok (.bl en):=by
  cases o with
  | none =>
   refine ⟨true,⟨fun _=>trivial,fun _=>rfl⟩,fun o0 o2 o4 o6 o7 o8 o9 o10=>?_⟩
   unfold pgD
   simp_arith []
  | some j =>
   have hj:=ho j rfl
   have hat:=OA hj
   have hge:ms[j]?=some (ms.getD j 0):=by rw [aap,aae hj]; rfl
   refine ⟨decide (μ<=ms.getD j 0),⟨fun z=>⟨_,hge,of_decide_eq_true z⟩,fun z=>?_⟩,fun o0 o2 o4 o6 o7 o8 o9 o10=>?_⟩
   ·obtain ⟨x,h1,h2⟩:=z
    rw [hge] at h1; cases h1
    exact decide_eq_true h2
   ·unfold pgD Ai
    clear hge
    generalize ms.getD j 0=r at *
    generalize ms.map D.int=R at *
    simp_arith [hat]
 have b1:(en && w1)=decide (o1=o):=J7 (by
  rw [hE,z1]
  have:=Js (ms:=ms) (μ:=μ) (a:=0) (aat _) o
  constructor
  ·rintro ⟨x,y⟩; exact HA F1 (this.mpr ⟨x,aat _,y⟩)
  ·rintro rfl; have:=this.mp F1; exact ⟨this.1,this.2.2⟩)
 have b2:(en && w2)=decide (o2=o):=J7 (by
  rw [hE,z2]
  have:=Js (ms:=ms) (μ:=μ) (a:=a) (by omega) o
  constructor
  ·intro x; exact HA F2 (this.mpr x)
  ·rintro rfl; exact this.mp F2)
 have b3:(en && w3)=decide (o3=o):=J7 (by
  rw [hE,z3]
  have:=Qw (ms:=ms) (μ:=μ) ha o ho
  constructor
  ·intro x; exact NO F3 (this.mpr x)
  ·rintro rfl; exact this.mp F3)
 have d1:BJ.dep=9:=P5
 have d2:AO.dep=9:=JL
 have d3:AC.dep=9:=HZ
 have d4:A4.dep=9:=KO
 have f9:∀ b,D.flat 9 9 (.bl b)=true:=fun b=>rfl
 have q1:=SE (decide (o1=o))
 have q2:=SE (decide (o2=o))
 have q3:=WK (decide (o3=o))
 have hlen:(((ms.map D.int).length:Nat):Int)=(ms.length:Int):=by rw [aac]
 have hbo:∀ (v:Bool) (x:E) (δ:Fr),ev x δ=.ok (.bl v)->get δ 7=.ok (.bl en)->ev (.bo true (.cons (.nm 7) (.cons x .nil))) δ=.ok (.bl (en && v)):=fun v x δ h1 h2=>by
  cases en with
  | true=>simp_arith [h2,h1,abA]
  | false=>simp_arith [h2,abi]
 rw [<- b1] at e1 q1
 rw [<- b2] at e2 q2
 rw [<- b3] at e3 q3
 have x1:∀ o2 o8 o10,ev (.bo true (.cons (.nm 7) (.cons (.callB AO (.cons (.nm 6) (.cons (.nm 3) (.cons (.nm 5) (.cons (.nm 9) .nil))))) .nil))) [some (Ac (Aa ms f (h + 1))),some (Ai ms),o2,some (.int μ),some (.int a),some (pgD o),some (shD ms.length f),some (.bl en),o8,some (.lst ((cov ms.length f h (o.getD ms.length) 200 0).map (Ao (Aa ms f (h + 1))))),o10]=.ok (.bl (en && w1)):=fun o2 o8 o10=>hbo w1 _ _ (by
  generalize (cov ms.length f h (o.getD ms.length) 200 0).map (Ao (Aa ms f (h + 1)))=P1 at *
  generalize shD ms.length f=s at *
  simp_arith [s1,d2,f9]) rfl
 have x2:∀ o2 o8 o10,ev (.bo true (.cons (.nm 7) (.cons (.callB AC (.cons (.nm 6) (.cons (.nm 3) (.cons (.nm 4) (.cons (.nm 5) (.cons (.nm 9) .nil)))))) .nil))) [some (Ac (Aa ms f (h + 1))),some (Ai ms),o2,some (.int μ),some (.int a),some (pgD o),some (shD ms.length f),some (.bl en),o8,some (.lst ((cov ms.length f h (o.getD ms.length) 200 (min a (o.getD ms.length))).map (Ao (Aa ms f (h + 1))))),o10]=.ok (.bl (en && w2)):=fun o2 o8 o10=>hbo w2 _ _ (by
  generalize (cov ms.length f h (o.getD ms.length) 200 (min a (o.getD ms.length))).map (Ao (Aa ms f (h + 1)))=P1 at *
  generalize shD ms.length f=s at *
  simp_arith [s2,d3,f9]) rfl
 have x3:∀ o2 o8 o10,ev (.bo true (.cons (.nm 7) (.cons (.callB A4 (.cons (.nm 6) (.cons (.nm 3) (.cons (.nm 4) (.cons (.nm 5) (.cons (.nm 9) .nil)))))) .nil))) [some (Ac (Aa ms f (h + 1))),some (Ai ms),o2,some (.int μ),some (.int a),some (pgD o),some (shD ms.length f),some (.bl en),o8,some (.lst ((cov ms.length f h (nrR ms.length a o).2 200 (nrR ms.length a o).1).map (Ao (Aa ms f (h + 1))))),o10]=.ok (.bl (en && w3)):=fun o2 o8 o10=>hbo w3 _ _ (by
  generalize (cov ms.length f h (nrR ms.length a o).2 200 (nrR ms.length a o).1).map (Ao (Aa ms f (h + 1)))=P1 at *
  generalize shD ms.length f=s at *
  simp_arith [s3,d4,f9]) rfl
 refine (Jg _ rfl).trans (Ae ?_)
 clear hbo b1 b2 b3 z1 z2 z3 hE F1 F2 F3 s1 s2 s3 l3 em
 generalize hB0:E.bo false (.cons (.isN false (.nm 5)) (.cons (.cmp .ge (.ix (.nm 1) (.nm 5)) (.nm 3)) .nil))=B0 at *
 generalize hB1:E.bo true (.cons (.nm 7) (.cons (.callB AO (.cons (.nm 6) (.cons (.nm 3) (.cons (.nm 5) (.cons (.nm 9) .nil))))) .nil))=B1 at *
 generalize hB2:E.bo true (.cons (.nm 7) (.cons (.callB AC (.cons (.nm 6) (.cons (.nm 3) (.cons (.nm 4) (.cons (.nm 5) (.cons (.nm 9) .nil)))))) .nil))=B2 at *
 generalize hB3:E.bo true (.cons (.nm 7) (.cons (.callB A4 (.cons (.nm 6) (.cons (.nm 3) (.cons (.nm 4) (.cons (.nm 5) (.cons (.nm 9) .nil)))))) .nil))=B3 at *
 rw [Dd,hB0,hB1,hB2,hB3]
 have es:shD ms.length f=.tup [.int ms.length,.int f]:=rfl
 rw [es] at x1 x2 x3
 generalize (cov ms.length f h (o.getD ms.length) 200 0).map (Ao (Aa ms f (h + 1)))=P1 at *
 generalize (cov ms.length f h (o.getD ms.length) 200 (min a (o.getD ms.length))).map (Ao (Aa ms f (h + 1)))=P2 at *
 generalize (cov ms.length f h (nrR ms.length a o).2 200 (nrR ms.length a o).1).map (Ao (Aa ms f (h + 1)))=P3 at *
 generalize Ac (Aa ms f (h + 1))=T at *
 generalize ((o.getD ms.length:Nat):Int)=e at *
 generalize (((nrL ms.length a o).2:Nat):Int)=e6 at *
 generalize (((nrL ms.length a o).1:Nat):Int)=e7 at *
 generalize pgD o1=O1 at *
 generalize pgD o2=O2 at *
 generalize pgD o3=O3 at *
 generalize pgD o=O at *
 unfold Ai at *
 generalize ms.map D.int=R at *
 simp_arith [hlen,hev,hen,p1,n1,d1,f9,x1,hf1,e1,q1,p2,x2,hf2,e2,q2,hlr,NB,p3,x3,hf3,e3,q3]
end
theorem WM {ms:List Int} {f h:Nat} (hf:2<=f) (hf8:f<=8) (H:Hs ms.length f h) (hh:h<=8) (hn:ms.length<=200) (hn1:1<=ms.length) (hb:∀ r ∈ ms,0<=r) (ns:List Int) {a:Nat} (ha:a < ms.length) (y0 y1:Int) (i:Nat) (o7 o8 o9:Option D):∃ p7 p8 p9,exs D6 [some (.lst (ns.map .int)),some (Ai ms),some (.int f),some (Ac (Aa ms f (h + 1))),some (.int a),some (.lst [.int y0,.int y1]),some (.int i),o7,o8,o9]=.nxt [some (.lst (ns.map .int)),some (Ai ms),some (.int f),some (Ac (Aa ms f (h + 1))),some (.int a),some (.lst [.int y0,.int y1]),some (.int i),p7,p8,p9]:=by
 obtain ⟨μ,hq0,hq⟩:=RV ns (2 + (i:Int)) (by omega) ms hb hn
 have ht:=V0 hf hf8 H hh hn hn1 μ ha
 have hlen:(((ms.map D.int).length:Nat):Int)=(ms.length:Int):=by rw [aac]
 obtain ⟨o1,F1,hf1,_⟩:=J6 hf hf8 H hh hn hn1 μ
 obtain ⟨o2,F2,hf2,_⟩:=R5 hf hf8 H hh hn μ ha
 obtain ⟨o3,F3,hf3,_⟩:=R6 hf hf8 H hh hn μ ha
 obtain ⟨u1,G1,e1⟩:=My ms μ hn (aat _)
 obtain ⟨u2,G2,e2⟩:=My ms μ hn (abK ha)
 obtain ⟨u3,G3,e3⟩:=Qs ms μ hn a
 cases HA F1 G1
 cases HA F2 G2
 cases NO F3 G3
 have e1:BM.den [Ai ms,.int μ,.int 0]=.ok (pgD o1):=e1
 have hfs:∀ {b:Nat} {o:Option Nat},FsA ms μ b o->∀ j,o=some j->j < ms.length:=fun F j e=>by
  subst e
  obtain ⟨_,⟨x,g2,_⟩,_⟩:=F
  exact (aak.mp g2).1
 have v1:=hfs F1
 have v2:=hfs F2
 have v3:=OG hf hf8 H hh hn F3
 have hpg:∀ (o:Option Nat) (k:Nat),D.shp (k + 1) (pgD o)=true:=fun o k=>by cases o <;> rfl
 have hself:=Oz (.lst [pgD o1,pgD o2,pgD o3]) (by
  show [pgD o1,pgD o2,pgD o3].all (D.shp 7)=true
  simp only [aaG,List.all_nil,hpg,acL])
 have g1:=Ff o1
 have g2:=Ff o2
 have g3:=Ff o3
 have d1:Cc.dep=0:=Mj
 have d2:AJ.dep=0:=Jc
 have d3:Da.dep=0:=Nu
 have d4:BB.dep=9:=Ih
 have d5:BN.dep=9:=Jh
 have f9:D.flat 9 9 (.bl true)=true:=rfl
 have hpp:0 < (ms.length:Int):=by omega
 obtain ⟨i0,hi0,m0⟩:=J1 (y:=y0) (n:=ms.length) (by omega)
 obtain ⟨i1,hi1,m1⟩:=J1 (y:=y1) (n:=ms.length) (by omega)
 have hcm:=CW (nl:=1) (fr:=[1]) (tg:=.nm 0) (it:=.seqL (.nm 5)) (elt:=.bin .mod (.nm 0) (.bi .len (.cons (.nm 1) .nil))) (δ:=[some (.lst (ns.map .int)),some (Ai ms),some (.int f),some (Ac (Aa ms f (h + 1))),some (.int a),some (.lst [.int y0,.int y1]),some (.int i),some (.int μ),some (.lst [pgD o1,pgD o2,pgD o3]),o9]) (ds:=[.int y0,.int y1]) (g:=fun d=>match d with | .int y=>.int (y % (ms.length:Int)) | d=>d) (by
   simp_arith []) (fun d hd=>by
  obtain ⟨y,rfl⟩:∃ y,d=.int y:=by
   simp only [aai,abv,or_false] at hd
   rcases hd with rfl | rfl <;> exact ⟨_,rfl⟩
  refine ⟨[some (.int y),some (Ai ms)],rfl,?_⟩
  unfold Ai
  generalize ms.map D.int=R at *
  simp_arith [hlen,hpp])
 have hcm:ev (.comp0 1 [1] (.nm 0) (.seqL (.nm 5)) (.bin .mod (.nm 0) (.bi .len (.cons (.nm 1) .nil)))) [some (.lst (ns.map .int)),some (Ai ms),some (.int f),some (Ac (Aa ms f (h + 1))),some (.int a),some (.lst [.int y0,.int y1]),some (.int i),some (.int μ),some (.lst [pgD o1,pgD o2,pgD o3]),o9]=.ok (.lst [.int (y0 % (ms.length:Int)),.int (y1 % (ms.length:Int))]):=hcm
 rw [m0,m1] at hcm
 have a1:=Gg [pgD o1,pgD o2,pgD o3] [.non] (by simp)
 have a2:=Gg [pgD o1,pgD o2,pgD o3,.non] [.int i0,.int i1] (by simp)
 have a1:b2 .add (.lst [pgD o1,pgD o2,pgD o3]) (.lst [.non])=.ok (.lst [pgD o1,pgD o2,pgD o3,.non]):=a1
 have a2:b2 .add (.lst [pgD o1,pgD o2,pgD o3,.non]) (.lst [.int i0,.int i1])=.ok (.lst [pgD o1,pgD o2,pgD o3,.non,.int i0,.int i1]):=a2
 obtain ⟨δ',el,o9',rfl⟩:=Bg (tg:=.nm 9) (b:=exs D5) (fun _ δ=>∃ o9,δ=[some (.lst (ns.map .int)),some (Ai ms),some (.int f),some (Ac (Aa ms f (h + 1))),some (.int a),some (.lst [.int y0,.int y1]),some (.int i),some (.int μ),some (.lst [pgD o1,pgD o2,pgD o3]),o9]) (ds:=[pgD o1,pgD o2,pgD o3,.non,.int i0,.int i1]) (δ:=[some (.lst (ns.map .int)),some (Ai ms),some (.int f),some (Ac (Aa ms f (h + 1))),some (.int a),some (.lst [.int y0,.int y1]),some (.int i),some (.int μ),some (.lst [pgD o1,pgD o2,pgD o3]),o9]) 0 ⟨o9,rfl⟩ (by
  rintro n d δ hd ⟨o9,rfl⟩
  obtain ⟨o,rfl,ho⟩:∃ o:Option Nat,d=pgD o/\∀ j,o=some j->j < ms.length:=by
   have:=aaf hd
   simp only [aai,abv,or_false] at this
   rcases this with rfl | rfl | rfl | rfl | rfl | rfl
   ·exact ⟨o1,rfl,v1⟩
   ·exact ⟨o2,rfl,v2⟩
   ·exact ⟨o3,rfl,v3⟩
   ·exact ⟨none,rfl,fun j e=>nomatch e⟩
   ·exact ⟨some i0,rfl,fun j e=>by cases e; exact hi0⟩
   ·exact ⟨some i1,rfl,fun j e=>by cases e; exact hi1⟩
  have h1:=WL hf hf8 H hh hn hn1 μ ha o ho
  refine ⟨_,_,rfl,?_,some (pgD o),rfl⟩
  show exs D5 [some (.lst (ns.map .int)),some (Ai ms),some (.int f),some (Ac (Aa ms f (h + 1))),some (.int a),some (.lst [.int y0,.int y1]),some (.int i),some (.int μ),some (.lst [pgD o1,pgD o2,pgD o3]),some (pgD o)]=_
  clear hd
  generalize Ac (Aa ms f (h + 1))=T at *
  generalize Ai ms=R at *
  generalize pgD o=O at *
  generalize ns.map D.int=N at *
  simp_arith [D5,h1,d5,f9])
 refine ⟨some (.int μ),some (.lst [pgD o1,pgD o2,pgD o3]),o9',?_⟩
 have es:shD ms.length f=.tup [.int ms.length,.int f]:=rfl
 rw [es] at ht
 generalize hC:E.comp0 1 [1] (.nm 0) (.seqL (.nm 5)) (.bin .mod (.nm 0) (.bi .len (.cons (.nm 1) .nil)))=C at *
 rw [D6,hC]
 clear hpg v1 v2 v3 hfs F1 F2 F3 G1 G2 G3
 generalize Ac (Aa ms f (h + 1))=T at *
 generalize pgD o1=O1 at *
 generalize pgD o2=O2 at *
 generalize pgD o3=O3 at *
 unfold Ai at *
 generalize ms.map D.int=R at *
 generalize ns.map D.int=N at *
 simp_arith [hq,hlen,ht,d4,f9,e1,e2,e3,hf1,hf2,hf3,d1,d2,d3,g1,g2,g3,hself,a1,hcm,a2,el]
theorem Xb {xs:List Int} (h:xs.length=2):∃ a b,xs=[a,b]:=by
 match xs,h with
 | [a,b],_=>exact ⟨a,b,rfl⟩
theorem Ui:∀ ns:List Int,ns.length<=63->Gy.den [.lst (ns.map .int)]=.ok (.bl true):=by
 intro ns _
 obtain ⟨rs,hl,hb0,hr0⟩:=Qc ns 0 (by decide) 29 (by decide)
 obtain ⟨zs,hrz,hzl,hzb⟩:=Fe ns 5 (by decide) [9] (by decide) (by decide)
 obtain ⟨z,rfl⟩:=RL hzl
 have hz:=hzb 0 z _ rfl rfl
 obtain ⟨xs,hrx,hxl,_⟩:=Fe ns 6 (by decide) [50] (by decide) (by decide)
 obtain ⟨x,rfl⟩:=RL hxl
 obtain ⟨ys,hry,hyl,_⟩:=Fe ns 7 (by decide) [50,50] (by decide) (by decide)
 obtain ⟨y0,y1,rfl⟩:=Xb hyl
 simp only [abS] at hrz hrx hry
 obtain ⟨ms,hms⟩:∃ ms,ms=rs ++ [z]:=⟨_,rfl⟩
 have hadd:=Gg (rs.map D.int) [.int z] (by rw [aac]; simp; omega)
 have em:rs.map D.int ++ [.int z]=ms.map .int:=by rw [hms,aao]; rfl
 rw [em] at hadd
 have hn:ms.length<=200:=by rw [hms]; simp; omega
 have hn1:1<=ms.length:=by rw [hms]; simp
 have hb:∀ r ∈ ms,0<=r:=fun r hr=>by
  rw [hms] at hr
  rcases aag.mp hr with c | c
  ·exact (hb0 r c).1
  ·rw [aaF.mp c]; exact hz.1
 have hr0:Cd.den [.lst (ns.map .int),.int 0,.int 29]=.ok (.lst (rs.map .int)):=hr0
 obtain ⟨f,hf,hf8,hfan⟩:=Ua ns 1 (by decide)
 obtain ⟨h,hh,H⟩:=hs8 hf hn1 hn
 have htr:=Mu hf hf8 H hh hn hn1
 obtain ⟨a,ha,ea⟩:=J1 (y:=x) (n:=ms.length) (by omega)
 have hft:=Qg (Aa ms f (h + 1))
 have d1:Bo.dep=2:=Je
 have a1z:∀ d:D,atD [d] 0=.ok d:=fun d=>rfl
 have hpp:0 < (ms.length:Int):=by omega
 have hlen:(((ms.map D.int).length:Nat):Int)=(ms.length:Int):=by rw [aac]
 have hr3:=BI (a:=0) (b:=3) (by omega) (by omega) (by omega) (by omega)
 obtain ⟨δ',e1,o6,o7,o8,o9,rfl⟩:=Bg (tg:=.nm 6) (b:=exs D6) (fun _ δ=>∃ o6 o7 o8 o9,δ=[some (.lst (ns.map .int)),some (Ai ms),some (.int f),some (Ac (Aa ms f (h + 1))),some (.int a),some (.lst [.int y0,.int y1]),o6,o7,o8,o9]) (ds:=Ar 0 3) (δ:=[some (.lst (ns.map .int)),some (Ai ms),some (.int f),some (Ac (Aa ms f (h + 1))),some (.int a),some (.lst [.int y0,.int y1]),none,none,none,none]) 0 ⟨none,none,none,none,rfl⟩ (by
  rintro i d δ hd ⟨o6,o7,o8,o9,rfl⟩
  obtain ⟨j,rfl,_⟩:=Gz (aaf hd)
  obtain ⟨p7,p8,p9,e⟩:=WM hf hf8 H hh hn hn1 hb ns ha y0 y1 j o7 o8 o9
  exact ⟨_,_,rfl,e,some (.int j),p7,p8,p9,rfl⟩)
 refine (Ot _ rfl).trans (Ae ?_)
 clear hms em hb hb0
 generalize Ac (Aa ms f (h + 1))=T at *
 unfold Ai at *
 generalize ms.map D.int=M at *
 generalize rs.map D.int=R at *
 generalize ns.map D.int=N at *
 simp_arith [FO,hr0,hrz,a1z,hadd,hfan,htr,d1,hft,hrx,hlen,hpp,ea,hry,hr3,e1]
end Pu
end
namespace Pu
open PySem PySem.Spec PyProof.Rows PySem.W L2
noncomputable def top (i:Nat):Stmt:=PySem.Challenge.pw_ullage_k48_whole_papers_show.main.body.getD i (.Pass ⟨0,0,0,0⟩)
theorem MT:dfB ["thing"] ["thing"] (top 5) IV 9=true:=by decide +kernel
theorem KY:dfB ["thing", "least", "most"] ["thing", "least", "most"] (top 6) DR 9=true:=by decide +kernel
theorem Qx:dfB ["shape", "fan", "counts", "many"] ["shape"] (top 8) Fo 1=true:=by decide +kernel
theorem Hg:dfB ["counts", "thing"] ["counts", "thing"] (top 10) AZ 9=true:=by decide +kernel
theorem OI:dfB ["shape", "thing"] ["shape", "thing"] (top 9) EC 9=true:=by decide +kernel
theorem KZ:dfB ["shape", "thing"] ["shape", "thing"] (top 11) DT 9=true:=by decide +kernel
theorem Uj:dfB ["shape", "node", "width", "level", "begin"] ["shape", "node"] (top 12) IX 0=true:=by decide +kernel
theorem V1:dfB ["shape", "counts"] ["shape"] (top 15) Le 1=true:=by decide +kernel
theorem Qy:dfB ["shape", "node"] ["shape", "node"] (top 13) Fp 1=true:=by decide +kernel
theorem MU:dfB ["shape", "node", "beneath", "begin", "end"] ["shape", "node"] (top 14) DU 1=true:=by decide +kernel
theorem MD:dfB ["tree"] ["tree"] (top 17) Ew 9=true:=by decide +kernel
theorem MV:dfB ["tree"] ["tree"] (top 18) EW 1=true:=by decide +kernel
theorem MW:dfB ["tree", "fan"] ["tree", "fan"] (top 19) EY 0=true:=by decide +kernel
theorem MX:dfB ["tree", "thing"] ["tree", "thing"] (top 20) DV 9=true:=by decide +kernel
theorem HE:dfB ["tree", "thing"] ["tree", "thing"] (top 21) Ca 9=true:=by decide +kernel
theorem Sb:dfB ["tree", "node"] ["tree", "node"] (top 22) Ht 0=true:=by decide +kernel
theorem ME:dfB ["tree", "nodes"] ["tree", "nodes"] (top 23) Ex 1=true:=by decide +kernel
theorem J8:dfB ["shape", "begin", "page"] ["shape", "begin", "page"] (top 28) Ck 0=true:=by decide +kernel
theorem MF:dfB ["shape", "pages", "paper", "reached", "entry", "node"] ["shape", "pages", "paper"] (top 31) Ds 9=true:=by decide +kernel
theorem MG:dfB ["shape", "need", "pages", "paper"] ["shape", "need", "pages", "paper"] (top 30) Dt 9=true:=by decide +kernel
theorem J9:dfB ["shape", "need", "page", "paper"] ["shape", "need", "page", "paper"] (top 25) DA 9=true:=by decide +kernel
theorem Ir:dfB ["shape", "need", "at", "page", "paper"] ["shape", "need", "at", "page", "paper"] (top 26) CC 9=true:=by decide +kernel
theorem Jt:dfB ["shape", "at", "page", "far"] ["shape", "at", "page"] (top 29) By 0=true:=by decide +kernel
theorem K0:dfB ["shape", "need", "at", "page", "paper"] ["shape", "need", "at", "page", "paper"] (top 27) DW 9=true:=by decide +kernel
theorem MH:dfB ["need", "paper", "fitting", "least"] ["need", "paper"] (top 33) Du 0=true:=by decide +kernel
theorem K1:dfB ["shape", "need", "page", "paper"] ["shape", "need", "page", "paper"] (top 32) DX 9=true:=by decide +kernel
theorem OJ:dfB ["tree", "entry", "node"] ["tree", "entry"] (top 35) FK 9=true:=by decide +kernel
theorem Qz:dfB ["tree", "paper"] ["tree", "paper"] (top 34) Gw 9=true:=by decide +kernel
theorem Ka:dfB ["pages", "begin", "end"] ["pages", "begin", "end"] (top 39) DB 9=true:=by decide +kernel
theorem HF:dfB ["shape", "begin", "end", "node", "above"] ["shape", "begin", "end"] (top 38) Cb 0=true:=by decide +kernel
theorem Sd:dfB ["shape", "begin", "end", "nodes", "at", "node"] ["shape", "begin", "end"] (top 37) Hu 1=true:=by decide +kernel
theorem K2:dfB ["shape", "page"] ["shape", "page"] (top 40) DY 9=true:=by decide +kernel
theorem Ju:dfB ["tree", "need", "nodes", "looks", "node"] ["tree", "need", "nodes"] (top 43) BU 1=true:=by decide +kernel
theorem QA:dfB ["tree", "fan", "need", "begin", "shape", "walk", "nodes", "looks"] ["tree", "fan", "need", "begin"] (top 42) Fu 1=true:=by decide +kernel
theorem K3:dfB ["tree", "fan", "need", "begin", "walk"] ["tree", "fan", "need", "begin"] (top 46) CS 0=true:=by decide +kernel
theorem Se:dfB ["tree", "fan", "need"] ["tree", "fan", "need"] (top 45) Hv 0=true:=by decide +kernel
theorem Kb:dfB ["tree", "need", "nodes", "node"] ["tree", "need", "nodes"] (top 48) Cm 0=true:=by decide +kernel
theorem K4:dfB ["tree", "fan", "need", "end", "shape", "node"] ["tree", "fan", "need", "end"] (top 47) CT 0=true:=by decide +kernel
theorem OK:dfB ["tree", "fan", "need", "at"] ["tree", "fan", "need", "at"] (top 49) FM 0=true:=by decide +kernel
theorem Uk:dfB ["tree", "fan", "need", "at", "behind", "ahead"] ["tree", "fan", "need", "at"] (top 50) Fv 0=true:=by decide +kernel
theorem Ul:dfB ["tree", "fan", "need", "rooms", "fitting"] ["tree", "fan", "need"] (top 51) G6 9=true:=by decide +kernel
theorem K5:dfB ["tree", "fan", "pages"] ["tree", "fan", "pages"] (top 56) DZ 1=true:=by decide +kernel
theorem Ke:dfB ["tree", "fan", "need", "page"] ["tree", "fan", "need"] (top 53) DC 1=true:=by decide +kernel
theorem Iu:dfB ["tree", "fan", "need", "at", "page"] ["tree", "fan", "need", "at"] (top 54) CG 1=true:=by decide +kernel
theorem K6:dfB ["tree", "fan", "need", "at", "page"] ["tree", "fan", "need", "at"] (top 55) D0 1=true:=by decide +kernel
theorem E8:dfB ["tree", "shape", "need", "nodes", "waiting", "node"] ["tree", "shape", "need"] (top 58) AW 1=true:=by decide +kernel
theorem K7:dfB ["tree", "fan", "need", "nodes"] ["tree", "fan", "need"] (top 57) D1 1=true:=by decide +kernel
theorem MY:dfB ["_law_script", "_law_place", "_law_seed", "_law_cell_here"] ["_law_script", "_law_place"] (top 60) D2 0=true:=by decide +kernel
theorem Kf:dfB ["_law_cell_here", "_law_k", "_law_one", "_law_two"] ["_law_cell_here", "_law_k"] (top 61) DD 1=true:=by decide +kernel
theorem Kg:dfB ["_law_script", "_law_place", "_law_sizes", "_law_cell_here", "_law_left", "_law_some", "_law_k", "_law_other"] ["_law_script", "_law_place", "_law_sizes"] (top 62) DE 2=true:=by decide +kernel
theorem Iv:dfB ["_law_script", "_law_place", "_law_most", "_law_some", "_law_scale", "_law_rooms_here", "_law_k", "_law_here"] ["_law_script", "_law_place", "_law_most"] (top 63) CI 2=true:=by decide +kernel
theorem Kh:dfB ["_law_script", "_law_place"] ["_law_script", "_law_place"] (top 64) DF 1=true:=by decide +kernel
theorem Jv:dfB ["_law_script", "_law_place", "_law_rooms_here", "_law_some", "_law_here"] ["_law_script", "_law_place", "_law_rooms_here"] (top 65) A9 0=true:=by decide +kernel
theorem HG:dfB ["_law_pages", "_law_fan_here", "_law_found"] ["_law_pages", "_law_fan_here"] (top 66) Ce 1=true:=by decide +kernel
theorem Iw:dfB ["_law_pages", "_law_fan_here", "_law_level", "_law_place", "_law_wide", "_law_k"] ["_law_pages", "_law_fan_here", "_law_level", "_law_place"] (top 67) CK 1=true:=by decide +kernel
theorem Jw:dfB ["_law_rooms_here", "_law_fan_here", "_law_tree_here", "_law_counts_here", "_law_level", "_law_row_here", "_law_place", "_law_begin", "_law_end_here"] ["_law_rooms_here", "_law_fan_here"] (top 69) Dc 2=true:=by decide +kernel
theorem Ix:dfB ["_law_pages", "_law_fan_here", "_law_begin", "_law_end_here", "_law_found", "_law_at", "_law_wide", "_law_node", "_law_level", "_law_high"] ["_law_pages", "_law_fan_here", "_law_begin", "_law_end_here"] (top 70) CL 2=true:=by decide +kernel
theorem K8:dfB ["_law_pages", "_law_at", "_law_page", "_law_far", "_law_some"] ["_law_pages", "_law_at", "_law_page"] (top 71) CU 0=true:=by decide +kernel
theorem Jx:dfB ["_law_rooms_here", "_law_need_here", "_law_at", "_law_some"] ["_law_rooms_here", "_law_need_here", "_law_at"] (top 72) BV 0=true:=by decide +kernel
theorem Iy:dfB ["_law_rooms_here", "_law_fan_here", "_law_begin", "_law_end_here", "_law_tree_here"] ["_law_rooms_here", "_law_fan_here", "_law_begin", "_law_end_here"] (top 73) CM 1=true:=by decide +kernel
theorem Jy:dfB ["_law_rooms_here", "_law_need_here", "_law_at", "_law_page"] ["_law_rooms_here", "_law_need_here", "_law_at"] (top 74) BW 0=true:=by decide +kernel
theorem OL:dfB ["_law_page", "_law_pages"] ["_law_page", "_law_pages"] (top 75) ED 0=true:=by decide +kernel
theorem Iz:dfB ["_law_tree_here", "_law_fan_here", "_law_need_here", "_law_at", "_law_shape", "_law_page", "_law_paper_here"] ["_law_tree_here", "_law_fan_here", "_law_need_here", "_law_at", "_law_shape"] (top 76) CN 9=true:=by decide +kernel
theorem Jz:dfB ["_law_tree_here", "_law_rooms_here", "_law_fan_here", "_law_need_here", "_law_at", "_law_page", "_law_shape", "_law_enough", "_law_end_here", "_law_paper_here", "_law_begin"] ["_law_tree_here", "_law_rooms_here", "_law_fan_here", "_law_need_here", "_law_at", "_law_page"] (top 77) Dd 9=true:=by decide +kernel
theorem OM:dfB ["_law_script", "_law_rooms_here", "_law_fan_here", "_law_tree_here", "_law_at", "_law_some", "_law_k", "_law_need_here", "_law_due", "_law_page"] ["_law_script"] (top 78) FO 9=true:=by decide +kernel
set_option maxHeartbeats 0 in
theorem V2 {l:PySem.W.OpenLaw} {w:World} {K:PySem.W.Frag} {h:Heap} {mg:Str->Option Value} {fa:Addr} {C2 C3:Addr} (X:K.In h) (G:h.Ns mainGlobals mg) (hfa:mg "law" = some (.ref fa)) (t0:Ap K "is_whole" (top 5)) (t1:Ap K "is_between" (top 6)) (t2:Ap K "levels" (top 8)) (t3:Ap K "is_counted_node" (top 10)) (t4:Ap K "is_node" (top 9)) (t5:Ap K "check_node" (top 11)) (t6:Ap K "span" (top 12)) (t7:Ap K "top" (top 15)) (t8:Ap K "parent" (top 13)) (t9:Ap K "children" (top 14)) (t10:Ap K "counts_of" (top 17)) (t11:Ap K "rooms_of" (top 18)) (t12:Ap K "shape_of" (top 19)) (t13:Ap K "has_node" (top 20)) (t14:Ap K "check_has_node" (top 21)) (t15:Ap K "tells" (top 22)) (t16:Ap K "with_told" (top 23)) (t17:Ap K "pages_up_to" (top 28)) (t18:Ap K "lies_over" (top 31)) (t19:Ap K "rules_out" (top 30)) (t20:Ap K "shows_first" (top 25)) (t21:Ap K "shows_further" (top 26)) (t22:Ap K "nearer_pages" (top 29)) (t23:Ap K "shows_near" (top 27)) (t24:Ap K "best_told" (top 33)) (t25:Ap K "shows_best" (top 32)) (t26:Ap K "is_true" (top 35)) (t27:Ap K "honest" (top 34)) (t28:Ap K "lies_within" (top 39)) (t29:Ap K "highest_within" (top 38)) (t30:Ap K "cover" (top 37)) (t31:Ap K "check_page" (top 40)) (t32:Ap K "up_to_enough" (top 43)) (t33:Ap K "walked" (top 42)) (t34:Ap K "first_from" (top 46)) (t35:Ap K "first" (top 45)) (t36:Ap K "last_enough" (top 48)) (t37:Ap K "last_ahead" (top 47)) (t38:Ap K "further" (top 49)) (t39:Ap K "near" (top 50)) (t40:Ap K "best" (top 51)) (t41:Ap K "paper_over" (top 56)) (t42:Ap K "first_paper" (top 53)) (t43:Ap K "further_paper" (top 54)) (t44:Ap K "near_paper" (top 55)) (t45:Ap K "nodes_with_each_enough" (top 58)) (t46:Ap K "best_paper" (top 57)) (t47:Ap K "_law_cell" (top 60)) (t48:Ap K "_law_mix" (top 61)) (t49:Ap K "_law_row" (top 62)) (t50:Ap K "_law_rooms" (top 63)) (t51:Ap K "_law_fan" (top 64)) (t52:Ap K "_law_need" (top 65)) (t53:Ap K "_law_counts" (top 66)) (t54:Ap K "_law_reach" (top 67)) (t55:Ap K "_law_tree" (top 69)) (t56:Ap K "_law_cover" (top 70)) (t57:Ap K "_law_nearer" (top 71)) (t58:Ap K "_law_near" (top 72)) (t59:Ap K "_law_paper" (top 73)) (t60:Ap K "_law_from" (top 74)) (t61:Ap K "_law_end" (top 75)) (t62:Ap K "_law_told_ones" (top 76)) (t63:Ap K "_law_own_ones" (top 77)) (t64:Ap K "law" (top 78)) (n_len:nsIn K mainGlobals "len" = some none) (n_min:nsIn K mainGlobals "min" = some none) (n_max:nsIn K mainGlobals "max" = some none) (n_abs:nsIn K mainGlobals "abs" = some none) (n_int:nsIn K mainGlobals "int" = some none) (n_list:nsIn K mainGlobals "list" = some none) (n_tuple:nsIn K mainGlobals "tuple" = some none) (n_all:nsIn K mainGlobals "all" = some none) (n_any:nsIn K mainGlobals "any" = some none) (n_sum:nsIn K mainGlobals "sum" = some none) (n_sorted:nsIn K mainGlobals "sorted" = some none) (n_isinstance:nsIn K mainGlobals "isinstance" = some none) (n_str:nsIn K mainGlobals "str" = some none) (n_range:nsIn K mainGlobals "range" = some none) (n_enumerate:nsIn K mainGlobals "enumerate" = some none) (n_zip:nsIn K mainGlobals "zip" = some none) (n_reversed:nsIn K mainGlobals "reversed" = some none) (n_bool:nsIn K mainGlobals "bool" = some none) (n_dict:nsIn K mainGlobals "dict" = some none) (n_ValueError:nsIn K mainGlobals "ValueError" = some none) (c2:ClsF K "NoNode" C2) (c3:ClsF K "NoPage" C3) (e2:excIn K C2 HP "ValueError.__new__" = true) (e3:excIn K C3 HP "ValueError.__new__" = true) (y2_2:kitOne K (.ref C2) (.ref C2)=some true) (y2_3:kitOne K (.ref C2) (.ref C3)=some false) (y3_2:kitOne K (.ref C3) (.ref C2)=some false) (y3_3:kitOne K (.ref C3) (.ref C3)=some true) (nl:noL K=true)
  (hden:∀ ns:List Int,ns.length<=63->Gy.den [.lst (ns.map .int)]=.ok (.bl true)) :
  ∃ fd:FuncData,(∀ (s:Shared) (v:Value),BindsTo s fd ⟨[v],[]⟩ [("_law_script",v)])/\∀ base:Heap,K.In base->base.Ns mainGlobals mg->FnOk l.prog w K mg base (CXe l.prog w) 15 fa fd ["_law_script"] (spL K):=by
 have O:∀ base:Heap,Lw.Ok ⟨⟨K,clA [(2,C2),(3,C3)],DH [(2,C2),(3,C3)]⟩,l.prog,w,mg,base⟩:=fun base=>WB rfl X G ⟨n_len,n_min,n_max,n_abs,n_int,n_list,n_tuple,n_all,n_any,n_sum,n_sorted,n_isinstance,n_str,n_range,n_enumerate,n_zip,n_reversed,n_bool,n_dict,n_ValueError,trivial⟩ ⟨c2,c3,trivial⟩ ⟨⟨y2_2,y2_3,trivial⟩,⟨y3_2,y3_3,trivial⟩,trivial⟩
 refine TZ (cs:=[(2,C2),(3,C3)]) (lv:=14) X G hfa t64 OM (fun _ _ _ _ _ _ s v=>.of_eq rfl) O (fun base=>?_) nl hden
 have rs2:=(⟨rfl,c2.q,e2⟩:NeedG ⟨⟨K,clA [(2,C2),(3,C3)],DH [(2,C2),(3,C3)]⟩,l.prog,w,mg,base⟩ 0 (.rs 2))
 have cl2:=(⟨rfl,PySem.W.mg_of X G c2.q⟩:NeedG ⟨⟨K,clA [(2,C2),(3,C3)],DH [(2,C2),(3,C3)]⟩,l.prog,w,mg,base⟩ 0 (.cl 2))
 have rs3:=(⟨rfl,c3.q,e3⟩:NeedG ⟨⟨K,clA [(2,C2),(3,C3)],DH [(2,C2),(3,C3)]⟩,l.prog,w,mg,base⟩ 0 (.rs 3))
 have cl3:=(⟨rfl,PySem.W.mg_of X G c3.q⟩:NeedG ⟨⟨K,clA [(2,C2),(3,C3)],DH [(2,C2),(3,C3)]⟩,l.prog,w,mg,base⟩ 0 (.cl 3))
 have h_is_whole:=Ah (lv:=0) (O base) (Ag X G t0 fun _ _ _ _ _ _=>ba1 fun _=>rfl) MT trivial
 have h_is_between:=Ah (lv:=1) (O base) (Ag X G t1 fun _ _ _ _ _ _=>ba3 fun _ _ _=>rfl) KY ⟨⟨by decide,h_is_whole⟩,trivial⟩
 have h_levels:=Ah (lv:=0) (O base) (Ag X G t2 fun _ _ _ _ _ _=>ba1 fun _=>rfl) Qx trivial
 have h_is_counted_node:=Ah (lv:=2) (O base) (Ag X G t3 fun _ _ _ _ _ _=>ba2 fun _ _=>rfl) Hg ⟨⟨by decide,h_is_between⟩,⟨by decide,h_is_between⟩,trivial⟩
 have h_is_node:=Ah (lv:=3) (O base) (Ag X G t4 fun _ _ _ _ _ _=>ba2 fun _ _=>rfl) OI ⟨⟨by decide,h_is_counted_node⟩,⟨by decide,h_levels⟩,trivial⟩
 have h_check_node:=Ah (lv:=4) (O base) (Ag X G t5 fun _ _ _ _ _ _=>ba2 fun _ _=>rfl) KZ ⟨⟨by decide,h_is_node⟩,rs2,trivial⟩
 have h_span:=Ah (lv:=5) (O base) (Ag X G t6 fun _ _ _ _ _ _=>ba2 fun _ _=>rfl) Uj ⟨⟨by decide,h_check_node⟩,trivial⟩
 have h_top:=Ah (lv:=1) (O base) (Ag X G t7 fun _ _ _ _ _ _=>ba1 fun _=>rfl) V1 ⟨⟨by decide,h_levels⟩,trivial⟩
 have h_parent:=Ah (lv:=5) (O base) (Ag X G t8 fun _ _ _ _ _ _=>ba2 fun _ _=>rfl) Qy ⟨⟨by decide,h_check_node⟩,⟨by decide,h_top⟩,trivial⟩
 have h_children:=Ah (lv:=5) (O base) (Ag X G t9 fun _ _ _ _ _ _=>ba2 fun _ _=>rfl) MU ⟨⟨by decide,h_check_node⟩,⟨by decide,h_levels⟩,trivial⟩
 have h_counts_of:=Ah (lv:=0) (O base) (Ag X G t10 fun _ _ _ _ _ _=>ba1 fun _=>rfl) MD trivial
 have h_rooms_of:=Ah (lv:=0) (O base) (Ag X G t11 fun _ _ _ _ _ _=>ba1 fun _=>rfl) MV trivial
 have h_shape_of:=Ah (lv:=1) (O base) (Ag X G t12 fun _ _ _ _ _ _=>ba2 fun _ _=>rfl) MW ⟨⟨by decide,h_rooms_of⟩,trivial⟩
 have h_has_node:=Ah (lv:=3) (O base) (Ag X G t13 fun _ _ _ _ _ _=>ba2 fun _ _=>rfl) MX ⟨⟨by decide,h_is_counted_node⟩,⟨by decide,h_counts_of⟩,trivial⟩
 have h_check_has_node:=Ah (lv:=4) (O base) (Ag X G t14 fun _ _ _ _ _ _=>ba2 fun _ _=>rfl) HE ⟨⟨by decide,h_has_node⟩,rs2,trivial⟩
 have h_tells:=Ah (lv:=5) (O base) (Ag X G t15 fun _ _ _ _ _ _=>ba2 fun _ _=>rfl) Sb ⟨⟨by decide,h_check_has_node⟩,trivial⟩
 have h_with_told:=Ah (lv:=6) (O base) (Ag X G t16 fun _ _ _ _ _ _=>ba2 fun _ _=>rfl) ME ⟨⟨by decide,h_tells⟩,trivial⟩
 have h_pages_up_to:=Ah (lv:=0) (O base) (Ag X G t17 fun _ _ _ _ _ _=>ba3 fun _ _ _=>rfl) J8 trivial
 have h_lies_over:=Ah (lv:=6) (O base) (Ag X G t18 fun _ _ _ _ _ _=>ba3 fun _ _ _=>rfl) MF ⟨⟨by decide,h_is_node⟩,⟨by decide,h_span⟩,⟨by decide,h_span⟩,trivial⟩
 have h_rules_out:=Ah (lv:=7) (O base) (Ag X G t19 fun _ _ _ _ _ _=>ba4 fun _ _ _ _=>rfl) MG ⟨⟨by decide,h_lies_over⟩,trivial⟩
 have h_shows_first:=Ah (lv:=8) (O base) (Ag X G t20 fun _ _ _ _ _ _=>ba4 fun _ _ _ _=>rfl) J9 ⟨⟨by decide,h_rules_out⟩,⟨by decide,h_pages_up_to⟩,trivial⟩
 have h_shows_further:=Ah (lv:=8) (O base) (Ag X G t21 fun _ _ _ _ _ _=>ba5 fun _ _ _ _ _=>rfl) Ir ⟨⟨by decide,h_rules_out⟩,⟨by decide,h_pages_up_to⟩,trivial⟩
 have h_nearer_pages:=Ah (lv:=0) (O base) (Ag X G t22 fun _ _ _ _ _ _=>ba3 fun _ _ _=>rfl) Jt trivial
 have h_shows_near:=Ah (lv:=8) (O base) (Ag X G t23 fun _ _ _ _ _ _=>ba5 fun _ _ _ _ _=>rfl) K0 ⟨⟨by decide,h_rules_out⟩,⟨by decide,h_nearer_pages⟩,trivial⟩
 have h_best_told:=Ah (lv:=0) (O base) (Ag X G t24 fun _ _ _ _ _ _=>ba2 fun _ _=>rfl) MH trivial
 have h_shows_best:=Ah (lv:=7) (O base) (Ag X G t25 fun _ _ _ _ _ _=>ba4 fun _ _ _ _=>rfl) K1 ⟨⟨by decide,h_lies_over⟩,⟨by decide,h_best_told⟩,trivial⟩
 have h_is_true:=Ah (lv:=6) (O base) (Ag X G t26 fun _ _ _ _ _ _=>ba2 fun _ _=>rfl) OJ ⟨⟨by decide,h_has_node⟩,⟨by decide,h_tells⟩,trivial⟩
 have h_honest:=Ah (lv:=7) (O base) (Ag X G t27 fun _ _ _ _ _ _=>ba2 fun _ _=>rfl) Qz ⟨⟨by decide,h_is_true⟩,trivial⟩
 have h_lies_within:=Ah (lv:=0) (O base) (Ag X G t28 fun _ _ _ _ _ _=>ba3 fun _ _ _=>rfl) Ka trivial
 have h_highest_within:=Ah (lv:=6) (O base) (Ag X G t29 fun _ _ _ _ _ _=>ba3 fun _ _ _=>rfl) HF ⟨⟨by decide,h_parent⟩,⟨by decide,h_lies_within⟩,⟨by decide,h_span⟩,⟨by decide,h_parent⟩,trivial⟩
 have h_cover:=Ah (lv:=7) (O base) (Ag X G t30 fun _ _ _ _ _ _=>ba3 fun _ _ _=>rfl) Sd ⟨rs3,⟨by decide,h_highest_within⟩,⟨by decide,h_span⟩,trivial⟩
 have h_check_page:=Ah (lv:=2) (O base) (Ag X G t31 fun _ _ _ _ _ _=>ba2 fun _ _=>rfl) K2 ⟨⟨by decide,h_is_between⟩,rs3,trivial⟩
 have h_up_to_enough:=Ah (lv:=6) (O base) (Ag X G t32 fun _ _ _ _ _ _=>ba3 fun _ _ _=>rfl) Ju ⟨⟨by decide,h_tells⟩,trivial⟩
 have h_walked:=Ah (lv:=8) (O base) (Ag X G t33 fun _ _ _ _ _ _=>ba4 fun _ _ _ _=>rfl) QA ⟨⟨by decide,h_shape_of⟩,⟨by decide,h_cover⟩,⟨by decide,h_up_to_enough⟩,⟨by decide,h_tells⟩,⟨by decide,h_children⟩,trivial⟩
 have h_first_from:=Ah (lv:=9) (O base) (Ag X G t34 fun _ _ _ _ _ _=>ba4 fun _ _ _ _=>rfl) K3 ⟨⟨by decide,h_walked⟩,⟨by decide,h_tells⟩,trivial⟩
 have h_first:=Ah (lv:=10) (O base) (Ag X G t35 fun _ _ _ _ _ _=>ba3 fun _ _ _=>rfl) Se ⟨⟨by decide,h_first_from⟩,trivial⟩
 have h_last_enough:=Ah (lv:=6) (O base) (Ag X G t36 fun _ _ _ _ _ _=>ba3 fun _ _ _=>rfl) Kb ⟨⟨by decide,h_tells⟩,trivial⟩
 have h_last_ahead:=Ah (lv:=8) (O base) (Ag X G t37 fun _ _ _ _ _ _=>ba4 fun _ _ _ _=>rfl) K4 ⟨⟨by decide,h_shape_of⟩,⟨by decide,h_last_enough⟩,⟨by decide,h_cover⟩,⟨by decide,h_last_enough⟩,⟨by decide,h_children⟩,trivial⟩
 have h_further:=Ah (lv:=10) (O base) (Ag X G t38 fun _ _ _ _ _ _=>ba4 fun _ _ _ _=>rfl) OK ⟨⟨by decide,h_check_page⟩,⟨by decide,h_shape_of⟩,⟨by decide,h_first_from⟩,trivial⟩
 have h_near:=Ah (lv:=11) (O base) (Ag X G t39 fun _ _ _ _ _ _=>ba4 fun _ _ _ _=>rfl) Uk ⟨⟨by decide,h_further⟩,⟨by decide,h_last_ahead⟩,trivial⟩
 have h_best:=Ah (lv:=1) (O base) (Ag X G t40 fun _ _ _ _ _ _=>ba3 fun _ _ _=>rfl) Ul ⟨⟨by decide,h_rooms_of⟩,trivial⟩
 have h_paper_over:=Ah (lv:=8) (O base) (Ag X G t41 fun _ _ _ _ _ _=>ba3 fun _ _ _=>rfl) K5 ⟨⟨by decide,h_with_told⟩,⟨by decide,h_cover⟩,⟨by decide,h_shape_of⟩,trivial⟩
 have h_first_paper:=Ah (lv:=11) (O base) (Ag X G t42 fun _ _ _ _ _ _=>ba3 fun _ _ _=>rfl) Ke ⟨⟨by decide,h_first⟩,⟨by decide,h_paper_over⟩,⟨by decide,h_pages_up_to⟩,⟨by decide,h_shape_of⟩,trivial⟩
 have h_further_paper:=Ah (lv:=11) (O base) (Ag X G t43 fun _ _ _ _ _ _=>ba4 fun _ _ _ _=>rfl) Iu ⟨⟨by decide,h_further⟩,⟨by decide,h_paper_over⟩,⟨by decide,h_pages_up_to⟩,⟨by decide,h_shape_of⟩,trivial⟩
 have h_near_paper:=Ah (lv:=12) (O base) (Ag X G t44 fun _ _ _ _ _ _=>ba4 fun _ _ _ _=>rfl) K6 ⟨⟨by decide,h_near⟩,⟨by decide,h_paper_over⟩,⟨by decide,h_nearer_pages⟩,⟨by decide,h_shape_of⟩,trivial⟩
 have h_nodes_with_each_enough:=Ah (lv:=6) (O base) (Ag X G t45 fun _ _ _ _ _ _=>ba3 fun _ _ _=>rfl) E8 ⟨⟨by decide,h_top⟩,⟨by decide,h_tells⟩,⟨by decide,h_children⟩,trivial⟩
 have h_best_paper:=Ah (lv:=7) (O base) (Ag X G t46 fun _ _ _ _ _ _=>ba3 fun _ _ _=>rfl) K7 ⟨⟨by decide,h_nodes_with_each_enough⟩,⟨by decide,h_shape_of⟩,⟨by decide,h_best⟩,⟨by decide,h_with_told⟩,trivial⟩
 have h_law_cell:=Ah (lv:=0) (O base) (Ag X G t47 fun _ _ _ _ _ _=>ba2 fun _ _=>rfl) MY trivial
 have h_law_mix_k11:=Ah (lv:=0) (O base) (Ag X G t48 fun _ _ _ _ _ _=>ba2 fun _ _=>rfl) Kf trivial
 have h_law_row_k11:=Ah (lv:=1) (O base) (Ag X G t49 fun _ _ _ _ _ _=>ba3 fun _ _ _=>rfl) Kg ⟨⟨by decide,h_law_cell⟩,⟨by decide,h_law_mix_k11⟩,⟨by decide,h_law_cell⟩,⟨by decide,h_law_mix_k11⟩,trivial⟩
 have h_law_rooms_k21:=Ah (lv:=2) (O base) (Ag X G t50 fun _ _ _ _ _ _=>ba3 fun _ _ _=>rfl) Iv ⟨⟨by decide,h_law_row_k11⟩,trivial⟩
 have h_law_fan_k22:=Ah (lv:=2) (O base) (Ag X G t51 fun _ _ _ _ _ _=>ba2 fun _ _=>rfl) Kh ⟨⟨by decide,h_law_row_k11⟩,trivial⟩
 have h_law_need_k27:=Ah (lv:=2) (O base) (Ag X G t52 fun _ _ _ _ _ _=>ba3 fun _ _ _=>rfl) Jv ⟨⟨by decide,h_law_row_k11⟩,trivial⟩
 have h_law_counts_k11:=Ah (lv:=0) (O base) (Ag X G t53 fun _ _ _ _ _ _=>ba2 fun _ _=>rfl) HG trivial
 have h_law_reach_k12:=Ah (lv:=0) (O base) (Ag X G t54 fun _ _ _ _ _ _=>ba4 fun _ _ _ _=>rfl) Iw trivial
 have h_law_tree_k22:=Ah (lv:=1) (O base) (Ag X G t55 fun _ _ _ _ _ _=>ba2 fun _ _=>rfl) Jw ⟨⟨by decide,h_law_counts_k11⟩,⟨by decide,h_law_reach_k12⟩,trivial⟩
 have h_law_cover_k13:=Ah (lv:=1) (O base) (Ag X G t56 fun _ _ _ _ _ _=>ba4 fun _ _ _ _=>rfl) Ix ⟨⟨by decide,h_law_counts_k11⟩,trivial⟩
 have h_law_nearer:=Ah (lv:=0) (O base) (Ag X G t57 fun _ _ _ _ _ _=>ba3 fun _ _ _=>rfl) K8 trivial
 have h_law_near_k43:=Ah (lv:=0) (O base) (Ag X G t58 fun _ _ _ _ _ _=>ba3 fun _ _ _=>rfl) Jx trivial
 have h_law_paper_k41:=Ah (lv:=2) (O base) (Ag X G t59 fun _ _ _ _ _ _=>ba4 fun _ _ _ _=>rfl) Iy ⟨⟨by decide,h_law_tree_k22⟩,⟨by decide,h_law_cover_k13⟩,trivial⟩
 have h_law_from_k41:=Ah (lv:=0) (O base) (Ag X G t60 fun _ _ _ _ _ _=>ba3 fun _ _ _=>rfl) Jy trivial
 have h_law_end:=Ah (lv:=0) (O base) (Ag X G t61 fun _ _ _ _ _ _=>ba2 fun _ _=>rfl) OL trivial
 have h_law_told_ones:=Ah (lv:=13) (O base) (Ag X G t62 fun _ _ _ _ _ _=>ba5 fun _ _ _ _ _=>rfl) Iz ⟨⟨by decide,h_first_paper⟩,⟨by decide,h_honest⟩,⟨by decide,h_shows_first⟩,⟨by decide,h_further_paper⟩,⟨by decide,h_honest⟩,⟨by decide,h_shows_further⟩,⟨by decide,h_near_paper⟩,⟨by decide,h_honest⟩,⟨by decide,h_shows_near⟩,⟨by decide,h_best_paper⟩,⟨by decide,h_honest⟩,⟨by decide,h_shows_best⟩,⟨by decide,h_best⟩,trivial⟩
 have h_law_own_ones:=Ah (lv:=12) (O base) (Ag X G t63 fun _ _ _ _ _ _=>ba6 fun _ _ _ _ _ _=>rfl) Jz ⟨⟨by decide,h_law_end⟩,⟨by decide,h_law_paper_k41⟩,⟨by decide,h_honest⟩,⟨by decide,h_shows_first⟩,⟨by decide,h_first⟩,⟨by decide,h_law_paper_k41⟩,⟨by decide,h_shows_further⟩,⟨by decide,h_further⟩,⟨by decide,h_law_nearer⟩,⟨by decide,h_law_paper_k41⟩,⟨by decide,h_shows_near⟩,⟨by decide,h_near⟩,trivial⟩
 exact ⟨⟨by decide,h_law_rooms_k21⟩,⟨by decide,h_law_row_k11⟩,⟨by decide,h_law_fan_k22⟩,⟨by decide,h_law_tree_k22⟩,⟨by decide,h_law_row_k11⟩,⟨by decide,h_law_row_k11⟩,⟨by decide,h_law_need_k27⟩,⟨by decide,h_law_told_ones⟩,⟨by decide,h_law_from_k41⟩,⟨by decide,h_law_from_k41⟩,⟨by decide,h_law_near_k43⟩,⟨by decide,h_first⟩,⟨by decide,h_further⟩,⟨by decide,h_near⟩,⟨by decide,h_law_own_ones⟩,trivial⟩
end Pu
open PySem PySem.W PyProof.Rows
noncomputable def PySem.W.Fast.tw4969855687442286646:Nat:=0
noncomputable def PySem.W.Fast.tw18109301336198447810:Nat:=0
noncomputable def PySem.W.Fast.tw3933231279429442986:Nat:=0
noncomputable def PySem.W.Fast.tw13758517635483448460:Nat:=0
noncomputable def PySem.W.Fast.tw14894120728782048672:Nat:=0
noncomputable def PySem.W.Fast.tw16692580219771651185:Nat:=0
noncomputable def PySem.W.Fast.tw18398654468218144904:Nat:=0
noncomputable def PySem.W.Fast.tw18339355316139517007:Nat:=0
noncomputable def PySem.W.Fast.tw405594058128501214:Nat:=0
noncomputable def PySem.W.Fast.tw18373375926230010406:Nat:=0
noncomputable def PySem.W.Fast.tw14229002906733305034:Nat:=0
noncomputable def PySem.W.Fast.tw14705065788179904719:Nat:=0
noncomputable def PySem.W.Fast.tw18367381766392618127:Nat:=0
noncomputable def PySem.W.Fast.tw10522641193355676433:Nat:=0
noncomputable def PySem.W.Fast.tw12595463253366362480:Nat:=0
noncomputable def PySem.W.Fast.tw18231505076488083060:Nat:=0
noncomputable def PySem.W.Fast.tw1182327419602663712:Nat:=0
noncomputable def PySem.W.Fast.tw7281928430690284201:Nat:=0
noncomputable def PySem.W.Fast.tw15856302511353297650:Nat:=0
noncomputable def PySem.W.Fast.tw95318987723756929:Nat:=0
noncomputable def PySem.W.Fast.tw16134927677223144838:Nat:=0
noncomputable def PySem.W.Fast.tw2143268001823762807:Nat:=0
noncomputable def PySem.W.Fast.tw8213257955290282199:Nat:=0
noncomputable def PySem.W.Fast.tw5788246256908916470:Nat:=0
noncomputable def PySem.W.Fast.tw15161283792581785353:Nat:=0
noncomputable def PySem.W.Fast.tw10605737338809585716:Nat:=0
noncomputable def PySem.W.Fast.tw293213881073618741:Nat:=0
noncomputable def PySem.W.Fast.tw13199848245209135656:Nat:=0
noncomputable def PySem.W.Fast.tw2192250768882144143:Nat:=0
noncomputable def PySem.W.Fast.tw8932556081455488674:Nat:=0
noncomputable def PySem.W.Fast.tw17735846768897262444:Nat:=0
noncomputable def PySem.W.Fast.tw8680841411076151660:Nat:=0
noncomputable def PySem.W.Fast.tw8689631709592960423:Nat:=0
noncomputable def PySem.W.Fast.tw9504142226056877049:Nat:=0
noncomputable def PySem.W.Fast.tw17325839516006765766:Nat:=0
noncomputable def PySem.W.Fast.tw12104002158390932869:Nat:=0
noncomputable def PySem.W.Fast.tw15570911142664330446:Nat:=0
noncomputable def PySem.W.Fast.tw125075666746438758:Nat:=0
noncomputable def PySem.W.Fast.tw8491932591250139823:Nat:=0
noncomputable def PySem.W.Fast.tw12757077459734709258:Nat:=0
noncomputable def PySem.W.Fast.tw15123078535158262145:Nat:=0
noncomputable def PySem.W.Fast.tw12647619079162974860:Nat:=0
noncomputable def PySem.W.Fast.tw12839813900580106953:Nat:=0
noncomputable def PySem.W.Fast.tw2963407860776864956:Nat:=0
noncomputable def PySem.W.Fast.tw10821673071121281441:Nat:=0
noncomputable def PySem.W.Fast.tw15153841522076857641:Nat:=0
noncomputable def PySem.W.Fast.tw4681388558867461027:Nat:=0
noncomputable def PySem.W.Fast.tw10903324077826806478:Nat:=0
noncomputable def PySem.W.Fast.tw18144365158465731857:Nat:=0
noncomputable def PySem.W.Fast.tw15147386196986049516:Nat:=0
noncomputable def PySem.W.Fast.tw3585614665099180594:Nat:=0
noncomputable def PySem.W.Fast.tw16064690404552869031:Nat:=0
noncomputable def PySem.W.Fast.tw14381027067191513056:Nat:=0
noncomputable def PySem.W.Fast.tw13117076018960092618:Nat:=0
noncomputable def PySem.W.Fast.tw6183951433522092187:Nat:=0
noncomputable def PySem.W.Fast.tw16370097403354922664:Nat:=0
noncomputable def PySem.W.Fast.tw5203933917051462652:Nat:=0
noncomputable def PySem.W.Fast.tw16191982863202187443:Nat:=0
noncomputable def PySem.W.Fast.tw2810976270097270060:Nat:=0
noncomputable def PySem.W.Fast.tw5461528154886179431:Nat:=0
noncomputable def PySem.W.Fast.tw10190471544251715103:Nat:=0
noncomputable def PySem.W.Fast.tw9260234738151717427:Nat:=0
noncomputable def PySem.W.Fast.tw12211027599049056802:Nat:=0
noncomputable def PySem.W.Fast.tw9594732590370814829:Nat:=0
noncomputable def PySem.W.Fast.tw7746434438691102278:Nat:=0
noncomputable def PySem.W.Fast.tw10037750294482719325:Nat:=0
noncomputable def PySem.W.Fast.tw4821882271748279184:Nat:=0
noncomputable def PySem.W.Fast.tw7814449044110532769:Nat:=0
noncomputable def PySem.W.Fast.tw13007099829372169357:Nat:=0
noncomputable def PySem.W.Fast.tw2877967749825069130:Nat:=0
noncomputable def PySem.W.Fast.tw9503675027633368130:Nat:=0
noncomputable def PySem.W.Fast.tw17916491120392969216:Nat:=0
noncomputable def PySem.W.Fast.tw10830905217134829834:Nat:=0
noncomputable def PySem.W.Fast.tw12614945903410524628:Nat:=0
noncomputable def PySem.W.Fast.tw16015315177859188403:Nat:=0
noncomputable def PySem.W.Fast.tw909626624911509185:Nat:=0
noncomputable def PySem.W.Fast.tw16965106910875530432:Nat:=0
noncomputable def PySem.W.Fast.tw3235482605025828332:Nat:=0
noncomputable def PySem.W.Fast.tw4441511519567298228:Nat:=0
noncomputable def PySem.W.Fast.tw3728339272358166516:Nat:=0
noncomputable def PySem.W.Fast.tw15342065103140836117:Nat:=0
noncomputable def PySem.W.Fast.tw16790215063171272984:Nat:=0
noncomputable def PySem.W.Fast.tw16511228385057238305:Nat:=0
noncomputable def PySem.W.Fast.tw16565222973968039790:Nat:=0
noncomputable def PySem.W.Fast.tw15958436967883749923:Nat:=0
noncomputable def PySem.W.Fast.tw2819026509034774389:Nat:=0
noncomputable def PySem.W.Fast.tw8622091840741714148:Nat:=0
noncomputable def PySem.W.Fast.tw15796528405654807868:Nat:=0
noncomputable def PySem.W.Fast.tw8777387742477031073:Nat:=0
noncomputable def PySem.W.Fast.tw935848338374059571:Nat:=0
noncomputable def PySem.W.Fast.tw10589109648737596599:Nat:=0
noncomputable def PySem.W.Fast.tw14511235018040656392:Nat:=0
noncomputable def PySem.W.Fast.tw18404845830241580353:Nat:=0
noncomputable def PySem.W.Fast.tw5877153123527790695:Nat:=0
noncomputable def PySem.W.Fast.tw8306908844497703960:Nat:=0
noncomputable def PySem.W.Fast.tw3449949368690604482:Nat:=0
noncomputable def PySem.W.Fast.tw13841529225606974861:Nat:=0
noncomputable def PySem.W.Fast.tw7509428744662996748:Nat:=0
noncomputable def PySem.W.Fast.tw3188799985127571848:Nat:=0
noncomputable def PySem.W.Fast.tw7552658413574477132:Nat:=0
noncomputable def PySem.W.Fast.tw14131924464214001014:Nat:=0
noncomputable def PySem.W.Fast.tw7167760355434994151:Nat:=0
noncomputable def PySem.W.Fast.tw3313325473800722948:Nat:=0
noncomputable def PySem.W.Fast.tw5911003757089560367:Nat:=0
noncomputable def PySem.W.Fast.tw9250420981128665815:Nat:=0
noncomputable def PySem.W.Fast.tw10738760653916297136:Nat:=0
noncomputable def PySem.W.Fast.tw15274900188083665127:Nat:=0
noncomputable def PySem.W.Fast.tw11896334195630740798:Nat:=0
noncomputable def PySem.W.Fast.tw4388468310316160007:Nat:=0
noncomputable def PySem.W.Fast.tw14248998515633549496:Nat:=0
noncomputable def PySem.W.Fast.tw12720308430171530865:Nat:=0
noncomputable def PySem.W.Fast.tw717053783931628121:Nat:=0
noncomputable def PySem.W.Fast.tw16379137077420490748:Nat:=0
noncomputable def PySem.W.Fast.tw8278782818485585512:Nat:=0
noncomputable def PySem.W.Fast.tw11061961520238439567:Nat:=0
noncomputable def PySem.W.Fast.tw7079866168694426401:Nat:=0
noncomputable def PySem.W.Fast.tw14612563026035435864:Nat:=0
noncomputable def PySem.W.Fast.tw17467737780925270129:Nat:=0
noncomputable def PySem.W.Fast.tw193664278179640786:Nat:=0
noncomputable def PySem.W.Fast.tw781716998162794234:Nat:=0
noncomputable def PySem.W.Fast.tw5563456671988032549:Nat:=0
noncomputable def PySem.W.Fast.tw11415983939290551825:Nat:=0
noncomputable def PySem.W.Fast.tw15445310322017246275:Nat:=0
noncomputable def PySem.W.Fast.tw12084131066830524968:Nat:=0
noncomputable def PySem.W.Fast.tw17715086573785085847:Nat:=0
noncomputable def PySem.W.Fast.tw10251075834075193378:Nat:=0
noncomputable def PySem.W.Fast.tw3433546702954019265:Nat:=0
noncomputable def PySem.W.Fast.tw5232127516511850826:Nat:=0
noncomputable def PySem.W.Fast.tw18290505719087863378:Nat:=0
noncomputable def PySem.W.Fast.tw9769141455227335520:Nat:=0
noncomputable def PySem.W.Fast.tw12138077847752095189:Nat:=0
noncomputable def PySem.W.Fast.tw14894742912142961504:Nat:=0
noncomputable def PySem.W.Fast.tw10285419208669990612:Nat:=0
noncomputable def PySem.W.Fast.tw6385290039080152237:Nat:=0
noncomputable def PySem.W.Fast.tw12975967911202344097:Nat:=0
noncomputable def PySem.W.Fast.tw13082851808028581767:Nat:=0
noncomputable def PySem.W.Fast.tw14340406355593609468:Nat:=0
noncomputable def PySem.W.Fast.tw6301316176410913335:Nat:=0
noncomputable def PySem.W.Fast.tw10881527885256228478:Nat:=0
noncomputable def PySem.W.Fast.tw17483381711621241372:Nat:=0
noncomputable def PySem.W.Fast.tw13703219131089808407:Nat:=0
noncomputable def PySem.W.Fast.tw3727905805990893195:Nat:=0
noncomputable def PySem.W.Fast.tw4630599486348420801:Nat:=0
noncomputable def PySem.W.Fast.tw5501704148481134636:Nat:=0
noncomputable def PySem.W.Fast.tw18096626758463670492:Nat:=0
noncomputable def PySem.W.Fast.tw8472018896421678507:Nat:=0
noncomputable def PySem.W.Fast.tw16675442655943146706:Nat:=0
noncomputable def PySem.W.Fast.tw15549479594755229136:Nat:=0
noncomputable def PySem.W.Fast.tw9942720593175762097:Nat:=0
noncomputable def PySem.W.Fast.tw14097001202494079271:Nat:=0
noncomputable def PySem.W.Fast.tw18172811590312605848:Nat:=0
noncomputable def PySem.W.Fast.tw8428785134123920389:Nat:=0
noncomputable def PySem.W.Fast.tw5919294178114733497:Nat:=0
noncomputable def PySem.W.Fast.tw13738653010719268041:Nat:=0
noncomputable def PySem.W.Fast.tw10263458583341126558:Nat:=0
noncomputable def PySem.W.Fast.tw10693721598798954338:Nat:=0
noncomputable def PySem.W.Fast.tw1185518009368853389:Nat:=0
noncomputable def PySem.W.Fast.tw6360432157352731417:Nat:=0
noncomputable def PySem.W.Fast.tw3568010688645386887:Nat:=0
noncomputable def PySem.W.Fast.tw17242093782915707624:Nat:=0
noncomputable def PySem.W.Fast.tw7914888120029002793:Nat:=0
noncomputable def PySem.W.Fast.tw8372076085405424966:Nat:=0
noncomputable def PySem.W.Fast.tw6710137248862445524:Nat:=0
noncomputable def PySem.W.Fast.tw2474103734688777957:Nat:=0
noncomputable def PySem.W.Fast.tw7020146941638290361:Nat:=0
noncomputable def PySem.W.Fast.tw3149742585829866936:Nat:=0
noncomputable def PySem.W.Fast.tw11264862154834970047:Nat:=0
noncomputable def PySem.W.Fast.tw1199935785173844004:Nat:=0
noncomputable def PySem.W.Fast.tw5264124097634647338:Nat:=0
noncomputable def PySem.W.Fast.tw1001317070120729758:Nat:=0
noncomputable def PySem.W.Fast.tw2336078970679965951:Nat:=0
noncomputable def PySem.W.Fast.tw751174888131138407:Nat:=0
noncomputable def PySem.W.Fast.tw13339592493717057040:Nat:=0
noncomputable def PySem.W.Fast.tw1551410710685528553:Nat:=0
noncomputable def PySem.W.Fast.tw11668925861812970635:Nat:=0
noncomputable def PySem.W.Fast.tw3075482489998585237:Nat:=0
noncomputable def PySem.W.Fast.tw8677088502554600656:Nat:=0
noncomputable def PySem.W.Fast.tw1604859268302222545:Nat:=0
noncomputable def PySem.W.Fast.tw5133479642159405949:Nat:=0
noncomputable def PySem.W.Fast.tw1339722661245244087:Nat:=0
noncomputable def PySem.W.Fast.tw10409390287364626594:Nat:=0
noncomputable def PySem.W.Fast.tw7852567768721704934:Nat:=0
noncomputable def PySem.W.Fast.tw18021522997342614029:Nat:=0
noncomputable def PySem.W.Fast.tw15953183621188379089:Nat:=0
noncomputable def PySem.W.Fast.tw15634156552995065085:Nat:=0
noncomputable def PySem.W.Fast.tw17068564160704472386:Nat:=0
local macro_rules | `(tactic| simp_arith!)=>`(tactic| (refine' Pu.Aq ?za ?zl ?zc ?zk; (case za=>k_is); (case zl=>k_is); (case zc=>k_is); (case zk=>k_is)))
local macro_rules | `(tactic| simp_all_arith)=>`(tactic| (refine' Pu.VH ?zq ?zx1 ?zx2 ?zx3 ?zx4 ?zx5 ?zx6 ?zx7 ?zt1 ?zt2 ?zt3 ?zt4 ?zt5 ?zt6 ?zv; (case zq=>k_is); (case zx1=>k_is); (case zx2=>k_is); (case zx3=>k_is); (case zx4=>k_is); (case zx5=>k_is); (case zx6=>k_is); (case zx7=>k_is); (case zt1=>kit_is); (case zt2=>kit_is); (case zt3=>kit_is); (case zt4=>kit_is); (case zt5=>kit_is); (case zt6=>kit_is); (case zv=>kit_is)))
set_option maxRecDepth 100000 in
set_option maxHeartbeats 0 in
theorem PySem.Challenge.cw_ullage_k48_whole_papers_show_holds : PySem.Challenge.rw_ullage_k48_whole_papers_show.Holds := by
 w_on; o_law; k_head; (case hw=>w_witness2)
 k_fill
 refine Pu.Wz (l:=PySem.Challenge.rw_ullage_k48_whole_papers_show) (k:=15) (x := "_law_script") rfl rfl ⟨rfl,by decide,by decide⟩ (fun w h Y=>PySem.W.kIn_of Y) ?F
 case F =>
  intro w mg fa h KX G hmg
  refine' Pu.V2 KX G hmg ?t0 ?t1 ?t2 ?t3 ?t4 ?t5 ?t6 ?t7 ?t8 ?t9 ?t10 ?t11 ?t12 ?t13 ?t14 ?t15 ?t16 ?t17 ?t18 ?t19 ?t20 ?t21 ?t22 ?t23 ?t24 ?t25 ?t26 ?t27 ?t28 ?t29 ?t30 ?t31 ?t32 ?t33 ?t34 ?t35 ?t36 ?t37 ?t38 ?t39 ?t40 ?t41 ?t42 ?t43 ?t44 ?t45 ?t46 ?t47 ?t48 ?t49 ?t50 ?t51 ?t52 ?t53 ?t54 ?t55 ?t56 ?t57 ?t58 ?t59 ?t60 ?t61 ?t62 ?t63 ?t64 ?n_len ?n_min ?n_max ?n_abs ?n_int ?n_list ?n_tuple ?n_all ?n_any ?n_sum ?n_sorted ?n_isinstance ?n_str ?n_range ?n_enumerate ?n_zip ?n_reversed ?n_bool ?n_dict ?n_ValueError ?c2 ?c3 ?e2 ?e3 ?y2_2 ?y2_3 ?y3_2 ?y3_3 ?nl Pu.Ui
  (case t0=>simp_arith!)
  (case t1=>simp_arith!)
  (case t2=>simp_arith!)
  (case t3=>simp_arith!)
  (case t4=>simp_arith!)
  (case t5=>simp_arith!)
  (case t6=>simp_arith!)
  (case t7=>simp_arith!)
  (case t8=>simp_arith!)
  (case t9=>simp_arith!)
  (case t10=>simp_arith!)
  (case t11=>simp_arith!)
  (case t12=>simp_arith!)
  (case t13=>simp_arith!)
  (case t14=>simp_arith!)
  (case t15=>simp_arith!)
  (case t16=>simp_arith!)
  (case t17=>simp_arith!)
  (case t18=>simp_arith!)
  (case t19=>simp_arith!)
  (case t20=>simp_arith!)
  (case t21=>simp_arith!)
  (case t22=>simp_arith!)
  (case t23=>simp_arith!)
  (case t24=>simp_arith!)
  (case t25=>simp_arith!)
  (case t26=>simp_arith!)
  (case t27=>simp_arith!)
  (case t28=>simp_arith!)
  (case t29=>simp_arith!)
  (case t30=>simp_arith!)
  (case t31=>simp_arith!)
  (case t32=>simp_arith!)
  (case t33=>simp_arith!)
  (case t34=>simp_arith!)
  (case t35=>simp_arith!)
  (case t36=>simp_arith!)
  (case t37=>simp_arith!)
  (case t38=>simp_arith!)
  (case t39=>simp_arith!)
  (case t40=>simp_arith!)
  (case t41=>simp_arith!)
  (case t42=>simp_arith!)
  (case t43=>simp_arith!)
  (case t44=>simp_arith!)
  (case t45=>simp_arith!)
  (case t46=>simp_arith!)
  (case t47=>simp_arith!)
  (case t48=>simp_arith!)
  (case t49=>simp_arith!)
  (case t50=>simp_arith!)
  (case t51=>simp_arith!)
  (case t52=>simp_arith!)
  (case t53=>simp_arith!)
  (case t54=>simp_arith!)
  (case t55=>simp_arith!)
  (case t56=>simp_arith!)
  (case t57=>simp_arith!)
  (case t58=>simp_arith!)
  (case t59=>simp_arith!)
  (case t60=>simp_arith!)
  (case t61=>simp_arith!)
  (case t62=>simp_arith!)
  (case t63=>simp_arith!)
  (case t64=>simp_arith!)
  (case n_len=>k_is)
  (case n_min=>k_is)
  (case n_max=>k_is)
  (case n_abs=>k_is)
  (case n_int=>k_is)
  (case n_list=>k_is)
  (case n_tuple=>k_is)
  (case n_all=>k_is)
  (case n_any=>k_is)
  (case n_sum=>k_is)
  (case n_sorted=>k_is)
  (case n_isinstance=>k_is)
  (case n_str=>k_is)
  (case n_range=>k_is)
  (case n_enumerate=>k_is)
  (case n_zip=>k_is)
  (case n_reversed=>k_is)
  (case n_bool=>k_is)
  (case n_dict=>k_is)
  (case n_ValueError=>k_is)
  (case c2=>simp_all_arith)
  (case c3=>simp_all_arith)
  (case e2=>k_exc)
  (case e3=>k_exc)
  (case y2_2=>kit_is)
  (case y2_3=>kit_is)
  (case y3_2=>kit_is)
  (case y3_3=>kit_is)
  (case nl=>exact rfl)

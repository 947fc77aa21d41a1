import PyProof.Rows.All
import Wide.All
import OpenK.AllK
import Wide.FinOn
import Lean
import PyProof.EqAt
import PyProof.EqKinds
import PyProof.TupleCall
import PyProof.ZipIter
import PyProof.LongRange
import PyProof.DictTable
import PyProof.DictKinds
import PyProof.DictStraight
import PySem.Challenge.RW_ullage_k78_whole_no_row_ahead
set_option Elab.async false
set_option linter.all false
set_option maxRecDepth 100000
open List renaming length_map->aaa,mem_cons_of_mem->aab,mem_cons_self->aac,mem_of_getElem?->aae,mem_append->aaf,replicate->aag,getElem?_eq_getElem->aah,getElem?_map->aaj,mem_cons->aal,mem_append_right->aan,map_append->aao,size_toArray->aap,getElem?_eq_some_iff->aaq,getD_eq_getElem?_getD->aas,range->aat,length_append->aav,mem_append_left->aax,length_range->aay,getElem?_set_ne->aaB,mem_map->aaC,getElem?_append_right->aaD,map_cons->aaE,all_eq_true->aaF,nodup_cons->aaG,all_cons->aaH,append_nil->aaJ,getElem?_append_left->aaK,mem_filterMap->aaN,mem_singleton->aaO,map_map->aaP,getElem?_replicate->aaR,eq_nil_iff_forall_not_mem->aaS,getElem?_cons_succ->aaY,map_congr_left->aaZ,nil_append->aa0,length_set->aa1,length_replicate->aa2,length_take->aa3,length_drop->aa4,length_cons->aa5,cons_append->aa7,getElem?_cons_zero->aa8,replicate_succ->aa9,map_replicate->abb,getElem?_eq_none->abc,filterMap_cons->abd,length->abe,getElem_range->abf,drop_eq_getElem_cons->abi,getElem_of_mem->abj,getElem?_set_self'->abk,mem_filter->abn,mem_replicate->abo,range_succ->abp,filter_append->abq,take_of_length_le->abr,flatten_cons->abu,length_singleton->abv,mem_of_mem_drop->aby,mem_of_mem_take->abz,map->abA,map_take->abB,map_drop->abC,map_nil->abE,mem_range->abG,reverse_cons->abH,append_assoc->abI,range_succ_eq_map->abK,mem_reverse->abN,getElem_map->abO,take_succ_eq_append_getElem->abP,eraseIdxIfInBounds_toArray->abQ,foldl_cons->abR,getElem?_of_mem->abS,getElem?_zipIdx->abT,dropLast_subset->abU,eq_nil_of_length_eq_zero->ab0,length_zipIdx->ab5,ext_getElem?->ab8,getElem?_take_of_lt->aca,not_mem_nil->acd,set->ace,take_length->acg,of_mem_zip->ach,getElem?_set_self->ack,max?_eq_some_iff->acm,eraseIdx_sublist->acn,length_filter_le->acp,getElem_toArray->acq,reverse_reverse->acr,any_cons->acs,getElem?_range->acv,map_set->acz,nodup_append->acC,map_dropLast->acD,foldl->acG
open Nat renaming le_refl->aai,zero_add->aar,zero_le->aaw,lt_of_lt_of_le->aaA,ne_of_lt->aaI,lt_irrefl->aaL,le_trans->aaM,min_le_right->aaQ,min_le_left->aaT,le_of_not_lt->aaU,pow_pos->abt,pow_succ->abF,le_succ->abJ,le_of_succ_le_succ->abL,pow_le_pow_right->abW,eq_zero_or_pos->ab4,ne_of_gt->ab9,mul_comm->acb,le_antisymm->aci,div_add_mod->acj,div_div_eq_div_mul->acl,le_div_iff_mul_le->aco,pow_le_pow_left->act,div_mul_le_self->acu,le_of_lt->acw,lt_or_ge->acx,pow_zero->acA,log2_lt->acE
open Option renaming map_eq_some_iff->aam,isSome_iff_exists->aaz,map_some->aaV,bind_some->aa6,getD_none->acF
open Bool renaming and_eq_true->aak,false_ne_true->aaW,false_eq_true->aaX,true_eq_false->abg,not_true->abl,true_and->abm,not_false->abw,or_false->abM,eq_iff_iff->abZ,or_eq_true_iff->ab1,false_and->ab2,and_false->ab3,not_eq_true'->ab7
open Int renaming toNat_natCast->aau,toNat_of_nonneg->aba,natCast_mul->abh,zero_add->abx,le_refl->abD,emod_nonneg->abV,natCast_add->abX,natCast_one->abY,emod_lt_of_pos->ab6,natCast_ediv->acf,sub_zero->acy,cast_ofNat_Int->acB
theorem nF {P:Prop} (h:false=true):P:=Bool.noConfusion h
theorem nE {P:Prop} (h:False):P:=h.elim
theorem bS {α β:Type _} {o:Option α} {f:α->Option β} {b:β} (h:o.bind f=some b):∃ a,o=some a/\f a=some b:=Option.bind_eq_some_iff.mp h
section
namespace L2
open PySem PySem.Spec PyProof.Rows
noncomputable abbrev Key:=Sum Int Str
noncomputable def Pp:Key->Value->Bool
 | .inl k,v=>Value.isInt k v
 | .inr x,v=>Value.isStrOf x v
noncomputable def Us (w:World):Key->Int
 | .inl k=>hashInt k
 | .inr x=>hashStr w x
theorem AV:∀ {k:Key} {v:Value},Pp k v=true->(∃ i t,k=Sum.inl i/\v=Value.int i t)\/(∃ x t,k=Sum.inr x/\v=Value.str x t)
 | .inl i,v,h=>by
  obtain ⟨t,e⟩:=Value.isInt_shape (k:=i) (v:=v) h
  exact .inl ⟨i,t,rfl,e⟩
 | .inr x,v,h=>by
  obtain ⟨t,e⟩:=Value.isStrOf_shape (x:=x) (v:=v) h
  exact .inr ⟨x,t,rfl,e⟩
theorem Rx (a b:Int):decide ((Sum.inl a:Key)=Sum.inl b)=(a==b):=by
 by_cases e:a=b
 ·subst e; simp
 ·have h:¬ (Sum.inl a:Key)=Sum.inl b:=fun q=>e (Sum.inl.inj q)
  rw [decide_eq_false h]
  exact (beq_eq_false_iff_ne.mpr e).symm
theorem Ry (a b:Str):decide ((Sum.inr a:Key)=Sum.inr b)=decide (a=b):=by
 by_cases e:a=b
 ·subst e; simp
 ·have h:¬ (Sum.inr a:Key)=Sum.inr b:=fun q=>e (Sum.inr.inj q)
  rw [decide_eq_false h,decide_eq_false e]
theorem Rz (a:Int) (b:Str):decide ((Sum.inl a:Key)=Sum.inr b)=false:=decide_eq_false (fun q=>nomatch q)
theorem RA (a:Str) (b:Int):decide ((Sum.inr a:Key)=Sum.inl b)=false:=decide_eq_false (fun q=>nomatch q)
noncomputable def HD (prog:Program) (w:World):PySem.KeyKind prog w Key where
 is:=Pp
 hash:=Us w
 inj:=fun v a b ha hb=>by
  rcases AV ha with ⟨i,t,rfl,rfl⟩ | ⟨x,t,rfl,rfl⟩
  ·rcases AV hb with ⟨j,u,rfl,e⟩ | ⟨y,u,rfl,e⟩
   ·injection e with e1 _; rw [e1]
   ·exact nomatch e
  ·rcases AV hb with ⟨j,u,rfl,e⟩ | ⟨y,u,rfl,e⟩
   ·exact nomatch e
   ·injection e with e1 _; rw [e1]
 byValue:=fun k v h=>by
  rcases AV h with ⟨i,t,rfl,rfl⟩ | ⟨x,t,rfl,rfl⟩ <;> rfl
 pyHash:=fun hv h=>by
  rcases AV hv with ⟨i,t,rfl,rfl⟩ | ⟨x,t,rfl,rfl⟩
  ·exact wpAny_pyHash_int h
  ·exact wpAny_pyHash_str h
 eqBool:=fun hu hv h=>by
  rcases AV hu with ⟨i,t,rfl,rfl⟩ | ⟨x,t,rfl,rfl⟩
  ·rcases AV hv with ⟨j,u,rfl,rfl⟩ | ⟨y,u,rfl,rfl⟩
   ·rw [Rx] at h; exact wpAny_eqBool_int h
   ·rw [Rz] at h; exact SeqAt.EqAt.int_str i t y u _ _ _ _ h
  ·rcases AV hv with ⟨j,u,rfl,rfl⟩ | ⟨y,u,rfl,rfl⟩
   ·rw [RA] at h; exact SeqAt.EqAt.str_int x t j u _ _ _ _ h
   ·rw [Ry] at h; exact wpAny_eqBool_str h
 «strs»:=fun k x t v h=>by
  rcases AV h with ⟨i,u,rfl,e⟩ | ⟨y,u,rfl,e⟩
  ·exact nomatch e
  ·injection e with e1 _
   subst e1
   cases v <;> rfl
end L2
namespace L2
open PySem PySem.Spec PyProof.Rows
inductive V where
 | non | bl (b:Bool) | int (i:Int) | str (x:Str) | byt (b:Array UInt8) | flt (b:UInt64) | ref (a:Addr) | ty (n:String)
 deriving DecidableEq
noncomputable def RelV:V->Value->Prop
 | .non,u=>u=Value.none
 | .bl b,u=>u=Value.bool b
 | .int i,u=>∃ t,u=Value.int i t
 | .str x,u=>∃ t,u=Value.str x t
 | .byt b,u=>∃ t,u=Value.bytes b t
 | .flt b,u=>∃ t,u=Value.float b t
 | .ref a,u=>u=Value.ref a
 | .ty n,u=>u=Value.type n
noncomputable abbrev Vals:List V->List Value->Prop:=Paired RelV
theorem Vals.length {xs:List V} {us:List Value} (r:Vals xs us):xs.length=us.length:=Paired.length r
theorem Vals.get:∀ {xs:List V} {us:List Value} {i:Nat} {x:V},Vals xs us->xs[i]?=some x->∃ u,us[i]?=some u/\RelV x u
 | _,_,_,_,.nil,e=>by simp at e
 | _,_,0,_,.cons r _,e=>by simp at e; subst e; exact ⟨_,rfl,r⟩
 | _,_,i + 1,x,.cons _ t,e=>by
  obtain ⟨u,h1,h2⟩:=Vals.get (i:=i) (x:=x) t (by simpa using e)
  exact ⟨u,by simpa using h1,h2⟩
theorem Vals.set {x:V} {u:Value} (r:RelV x u):∀ {xs:List V} {us:List Value} (i:Nat),Vals xs us->Vals (xs.set i x) (us.set i u)
 | _,_,_,.nil=>.nil
 | _,_,0,.cons _ t=>.cons r t
 | _,_,i + 1,.cons q t=>.cons q (Vals.set r i t)
theorem Vals.append:∀ {xs ys:List V} {us ws:List Value},Vals xs us->Vals ys ws->Vals (xs ++ ys) (us ++ ws)
 | _,_,_,_,.nil,s=>s
 | _,_,_,_,.cons r t,s=>.cons r (Vals.append t s)
theorem Vals.take:∀ {xs:List V} {us:List Value} (n:Nat),Vals xs us->Vals (xs.take n) (us.take n)
 | _,_,0,_=>.nil
 | _,_,_ + 1,.nil=>.nil
 | _,_,n + 1,.cons r t=>.cons r (Vals.take n t)
theorem Vals.drop:∀ {xs:List V} {us:List Value} (n:Nat),Vals xs us->Vals (xs.drop n) (us.drop n)
 | _,_,0,r=>r
 | _,_,_ + 1,.nil=>.nil
 | _,_,n + 1,.cons _ t=>Vals.drop n t
noncomputable def N9:Option V->Option Value->Prop
 | some v,some u=>RelV v u
 | none,none=>True
 | _,_=>False
noncomputable def KV {κ:Type}:List (κ × V)->List (κ × Value)->Prop:=Paired fun (p:κ × V) (q:κ × Value)=>p.1=q.1/\RelV p.2 q.2
noncomputable def kV:Key->V
 | .inl i=>.int i
 | .inr x=>.str x
inductive HO where
  | lst (xs:List V)
  | tup (xs:List V)
  | dK (kvs:List (Key × V)) | dT (kvs:List (List Key × V))
  | set (S:Int->Bool) (n:Nat)
  | ins (C dx:Addr) (fs:List (Str × V))
  | own (x:Addr)
  | xd (fs:List (Str × V))
  | met (f x:Addr)
  | rng (lo hi:Int)
  | frz (o:Obj) (u:HO)
  | tbl (ps:Array Value)
  | ext (φ:Heap->Prop)
noncomputable abbrev Hp:=Addr->Option HO
noncomputable def upd (H:Hp) (a:Addr) (o:HO):Hp:=fun b=>if b=a then some o else H b
theorem AS {H:Hp} {a:Addr} {o:HO}:upd H a o a=some o:=by unfold upd; rw [if_pos rfl]
theorem Ap {H:Hp} {a b:Addr} {o:HO} (h:b ≠ a):upd H a o b=H b:=by unfold upd; rw [if_neg h]
theorem AJ {H:Hp} {a b:Addr} {o:HO} (h:H a=some o) (h':H b=none):a ≠ b:=by
 intro e; subst e; rw [h] at h'; cases h'
section
variable (P:Program) (w:World)
noncomputable def ObjOk (H:Hp) (h:Heap) (a:Addr):HO->Prop
 | .lst xs=>xs.length<=sizeLine/\∃ (its:List Value) (n:Nat),Vals xs its/\h.get? a=some { cls:=.type "list",data:=.seq its.toArray n }
 | .tup xs=>xs.length<=sizeLine/\∃ its:List Value,Vals xs its/\IsTup h a its.toArray
 | .dK kvs=>kvs.length<=sizeLine/\(a==sysModules)=false/\∃ vs,KV kvs vs/\h.DictOf (HD P w) a vs
 | .dT kvs=>kvs.length<=sizeLine/\(a==sysModules)=false/\∃ xs:List (List Key × Addr × Value),
   Paired (fun (p:List Key × V) (q:List Key × Addr × Value)=>p.1=q.1/\H q.2.1=some (.tup (p.1.map kV))/\RelV p.2 q.2.2) kvs xs /\
   ∃ o es ep,h.get? a=some o/\o.ExactDict/\o.data=.dict es ep/\es.toList=xs.map (entryOfKey (tupleKind (HD P w)))/\(xs.map (·.1)).Nodup
 | .set S n=>h.SetOf (intKind P w) a S n
 | .ins C dx fs=>H dx=some (.own a)/\fs.length<=1000/\dx ≠ a/\h.get? a=some (PySem.W.instObj C dx) /\
   ∃ mA,h.Ns1 dx mA/\(∀ f,N9 (fs.lookup f) (mA f))/\PySem.Within mA (fs.map (·.1))
 | .own _=>∃ o,h.get? a=some o
 | .xd fs=>∃ mA,h.Ns1 a mA/\∀ f,N9 (fs.lookup f) (mA f)
 | .rng lo hi=>∃ t u v,h.get? a=some { cls:=.type "range",data:=.fields #[.int lo t,.int hi u,.int 1 v] }
 | .frz o u=>h.get? a=some o/\ObjOk H h a u
 | .tbl ps=>h.get? a=some { cls:=.none,data:=.fields ps }
 | .met f x=>h.get? a=some (PySem.W.methodObj (.ref f) (.ref x))
 | .ext φ=>φ h/\(∃ o,h.get? a=some o)/\∀ h1 h2:Heap,φ h1->(∀ o,h1.get? a=some o->h2.get? a=some o)->φ h2
noncomputable def HOk (H:Hp) (h:Heap):Prop:=∀ a o,H a=some o->ObjOk P w H h a o
end
section
variable {P:Program} {w:World} {H H':Hp} {h h':Heap} {a:Addr} {o:HO}
theorem ObjOk.lt (x:ObjOk P w H h a o):a < h.objs.size:=by
 cases o with
 | lst xs=>obtain ⟨_,_,_,_,e⟩:=x; exact Heap.lt_size e
 | tup xs=>obtain ⟨_,_,_,p⟩:=x; exact p.lt
 | dK kvs=>obtain ⟨_,_,_,_,o,_,_,e,_⟩:=x; exact Heap.lt_size e
 | dT kvs=>obtain ⟨_,_,_,_,o,_,_,e,_⟩:=x; exact Heap.lt_size e
 | set S n=>obtain ⟨o,_,_,_,e,_⟩:=x; exact Heap.lt_size e
 | ins C dx fs=>obtain ⟨_,_,_,e,_⟩:=x; exact Heap.lt_size e
 | own y=>obtain ⟨_,e⟩:=x; exact Heap.lt_size e
 | xd fs=>obtain ⟨_,⟨_,_,_,e,_⟩,_⟩:=x; exact Heap.lt_size e
 | rng lo hi=>obtain ⟨_,_,_,e⟩:=x; exact Heap.lt_size e
 | frz ob u=>obtain ⟨e,_⟩:=x; exact Heap.lt_size e
 | tbl ps=>exact Heap.lt_size (show h.get? a=some _ from x)
 | met f y=>exact Heap.lt_size (show h.get? a=some _ from x)
 | ext φ=>obtain ⟨_,⟨_,e⟩,_⟩:=x; exact Heap.lt_size e
theorem Paired.mapP {α β:Type} {F G:α->β->Prop}:∀ {l₁:List α} {l₂:List β},Paired F l₁ l₂->(∀ a b,F a b->G a b)->Paired G l₁ l₂
 | _,_,.nil,_=>.nil
 | _,_,.cons r t,f=>.cons (f _ _ r) (Paired.mapP t f)
theorem ObjOk.stay (x:ObjOk P w H h a o) (k:∀ b u,(b=a\/H b=some (.own a))->h.get? b=some u->h'.get? b=some u)
  (ho:∀ b,H b=some (.own a)->H' b=some (.own a)) (ht:∀ b xs,H b=some (.tup xs)->H' b=some (.tup xs)):ObjOk P w H' h' a o:=by
 induction o with
 | lst xs=>obtain ⟨z,its,n,r,e⟩:=x; exact ⟨z,its,n,r,k _ _ (.inl rfl) e⟩
 | tup xs=>obtain ⟨z,its,r,ob,e,c⟩:=x; exact ⟨z,its,r,ob,k _ _ (.inl rfl) e,c⟩
 | dK kvs=>obtain ⟨z,y,vs,r,ob,es,ep,e,c⟩:=x; exact ⟨z,y,vs,r,ob,es,ep,k _ _ (.inl rfl) e,c⟩
 | dT kvs =>
  obtain ⟨z,y,xs,r,ob,es,ep,e,c⟩:=x
  exact ⟨z,y,xs,Paired.mapP r fun p q z=>⟨z.1,ht _ _ z.2.1,z.2.2⟩,ob,es,ep,k _ _ (.inl rfl) e,c⟩
 | set S n=>obtain ⟨ob,es,ep,t,e,c⟩:=x; exact ⟨ob,es,ep,t,k _ _ (.inl rfl) e,c⟩
 | ins C dx fs =>
  obtain ⟨d,z,ne,e,mA,⟨od,es,ep,e2,c⟩,r⟩:=x
  exact ⟨ho _ d,z,ne,k _ _ (.inl rfl) e,mA,⟨od,es,ep,k _ _ (.inr d) e2,c⟩,r⟩
 | own y=>obtain ⟨ob,e⟩:=x; exact ⟨ob,k _ _ (.inl rfl) e⟩
 | xd fs=>obtain ⟨mA,⟨od,es,ep,e,c⟩,r⟩:=x; exact ⟨mA,⟨od,es,ep,k _ _ (.inl rfl) e,c⟩,r⟩
 | rng lo hi=>obtain ⟨t,u,v,e⟩:=x; exact ⟨t,u,v,k _ _ (.inl rfl) e⟩
 | frz ob u ih=>obtain ⟨e,q⟩:=x; exact ⟨k _ _ (.inl rfl) e,ih q⟩
 | tbl ps =>
  have e:h.get? a=some { cls:=.none,data:=.fields ps }:=x
  show h'.get? a=some { cls:=.none,data:=.fields ps }
  exact k a _ (.inl rfl) e
 | met f y =>
  have e:h.get? a=some (PySem.W.methodObj (.ref f) (.ref y)):=x
  show h'.get? a=some (PySem.W.methodObj (.ref f) (.ref y))
  exact k a _ (.inl rfl) e
 | ext φ=>obtain ⟨p,⟨o,e⟩,st⟩:=x; exact ⟨st _ _ p fun o q=>k _ _ (.inl rfl) q,⟨o,k _ _ (.inl rfl) e⟩,st⟩
theorem HOk.lt (x:HOk P w H h) (e:H a=some o):a < h.objs.size:=(x a o e).lt
theorem HOk.fresh (x:HOk P w H h) (e:h.objs.size<=a):H a=none:=by
 cases q:H a with
 | none=>rfl
 | some u=>exact absurd (aaA (x.lt q) e) (aaL _)
theorem HOk.kept (x:HOk P w H h) (k:∀ b u,h.get? b=some u->h'.get? b=some u):HOk P w H h':=fun a o e =>
 (x a o e).stay (fun b u _ q=>k b u q) (fun _ q=>q) fun _ _ q=>q
theorem HOk.laid (x:HOk P w H h) (k:∀ b u,h.get? b=some u->h'.get? b=some u) (hp:h.objs.size<=a) (new:ObjOk P w (upd H a o) h' a o):HOk P w (upd H a o) h':=fun b u e=>by
 have hn:=x.fresh hp
 by_cases hb:b=a
 ·subst hb; rw [AS] at e; cases e; exact new
 ·rw [Ap hb] at e
  exact (x b u e).stay (fun c v _ q=>k c v q) (fun c q=>by rw [Ap (AJ q hn)]; exact q) fun c xs q=>by rw [Ap (AJ q hn)]; exact q
end
noncomputable def Rd (H:Hp) (a:Addr) (u:HO):Prop:=H a=some u\/∃ o,H a=some (.frz o u)
theorem Rd.ok {P:Program} {w:World} {H:Hp} {h:Heap} {a:Addr} {u:HO} (r:Rd H a u) (x:HOk P w H h):ObjOk P w H h a u:=by
 rcases r with r | ⟨o,r⟩
 ·exact x a u r
 ·obtain ⟨_,q⟩:=x a _ r
  exact q
noncomputable def Mut:Option HO->Prop
 | some (.lst _)=>True
 | some (.dK _)=>True
 | some (.dT _)=>True
 | some (.set _ _)=>True
 | some (.ins _ _ _)=>True
 | some (.ext _)=>True
 | _=>False
section
variable {P:Program} {w:World} {H:Hp} {h h':Heap} {x e:Addr} {o':HO}
theorem HOk.write (ok:HOk P w H h) (mu:Mut (H x)) (he:e=x\/H e=some (.own x)) (k:∀ b u,b ≠ e->h.get? b=some u->h'.get? b=some u) (heo:∃ u,h'.get? e=some u)
  (new:ObjOk P w (upd H x o') h' x o'):HOk P w (upd H x o') h':=fun b u q=>by
 have nown:∀ c y,H c=some (.own y)->c ≠ x:=fun c y r z=>by subst z; rw [r] at mu; exact mu
 have ntup:∀ c xs,H c=some (.tup xs)->c ≠ x:=fun c xs r z=>by subst z; rw [r] at mu; exact mu
 by_cases hb:b=x
 ·subst hb; rw [AS] at q; cases q; exact new
 ·rw [Ap hb] at q
  by_cases hbe:b=e
  ·have q':H b=some (.own x):=by
    rcases he with z | z
    ·exact absurd (hbe.trans z) hb
    ·rw [hbe]; exact z
   rw [q] at q'; cases q'
   obtain ⟨v,hv⟩:=heo
   exact ⟨v,by rw [hbe]; exact hv⟩
  ·refine (ok b u q).stay (fun c v hc r=>k c v ?_ r) (fun c r=>by rw [Ap (nown c b r)]; exact r) fun c xs r=>by rw [Ap (ntup c xs r)]; exact r
   rcases hc with rfl | hc
   ·exact hbe
   ·rintro rfl
    rcases he with z | z
    ·exact nown c b hc z
    ·rw [hc] at z; cases z; exact hb rfl
end
structure Un (fs ex:List Addr) (H H':Hp) (h h':Heap):Prop where
 keep:∀ b o,h.get? b=some o->H b=none->b ∉ fs->b ∉ ex->h'.get? b=some o
 slot:∀ b o,h.get? b=some o->H b=none->b ∈ fs->b ∉ ex->∃ sl,h'.get? b=some { o with slots:=sl }
 free:∀ b o,h.get? b=some o->H b=none->b ∉ ex->H' b=none
 there:∀ b o,h.get? b=some o->b ∉ ex->∃ o',h'.get? b=some o'
 tups:∀ b xs,H b=some (.tup xs)->H' b=some (.tup xs)
 frzs:∀ b o u,H b=some (.frz o u)->H' b=some (.frz o u)
 tbls:∀ b ps,H b=some (.tbl ps)->∃ more,H' b=some (.tbl (ps ++ more))
section
variable {fs fs' ex ex':List Addr} {H H1 H2:Hp} {h h1 h2 h':Heap} {a x e:Addr} {o:HO}
theorem Un.any (u:Un fs ex H H1 h h1) {b:Addr} {ob:Obj} (q:h.get? b=some ob) (n:H b=none) (hx:b ∉ ex):∃ sl,h1.get? b=some { ob with slots:=sl }:=by
 by_cases hb:b ∈ fs
 ·exact u.slot b ob q n hb hx
 ·exact ⟨ob.slots,u.keep b ob q n hb hx⟩
theorem Un.kept (k:∀ b u,h.get? b=some u->h'.get? b=some u):Un fs ex H H h h' :=
 ⟨fun b ob q _ _ _=>k b ob q,fun b ob q _ _ _=>⟨ob.slots,k b ob q⟩,fun _ _ _ n _=>n,fun b ob q _=>⟨ob,k b ob q⟩,fun _ _ q=>q,fun _ _ _ q=>q,fun _ ps q=>⟨#[],by rw [q]; simp⟩⟩
theorem Un.refl:Un fs ex H H h h:=Un.kept fun _ _ q=>q
theorem Un.laid (k:∀ b u,h.get? b=some u->h'.get? b=some u) (hp:h.objs.size<=a) (hn:H a=none):Un fs ex H (upd H a o) h h' where
 keep:=fun b u q _ _ _=>k b u q
 slot:=fun b u q _ _ _=>⟨u.slots,k b u q⟩
 free:=fun b u q n _=>by rw [Ap (aaI (aaA (Heap.lt_size q) hp))]; exact n
 there:=fun b u q _=>⟨u,k b u q⟩
 tups:=fun b xs q=>by rw [Ap (AJ q hn)]; exact q
 frzs:=fun b u xs q=>by rw [Ap (AJ q hn)]; exact q
 tbls:=fun b ps q=>⟨#[],by rw [Ap (AJ q hn),q]; simp⟩
theorem Un.write (mu:Mut (H x)) (he:e=x\/H e=some (.own x)) (k:∀ b u,b ≠ e->h.get? b=some u->h'.get? b=some u) (heo:∃ u,h'.get? e=some u):Un fs ex H (upd H x o) h h':=by
 have hx:∀ b,H b=none->b ≠ x:=fun b n z=>by subst z; rw [n] at mu; exact mu
 have hb:∀ b,H b=none->b ≠ e:=fun b n z=>by
  subst z
  rcases he with r | r
  ·exact hx b n r
  ·rw [n] at r; cases r
 have hm:∀ b u,H b=some u->¬ Mut (some u)->b ≠ x:=fun b u q nm z=>by subst z; rw [q] at mu; exact nm mu
 refine ⟨fun b u q n _ _=>k b u (hb b n) q,fun b u q n _ _=>⟨u.slots,k b u (hb b n) q⟩,fun b u q n _=>by rw [Ap (hx b n)]; exact n,fun b u q _=>?_,
  fun b xs q=>by rw [Ap (hm b _ q fun z=>z)]; exact q,fun b u xs q=>by rw [Ap (hm b _ q fun z=>z)]; exact q,fun b ps q=>⟨#[],by rw [Ap (hm b _ q fun z=>z),q]; simp⟩⟩
 by_cases hbe:b=e
 ·subst hbe; exact heo
 ·exact ⟨u,k b u hbe q⟩
end
noncomputable def trk (h:Heap) (H:Hp):List Addr:=(aat h.objs.size).filter fun a=>(H a).isSome
noncomputable def Fi (h:Heap) (H:Hp):Heap:=PySem.W.hideAll h (trk h H)
theorem MM (h:Heap) (H:Hp):(Fi h H).objs.size=h.objs.size:=PySem.W.hideAll_size _ _
theorem Oa {h:Heap} {H:Hp} {b:Addr} {o:Obj} (e:h.get? b=some o) (n:H b=none):(Fi h H).get? b=some o :=
 PySem.W.hideAll_get _ e fun hm=>by
  have q:(H b).isSome=true:=(abn.mp hm).2
  rw [n] at q; simp at q
theorem PQ {h:Heap} {H:Hp} {b:Addr} {o:Obj} (e:(Fi h H).get? b=some o):h.get? b=some o/\H b=none:=by
 have e':h.get? b=some o:=PySem.W.of_hideAll (trk h H) e
 refine ⟨e',?_⟩
 cases q:H b with
 | none=>rfl
 | some x =>
  have hm:b ∈ trk h H:=abn.mpr ⟨abG.mpr (Heap.lt_size e'),by simp [q]⟩
  have z:(Fi h H).get? b=none:=PySem.W.hideAll_none (trk h H) hm
  rw [z] at e; cases e
structure Mod (K:PySem.W.Frag) (mg:Str->Option Value) (base:Heap):Prop where
 kin:K.In base
 glob:base.Ns mainGlobals mg
 blt:∃ mb,base.Ns builtinsNs mb/\∀ x:Str,x ≠ "__name__" -> mb x=bootBuiltins x
 nolimit:base.NoLimit
structure Cx where
 prog:Program
 w:World
 K:PySem.W.Frag
 mg:Str->Option Value
 base:Heap
 A:Around
 N:List Str
 s₀:Shared
 H₀:Hp
 env:Env
 outer:List Env
 stack:List Env
 ex:List Addr
 fn:Str->Bool
 calm:Bool
 pn:List (Addr × Obj)
 xe:Value->Shared->Prop
noncomputable def frs (l:List Env):List Addr:=l.filterMap (·.frame)
noncomputable abbrev Cx.fs (X:Cx):List Addr:=frs X.outer
noncomputable def Vis (sc:Scope) (x:Str):Prop:=sc.names.lookup x=some .local\/sc.names.lookup x=some .cell\/sc.names.lookup x=some .free
noncomputable def Loc (sc:Scope) (x:Str):Prop:=sc.names.lookup x=some .local\/sc.names.lookup x=some .cell
noncomputable def Ut (env:Env) (h:Heap) (m:Str->Option Value) (x:Str) (u:Value):Prop :=
 (env.kindOf x=some .local/\m x=some u)\/((env.kindOf x=some .cell\/env.kindOf x=some .free)/\∃ c,env.cells.lookup x=some c/\h.IsCell c (some u))
structure Cx.Ok (X:Cx):Prop where
 mod:Mod X.K X.mg X.base
 kind:X.env.scope.kind=.function
 glob:X.env.globals=mainGlobals
 blt:X.env.builtins=builtinsNs
 above:X.s₀.heap.objs.size<=X.env.locals
 inj:∀ x y c,X.env.cells.lookup x=some c->X.env.cells.lookup y=some c->x=y
 has:∀ x,(X.env.kindOf x=some .cell\/X.env.kindOf x=some .free)->∃ c,X.env.cells.lookup x=some c
 cab:∀ x c,X.fn x=true->X.env.cells.lookup x=some c->X.s₀.heap.objs.size<=c
 hd:X.calm=true->X.A.handled=none
 frames:X.A.frames=some X.stack
 stk:X.stack=X.outer\/(X.stack=X.env :: X.outer/\X.env.frame=some X.env.locals)
 exf:∀ b ∈ X.ex,b ≠ X.env.locals/\∀ x c,X.env.cells.lookup x=some c->c ≠ b
 bs:∀ b o,X.base.get? b=some o->X.s₀.heap.get? b=some o/\X.H₀ b=none
 bsz:X.base.objs.size<=X.s₀.heap.objs.size
 noex:∀ b o,X.base.get? b=some o->b ∉ X.ex
 exfs:∀ b ∈ X.ex,b ∉ X.fs
 funs:X.s₀.heap.FunFrames X.base X.outer
 frf:∀ b ∈ X.fs,X.H₀ b=none
structure Inv (X:Cx) (pins:List (Addr × Obj)) (σ:List (Option V)) (H:Hp) (s:Shared):Prop where
 ok:X.Ok
 os:s.os=X.s₀.os
 bare:AllBare s.gens
 base:Un X.fs X.ex X.H₀ H X.s₀.heap s.heap
 loc:∃ m,s.heap.Ns X.env.locals m/\∀ (i:Nat) (x:Str) (v:V),X.N[i]?=some x->σ[i]?=some (some v)->Vis X.env.scope x->∃ u,RelV v u/\Ut X.env s.heap m x u
 cell:∀ x c,X.env.cells.lookup x=some c->∃ v,s.heap.IsCell c v
 free:H X.env.locals=none
 freeC:∀ x c,X.env.cells.lookup x=some c->H c=none
 pin:∀ p ∈ X.pn ++ pins,s.heap.get? p.1=some p.2/\H p.1=none/\p.1 ≠ X.env.locals/\p.1 ∉ X.fs/\∀ v,p.2.data ≠ .cell v
 hok:HOk X.prog X.w H s.heap
 len:σ.length=X.N.length
section
variable {X:Cx} {pins:List (Addr × Obj)} {σ:List (Option V)} {H H':Hp} {s:Shared} {h':Heap}
theorem Cx.Ok.nofr (ok:X.Ok) {b:Addr} {o:Obj} (e:X.base.get? b=some o):b ∉ X.fs:=fun hb=>by
 have:=(ok.funs.mem hb).1
 rw [e] at this; cases this
theorem Inv.bs (I:Inv X pins σ H s):∀ b o,X.base.get? b=some o->s.heap.get? b=some o/\H b=none:=fun b o e =>
 ⟨I.base.keep b o (I.ok.bs b o e).1 (I.ok.bs b o e).2 (I.ok.nofr e) (I.ok.noex b o e),I.base.free b o (I.ok.bs b o e).1 (I.ok.bs b o e).2 (I.ok.noex b o e)⟩
theorem Inv.bk (I:Inv X pins σ H s):∀ b o,X.base.get? b=some o->s.heap.get? b=some o:=fun b o e=>(I.bs b o e).1
theorem Inv.mod (I:Inv X pins σ H s):Mod X.K X.mg X.base:=I.ok.mod
theorem Inv.kIn (I:Inv X pins σ H s):X.K.In s.heap:=I.ok.mod.kin.keeps I.bk
theorem Inv.fr (I:Inv X pins σ H s):∃ m,Fr X.base X.env.locals s.heap m :=
 let ⟨m,hn,_⟩:=I.loc
 ⟨m,hn,I.bk,aaM I.ok.bsz I.ok.above⟩
theorem Inv.lt (I:Inv X pins σ H s):X.env.locals < s.heap.objs.size:=let ⟨_,hn,_⟩:=I.loc; hn.lt
theorem Inv.sz (I:Inv X pins σ H s):X.s₀.heap.objs.size<=s.heap.objs.size:=aaM I.ok.above (acw I.lt)
theorem Inv.nofs (I:Inv X pins σ H s) {a:Addr} (h:s.heap.objs.size<=a):a ∉ X.fs:=fun hb=>by
 obtain ⟨_,o,ho,_⟩:=I.ok.funs.mem hb
 exact absurd (aaA (Heap.lt_size ho) (aaM I.sz h)) (aaL _)
theorem Inv.cne (I:Inv X pins σ H s):∀ x c,X.env.cells.lookup x=some c->c ≠ X.env.locals:=fun x c e z=>by
 obtain ⟨v,o,ho,hd⟩:=I.cell x c e
 obtain ⟨m,⟨o',es,ep,ho',hd',_⟩,_⟩:=I.loc
 rw [z,ho'] at ho; cases ho; rw [hd'] at hd; cases hd
theorem Inv.funs (I:Inv X pins σ H s):s.heap.FunFrames X.base X.outer:=by
 have all:∀ (l:List Env),(∀ b ∈ frs l,b ∈ X.fs)->X.s₀.heap.FunFrames X.base l->s.heap.FunFrames X.base l:=by
  intro l
  induction l with
  | nil=>intro _ _; trivial
  | cons env r ih =>
   intro hs hl
   obtain ⟨hk,⟨L,o,hf,hn,ho,hd⟩,hr⟩:=hl
   have hL:L ∈ X.fs:=hs L (by unfold frs; rw [abd,hf]; exact aac)
   obtain ⟨sl,e⟩:=I.base.slot L o ho (I.ok.frf L hL) hL fun z=>I.ok.exfs L z hL
   exact ⟨hk,⟨L,_,hf,hn,e,hd⟩,ih (fun b hb=>hs b (by unfold frs; rw [abd,hf]; exact aab _ hb)) hr⟩
 exact all X.outer (fun _ hb=>hb) I.ok.funs
theorem Inv.stack (I:Inv X pins σ H s):s.heap.FunFrames X.base X.stack:=by
 rcases I.ok.stk with e | ⟨e,hf⟩
 ·rw [e]; exact I.funs
 ·rw [e]
  obtain ⟨m,hn,_⟩:=I.loc
  refine .cons (by rw [I.ok.kind]; decide) hf hn ?_ I.funs
  exact Heap.get?_none_of_le (aaM I.ok.bsz I.ok.above)
theorem Inv.stkSub (I:Inv X pins σ H s):∀ b ∈ frs X.stack,b ∈ X.env.locals :: X.fs:=fun b hb=>by
 rcases I.ok.stk with e | ⟨e,hf⟩
 ·rw [e] at hb; exact aab _ hb
 ·rw [e] at hb
  unfold frs at hb
  rw [abd,hf] at hb
  exact hb
theorem Inv.stkFree (I:Inv X pins σ H s):∀ b ∈ frs X.stack,H b=none:=fun b hb=>by
 rcases aal.mp (I.stkSub b hb) with e | hb
 ·rw [e]; exact I.free
 ·obtain ⟨_,o,ho,_⟩:=I.ok.funs.mem hb
  exact I.base.free b o ho (I.ok.frf b hb) fun z=>I.ok.exfs b z hb
theorem Inv.step {g':Array GenState} {t':Nat} {d':Drawn} {ch:List Addr} (I:Inv X pins σ H s)
  (hch:∀ b ∈ ch,(b ∈ X.ex\/X.s₀.heap.objs.size<=b)/\b ≠ X.env.locals/\(∀ x c,X.env.cells.lookup x=some c->c ≠ b)/\∀ p ∈ X.pn ++ pins,p.1 ≠ b)
  (keep:∀ b o,b ≠ X.env.locals->b ∉ X.fs->b ∉ ch->s.heap.get? b=some o->H b=none->h'.get? b=some o)
  (slot:∀ b o,b ≠ X.env.locals->b ∈ X.fs->b ∉ ch->s.heap.get? b=some o->H b=none->∃ sl,h'.get? b=some { o with slots:=sl }) (free:∀ b o,b ∉ ch->s.heap.get? b=some o->H b=none->H' b=none)
  (there:∀ b o,b ∉ ch->s.heap.get? b=some o->∃ o',h'.get? b=some o')
  (tups:∀ b xs,H b=some (.tup xs)->H' b=some (.tup xs)) (frzs:∀ b o u,H b=some (.frz o u)->H' b=some (.frz o u)) (tbls:∀ b ps,H b=some (.tbl ps)->∃ more,H' b=some (.tbl (ps ++ more)))
  (ns:∀ m,s.heap.Ns X.env.locals m->h'.Ns X.env.locals m) (hok:HOk X.prog X.w H' h') (hg:AllBare g') :
  Inv X pins σ H' { s with heap:=h',gens:=g',drawn:=d',toks:=t' }:=by
 have neL:∀ b o,X.s₀.heap.get? b=some o->b ≠ X.env.locals:=fun b o e=>aaI (aaA (Heap.lt_size e) I.ok.above)
 have neC:∀ b o,X.s₀.heap.get? b=some o->b ∉ X.ex->b ∉ ch:=fun b o e hx hb=>by
  rcases (hch b hb).1 with z | z
  ·exact hx z
  ·exact absurd (aaA (Heap.lt_size e) z) (aaL _)
 have cellK:∀ x c,X.env.cells.lookup x=some c->∀ v,s.heap.IsCell c v->h'.IsCell c v:=fun x c e v ⟨o,ho,hd⟩=>by
  have nch:c ∉ ch:=fun z=>(hch c z).2.2.1 x c e rfl
  by_cases hc:c ∈ X.fs
  ·obtain ⟨sl,q⟩:=slot c o (I.cne x c e) hc nch ho (I.freeC x c e)
   exact ⟨_,q,hd⟩
  ·exact ⟨o,keep c o (I.cne x c e) hc nch ho (I.freeC x c e),hd⟩
 refine ⟨I.ok,I.os,hg,⟨fun b o e n hb hx=>?_,fun b o e n hb hx=>?_,fun b o e n hx=>?_,fun b o e hx=>?_,fun b xs e=>tups b xs (I.base.tups b xs e),fun b o xs e=>frzs b o xs (I.base.frzs b o xs e),fun b ps e=>?_⟩,?_,fun x c e=>?_,?_,fun x c e=>?_,fun p hp=>?_,hok,I.len⟩
 ·exact keep b o (neL b o e) hb (neC b o e hx) (I.base.keep b o e n hb hx) (I.base.free b o e n hx)
 ·obtain ⟨sl,e1⟩:=I.base.slot b o e n hb hx
  obtain ⟨sl',e2⟩:=slot b _ (neL b o e) hb (neC b o e hx) e1 (I.base.free b o e n hx)
  exact ⟨sl',e2⟩
 ·obtain ⟨o',e1⟩:=I.base.there b o e hx
  exact free b o' (neC b o e hx) e1 (I.base.free b o e n hx)
 ·obtain ⟨o',e1⟩:=I.base.there b o e hx
  exact there b o' (neC b o e hx) e1
 ·obtain ⟨m1,e1⟩:=I.base.tbls b ps e
  obtain ⟨m2,e2⟩:=tbls b _ e1
  exact ⟨m1 ++ m2,by rw [e2,Array.append_assoc]⟩
 ·obtain ⟨m,hn,hl⟩:=I.loc
  refine ⟨m,ns m hn,fun i x v e1 e2 e3=>?_⟩
  obtain ⟨u,r,l⟩:=hl i x v e1 e2 e3
  refine ⟨u,r,?_⟩
  rcases l with l | ⟨k,c,e,z⟩
  ·exact .inl l
  ·exact .inr ⟨k,c,e,cellK x c e _ z⟩
 ·obtain ⟨v,z⟩:=I.cell x c e
  exact ⟨v,cellK x c e v z⟩
 ·obtain ⟨m,⟨o,_,_,ho,_⟩,_⟩:=I.loc
  exact free _ o (fun z=>(hch _ z).2.1 rfl) ho I.free
 ·obtain ⟨v,o,ho,hd⟩:=I.cell x c e
  exact free c o (fun z=>(hch c z).2.2.1 x c e rfl) ho (I.freeC x c e)
 ·obtain ⟨e,n,ne,nf,d⟩:=I.pin p hp
  have nch:p.1 ∉ ch:=fun z=>(hch p.1 z).2.2.2 p hp rfl
  exact ⟨keep p.1 p.2 ne nf nch e n,free p.1 p.2 nch e n,ne,nf,d⟩
theorem Inv.un {t':Nat} (I:Inv X pins σ H s) (u:Un X.fs [] H H' s.heap h') (hok:HOk X.prog X.w H' h'):Inv X pins σ H' { s with heap:=h',toks:=t' }:=by
 obtain ⟨m,⟨o,es,ep,ho,r⟩,_⟩:=id I.loc
 obtain ⟨sl,hL⟩:=u.any ho I.free (by simp)
 exact I.step (g':=s.gens) (d':=s.drawn) (ch:=[]) (fun _ z=>nomatch z) (fun b o _ hb _ e n=>u.keep b o e n hb (by simp)) (fun b o _ hb _ e n=>u.slot b o e n hb (by simp)) (fun b o _ e n=>u.free b o e n (by simp)) (fun b o _ e=>u.there b o e (by simp)) u.tups u.frzs u.tbls (fun m' hm=>by
  obtain ⟨o',es',ep',ho',r'⟩:=hm
  rw [ho] at ho'; cases ho'
  exact ⟨_,es',ep',hL,r'⟩) hok I.bare
theorem Inv.call {g':Array GenState} {t':Nat} {d':Drawn} {ch:List Addr} (I:Inv X pins σ H s) (u:Un (frs X.stack) ch H H' s.heap h') (hok:HOk X.prog X.w H' h') (hg:AllBare g')
  (hch:∀ b ∈ ch,(b ∈ X.ex\/X.s₀.heap.objs.size<=b)/\b ≠ X.env.locals/\(∀ x c,X.env.cells.lookup x=some c->c ≠ b)/\∀ p ∈ X.pn ++ pins,p.1 ≠ b) :
  Inv X pins σ H' { s with heap:=h',gens:=g',drawn:=d',toks:=t' }:=by
 obtain ⟨m,⟨o,es,ep,ho,r⟩,_⟩:=id I.loc
 obtain ⟨sl,hL⟩:=u.any ho I.free fun z=>(hch _ z).2.1 rfl
 exact I.step (ch:=ch) hch (fun b o hL hb hc e n=>u.keep b o e n (fun z=>(aal.mp (I.stkSub b z)).elim hL hb) hc) (fun b o _ _ hc e n=>u.any e n hc) (fun b o hc e n=>u.free b o e n hc) (fun b o hc e=>u.there b o e hc) u.tups u.frzs u.tbls (fun m' hm=>by
  obtain ⟨o',es',ep',ho',r'⟩:=hm
  rw [ho] at ho'; cases ho'
  exact ⟨_,es',ep',hL,r'⟩) hok hg
theorem Inv.turned {t':Nat} {it:Addr} (I:Inv X pins σ H s) (k:∀ b o,b ≠ it->s.heap.get? b=some o->h'.get? b=some o) (hn:H it=none) (hL:it ≠ X.env.locals)
  (h1:it ∈ X.ex\/X.s₀.heap.objs.size<=it) (h2:∀ x c,X.env.cells.lookup x=some c->c ≠ it) (h3:∀ p ∈ X.pn ++ pins,p.1 ≠ it):Inv X pins σ H { s with heap:=h',toks:=t' }:=by
 have nit:∀ b u,H b=some u->b ≠ it:=fun b u e z=>by rw [z,hn] at e; cases e
 refine I.step (g':=s.gens) (d':=s.drawn) (ch:=[it]) (fun b hb=>?_) (fun b o _ _ hc e _=>k b o (fun z=>hc (by simp [z])) e) (fun b o _ _ hc e _=>⟨o.slots,k b o (fun z=>hc (by simp [z])) e⟩) (fun _ _ _ _ n=>n)
  (fun b o hc e=>⟨o,k b o (fun z=>hc (by simp [z])) e⟩) (fun _ _ e=>e) (fun _ _ _ e=>e) (fun b ps e=>⟨#[],by rw [e]; simp⟩) (fun m hm=>?_) (fun b u e=>?_) I.bare
 ·have e:b=it:=by simpa using hb
  subst e
  exact ⟨h1,hL,h2,h3⟩
 ·obtain ⟨o,es,ep,ho,r⟩:=hm
  exact ⟨o,es,ep,k _ o (Ne.symm hL) ho,r⟩
 ·refine (I.hok b u e).stay (fun c v hc q=>k c v ?_ q) (fun _ q=>q) fun _ _ q=>q
  rcases hc with z | z
  ·rw [z]; exact nit b u e
  ·exact nit c _ z
theorem Inv.tok (I:Inv X pins σ H s) (t:Nat):Inv X pins σ H { s with toks:=t }:=I.un (h':=s.heap) (t':=t) Un.refl I.hok
theorem Inv.kept {t':Nat} (I:Inv X pins σ H s) (k:∀ b u,s.heap.get? b=some u->h'.get? b=some u):Inv X pins σ H { s with heap:=h',toks:=t' }:=I.un (Un.kept k) (I.hok.kept k)
theorem Inv.laid {a:Addr} {o:HO} {t':Nat} (I:Inv X pins σ H s) (k:∀ b u,s.heap.get? b=some u->h'.get? b=some u) (hp:s.heap.objs.size<=a) (new:ObjOk X.prog X.w (upd H a o) h' a o) :
  Inv X pins σ (upd H a o) { s with heap:=h',toks:=t' }:=I.un (Un.laid k hp (I.hok.fresh hp)) (I.hok.laid k hp new)
theorem Inv.write {x e:Addr} {o:HO} {t':Nat} (I:Inv X pins σ H s) (mu:Mut (H x)) (he:e=x\/H e=some (.own x)) (k:∀ b u,b ≠ e->s.heap.get? b=some u->h'.get? b=some u) (heo:∃ u,h'.get? e=some u)
  (new:ObjOk X.prog X.w (upd H x o) h' x o):Inv X pins σ (upd H x o) { s with heap:=h',toks:=t' }:=I.un (Un.write mu he k heo) (I.hok.write mu he k heo new)
theorem Inv.weak {σ':List (Option V)} (I:Inv X pins σ H s) (hl:σ'.length=σ.length) (w:∀ (i:Nat) v,σ'[i]?=some (some v)->σ[i]?=some (some v)):Inv X pins σ' H s :=
 ⟨I.ok,I.os,I.bare,I.base,let ⟨m,hn,hl'⟩:=I.loc; ⟨m,hn,fun i x v e1 e2 e3=>hl' i x v e1 (w i v e2) e3⟩,I.cell,I.free,I.freeC,I.pin,I.hok,hl.trans I.len⟩
theorem Inv.pins_of {pins':List (Addr × Obj)} (I:Inv X pins σ H s) (h:∀ p ∈ pins',s.heap.get? p.1=some p.2/\H p.1=none/\p.1 ≠ X.env.locals/\p.1 ∉ X.fs/\∀ v,p.2.data ≠ .cell v):Inv X pins' σ H s :=
 ⟨I.ok,I.os,I.bare,I.base,I.loc,I.cell,I.free,I.freeC,fun p hp=>(aaf.mp hp).elim (fun z=>I.pin p (aax _ z)) (h p),I.hok,I.len⟩
theorem Jb {N:List Str} (hN:N.Nodup) {i j:Nat} {x:Str} (a:N[i]?=some x) (b:N[j]?=some x):i=j:=by
 obtain ⟨h1,e1⟩:=aaq.mp a
 obtain ⟨h2,e2⟩:=aaq.mp b
 exact (List.getElem_inj hN).mp (e1.trans e2.symm)
theorem Ik {M:Model} {A:Around} {E:Value->Shared->Prop} {i:Nat} {x:Str} {v:V} {u:Value} {Q:Unit->Shared->Prop} (I:Inv X pins σ H s) (hN:X.N.Nodup) (hi:X.N[i]?=some x) (hx:Loc X.env.scope x) (r:RelV v u)
  (h:∀ s',Inv X pins (σ.set i (some v)) H s'->(∃ a,Heap.SameBut a s.heap s'.heap/\(a=X.env.locals\/X.env.cells.lookup x=some a))->Q () s') (hf:X.fn x=true\/X.env.scope.names.lookup x=some .local:=by first | exact .inl rfl | exact .inr rfl | assumption):wpAny M A (storeName X.env x u) Q E s:=by
 obtain ⟨m,hn,hl⟩:=id I.loc
 have hcls:(X.env.scope.kind==.class || (X.env.scope.kind==.module && X.env.locals != X.env.globals))=false:=by rw [I.ok.kind]; rfl
 have hiσ:i < σ.length:=by rw [I.len]; exact (aaq.mp hi).1
 have cne:=I.cne
 have tracked:∀ {a:Addr} {h':Heap},(∃ o,s.heap.get? a=some o/\H a=none)->Heap.SameBut a s.heap h'->HOk X.prog X.w H h':=fun {a h'} ha hs b ob e=>by
  obtain ⟨_,_,hfree⟩:=ha
  refine (I.hok b ob e).stay (fun c w' hc q=>(hs.2 c ?_).trans q) (fun _ q=>q) fun _ _ q=>q
  rintro rfl
  rcases hc with rfl | hc
  ·rw [hfree] at e; cases e
  ·rw [hfree] at hc; cases hc
 rcases hx with hk | hk
 ·refine wpAny_storeName_local hk hn (fun h' hn' hs=>?_) hcls
  obtain ⟨oL,_,_,hoL,_⟩:=id hn
  refine h _ ⟨I.ok,I.os,I.bare,⟨fun b o e n hb hx=>?_,fun b o e n hb hx=>?_,I.base.free,fun b o e hx=>?_,I.base.tups,I.base.frzs,I.base.tbls⟩,⟨_,hn',fun j y v' e1 e2 e3=>?_⟩,fun y c e=>?_,I.free,I.freeC,fun p hp=>?_,tracked ⟨oL,hoL,I.free⟩ hs,by simpa using I.len⟩ ⟨_,hs,.inl rfl⟩
  ·exact (hs.2 b (aaI (aaA (Heap.lt_size e) I.ok.above))).trans (I.base.keep b o e n hb hx)
  ·obtain ⟨sl,e1⟩:=I.base.slot b o e n hb hx
   exact ⟨sl,(hs.2 b (aaI (aaA (Heap.lt_size e) I.ok.above))).trans e1⟩
  ·obtain ⟨o',e1⟩:=I.base.there b o e hx
   exact ⟨o',(hs.2 b (aaI (aaA (Heap.lt_size e) I.ok.above))).trans e1⟩
  ·by_cases hj:j=i
   ·subst hj
    rw [hi] at e1; cases e1
    rw [ack hiσ] at e2
    cases e2
    exact ⟨u,r,.inl ⟨hk,by simp⟩⟩
   ·rw [aaB (Ne.symm hj)] at e2
    obtain ⟨u',r',q⟩:=hl j y v' e1 e2 e3
    refine ⟨u',r',?_⟩
    rcases q with ⟨k,e⟩ | ⟨k,c,e,z⟩
    ·refine .inl ⟨k,?_⟩
     have:y ≠ x:=fun e=>hj (Jb hN e1 (e ▸ hi))
     simp [this,e]
    ·exact .inr ⟨k,c,e,z.sameBut hs (cne y c e)⟩
  ·obtain ⟨w',z⟩:=I.cell y c e
   exact ⟨w',z.sameBut hs (cne y c e)⟩
  ·obtain ⟨e,n,ne,nf,d⟩:=I.pin p hp
   exact ⟨(hs.2 p.1 ne).trans e,n,ne,nf,d⟩
 ·have hfn:X.fn x=true:=by
   rcases hf with z | z
   ·exact z
   ·rw [z] at hk; cases hk
  obtain ⟨c,hc⟩:=I.ok.has x (.inl hk)
  obtain ⟨w',z⟩:=I.cell x c hc
  refine wpAny_storeName_cell I.ok.kind hk hc z (fun h' hc' hs=>?_)
  obtain ⟨oc,hoc,hocd⟩:=id z
  refine h { s with heap:=h' } ⟨I.ok,I.os,I.bare,⟨fun b o e n hb hx=>?_,fun b o e n hb hx=>?_,I.base.free,fun b o e hx=>?_,I.base.tups,I.base.frzs,I.base.tbls⟩,⟨m,hn.sameBut hs (Ne.symm (cne x c hc)),fun j y v' e1 e2 e3=>?_⟩,fun y c' e=>?_,I.free,I.freeC,fun p hp=>?_,tracked ⟨oc,hoc,I.freeC x c hc⟩ hs,by simpa using I.len⟩ ⟨c,hs,.inr hc⟩
  ·exact (hs.2 b (aaI (aaA (Heap.lt_size e) (I.ok.cab x c hfn hc)))).trans (I.base.keep b o e n hb hx)
  ·obtain ⟨sl,e1⟩:=I.base.slot b o e n hb hx
   exact ⟨sl,(hs.2 b (aaI (aaA (Heap.lt_size e) (I.ok.cab x c hfn hc)))).trans e1⟩
  ·obtain ⟨o',e1⟩:=I.base.there b o e hx
   exact ⟨o',(hs.2 b (aaI (aaA (Heap.lt_size e) (I.ok.cab x c hfn hc)))).trans e1⟩
  ·by_cases hj:j=i
   ·subst hj
    rw [hi] at e1; cases e1
    rw [ack hiσ] at e2
    cases e2
    exact ⟨u,r,.inr ⟨.inl hk,c,hc,hc'⟩⟩
   ·rw [aaB (Ne.symm hj)] at e2
    obtain ⟨u',r',q⟩:=hl j y v' e1 e2 e3
    refine ⟨u',r',?_⟩
    rcases q with q | ⟨k,c',e,z'⟩
    ·exact .inl q
    ·refine .inr ⟨k,c',e,z'.sameBut hs ?_⟩
     rintro rfl
     exact hj (Jb hN e1 (I.ok.inj _ _ _ e hc ▸ hi))
  ·by_cases hcc:c'=c
   ·subst hcc; exact ⟨_,hc'⟩
   ·obtain ⟨w2,z2⟩:=I.cell y c' e
    exact ⟨w2,z2.sameBut hs hcc⟩
  ·obtain ⟨e,n,ne,nf,d⟩:=I.pin p hp
   refine ⟨(hs.2 p.1 ?_).trans e,n,ne,nf,d⟩
   intro q
   rw [q,hoc] at e
   have q':oc=p.2:=Option.some.inj e
   exact d w' (by rw [<- q']; exact hocd)
theorem Jc {M:Model} {A:Around} {E:Value->Shared->Prop} {i:Nat} {x:Str} {v:V} {u:Value} {Q:Unit->Shared->Prop} (I:Inv X pins σ H s) (hN:X.N.Nodup) (hi:X.N[i]?=some x) (hx:Loc X.env.scope x) (r:RelV v u)
  (h:∀ s',Inv X pins (σ.set i (some v)) H s'->Q () s') (hf:X.fn x=true\/X.env.scope.names.lookup x=some .local:=by first | exact .inl rfl | exact .inr rfl | assumption):wpAny M A (storeName X.env x u) Q E s :=
 Ik I hN hi hx r (fun s' I' _=>h s' I') hf
theorem Inv.call' {s':Shared} {ch:List Addr} (I:Inv X pins σ H s) (ho:s'.os=s.os) (u:Un (frs X.stack) ch H H' s.heap s'.heap) (hok:HOk X.prog X.w H' s'.heap) (hg:AllBare s'.gens)
  (hch:∀ b ∈ ch,(b ∈ X.ex\/X.s₀.heap.objs.size<=b)/\b ≠ X.env.locals/\(∀ x c,X.env.cells.lookup x=some c->c ≠ b)/\∀ p ∈ X.pn ++ pins,p.1 ≠ b):Inv X pins σ H' s':=by
 obtain ⟨h',g',d',t',o'⟩:=s'
 have e:o'=s.os:=ho
 subst e
 exact I.call (g':=g') (t':=t') (d':=d') u hok hg hch
end
noncomputable abbrev XK:=Value->Option Addr->Hp->Prop
noncomputable abbrev St:=List (Option V)
noncomputable abbrev VK:=V->Hp->Prop
noncomputable abbrev TE:=St->Hp->VK->Prop
noncomputable abbrev TT:=St->Hp->(Bool->Hp->Prop)->Prop
noncomputable abbrev TA:=St->Hp->(List V->Hp->Prop)->Prop
structure Ends where
 nx:St->Hp->Prop
 rt:VK
 bk:St->Hp->Prop:=fun _ _=>False
 ct:St->Hp->Prop:=fun _ _=>False
noncomputable abbrev TS:=Ends->St->Hp->Prop
noncomputable def EP (X:Cx) (pins:List (Addr × Obj)) (σ:St) (Q:VK) (u:Value) (s':Shared):Prop:=∃ v H',Inv X pins σ H' s'/\RelV v u/\Q v H'
noncomputable def TP (X:Cx) (pins:List (Addr × Obj)) (σ:St) (Q:Bool->Hp->Prop) (b:Bool) (s':Shared):Prop:=∃ H',Inv X pins σ H' s'/\Q b H'
noncomputable def AP (X:Cx) (pins:List (Addr × Obj)) (σ:St) (Q:List V->Hp->Prop) (us:List Value) (s':Shared):Prop:=∃ vs H',Inv X pins σ H' s'/\Vals vs us/\Q vs H'
noncomputable def SP (X:Cx) (pins:List (Addr × Obj)) (D:Ends) (f:Flow) (s':Shared):Prop :=
 match f with
 | .next=>∃ σ' H',Inv X pins σ' H' s'/\D.nx σ' H'
 | .brk=>∃ σ' H',Inv X pins σ' H' s'/\D.bk σ' H'
 | .cont=>∃ σ' H',Inv X pins σ' H' s'/\D.ct σ' H'
 | .ret u=>∃ v σ' H',Inv X pins σ' H' s'/\RelV v u/\D.rt v H'
noncomputable def PE (X:Cx) (e:Expr) (t:TE):Prop :=
 ∀ (pins:List (Addr × Obj)) (s:Shared) (σ:St) (H:Hp) (Q:VK),Inv X pins σ H s->t σ H Q->wpAny (model X.prog X.w) X.A (eval e X.env) (EP X pins σ Q) X.xe s
noncomputable def PT (X:Cx) (e:Expr) (t:TT):Prop :=
 ∀ (pins:List (Addr × Obj)) (s:Shared) (σ:St) (H:Hp) (Q:Bool->Hp->Prop),Inv X pins σ H s->t σ H Q->wpAny (model X.prog X.w) X.A (isTrue e X.env (eval e X.env)) (TP X pins σ Q) X.xe s
noncomputable def PW (X:Cx) (e:Expr) (t:TT):Prop :=
 ∀ (whole:Sem Value) (pins:List (Addr × Obj)) (s:Shared) (σ:St) (H:Hp) (Q:Bool->Hp->Prop),Inv X pins σ H s->t σ H Q->wpAny (model X.prog X.w) X.A (isTrue e X.env whole) (TP X pins σ Q) X.xe s
theorem PW.pt {X:Cx} {e:Expr} {t:TT} (h:PW X e t):PT X e t:=h _
noncomputable def PA (X:Cx) (es:List Expr) (t:TA):Prop :=
 ∀ (pos:Pos) (pins:List (Addr × Obj)) (s:Shared) (σ:St) (H:Hp) (Q:List V->Hp->Prop),Inv X pins σ H s->t σ H Q->wpAny (model X.prog X.w) X.A (spliced (backTo pos (starEach es X.env))) (AP X pins σ Q) X.xe s
noncomputable def PS (X:Cx) (st:Stmt) (t:TS):Prop :=
 ∀ (pins:List (Addr × Obj)) (s:Shared) (σ:St) (H:Hp) (D:Ends),Inv X pins σ H s->t D σ H->wpAny (model X.prog X.w) X.A (exec st X.env) (SP X pins D) X.xe s
noncomputable def PSs (X:Cx) (st:List Stmt) (t:TS):Prop :=
 ∀ (pins:List (Addr × Obj)) (s:Shared) (σ:St) (H:Hp) (D:Ends),Inv X pins σ H s->t D σ H->wpAny (model X.prog X.w) X.A (execs st X.env) (SP X pins D) X.xe s
theorem thn {α:Type} {t:Sem α} {Q Q':α->Shared->Prop} {M:Model} {A:Around} {E:Value->Shared->Prop} {s:Shared} (h:wpAny M A t Q E s) (hQ:∀ a s,Q a s->Q' a s):wpAny M A t Q' E s:=wpAny_mono h hQ fun _ _ x=>x
section
variable {X:Cx}
theorem bin {a b:Expr} {ta tb:TE} (ha:PE X a ta) (hb:PE X b tb) {pins:List (Addr × Obj)} {s:Shared} {σ:St} {H:Hp} {R:V->V->Hp->Prop} (I:Inv X pins σ H s) (h:ta σ H fun x H1=>tb σ H1 fun y H2=>R x y H2)
  {α:Type} {Q:α->Shared->Prop} {f:Value->Value->Sem α}
  (hf:∀ v u s2 x y H2,Inv X pins σ H2 s2->RelV x v->RelV y u->R x y H2->wpAny (model X.prog X.w) X.A (f v u) Q X.xe s2) :
  wpAny (model X.prog X.w) X.A (eval a X.env) (fun v s₁=>wpAny (model X.prog X.w) X.A (eval b X.env) (fun u s₂=>wpAny (model X.prog X.w) X.A (f v u) Q X.xe s₂) X.xe s₁) X.xe s:=by
 refine thn (ha pins s σ H _ I h) fun v s1 ⟨x,H1,I1,r1,q1⟩=>?_
 refine thn (hb pins s1 σ H1 _ I1 q1) fun u s2 ⟨y,H2,I2,r2,q2⟩=>?_
 exact hf v u s2 x y H2 I2 r1 r2 q2
noncomputable def Ob (i:Nat):TE:=fun σ H Q=>∃ v,σ[i]?=some (some v)/\Q v H
noncomputable def tC (v:V):TE:=fun _ H Q=>Q v H
theorem E2 {i:Nat} {x:Str} {pos:Pos} (hN:X.N[i]?=some x) (hv:Vis X.env.scope x) (hd:(x==("__debug__" : Str))=false:=by decide) (hcd:(x==("__classdict__" : Str))=false:=by decide):PE X (.Name x pos) (Ob i):=by
 intro pins s σ H Q I h
 obtain ⟨v,e,h⟩:=h
 obtain ⟨m,hn,hl⟩:=I.loc
 obtain ⟨u,r,l⟩:=hl i x v hN e hv
 have fin:EP X pins σ Q u s:=⟨v,H,I,r,h⟩
 rcases l with ⟨hk,hm⟩ | ⟨hk,c,hc,hcell⟩
 ·exact wpAny_Name (wpAny_loadName_local I.ok.kind hk hn hm fin) hd
 ·rcases hk with hk | hk
  ·exact wpAny_Name (wpAny_loadName_cell I.ok.kind hk hc hcell fin) hd
  ·exact wpAny_Name (wpAny_loadName_free I.ok.kind hk hc hcell fin hcd) hd
theorem RC {i j pos}:PE X (.Constant (.int i) j pos) (tC (.int i)):=fun _ _ _ H _ I h=>wpAny_Constant_int ⟨.int i,H,I.tok _,⟨_,rfl⟩,h⟩
theorem Ty {b j pos}:PE X (.Constant (.bool b) j pos) (tC (.bl b)):=fun _ _ _ H _ I h=>Constant_bool ⟨.bl b,H,I,rfl,h⟩
theorem RE {j pos}:PE X (.Constant .none j pos) (tC .non):=fun _ _ _ H _ I h=>Constant_none ⟨.non,H,I,rfl,h⟩
theorem RF {x j pos}:PE X (.Constant (.str x) j pos) (tC (.str x)):=fun _ _ _ H _ I h=>Calls.Constant_str ⟨.str x,H,I.tok _,⟨_,rfl⟩,h⟩
noncomputable def Gl (X:Cx) (x:Str):Prop:=X.env.kindOf x=some .globalImplicit
theorem HE {E:Value->Shared->Prop} {pins:List (Addr × Obj)} {s:Shared} {σ:St} {H:Hp} {x:Str} {u:Value} {pos:Pos} {Q:Value->Shared->Prop} (I:Inv X pins σ H s) (hg:Gl X x) (hm:X.mg x=some u) (h:Q u s)
  (hd:(x==("__debug__" : Str))=false:=by decide):wpAny (model X.prog X.w) X.A (eval (.Name x pos) X.env) Q E s :=
 Calls.Name_function_global I.ok.kind hg (Calls.loadGlobal_global (by rw [I.ok.glob]; exact I.mod.glob.keeps I.bk) hm h) hd
theorem E3 {E:Value->Shared->Prop} {pins:List (Addr × Obj)} {s:Shared} {σ:St} {H:Hp} {x:Str} {u:Value} {pos:Pos} {Q:Value->Shared->Prop} (I:Inv X pins σ H s) (hg:Gl X x) (hm:X.mg x=none) (hv:bootBuiltins x=some u) (h:Q u s)
  (hn:x ≠ "__name__" := by decide) (hd:(x==("__debug__" : Str))=false:=by decide):wpAny (model X.prog X.w) X.A (eval (.Name x pos) X.env) Q E s:=by
 obtain ⟨mb,h1,h2⟩:=I.mod.blt
 exact Calls.Name_function_global I.ok.kind hg (Calls.loadGlobal_builtin (by rw [I.ok.glob]; exact I.mod.glob.keeps I.bk) hm (by rw [I.ok.blt]; exact h1.keeps I.bk) ((h2 x hn).trans hv) h) hd
theorem KQ {x:Str} {v:V} {u:Value} {pos:Pos} (hg:Gl X x) (hm:X.mg x=some u) (r:RelV v u) (hd:(x==("__debug__" : Str))=false:=by decide):PE X (.Name x pos) (tC v) :=
 fun _ _ _ H _ I h=>HE I hg hm ⟨v,H,I,r,h⟩ hd
theorem PR {x:Str} {v:V} {u:Value} {pos:Pos} (hg:Gl X x) (hm:X.mg x=none) (hv:bootBuiltins x=some u) (r:RelV v u) (hn:x ≠ "__name__" := by decide) (hd:(x==("__debug__" : Str))=false:=by decide):PE X (.Name x pos) (tC v) :=
 fun _ _ _ H _ I h=>E3 I hg hm hv ⟨v,H,I,r,h⟩ hn hd
variable {a b:Expr} {ta tb:TE} {pos:Pos}
noncomputable def PC (X:Cx) (op:CmpOp) (a b:Expr) (t:TE):Prop :=
 ∀ (pins:List (Addr × Obj)) (s:Shared) (σ:St) (H:Hp) (Q:VK),Inv X pins σ H s->t σ H Q ->
  wpAny (model X.prog X.w) X.A (eval a X.env) (fun v s₁=>wpAny (model X.prog X.w) X.A (eval b X.env) (fun u s₂=>wpAny (model X.prog X.w) X.A (compareOp op v u) (EP X pins σ Q) X.xe s₂) X.xe s₁) X.xe s
theorem Jd (b:Expr) {op:CmpOp} (h:op ≠ .In) (h2:op ≠ .NotIn):behindInMarks op b=false:=by
 have e1:(op==CmpOp.In)=false:=by cases op <;> first | rfl | exact absurd rfl h
 have e2:(op==CmpOp.NotIn)=false:=by cases op <;> first | rfl | exact absurd rfl h2
 cases b <;> simp [behindInMarks,e1,e2]
noncomputable def Uu (ta:TE):TE:=fun σ H Q=>ta σ H fun x H1=>Q (.bl (decide (x=.non))) H1
noncomputable def Tz (ta:TE):TE:=fun σ H Q=>ta σ H fun x H1=>Q (.bl (!decide (x=.non))) H1
theorem RelV.none_iff {x:V} {v:Value} (r:RelV x v):(v==Value.none)=decide (x=.non):=by
 cases x with
 | non=>cases r; rfl
 | bl _=>cases r; rfl
 | int _=>obtain ⟨t,rfl⟩:=r; rfl
 | str _=>obtain ⟨t,rfl⟩:=r; rfl
 | byt _=>obtain ⟨t,rfl⟩:=r; rfl
 | flt _=>obtain ⟨t,rfl⟩:=r; rfl
 | ref _=>cases r; rfl
 | ty _=>cases r; rfl
theorem MN {j pos'} (ha:PE X a ta):PC X .Is a (.Constant .none j pos') (Uu ta):=by
 intro pins s σ H Q I h
 refine thn (ha pins s σ H _ I h) fun v s1 ⟨x,H1,I1,r1,q1⟩=>?_
 exact Constant_none (is_none_gen ⟨.bl _,H1,I1,by rw [r1.none_iff]; rfl,q1⟩)
theorem KR {j pos'} (ha:PE X a ta):PC X .IsNot a (.Constant .none j pos') (Tz ta):=by
 intro pins s σ H Q I h
 refine thn (ha pins s σ H _ I h) fun v s1 ⟨x,H1,I1,r1,q1⟩=>?_
 exact Constant_none (isnot_none_gen ⟨.bl _,H1,I1,by rw [r1.none_iff]; rfl,q1⟩)
noncomputable def tB (t:TE):TT:=fun σ H Q=>t σ H fun x H1=>∃ c,x=.bl c/\Q c H1
theorem G0 {op:CmpOp} {t:TE} (h:PC X op a b t) (h1:behindInMarks op b=false:=by first | exact Jd _ (by decide) (by decide) | rfl):PE X (.Compare a [op] [b] pos) t:=fun pins s σ H Q I hw=>wpAny_Compare1 (h pins s σ H Q I hw) h1
theorem G1 {op:CmpOp} {t:TE} (h:PC X op a b t) (h1:behindInMarks op b=false:=by first | exact Jd _ (by decide) (by decide) | rfl):PT X (.Compare a [op] [b] pos) (tB t):=by
 intro pins s σ H Q I hw
 refine wpAny_isTrue_Compare1 (thn (h pins s σ H _ I hw) fun v s1 h1=>thn h1 fun u s2 h2=>thn h2 fun c s3 ⟨x,H1,I1,r1,q1⟩=>?_) h1
 obtain ⟨d,rfl,q⟩:=q1
 cases r1
 exact wpAny_truthy_bool ⟨H1,I1,q⟩
variable {tA tB':TT} {rest:List Expr}
noncomputable def Uv (t u:TT):TT:=fun σ H Q=>t σ H fun c H1=>if c=true then u σ H1 Q else Q false H1
noncomputable def tOr (t u:TT):TT:=fun σ H Q=>t σ H fun c H1=>if c=true then Q true H1 else u σ H1 Q
noncomputable def Uw (t:TT):TT:=fun σ H Q=>t σ H fun c H1=>Q (!c) H1
theorem PU (ha:PT X a tA):PW X (.BoolOp .And [a] pos) tA:=by
 intro wh pins s σ H Q I h
 refine isTrue_and (thn (ha pins s σ H Q I h) fun c s1 e=>?_)
 cases c with
 | true=>exact isTrue_and_nil e
 | false=>exact e
theorem RG (ha:PT X a tA):PW X (.BoolOp .Or [a] pos) tA:=by
 intro wh pins s σ H Q I h
 refine isTrue_or (thn (ha pins s σ H Q I h) fun c s1 e=>?_)
 cases c with
 | false=>exact isTrue_or_nil e
 | true=>exact e
theorem RH (ha:PT X a tA) (hb:PW X (.BoolOp .And (b :: rest) pos) tB'):PW X (.BoolOp .And (a :: b :: rest) pos) (Uv tA tB'):=by
 intro wh pins s σ H Q I h
 refine isTrue_and (thn (ha pins s σ H _ I h) fun c s1 ⟨H1,I1,q1⟩=>?_)
 cases c with
 | true=>exact hb wh pins s1 σ H1 Q I1 q1
 | false=>exact ⟨H1,I1,q1⟩
theorem TC (ha:PT X a tA) (hb:PW X (.BoolOp .Or (b :: rest) pos) tB'):PW X (.BoolOp .Or (a :: b :: rest) pos) (tOr tA tB'):=by
 intro wh pins s σ H Q I h
 refine isTrue_or (thn (ha pins s σ H _ I h) fun c s1 ⟨H1,I1,q1⟩=>?_)
 cases c with
 | true=>exact ⟨H1,I1,q1⟩
 | false=>exact hb wh pins s1 σ H1 Q I1 q1
theorem RI (ha:PT X a tA):PT X (.UnaryOp .Not a pos) (Uw tA):=by
 intro pins s σ H Q I h
 exact isTrue_not (ha pins s σ H (fun c H1=>Q (!c) H1) I h)
noncomputable def TD (ta tb:TE):TE:=fun σ H Q=>ta σ H fun x H1=>∃ c,x=.bl c/\if c=true then tb σ H1 Q else Q (.bl false) H1
noncomputable def Ux (ta tb:TE):TE:=fun σ H Q=>ta σ H fun x H1=>∃ c,x=.bl c/\if c=true then Q (.bl true) H1 else tb σ H1 Q
noncomputable def TF (ta:TE):TE:=fun σ H Q=>ta σ H fun x H1=>∃ c,x=.bl c/\Q (.bl (!c)) H1
theorem RJ {op} {t:TE} (h:PE X a t):PE X (.BoolOp op [a] pos) t:=fun pins s σ H Q I hw=>BoolOp_one (h pins s σ H Q I hw)
theorem RK (ha:PE X a ta) (hb:PE X (.BoolOp .And (b :: rest) pos) tb):PE X (.BoolOp .And (a :: b :: rest) pos) (TD ta tb):=by
 intro pins s σ H Q I h
 refine BoolOp_and (thn (ha pins s σ H _ I h) fun v s1 ⟨x,H1,I1,r1,q1⟩=>?_)
 obtain ⟨c,rfl,q1⟩:=q1
 cases r1
 refine wpAny_truthy_bool ?_
 cases c with
 | true=>exact hb pins s1 σ H1 Q I1 q1
 | false=>exact ⟨.bl false,H1,I1,rfl,q1⟩
theorem TH (ha:PE X a ta) (hb:PE X (.BoolOp .Or (b :: rest) pos) tb):PE X (.BoolOp .Or (a :: b :: rest) pos) (Ux ta tb):=by
 intro pins s σ H Q I h
 refine BoolOp_or (thn (ha pins s σ H _ I h) fun v s1 ⟨x,H1,I1,r1,q1⟩=>?_)
 obtain ⟨c,rfl,q1⟩:=q1
 cases r1
 refine wpAny_truthy_bool ?_
 cases c with
 | false=>exact hb pins s1 σ H1 Q I1 q1
 | true=>exact ⟨.bl true,H1,I1,rfl,q1⟩
theorem RL (ha:PE X a ta):PE X (.UnaryOp .Not a pos) (TF ta):=by
 intro pins s σ H Q I h
 refine UnaryOp_ (thn (ha pins s σ H _ I h) fun v s1 ⟨x,H1,I1,r1,q1⟩=>?_)
 obtain ⟨c,rfl,q1⟩:=q1
 cases r1
 exact not_of (wpAny_truthy_bool ⟨.bl (!c),H1,I1,rfl,q1⟩)
noncomputable def tIf (t:TT) (ta tb:TE):TE:=fun σ H Q=>t σ H fun c H1=>if c=true then ta σ H1 Q else tb σ H1 Q
theorem Oc {c:Expr} (hc:PT X c tA) (ha:PE X a ta) (hb:PE X b tb):PE X (.IfExp c a b pos) (tIf tA ta tb):=by
 intro pins s σ H Q I h
 refine wpAny_IfExp (thn (hc pins s σ H _ I h) fun d s1 ⟨H1,I1,q1⟩=>?_)
 cases d with
 | true=>exact ha pins s1 σ H1 Q I1 q1
 | false=>exact hb pins s1 σ H1 Q I1 q1
end
noncomputable def SqL (K:PySem.W.Frag) (H:Hp) (a:Addr) (xs:List V):Prop :=
 Rd H a (.lst xs) \/
  ∃ (o:Obj) (its:Array Value) (n:Nat),K.lookup a=some o/\o.cls=.type "list" /\ o.dict=none/\o.data=.seq its n/\its.size<=sizeLine/\Vals xs its.toList
noncomputable def SqT (K:PySem.W.Frag) (H:Hp) (a:Addr) (xs:List V):Prop :=
 Rd H a (.tup xs) \/
  ∃ (o:Obj) (its:Array Value) (n:Nat),K.lookup a=some o/\o.cls=.type "tuple" /\ o.data=.seq its n/\its.size<=sizeLine/\Vals xs its.toList
noncomputable def Uy:Value->Option V
 | .none=>some .non
 | .bool b=>some (.bl b)
 | .int i _=>some (.int i)
 | .str x _=>some (.str x)
 | .bytes b _=>some (.byt b)
 | .float b _=>some (.flt b)
 | .ref a=>some (.ref a)
 | .type n=>some (.ty n)
 | _=>none
theorem RelV.abs {x:V} {u:Value} (r:RelV x u):Uy u=some x:=by
 cases x with
 | non=>cases r; rfl
 | bl _=>cases r; rfl
 | int _=>obtain ⟨t,rfl⟩:=r; rfl
 | str _=>obtain ⟨t,rfl⟩:=r; rfl
 | byt _=>obtain ⟨t,rfl⟩:=r; rfl
 | flt _=>obtain ⟨t,rfl⟩:=r; rfl
 | ref _=>cases r; rfl
 | ty _=>cases r; rfl
theorem RelV.inj {x y:V} {u:Value} (r:RelV x u) (q:RelV y u):x=y:=Option.some.inj (r.abs.symm.trans q.abs)
theorem Vals.inj:∀ {xs ys:List V} {us:List Value},Vals xs us->Vals ys us->xs=ys
 | _,_,_,.nil,.nil=>rfl
 | _,_,_,.cons r t,.cons r' t'=>by rw [r.inj r',Vals.inj t t']
section
variable {X:Cx} {pins:List (Addr × Obj)} {σ:St} {H:Hp} {s:Shared} {a:Addr} {xs ys:List V}
theorem SqL.of {K:PySem.W.Frag} (h:H a=some (.lst xs)):SqL K H a xs:=.inl (.inl h)
theorem SqT.of {K:PySem.W.Frag} (h:H a=some (.tup xs)):SqT K H a xs:=.inl (.inl h)
theorem Inv.list (I:Inv X pins σ H s) (h:SqL X.K H a xs):∃ its:List Value,Vals xs its/\PlainL s.heap a its.toArray/\xs.length<=sizeLine:=by
 rcases h with h | ⟨o,its,n,hk,hc,hd,hs,hz,r⟩
 ·obtain ⟨z,its,n,r,e⟩:=h.ok I.hok
  exact ⟨its,r,⟨_,n,e,rfl,rfl,rfl⟩,z⟩
 ·refine ⟨its.toList,r,⟨o,n,I.kIn a o hk,hc,hd,by simpa using hs⟩,?_⟩
  have e:=r.length
  simp only [Array.length_toList] at e
  omega
theorem Inv.tuple (I:Inv X pins σ H s) (h:SqT X.K H a xs):∃ its:List Value,Vals xs its/\IsTup s.heap a its.toArray/\xs.length<=sizeLine:=by
 rcases h with h | ⟨o,its,n,hk,hc,hs,hz,r⟩
 ·obtain ⟨z,its,r,p⟩:=h.ok I.hok
  exact ⟨its,r,p,z⟩
 ·refine ⟨its.toList,r,⟨o,I.kIn a o hk,hc,n,by simpa using hs⟩,?_⟩
  have e:=r.length
  simp only [Array.length_toList] at e
  omega
theorem Inv.list_inj (I:Inv X pins σ H s) (h:SqL X.K H a xs) (h':SqL X.K H a ys):xs=ys:=by
 obtain ⟨its,r,⟨o,n,e,_,_,d⟩,_⟩:=I.list h
 obtain ⟨its',r',⟨o',n',e',_,_,d'⟩,_⟩:=I.list h'
 rw [e] at e'; cases e'
 rw [d] at d'
 injection d' with d1 _
 have:its=its':=by simpa using congrArg Array.toList d1
 subst this
 exact r.inj r'
theorem Inv.tuple_inj (I:Inv X pins σ H s) (h:SqT X.K H a xs) (h':SqT X.K H a ys):xs=ys:=by
 obtain ⟨its,r,⟨o,e,_,n,d⟩,_⟩:=I.tuple h
 obtain ⟨its',r',⟨o',e',_,n',d'⟩,_⟩:=I.tuple h'
 rw [e] at e'; cases e'
 rw [d] at d'
 injection d' with d1 _
 have:its=its':=by simpa using congrArg Array.toList d1
 subst this
 exact r.inj r'
end
section
variable {X:Cx} {st:Stmt} {rest:List Stmt} {t u:TS} {e:Expr} {te:TE} {pos:Pos}
noncomputable def TJ:TS:=fun D σ H=>D.nx σ H
noncomputable def Uz (t u:TS):TS:=fun D σ H=>t { D with nx:=u D } σ H
theorem PV:PSs X [] TJ:=fun _ _ σ H _ I h=>wpAny_execs_nil ⟨σ,H,I,h⟩
theorem Od (h1:PS X st t) (h2:PSs X rest u):PSs X (st :: rest) (Uz t u):=by
 intro pins s σ H D I h
 refine wpAny_execs_cons (thn (h1 pins s σ H { D with nx:=u D } I h) fun f s1 q=>?_)
 cases f with
 | next =>
  obtain ⟨σ',H',I',q⟩:=q
  exact h2 pins s1 σ' H' D I' q
 | ret v=>exact q
 | brk=>exact q
 | cont=>exact q
theorem Inv.quiet {pins:List (Addr × Obj)} {σ:St} {H:Hp} {s:Shared} (I:Inv X pins σ H s):interactive X.env=false:=by simp [interactive,I.ok.kind]
noncomputable def Pq (te:TE):TS:=fun D σ H=>te σ H fun _ H1=>D.nx σ H1
theorem Cg (he:PE X e te) (hs:swapsWith e none pos.line X.env=pure false:=by rfl):PS X (.Expr e pos) (Pq te):=by
 intro pins s σ H D I h
 exact wpAny_Expr_any (thn (he pins s σ H _ I h) fun v s1 ⟨x,H1,I1,r1,q1⟩=>⟨σ,H1,I1,q1⟩) I.quiet hs
noncomputable def UA (te:TE):TS:=fun D σ H=>te σ H D.rt
theorem Je (he:PE X e te):PS X (.Return (some e) pos) (UA te):=by
 intro pins s σ H D I h
 exact wpAny_Return_some (thn (he pins s σ H _ I h) fun v s1 ⟨x,H1,I1,r1,q1⟩=>⟨x,σ,H1,I1,r1,q1⟩)
noncomputable def RM (c:TT) (t u:TS):TS:=fun D σ H=>c σ H fun b H1=>if b=true then t D σ H1 else u D σ H1
theorem TK {c:Expr} {a b:List Stmt} {tc:TT} (hc:PT X c tc) (ha:PSs X a t) (hb:PSs X b u):PS X (.If c a b pos) (RM tc t u):=by
 intro pins s σ H D I h
 refine wpAny_If (thn (hc pins s σ H _ I h) fun d s1 ⟨H1,I1,q1⟩=>?_)
 cases d with
 | true=>exact ha pins s1 σ H1 D I1 q1
 | false=>exact hb pins s1 σ H1 D I1 q1
end
noncomputable abbrev TG:=V->St->Hp->(St->Hp->Prop)->Prop
noncomputable abbrev TGs:=List V->St->Hp->(St->Hp->Prop)->Prop
noncomputable def PG (X:Cx) (target:Expr) (t:TG):Prop :=
 ∀ (pins:List (Addr × Obj)) (s:Shared) (σ:St) (H:Hp) (v:V) (u:Value) (Q:St->Hp->Prop),Inv X pins σ H s->RelV v u->t v σ H Q ->
  wpAny (model X.prog X.w) X.A (assign target X.env u) (fun _ s'=>∃ σ' H',Inv X pins σ' H' s'/\Q σ' H') X.xe s
noncomputable def PGs (X:Cx) (ts:List Expr) (t:TGs):Prop :=
 ∀ (pins:List (Addr × Obj)) (s:Shared) (σ:St) (H:Hp) (vs:List V) (us:List Value) (Q:St->Hp->Prop),Inv X pins σ H s->Vals vs us->t vs σ H Q ->
  wpAny (model X.prog X.w) X.A (assignInOrder ((assignEach ts X.env).map (·.2)) us) (fun _ s'=>∃ σ' H',Inv X pins σ' H' s'/\Q σ' H') X.xe s
section
variable {X:Cx} {pos:Pos}
noncomputable def EG (i:Nat):TG:=fun v σ H Q=>Q (σ.set i (some v)) H
theorem KS {i:Nat} {x:Str} (hN:X.N.Nodup) (hi:X.N[i]?=some x) (hx:Loc X.env.scope x) (hf:X.fn x=true\/X.env.scope.names.lookup x=some .local:=by first | exact .inl rfl | exact .inr rfl | assumption):PG X (.Name x pos) (EG i):=by
 intro pins s σ H v u Q I r h
 exact wpAny_assign_Name (Jc I hN hi hx r (fun s' I'=>⟨_,H,I',h⟩) hf)
noncomputable def RN:TGs:=fun vs σ H Q=>vs=[]/\Q σ H
noncomputable def Pr (t:TG) (u:TGs):TGs:=fun vs σ H Q=>∃ v r,vs=v :: r/\t v σ H fun σ' H'=>u r σ' H' Q
theorem PX:PGs X [] RN:=by
 intro pins s σ H vs us Q I r h
 obtain ⟨e,h⟩:=h
 subst e
 cases r
 exact assignInOrder_nil ⟨σ,H,I,h⟩
theorem Oe {e:Expr} {es:List Expr} {t:TG} {u:TGs} (h1:PG X e t) (h2:PGs X es u)
  (hs:(assignEach (e :: es) X.env).map (·.2)=assign e X.env :: (assignEach es X.env).map (·.2):=by rfl):PGs X (e :: es) (Pr t u):=by
 intro pins s σ H vs us Q I r h
 obtain ⟨v,vr,e1,h⟩:=h
 subst e1
 cases r with
 | cons r rr =>
  rw [hs]
  refine assignInOrder_cons (thn (h1 pins s σ H _ _ _ I r h) fun _ s1 ⟨σ1,H1,I1,q1⟩=>?_)
  exact h2 pins s1 σ1 H1 _ _ Q I1 rr q1
noncomputable def RQ (K:PySem.W.Frag) (n:Nat) (t:TGs):TG:=fun v σ H Q=>∃ a xs,v=.ref a/\SqT K H a xs/\xs.length=n/\t xs σ H Q
theorem RS {es:List Expr} {k:Nat} {t:TGs} {n:Nat} (hc:X.calm=true) (h:PGs X es t)
  (hn:(assignEach es X.env).length=n:=by rfl) (hst:(assignEach es X.env).findIdx? (·.1)=none:=by rfl):PG X (.Tuple es k pos) (RQ X.K n t):=by
 intro pins s σ H v u Q I r hw
 obtain ⟨a,xs,e1,hq,hl,hw⟩:=hw
 subst e1
 cases r
 obtain ⟨its,rv,ht,hz⟩:=I.tuple hq
 refine assign_Tuple_tuple (I.ok.hd hc) ht (by simp [hn,<- hl,rv.length]) hst fun h' hx=>?_
 have I1:Inv X pins σ H { s with heap:=h' }:=I.kept (t':=s.toks) fun b o e=>hx b o (aaI (Heap.lt_size e)) e
 exact h pins _ σ H xs _ Q I1 (by simpa using rv) hw
noncomputable def GE (te:TE) (g:TG):TS:=fun D σ H=>te σ H fun x H1=>g x σ H1 D.nx
theorem RT {tg e:Expr} {te:TE} {g:TG} (he:PE X e te) (hg:PG X tg g) (hs:swapsWithSole [tg] e pos.line X.env=pure false:=by rfl) (hw:swappedStores [tg] e X.env=pure none:=by rfl)
  (h1:(assignEach [tg] X.env).map (·.2)=[assign tg X.env]:=by rfl):PS X (.Assign [tg] e pos) (GE te g):=by
 intro pins s σ H D I h
 refine wpAny_Assign_stores (thn (he pins s σ H _ I h) fun v s1 ⟨x,H1,I1,r1,q1⟩=>?_) hs hw
 rw [h1]
 exact thn (hg pins s1 σ H1 x v _ I1 r1 q1) fun _ s2 q=>q
theorem MO {i:Nat} {x:Str} {e:Expr} {te:TE} {pos':Pos} (hN:X.N.Nodup) (hi:X.N[i]?=some x) (hx:Loc X.env.scope x) (he:PE X e te) (hs:swapsWith e (some (.Name x pos')) pos.line X.env=pure false:=by rfl) (hf:X.fn x=true\/X.env.scope.names.lookup x=some .local:=by first | exact .inl rfl | exact .inr rfl | assumption) :
  PS X (.Assign [.Name x pos'] e pos) (GE te (EG i)):=by
 intro pins s σ H D I h
 refine wpAny_Assign_Name (thn (he pins s σ H _ I h) fun v s1 ⟨y,H1,I1,r1,q1⟩=>?_) hs
 exact Jc I1 hN hi hx r1 (fun s2 I2=>⟨_,H1,I2,q1⟩) hf
end
section
variable {X:Cx} {pos:Pos}
noncomputable def MP (c:TT) (tb:TS):TS:=fun D σ H=>∃ W:Nat->St->Hp->Prop,(∃ m,W m σ H)/\∀ m σ H,W m σ H ->
 c σ H fun b H1=>if b=true then ∃ N:St->Hp->Prop,(∀ σ' H',N σ' H'->∃ m',m' < m/\W m' σ' H')/\tb { D with nx:=N,ct:=N,bk:=D.nx } σ H1 else D.nx σ H1
theorem Of {c:Expr} {body:List Stmt} {tc:TT} {tb:TS} (hp:PassesOwn (model X.prog X.w) X.A X.env X.xe) (hc:PT X c tc) (hb:PSs X body tb):PS X (.While c body [] pos) (MP tc tb):=by
 intro pins s σ H D I h
 obtain ⟨W,⟨m0,w0⟩,turn⟩:=h
 refine wpAny_While (codeAny_whileLoop (fun n s'=>∃ σ' H',Inv X pins σ' H' s'/\W n σ' H') ?_ m0 ⟨σ,H,I,w0⟩)
 rintro n s1 ⟨σ1,H1,I1,w1⟩
 refine wpAny_passesOwn hp (thn (hc pins s1 σ1 H1 _ I1 (turn n σ1 H1 w1)) fun b s2 ⟨H2,I2,q2⟩=>?_)
 cases b with
 | true =>
  obtain ⟨N,hN,q2⟩:=q2
  rw [if_pos rfl]
  refine wpAny_passesOwn hp (thn (hb pins s2 σ1 H2 _ I2 q2) fun f s3 q3=>?_)
  cases f with
  | next =>
   obtain ⟨σ3,H3,I3,n3⟩:=q3
   obtain ⟨m',hm,w3⟩:=hN σ3 H3 n3
   exact ⟨m',hm,σ3,H3,I3,w3⟩
  | cont =>
   obtain ⟨σ3,H3,I3,n3⟩:=q3
   obtain ⟨m',hm,w3⟩:=hN σ3 H3 n3
   exact ⟨m',hm,σ3,H3,I3,w3⟩
  | brk=>exact q3
  | ret v=>exact q3
 | false =>
  rw [if_neg aaW]
  exact wpAny_execs_nil ⟨σ1,H2,I2,q2⟩
end
structure It where
 go:Nat->Hp->Prop
 yld:Nat->Hp->V->Hp->Prop
 stop:Nat->Hp->Prop
noncomputable def ER (X:Cx) (pins:List (Addr × Obj)) (H:Hp) (b:Addr):Prop :=
 H b=none/\b ≠ X.env.locals/\b ∉ X.fs/\(b ∈ X.ex\/X.s₀.heap.objs.size<=b)/\(∀ x c,X.env.cells.lookup x=some c->c ≠ b)/\∀ p ∈ X.pn ++ pins,p.1 ≠ b
theorem Inv.fpOk {X:Cx} {pins:List (Addr × Obj)} {σ:St} {H H':Hp} {s:Shared} {b:Addr} (I:Inv X pins σ H s) (hb:s.heap.objs.size<=b) (hn:H' b=none):ER X pins H' b:=by
 refine ⟨hn,ab9 (aaA I.lt hb),I.nofs hb,.inr (aaM I.sz hb),fun x c e z=>?_,fun p hp z=>?_⟩
 ·obtain ⟨v,q⟩:=I.cell x c e
  exact absurd (aaA q.lt (by rw [z]; exact hb)) (aaL _)
 ·exact absurd (aaA (Heap.lt_size (I.pin p hp).1) (by rw [z]; exact hb)) (aaL _)
structure Turn (P:Program) (w:World) (K:PySem.W.Frag) (tg:Expr) (J:It) (fp:List Addr) (it:Addr) (tn:Nat->Heap->Prop):Prop where
 mem:it ∈ fp
 obj:∀ i h,tn i h->∀ b ∈ fp,∃ o,h.get? b=some o/\∀ v,o.data ≠ .cell v
 keep:∀ i h h',tn i h->(∀ b ∈ fp,∀ o,h.get? b=some o->h'.get? b=some o)->tn i h'
 item:∀ (X:Cx),X.prog=P->X.w=w->X.K=K->X.calm=true->∀ (i:Nat) (pins:List (Addr × Obj)) (s:Shared) (σ:St) (H:Hp) (E:Value->Shared->Prop),Inv X pins σ H s->(∀ b ∈ fp,ER X pins H b)->tn i s.heap->J.go i H ->
  wpAny (model P w) X.A (pyNext (.ref it)) (fun r s1=>∃ u,r=some u /\
   wpAny (model P w) X.A (letOwnedTupleGo tg (.ref it) u) (fun _ s2=>∃ x H',Inv X pins σ H' s2/\RelV x u/\J.yld i H x H'/\tn (i + 1) s2.heap/\∀ b ∈ fp,H' b=none) E s1) E s
 done:∀ (X:Cx),X.prog=P->X.w=w->X.K=K->X.calm=true->∀ (i:Nat) (pins:List (Addr × Obj)) (s:Shared) (σ:St) (H:Hp) (E:Value->Shared->Prop),Inv X pins σ H s->(∀ b ∈ fp,ER X pins H b)->tn i s.heap->J.stop i H ->
  wpAny (model P w) X.A (pyNext (.ref it)) (fun r s1=>r=none/\Inv X pins σ H s1) E s
 self:∀ (A:Around) (i:Nat) (s:Shared) (Q:Value->Shared->Prop) (E:Value->Shared->Prop),tn i s.heap->Q (.ref it) s->wpAny (model P w) A (pyIter (.ref it)) Q E s
noncomputable abbrev TI:=St->Hp->(It->Hp->Prop)->Prop
noncomputable def PIE (X:Cx) (pins:List (Addr × Obj)) (σ:St) (tg:Expr) (R:It->Hp->Prop) (itv:Value) (s2:Shared):Prop :=
 ∃ (it:Addr) (fp:List Addr) (tn:Nat->Heap->Prop) (J:It) (H':Hp),itv=.ref it/\Inv X pins σ H' s2/\Turn X.prog X.w X.K tg J fp it tn/\tn 0 s2.heap/\(∀ b ∈ fp,ER X pins H' b)/\R J H'
noncomputable def PI (X:Cx) (tg iter:Expr) (wi:TI):Prop :=
 ∀ (pins:List (Addr × Obj)) (s:Shared) (σ:St) (H:Hp) (R:It->Hp->Prop),Inv X pins σ H s->wi σ H R ->
  wpAny (model X.prog X.w) X.A (eval iter X.env) (fun v s1=>wpAny (model X.prog X.w) X.A (pyIter v) (PIE X pins σ tg R) X.xe s1) X.xe s
theorem G2 {M:Model} {A:Around} {E:Value->Shared->Prop} {s:Shared} {tg:Expr} {it:Addr} {u:Value} {o:Obj} {n:String} {vs:Array Value} {Q:Unit->Shared->Prop} (ho:s.heap.get? it=some o) (hc:o.cls=.type n) (hd:o.data=.fields vs)
  (hn:["enumerate", "zip", "dict_itemiterator", "dict_reverseitemiterator", "odict_iterator", "itertools.zip_longest", "itertools.pairwise"].contains n=false) (hQ:Q () s):wpAny M A (letOwnedTupleGo tg (.ref it) u) Q E s:=by
 unfold letOwnedTupleGo
 cases tg <;> first
  | exact wpAny_pure hQ
  | (cases u <;> first
    | exact wpAny_pure hQ
    | (refine wpAny_bind (wpAny_load ho ?_)
       rw [hc,hd]
       show wpAny M A (if (["enumerate", "zip", "dict_itemiterator", "dict_reverseitemiterator", "odict_iterator", "itertools.zip_longest", "itertools.pairwise"].contains n && vs[0]?==some (rawInt _))=true then _ else _) Q E s
       rw [if_neg (by intro h; rw [hn,ab2] at h; cases h)]
       exact wpAny_pure hQ))
noncomputable def Itl (K:PySem.W.Frag) (a:Addr):It :=
 ⟨fun i H=>∃ xs x,SqL K H a xs/\xs[i]?=some x,fun i H x H'=>H'=H/\∀ xs,SqL K H a xs->xs[i]?=some x,fun i H=>∃ xs,SqL K H a xs/\xs.length<=i⟩
noncomputable def Itt (K:PySem.W.Frag) (a:Addr):It :=
 ⟨fun i H=>∃ xs x,SqT K H a xs/\xs[i]?=some x,fun i H x H'=>H'=H/\∀ xs,SqT K H a xs->xs[i]?=some x,fun i H=>∃ xs,SqT K H a xs/\xs.length<=i⟩
noncomputable def Itr (lo:Int) (n:Nat):It:=⟨fun i _=>i < n,fun i H x H'=>H'=H/\x=.int (lo + i),fun i _=>n<=i⟩
theorem MQ {P:Program} {w:World} {K:PySem.W.Frag} {tg:Expr} (a it:Addr):Turn P w K tg (Itl K a) [it] it (fun i h=>h.IsListIter it a i) where
 mem:=by simp
 obj:=fun i h st b hb=>by
  have e:b=it:=by simpa using hb
  subst e
  obtain ⟨o,e,c,d⟩:=st
  exact ⟨o,e,fun v z=>by rw [d] at z; cases z⟩
 keep:=fun i h h' st k=>st.at fun o e=>k it (by simp) o e
 item:=by
  intro X hP hw hK hc i pins s σ H E I hf st hg
  subst hP hw hK
  obtain ⟨xs,x,hq,hx⟩:=hg
  obtain ⟨its,rv,p,hz⟩:=I.list hq
  obtain ⟨u,hu,ru⟩:=rv.get hx
  obtain ⟨f0,f1,f2,f3,f4,f5⟩:=hf it (by simp)
  refine wpAny_pyNext_list_item st p.isList (x:=u) (by simpa using hu) fun h' st' sb=>?_
  have I1:Inv X pins σ H { s with heap:=h' }:=I.turned (t':=s.toks) (fun b o hb e=>(sb.2 b hb).trans e) f0 f1 f3 f4 f5
  obtain ⟨o,e,c,d⟩:=id st'
  exact ⟨u,rfl,G2 (s:={ s with heap:=h' }) e c d (by decide) ⟨x,H,I1,ru,⟨rfl,fun ys hy=>by rw [I.list_inj hy hq]; exact hx⟩,st',fun b hb=>(hf b hb).1⟩⟩
 done:=by
  intro X hP hw hK hc i pins s σ H E I hf st hg
  subst hP hw hK
  obtain ⟨xs,hq,hx⟩:=hg
  obtain ⟨its,rv,p,hz⟩:=I.list hq
  obtain ⟨f0,f1,f2,f3,f4,f5⟩:=hf it (by simp)
  have hl:=rv.length
  exact wpAny_pyNext_list_end (I.ok.hd hc) st p.isList (by simp; omega) fun h' eb=>⟨rfl,I.turned (t':=s.toks) (fun b o hb e=>eb b o hb e) f0 f1 f3 f4 f5⟩
 self:=fun _ _ _ _ _ st h=>wpAny_pyIter_listiter st h
theorem LB {P:Program} {w:World} {K:PySem.W.Frag} {tg:Expr} (a it:Addr):Turn P w K tg (Itt K a) [it] it (fun i h=>h.IsTupleIter it a i) where
 mem:=by simp
 obj:=fun i h st b hb=>by
  have e:b=it:=by simpa using hb
  subst e
  obtain ⟨o,e,c,d⟩:=st
  exact ⟨o,e,fun v z=>by rw [d] at z; cases z⟩
 keep:=fun i h h' st k=>st.at fun o e=>k it (by simp) o e
 item:=by
  intro X hP hw hK hc i pins s σ H E I hf st hg
  subst hP hw hK
  obtain ⟨xs,x,hq,hx⟩:=hg
  obtain ⟨its,rv,p,hz⟩:=I.tuple hq
  obtain ⟨u,hu,ru⟩:=rv.get hx
  obtain ⟨f0,f1,f2,f3,f4,f5⟩:=hf it (by simp)
  refine wpAny_pyNext_tuple_item st (show s.heap.IsTuple a its.toArray from p) (x:=u) (by simpa using hu) fun h' st' sb=>?_
  have I1:Inv X pins σ H { s with heap:=h' }:=I.turned (t':=s.toks) (fun b o hb e=>(sb.2 b hb).trans e) f0 f1 f3 f4 f5
  obtain ⟨o,e,c,d⟩:=id st'
  exact ⟨u,rfl,G2 (s:={ s with heap:=h' }) e c d (by decide) ⟨x,H,I1,ru,⟨rfl,fun ys hy=>by rw [I.tuple_inj hy hq]; exact hx⟩,st',fun b hb=>(hf b hb).1⟩⟩
 done:=by
  intro X hP hw hK hc i pins s σ H E I hf st hg
  subst hP hw hK
  obtain ⟨xs,hq,hx⟩:=hg
  obtain ⟨its,rv,p,hz⟩:=I.tuple hq
  obtain ⟨f0,f1,f2,f3,f4,f5⟩:=hf it (by simp)
  have hl:=rv.length
  exact wpAny_pyNext_tuple_end (I.ok.hd hc) st (show s.heap.IsTuple a its.toArray from p) (by simp; omega) fun h' eb=>⟨rfl,I.turned (t':=s.toks) (fun b o hb e=>eb b o hb e) f0 f1 f3 f4 f5⟩
 self:=fun _ _ _ _ _ st h=>wpAny_pyIter_tupleiter st h
theorem LD {P:Program} {w:World} {K:PySem.W.Frag} {tg:Expr} (it:Addr) (lo:Int) (n:Nat):Turn P w K tg (Itr lo n) [it] it (fun i h=>IsRangeIter h it (lo + (i:Nat) * 1) ((n:Int) - (i:Nat)) 1) where
 mem:=by simp
 obj:=fun i h st b hb=>by
  have e:b=it:=by simpa using hb
  subst e
  exact ⟨_,st,fun v z=>by
   have z':Data.fields _=Data.cell v:=z
   cases z'⟩
 keep:=fun i h h' st k=>k it (by simp) _ st
 item:=by
  intro X hP hw hK hc i pins s σ H E I hf st hg
  subst hP hw hK
  obtain ⟨f0,f1,f2,f3,f4,f5⟩:=hf it (by simp)
  have W:=Walks.range (prog:=X.prog) (w:=X.w) (I.ok.hd hc) it lo 1 n
  refine W.item i s _ _ hg st fun v h' tk hv st' kk=>?_
  obtain ⟨t,rfl⟩:=hv
  have I1:Inv X pins σ H { s with heap:=h',toks:=tk }:=I.turned (fun b o hb e=>kk b o (by simpa using hb) e) f0 f1 f3 f4 f5
  refine ⟨_,rfl,G2 (s:={ s with heap:=h',toks:=tk }) (n := "range_iterator") st' rfl rfl (by decide) ⟨.int (lo + i),H,I1,⟨t,?_⟩,⟨rfl,rfl⟩,st',fun b hb=>(hf b hb).1⟩⟩
  rw [Int.mul_one]
 done:=by
  intro X hP hw hK hc i pins s σ H E I hf st hg
  subst hP hw hK
  obtain ⟨f0,f1,f2,f3,f4,f5⟩:=hf it (by simp)
  exact wpAny_pyNext_range_end (I.ok.hd hc) st (by have:n<=i:=hg; omega) fun h' eb=>⟨rfl,I.turned (t':=s.toks) (fun b o hb e=>eb b o hb e) f0 f1 f3 f4 f5⟩
 self:=fun _ _ _ _ _ st h=>wpAny_pyIter_rangeiter st h
section
variable {X:Cx} {tg:Expr}
theorem Og {pins:List (Addr × Obj)} {σ:St} {H:Hp} {s:Shared} {R:It->Hp->Prop} {E:Value->Shared->Prop} {lo hi:Int} {t u v:Tok} {tk:Nat} (I:Inv X pins σ H s) (h1:-(2 ^ 62)<=lo) (h2:lo < 2 ^ 62) (h3:-(2 ^ 62)<=hi) (h4:hi < 2 ^ 62)
  (q:R (Itr lo (hi - lo).toNat) H):wpAny (model X.prog X.w) X.A (pyIter (.ref s.heap.objs.size)) (PIE X pins σ tg R) E { s with heap:=s.heap.push { cls:=.type "range",data:=.fields #[.int lo t,.int hi u,.int 1 v] },toks:=tk }:=by
 refine wpAny_pyIter_range (IsRange.new ..) (small_one h1 h2 h3 h4) ?_
 have I1:Inv X pins σ H { s with heap:=s.heap.push { cls:=.type "range",data:=.fields #[.int lo t,.int hi u,.int 1 v] },toks:=tk }:=I.kept fun b o e=>Heap.get?_push_of_some _ e
 refine ⟨(s.heap.push { cls:=.type "range",data:=.fields #[.int lo t,.int hi u,.int 1 v] }).objs.size,[(s.heap.push { cls:=.type "range",data:=.fields #[.int lo t,.int hi u,.int 1 v] }).objs.size],_,_,H,rfl,
  I1.kept (t':=tk) fun b o e=>Heap.get?_push_of_some _ e,LD _ lo (hi - lo).toNat,?_,fun b hb=>?_,q⟩
 ·have e1:lo + ((0:Nat):Int) * 1=lo:=by simp
  have e2:(((hi - lo).toNat:Nat):Int) - ((0:Nat):Int)=Builtin.Range.rangeSize lo hi 1:=by rw [rangeSize_one]; split <;> omega
  show IsRangeIter _ _ (lo + ((0:Nat):Int) * 1) ((((hi - lo).toNat:Nat):Int) - ((0:Nat):Int)) 1
  rw [e1,e2]
  exact Heap.get?_push_size _ rfl
 ·have e:b=(s.heap.push { cls:=.type "range",data:=.fields #[.int lo t,.int hi u,.int 1 v] }).objs.size:=by simpa using hb
  subst e
  exact I1.fpOk (aai _) (I1.hok.fresh (aai _))
noncomputable def TL (ta:TA):TI:=fun σ H R=>ta σ H fun vs H1=>∃ j:Int,vs=[.int j]/\-(2 ^ 62)<=j/\j < 2 ^ 62/\R (Itr 0 j.toNat) H1
theorem MR {a:Expr} {ta:TA} {p pos:Pos} (hg:Gl X "range") (hm:X.mg "range" = none) (ha:PA X [a] ta) (hs:starEach [a] X.env=[(false,eval a X.env)]:=by rfl):PI X tg (.Call (.Name "range" p) [a] [] pos) (TL ta):=by
 intro pins s σ H R I h
 refine Call_ (E3 I hg hm boot_range (PyProof.Rows.callWith_type1 (thn (ha pos pins s σ H _ I h) fun us s1 ⟨vs,H1,I1,r1,q1⟩=>?_) hs rfl))
 obtain ⟨j,e,q1,q2,q⟩:=q1
 subst e
 cases r1 with
 | cons r rr =>
  cases rr
  obtain ⟨t,rfl⟩:=r
  exact call_range_1 (Og I1 (by omega) (by omega) q1 q2 (by simpa using q))
noncomputable def RV (wi:TI) (g:TG) (tb:TS):TS:=fun D σ H=>wi σ H fun J H1=>∃ W:Nat->Nat->St->Hp->Prop,(∃ m,W 0 m σ H1)/\∀ i m σ H,W i m σ H ->
 (J.stop i H/\D.nx σ H)\/(J.go i H/\∃ N:St->Hp->Prop,(∀ σ' H',N σ' H'->∃ m',m' < m/\W (i + 1) m' σ' H')/\∀ x H',J.yld i H x H'->g x σ H' fun σ2 H2=>tb { D with nx:=N,ct:=N,bk:=D.nx } σ2 H2)
noncomputable def E4 (fp:List Addr) (h:Heap):List (Addr × Obj):=fp.filterMap fun b=>(h.get? b).map fun o=>(b,o)
theorem Ch {fp:List Addr} {h:Heap} {b:Addr} {o:Obj} (hb:b ∈ fp) (e:h.get? b=some o):(b,o) ∈ E4 fp h:=aaN.mpr ⟨b,hb,by rw [e]; rfl⟩
theorem MT {fp:List Addr} {h:Heap} {p:Addr × Obj} (hp:p ∈ E4 fp h):p.1 ∈ fp/\h.get? p.1=some p.2:=by
 obtain ⟨b,hb,e⟩:=aaN.mp hp
 cases q:h.get? b with
 | none=>rw [q] at e; cases e
 | some o =>
  rw [q] at e
  have e':(b,o)=p:=Option.some.inj e
  subst e'
  exact ⟨hb,q⟩
theorem Inv.pinned {pins:List (Addr × Obj)} {σ:St} {H:Hp} {s:Shared} {fp:List Addr} (I:Inv X pins σ H s) (hf:∀ b ∈ fp,ER X pins H b) (ho:∀ b ∈ fp,∃ o,s.heap.get? b=some o/\∀ v,o.data ≠ .cell v):Inv X (pins ++ E4 fp s.heap) σ H s :=
 I.pins_of fun p hp=>(aaf.mp hp).elim (fun z=>I.pin p (aan _ z)) fun z=>by
  obtain ⟨hb,e⟩:=MT z
  obtain ⟨f0,f1,f2,_⟩:=hf p.1 hb
  obtain ⟨o,e',d⟩:=ho p.1 hb
  rw [e] at e'; cases e'
  exact ⟨e,f0,f1,f2,d⟩
theorem Inv.unpinned {pins pl:List (Addr × Obj)} {σ:St} {H:Hp} {s:Shared} (I:Inv X (pins ++ pl) σ H s):Inv X pins σ H s:=I.pins_of fun p hp=>I.pin p (aan _ (aax _ hp))
theorem MU {iter:Expr} {body:List Stmt} {wi:TI} {g:TG} {tb:TS} {pos:Pos} (hp:PassesOwn (model X.prog X.w) X.A X.env X.xe) (hc:X.calm=true) (hi:PI X tg iter wi) (hg:PG X tg g) (hb:PSs X body tb)
  (hs:∀ x,foldedSetIterable iter X.env x=pure x:=by intro _; rfl):PS X (.For tg iter body [] pos) (RV wi g tb):=by
 intro pins s σ H D I h
 refine wpAny_For (thn (hi pins s σ H _ I h) fun v s1 h1=>thn h1 fun itv s2 h2=>?_) hs
 obtain ⟨it,fp,tn,J,H2,e,I2,T,st2,f2,W,⟨m0,w0⟩,turn⟩:=h2
 subst e
 have stat:∀ {H':Hp},(∀ b ∈ fp,H' b=none)->∀ b ∈ fp,ER X pins H' b:=fun hn b hb=>⟨hn b hb,(f2 b hb).2⟩
 refine codeAny_forLoop_any (fun n s'=>∃ i σ' H',Inv X pins σ' H' s'/\tn i s'.heap/\(∀ b ∈ fp,H' b=none)/\W i n σ' H') ?_ m0 ⟨0,σ,H2,I2,st2,fun b hb=>(f2 b hb).1,w0⟩
 rintro n s3 ⟨i,σ3,H3,I3,st3,fr3,w3⟩
 rcases turn i n σ3 H3 w3 with ⟨stop,qn⟩ | ⟨go,N,hN,step⟩
 ·refine wpAny_passesOwn hp (thn (T.done X rfl rfl rfl hc i pins s3 σ3 H3 X.xe I3 (stat fr3) st3 stop) fun r s4 ⟨hr,I4⟩=>?_)
  subst hr
  exact wpAny_execs_nil ⟨σ3,H3,I4,qn⟩
 ·refine wpAny_passesOwn hp (thn (T.item X rfl rfl rfl hc i pins s3 σ3 H3 X.xe I3 (stat fr3) st3 go) fun r s4 ⟨u,hr,h4⟩=>?_)
  subst hr
  refine wpAny_passesOwn hp (thn h4 fun _ s5 ⟨x,H5,I5,r5,y5,st5,fr5⟩=>?_)
  have I5':=I5.pinned (stat fr5) (T.obj _ _ st5)
  refine wpAny_passesOwn hp (thn (hg _ s5 σ3 H5 x u _ I5' r5 (step x H5 y5)) fun _ s6 ⟨σ6,H6,I6,q6⟩=>?_)
  refine wpAny_passesOwn hp (thn (hb _ s6 σ6 H6 _ I6 q6) fun f s7 q7=>?_)
  have again:∀ {σ7:St} {H7:Hp},Inv X (pins ++ E4 fp s5.heap) σ7 H7 s7->N σ7 H7->∃ m,m < n/\∃ i σ' H',Inv X pins σ' H' s7/\tn i s7.heap/\(∀ b ∈ fp,H' b=none)/\W i m σ' H':=fun {σ7 H7} I7 n7=>by
   obtain ⟨m',hm,w7⟩:=hN σ7 H7 n7
   refine ⟨m',hm,i + 1,σ7,H7,I7.unpinned,T.keep _ _ _ st5 fun b hb o e=>(I7.pin (b,o) (aan _ (aan _ (Ch hb e)))).1,fun b hb=>?_,w7⟩
   obtain ⟨o,e,d⟩:=T.obj _ _ st5 b hb
   exact (I7.pin (b,o) (aan _ (aan _ (Ch hb e)))).2.1
  cases f with
  | next=>obtain ⟨σ7,H7,I7,n7⟩:=q7; exact again I7 n7
  | cont=>obtain ⟨σ7,H7,I7,n7⟩:=q7; exact again I7 n7
  | brk=>obtain ⟨σ7,H7,I7,q7⟩:=q7; exact ⟨σ7,H7,I7.unpinned,q7⟩
  | ret v=>obtain ⟨x7,σ7,H7,I7,r7,q7⟩:=q7; exact ⟨x7,σ7,H7,I7.unpinned,r7,q7⟩
end
noncomputable abbrev R2:=V->V->Hp->VK->Prop
noncomputable def OpR (X:Cx) (f:Value->Value->Sem Value) (r:R2):Prop :=
 ∀ (pins:List (Addr × Obj)) (s:Shared) (σ:St) (H:Hp) (x y:V) (v u:Value) (Q:VK),Inv X pins σ H s->RelV x v->RelV y u->r x y H Q ->
  wpAny (model X.prog X.w) X.A (f v u) (EP X pins σ Q) X.xe s
noncomputable def UnR (X:Cx) (f:Value->Sem Value) (r:V->Hp->VK->Prop):Prop :=
 ∀ (pins:List (Addr × Obj)) (s:Shared) (σ:St) (H:Hp) (x:V) (v:Value) (Q:VK),Inv X pins σ H s->RelV x v->r x H Q ->
  wpAny (model X.prog X.w) X.A (f v) (EP X pins σ Q) X.xe s
noncomputable def C9 (X:Cx) (f:Value) (r:List V->Hp->VK->Prop):Prop :=
 ∀ (pins:List (Addr × Obj)) (s:Shared) (σ:St) (H:Hp) (xs:List V) (us:List Value) (Q:VK),Inv X pins σ H s->Vals xs us->r xs H Q ->
  wpAny (model X.prog X.w) X.A (call f us) (EP X pins σ Q) X.xe s
noncomputable def UB (X:Cx) (r:V->Hp->(Bool->Hp->Prop)->Prop):Prop :=
 ∀ (pins:List (Addr × Obj)) (s:Shared) (σ:St) (H:Hp) (x:V) (v:Value) (Q:Bool->Hp->Prop),Inv X pins σ H s->RelV x v->r x H Q ->
  wpAny (model X.prog X.w) X.A (truthy v) (TP X pins σ Q) X.xe s
noncomputable def tOp (r:R2) (ta tb:TE):TE:=fun σ H Q=>ta σ H fun x H1=>tb σ H1 fun y H2=>r x y H2 Q
noncomputable def tUn (r:V->Hp->VK->Prop) (ta:TE):TE:=fun σ H Q=>ta σ H fun x H1=>r x H1 Q
noncomputable def rI (C:Int->Int->Prop) (g:Int->Int->V):R2:=fun x y H Q=>∃ i j,x=.int i/\y=.int j/\C i j/\Q (g i j) H
noncomputable def rI0 (g:Int->Int->V):R2:=fun x y H Q=>∃ i j,x=.int i/\y=.int j/\Q (g i j) H
noncomputable def rU (g:Int->V):V->Hp->VK->Prop:=fun x H Q=>∃ i,x=.int i/\Q (g i) H
section
variable {X:Cx} {a b c:Expr} {ta tb tc:TE} {pos:Pos}
theorem Oh (ha:PE X a ta) (hb:PE X b tb) {pins:List (Addr × Obj)} {s:Shared} {σ:St} {H:Hp} {R:V->V->Hp->Prop} (I:Inv X pins σ H s)
  (h:ta σ H fun x H1=>tb σ H1 fun y H2=>R x y H2) {Q:Value->Shared->Prop} {f:Value->Value->Sem Value}
  (hf:∀ v u s2 x y H2,Inv X pins σ H2 s2->RelV x v->RelV y u->R x y H2->wpAny (model X.prog X.w) X.A (f v u) Q X.xe s2) :
  wpAny (model X.prog X.w) X.A (eval a X.env) (fun v s₁=>wpAny (model X.prog X.w) X.A (eval b X.env) (fun u s₂=>wpAny (model X.prog X.w) X.A (f v u) Q X.xe s₂) X.xe s₁) X.xe s:=by
 refine thn (ha pins s σ H _ I h) fun v s1 ⟨x,H1,I1,r1,q1⟩=>?_
 refine thn (hb pins s1 σ H1 _ I1 q1) fun u s2 ⟨y,H2,I2,r2,q2⟩=>?_
 exact hf v u s2 x y H2 I2 r1 r2 q2
theorem TM {op:Operator} {r:R2} (ho:OpR X (binaryOp op) r) (ha:PE X a ta) (hb:PE X b tb):PE X (.BinOp a op b pos) (tOp r ta tb):=by
 intro pins s σ H Q I h
 exact wpAny_BinOp (Oh ha hb I h fun v u s2 x y H2 I2 rx ry q=>ho pins s2 σ H2 x y v u Q I2 rx ry q)
theorem TN {op:UnaryOp} {r:V->Hp->VK->Prop} (ho:UnR X (unaryOp op) r) (ha:PE X a ta):PE X (.UnaryOp op a pos) (tUn r ta):=by
 intro pins s σ H Q I h
 exact UnaryOp_ (thn (ha pins s σ H _ I h) fun v s1 ⟨x,H1,I1,r1,q1⟩=>ho pins s1 σ H1 x v Q I1 r1 q1)
theorem opI {f:Value->Value->Sem Value} {C:Int->Int->Prop} {g:Int->Int->Int}
  (rule:∀ (i j:Int) (t u:Tok) (s:Shared) (Q:Value->Shared->Prop) (E:Value->Shared->Prop),C i j->Q (.int (g i j) s.toks) { s with toks:=s.toks + 1 }->wpAny (model X.prog X.w) X.A (f (.int i t) (.int j u)) Q E s) :
  OpR X f (rI C fun i j=>.int (g i j)):=by
 intro pins s σ H x y v u Q I rx ry h
 obtain ⟨i,j,rfl,rfl,hc,q⟩:=h
 obtain ⟨t,rfl⟩:=rx
 obtain ⟨t',rfl⟩:=ry
 exact rule i j t t' s _ _ hc ⟨.int (g i j),H,I.tok _,⟨_,rfl⟩,q⟩
theorem RW {f:Value->Value->Sem Value} {g:Int->Int->Int}
  (rule:∀ (i j:Int) (t u:Tok) (s:Shared) (Q:Value->Shared->Prop) (E:Value->Shared->Prop),Q (.int (g i j) s.toks) { s with toks:=s.toks + 1 }->wpAny (model X.prog X.w) X.A (f (.int i t) (.int j u)) Q E s) :
  OpR X f (rI0 fun i j=>.int (g i j)):=by
 intro pins s σ H x y v u Q I rx ry h
 obtain ⟨i,j,rfl,rfl,q⟩:=h
 obtain ⟨t,rfl⟩:=rx
 obtain ⟨t',rfl⟩:=ry
 exact rule i j t t' s _ _ ⟨.int (g i j),H,I.tok _,⟨_,rfl⟩,q⟩
theorem LE {f:Value->Value->Sem Value} {g:Int->Int->Bool}
  (rule:∀ (i j:Int) (t u:Tok) (s:Shared) (Q:Value->Shared->Prop) (E:Value->Shared->Prop),Q (.bool (g i j)) s->wpAny (model X.prog X.w) X.A (f (.int i t) (.int j u)) Q E s) :
  OpR X f (rI0 fun i j=>.bl (g i j)):=by
 intro pins s σ H x y v u Q I rx ry h
 obtain ⟨i,j,rfl,rfl,q⟩:=h
 obtain ⟨t,rfl⟩:=rx
 obtain ⟨t',rfl⟩:=ry
 exact rule i j t t' s _ _ ⟨.bl (g i j),H,I,rfl,q⟩
noncomputable def RX (i j:Int):Prop:=0<=j/\j<=1000000/\i.natAbs < 2 ^ 64
noncomputable def CMul (i j:Int):Prop:=(-(2 ^ 64) < i/\i < 2 ^ 64)\/(-(2 ^ 64) < j/\j < 2 ^ 64)
theorem CMul.ok {i j:Int} (h:CMul i j):IntMulOk i j:=by
 rcases h with ⟨h1,h2⟩ | ⟨h1,h2⟩
 ·exact .of_left (intBits_le_64 h1 h2)
 ·exact .of_right (intBits_le_64 h1 h2)
theorem RY:OpR X (binaryOp .Add) (rI0 fun i j=>.int (i + j)):=RW fun _ _ _ _ _ _ _ q=>add_int q
theorem RZ:OpR X (binaryOp .Sub) (rI0 fun i j=>.int (i - j)):=RW fun _ _ _ _ _ _ _ q=>sub_int q
theorem R1:OpR X (binaryOp .Mod) (rI (fun _ j=>0 < j) fun i j=>.int (i % j)):=opI fun i j _ _ _ _ _ hc q=>by
 have h1:(0:Int) < j:=hc
 exact mod_int' (by omega) (by rw [Int.fmod_eq_emod_of_nonneg i (by omega)]; exact q)
theorem R3:OpR X (binaryOp .Pow) (rI RX fun i j=>.int (i ^ j.toNat)):=opI fun _ _ _ _ _ _ _ hc q=>pow_int_small hc.1 hc.2.1 hc.2.2 q
theorem unI {f:Value->Sem Value} {g:Int->Int}
  (rule:∀ (i:Int) (t:Tok) (s:Shared) (Q:Value->Shared->Prop) (E:Value->Shared->Prop),Q (.int (g i) s.toks) { s with toks:=s.toks + 1 }->wpAny (model X.prog X.w) X.A (f (.int i t)) Q E s) :
  UnR X f (rU fun i=>.int (g i)):=by
 intro pins s σ H x v Q I rx h
 obtain ⟨i,rfl,q⟩:=h
 obtain ⟨t,rfl⟩:=rx
 exact rule i t s _ _ ⟨.int (g i),H,I.tok _,⟨_,rfl⟩,q⟩
theorem R4:UnR X (unaryOp .USub) (rU fun i=>.int (-i)):=unI fun _ _ _ _ _ q=>neg_int q
end
section
variable {X:Cx} {a b c:Expr} {ta tb tc:TE} {pos:Pos}
theorem TQ:OpR X (compareOp .Lt) (rI0 fun i j=>.bl (decide (i < j))):=LE fun _ _ _ _ _ _ _ q=>lt_int q
theorem TR:OpR X (compareOp .LtE) (rI0 fun i j=>.bl (decide (i<=j))):=LE fun _ _ _ _ _ _ _ q=>le_int q
theorem TU:OpR X (compareOp .Gt) (rI0 fun i j=>.bl (decide (j < i))):=LE fun _ _ _ _ _ _ _ q=>gt_int q
theorem TV:OpR X (compareOp .GtE) (rI0 fun i j=>.bl (decide (j<=i))):=LE fun _ _ _ _ _ _ _ q=>ge_int q
theorem OpR.or {f:Value->Value->Sem Value} {r r':R2} (h:OpR X f r) (h':OpR X f r'):OpR X f (fun x y H Q=>r x y H Q\/r' x y H Q):=by
 intro pins s σ H x y v u Q I rx ry q
 rcases q with q | q
 ·exact h pins s σ H x y v u Q I rx ry q
 ·exact h' pins s σ H x y v u Q I rx ry q
theorem PY {op:CmpOp} {r:R2} (ho:OpR X (compareOp op) r) (ha:PE X a ta) (hb:PE X b tb) (hm:behindInMarks op b=false):PE X (.Compare a [op] [b] pos) (tOp r ta tb):=by
 intro pins s σ H Q I h
 exact wpAny_Compare1 (Oh ha hb I h fun v u s2 x y H2 I2 rx ry q=>ho pins s2 σ H2 x y v u Q I2 rx ry q) hm
noncomputable def Ps (t:TE):TT:=fun σ H Q=>t σ H fun x H'=>∃ k,x=.bl k/\Q k H'
theorem PZ {op:CmpOp} {r:R2} (ho:OpR X (compareOp op) r) (ha:PE X a ta) (hb:PE X b tb) (hm:behindInMarks op b=false):PT X (.Compare a [op] [b] pos) (Ps (tOp r ta tb)):=by
 intro pins s σ H Q I h
 refine wpAny_isTrue_Compare1 (thn (ha pins s σ H _ I h) fun v s1 ⟨x,H1,I1,r1,q1⟩=>thn (hb pins s1 σ H1 _ I1 q1) fun u s2 ⟨y,H2,I2,r2,q2⟩ =>
  thn (ho pins s2 σ H2 x y v u _ I2 r1 r2 q2) fun c s3 ⟨z,H3,I3,r3,k,e,q3⟩=>?_) hm
 subst e
 cases r3
 exact wpAny_truthy_bool ⟨H3,I3,q3⟩
noncomputable def Jf (r r':R2) (ta tb tc:TE):TE:=fun σ H Q=>ta σ H fun x H1=>tb σ H1 fun y H2=>r x y H2 fun z H3=>∃ k,z=.bl k /\
 (if k=true then tc σ H3 fun w' H4=>r' y w' H4 Q else Q (.bl false) H3)
theorem Oi {op op':CmpOp} {r r':R2} (ho:OpR X (compareOp op) r) (ho':OpR X (compareOp op') r') (ha:PE X a ta) (hb:PE X b tb) (hc:PE X c tc)
  (hm:lastMarks [op,op'] [b,c]=false:=by with_unfolding_all rfl):PE X (.Compare a [op,op'] [b,c] pos) (Jf r r' ta tb tc):=by
 intro pins s σ H Q I h
 refine Compare_chain (thn (ha pins s σ H _ I h) fun v s1 ⟨x,H1,I1,r1,q1⟩=>chain_link (thn (hb pins s1 σ H1 _ I1 q1) fun u s2 ⟨y,H2,I2,r2,q2⟩ =>
  thn (ho pins s2 σ H2 x y v u _ I2 r1 r2 q2) fun d s3 ⟨z,H3,I3,r3,k,e,q3⟩=>?_)) hm
 subst e
 cases r3
 refine wpAny_truthy_bool ?_
 cases k with
 | false=>exact ite_ff ⟨.bl false,H3,I3,rfl,q3⟩
 | true=>exact ite_tt (chain_last (thn (hc pins s3 σ H3 _ I3 q3) fun w' s4 ⟨z',H4,I4,r4,q4⟩=>ho' pins s4 σ H4 y z' u w' Q I4 r2 r4 q4))
theorem Oj {op op':CmpOp} {r r':R2} (ho:OpR X (compareOp op) r) (ho':OpR X (compareOp op') r') (ha:PE X a ta) (hb:PE X b tb) (hc:PE X c tc)
  (hm:lastMarks [op,op'] [b,c]=false:=by with_unfolding_all rfl):PT X (.Compare a [op,op'] [b,c] pos) (Ps (Jf r r' ta tb tc)):=by
 intro pins s σ H Q I h
 refine isTrue_chain (thn (ha pins s σ H _ I h) fun v s1 ⟨x,H1,I1,r1,q1⟩=>test_link (thn (hb pins s1 σ H1 _ I1 q1) fun u s2 ⟨y,H2,I2,r2,q2⟩ =>
  thn (ho pins s2 σ H2 x y v u _ I2 r1 r2 q2) fun d s3 ⟨z,H3,I3,r3,k,e,q3⟩=>?_)) hm
 subst e
 cases r3
 refine wpAny_truthy_bool ?_
 cases k with
 | false =>
  obtain ⟨k',e',q'⟩:=q3
  cases e'
  exact ite_ff ⟨H3,I3,q'⟩
 | true =>
  refine ite_tt (test_last (thn (hc pins s3 σ H3 _ I3 q3) fun w' s4 ⟨z',H4,I4,r4,q4⟩=>thn (ho' pins s4 σ H4 y z' u w' _ I4 r2 r4 q4) fun d' s5 ⟨z2,H5,I5,r5,k2,e2,q5⟩=>?_))
  subst e2
  cases r5
  exact wpAny_truthy_bool ⟨H5,I5,q5⟩
noncomputable def Ol (K:PySem.W.Frag) (x:V) (H:Hp) (k:Bool):Prop :=
 match x with
 | .non=>k=false
 | .bl b=>k=b
 | .int i=>k=(i != 0)
 | .str y=>y.length<=sizeLine/\k=((y.length:Int) != 0)
 | .byt y=>y.size<=sizeLine/\k=((y.size:Int) != 0)
 | .ref p=>(∃ xs,SqL K H p xs/\k=!xs.isEmpty)\/(∃ xs,SqT K H p xs/\k=!xs.isEmpty)\/∃ kvs,H p=some (.dK kvs)/\k=!kvs.isEmpty
 | _=>False
theorem LF {κ:Type} {kvs:List (κ × V)} {vs:List (κ × Value)} (r:KV kvs vs):(!vs.isEmpty)=!kvs.isEmpty:=by
 cases r <;> rfl
theorem G3 {xs:List V} {its:List Value} (r:Vals xs its):(!its.toArray.isEmpty)=!xs.isEmpty:=by
 cases r <;> simp
theorem G4:(sizeLine:Nat) < 2 ^ 63:=by rw [sizeLine_eq]; decide
theorem R5:UB X (fun x H Q=>∃ k,Ol X.K x H k/\Q k H):=by
 intro pins s σ H x v Q I rx h
 obtain ⟨k,e,q⟩:=h
 have hl:=G4
 have hs:sizeLine=16777216:=sizeLine_eq
 cases x with
 | non =>
  cases rx
  have e':k=false:=e
  subst e'
  exact truthy_none ⟨H,I,q⟩
 | bl b =>
  cases rx
  have e':k=b:=e
  subst e'
  exact wpAny_truthy_bool ⟨H,I,q⟩
 | int i =>
  obtain ⟨t,rfl⟩:=rx
  have e':k=(i != 0):=e
  subst e'
  exact PySem.P.truthy_int ⟨H,I,q⟩
 | str y =>
  obtain ⟨t,rfl⟩:=rx
  obtain ⟨hy,e'⟩:y.length<=sizeLine/\k=((y.length:Int) != 0):=e
  subst e'
  exact PySem.P.truthy_str (by omega) ⟨H,I.tok _,q⟩
 | byt y =>
  obtain ⟨t,rfl⟩:=rx
  obtain ⟨hy,e'⟩:y.size<=sizeLine/\k=((y.size:Int) != 0):=e
  subst e'
  exact PySem.W.truthy_bytes (by omega) ⟨H,I.tok _,q⟩
 | ref p =>
  cases rx
  have e':(∃ xs,SqL X.K H p xs/\k=!xs.isEmpty)\/(∃ xs,SqT X.K H p xs/\k=!xs.isEmpty)\/∃ kvs,H p=some (.dK kvs)/\k=!kvs.isEmpty:=e
  rcases e' with ⟨xs,hx,e'⟩ | ⟨xs,hx,e'⟩ | ⟨kvs,hx,e'⟩
  ·subst e'
   obtain ⟨its,r,pl,hz⟩:=I.list hx
   have hlen:=r.length
   exact wpAny_truthy_list pl.isList (by simp only [aap]; omega) ⟨H,I.tok _,by rw [G3 r]; exact q⟩
  ·subst e'
   obtain ⟨its,r,pl,hz⟩:=I.tuple hx
   have hlen:=r.length
   exact truthy_tuple pl (by simp only [aap]; omega) ⟨H,I.tok _,by rw [G3 r]; exact q⟩
  ·subst e'
   obtain ⟨hz,hS,vs,r,m⟩:kvs.length<=sizeLine/\(p==sysModules)=false/\∃ vs,KV kvs vs/\s.heap.DictOf (HD X.prog X.w) p vs:=I.hok p _ hx
   have hlen:kvs.length=vs.length:=Paired.length r
   exact wpAny_truthy_dict hS m (by omega) ⟨H,I.tok _,by rw [LF r]; exact q⟩
 | _=>exact nE e
theorem Om (ha:PE X a ta) (he:∀ whole,isTrue a X.env whole=(do let v <- whole; standAt a.pos; holding [v] (truthy v))) :
  PT X a (fun σ H Q=>ta σ H fun x H'=>∃ k,Ol X.K x H' k/\Q k H'):=by
 intro pins s σ H Q I h
 exact isTrue_plain (thn (ha pins s σ H _ I h) fun v s1 ⟨x,H1,I1,r1,q1⟩=>R5 pins s1 σ H1 x v Q I1 r1 q1) (he _)
theorem LH:OpR X (binaryOp .Add) (fun x y H Q=>∃ i j,x=.str i/\y=.str j/\i.length + j.length<=sizeLine/\Q (.str (i ++ j)) H):=by
 intro pins s σ H x y v u Q I rx ry h
 obtain ⟨i,j,rfl,rfl,hz,q⟩:=h
 obtain ⟨t,rfl⟩:=rx
 obtain ⟨t',rfl⟩:=ry
 exact add_str (fun t' tk=>⟨.str (i ++ j),H,I.tok _,⟨_,rfl⟩,q⟩) hz
theorem Ga {x:V} {us:List Value} (r:Vals [x] us):∃ u,us=[u]/\RelV x u:=by
 cases r with
 | cons r1 r2=>cases r2; exact ⟨_,rfl,r1⟩
theorem IV {x y:V} {us:List Value} (r:Vals [x,y] us):∃ u w',us=[u,w']/\RelV x u/\RelV y w':=by
 cases r with
 | cons r1 r2 =>
  cases r2 with
  | cons r3 r4=>cases r4; exact ⟨_,_,rfl,r1,r3⟩
theorem MV (hc:X.calm=true):C9 X (.builtin "max") (fun xs H Q=>∃ i j,xs=[.int i,.int j]/\Q (.int (if j > i then j else i)) H):=by
 intro pins s σ H xs us Q I r h
 obtain ⟨i,j,rfl,q⟩:=h
 obtain ⟨u,w',rfl,⟨t,rfl⟩,⟨t',rfl⟩⟩:=IV r
 refine max_two_ints (I.ok.hd hc) fun h' tk k=>⟨_,H,I.kept k,?_,q⟩
 by_cases hj:j > i
 ·rw [if_pos hj,if_pos hj]; exact ⟨_,rfl⟩
 ·rw [if_neg hj,if_neg hj]; exact ⟨_,rfl⟩
theorem MW (hc:X.calm=true):C9 X (.builtin "min") (fun xs H Q=>∃ i j,xs=[.int i,.int j]/\Q (.int (if j < i then j else i)) H):=by
 intro pins s σ H xs us Q I r h
 obtain ⟨i,j,rfl,q⟩:=h
 obtain ⟨u,w',rfl,⟨t,rfl⟩,⟨t',rfl⟩⟩:=IV r
 refine min_two_ints (I.ok.hd hc) fun h' tk k=>⟨_,H,I.kept k,?_,q⟩
 by_cases hj:j < i
 ·rw [if_pos hj,if_pos hj]; exact ⟨_,rfl⟩
 ·rw [if_neg hj,if_neg hj]; exact ⟨_,rfl⟩
theorem MX:C9 X (.type "int") (fun xs H Q=>(∃ i,xs=[.int i]/\Q (.int i) H)\/∃ k,xs=[.bl k]/\Q (.int (if k then 1 else 0)) H):=by
 intro pins s σ H xs us Q I r h
 rcases h with ⟨i,rfl,q⟩ | ⟨k,rfl,q⟩
 ·obtain ⟨u,rfl,t,rfl⟩:=Ga r
  exact call_int_int ⟨.int i,H,I,⟨_,rfl⟩,q⟩
 ·obtain ⟨u,rfl,r1⟩:=Ga r
  cases r1
  exact call_int_bool ⟨.int (if k then 1 else 0),H,I.tok _,⟨_,rfl⟩,q⟩
end
structure ObjM (h:Heap) (x dx C:Addr) (mA:Str->Option Value):Prop where
 obj:h.get? x=some (PySem.W.instObj C dx)
 ns:h.Ns1 dx mA
 ne:dx ≠ x
theorem MY {h:Heap} {dx:Addr} {mA:Str->Option Value} (n:h.Ns1 dx mA):∃ od,h.get? dx=some od/\∀ name,PySem.W.lookIn name od=some (mA name):=by
 obtain ⟨o,es,ep,ho,hd,hk,_,hm⟩:=n
 refine ⟨o,ho,fun name=>?_⟩
 have e:=hm name
 unfold nsFind findBy at e
 rw [<- Array.find?_toList] at e
 unfold PySem.W.lookIn
 rw [hd]
 dsimp only
 split
 ·rename_i y q
  rw [q] at e
  exact congrArg some e
 ·rename_i q
  rw [q] at e
  have a:es.toList.any (·.refKey)=false:=by
   rw [List.any_eq_false]
   intro y hy
   obtain ⟨z,t,hkey⟩:=hk y (Array.mem_toList_iff.mp hy)
   simp [DictEntry.refKey,hkey]
  have a':¬ es.toList.any (·.refKey)=true:=by rw [a]; exact aaW
  rw [if_neg a']
  exact congrArg some e
theorem ObjM.look {h:Heap} {x dx C:Addr} {mA:Str->Option Value} (I:ObjM h x dx C mA):∃ od,PySem.W.InstAt h x (PySem.W.instObj C dx) C (some od)/\∀ name,PySem.W.lookIn name od=some (mA name) :=
 let ⟨od,ho,hl⟩:=MY I.ns
 ⟨od,⟨I.obj,rfl,rfl,ho⟩,hl⟩
section
variable {P:Program} {w:World} {H H':Hp} {h h':Heap} {a C dx:Addr} {fs fs':List (Str × V)}
theorem P0 (hok:HOk P w H h) (e:H a=some (.ins C dx fs)):∃ mA,ObjM h a dx C mA/\(∀ f,N9 (fs.lookup f) (mA f))/\PySem.Within mA (fs.map (·.1))/\fs.length<=1000/\H dx=some (.own a):=by
 obtain ⟨d,z,ne,ob,mA,n,r,q⟩:=(show ObjOk P w H h a (.ins C dx fs) from hok a _ e)
 exact ⟨mA,⟨ob,n,ne⟩,r,q,z,d⟩
end
structure Cls (K:PySem.W.Frag) (C:Addr):Prop where
 pg:PySem.W.plainGet K C Str.empty=true
 hd:PySem.W.hasDictIn K C=true
 po:PySem.W.plainOver K C=true
 sa:PySem.W.findIn K (.ref C) "__setattr__" = some (some (.builtin "object.__setattr__"))
theorem Cls.get {K:PySem.W.Frag} {C:Addr} (c:Cls K C) (f:Str):PySem.W.plainGet K C f=true:=c.pg
section
variable {X:Cx} {pins:List (Addr × Obj)} {σ:St} {H:Hp} {s:Shared} {A:Around} {E:Value->Shared->Prop} {Q:Value->Shared->Prop} {c:Value} {b:Bool}
inductive TyOf (K:PySem.W.Frag) (H:Hp):V->Value->Prop where
 | non:TyOf K H .non (.type "NoneType")
 | bl (x:Bool):TyOf K H (.bl x) (.type "bool")
 | int (i:Int):TyOf K H (.int i) (.type "int")
 | str (x:Str):TyOf K H (.str x) (.type "str")
 | flt (x:UInt64):TyOf K H (.flt x) (.type "float")
 | lst {a:Addr} {xs:List V} (e:H a=some (.lst xs)):TyOf K H (.ref a) (.type "list")
 | frz {a:Addr} {o:Obj} {xs:List V} (e:H a=some (.frz o (.lst xs))):TyOf K H (.ref a) (.type "list")
 | tup {a:Addr} {xs:List V} (e:H a=some (.tup xs)):TyOf K H (.ref a) (.type "tuple")
 | dK {a:Addr} {kvs:List (Key × V)} (e:H a=some (.dK kvs)):TyOf K H (.ref a) (.type "dict")
 | dT {a:Addr} {kvs:List (List Key × V)} (e:H a=some (.dT kvs)):TyOf K H (.ref a) (.type "dict")
 | ins {a C dx:Addr} {fs:List (Str × V)} (e:H a=some (.ins C dx fs)) (cl:Cls K C) (ha:PySem.W.findIn K (.ref C) "__class__" = some (some (.builtin "object.__class__")))
   (hn:PySem.W.specialIn K (.builtin "object.__class__") "__get__" = some (some (.builtin "getset_descriptor.__get__"))) (htk:PySem.W.takesIn K (.builtin "object.__class__")=some true)
   (hm:PySem.W.mroIn K C (.type "object")=some true):TyOf K H (.ref a) (.ref C)
theorem MZ {x:V} {u t:Value} (I:Inv X pins σ H s) (rx:RelV x u) (ty:TyOf X.K H x t) (e:PySem.W.kitOne X.K t c=some b) (h:∀ tk,Q (.bool b) { s with toks:=tk }) :
  wpAny (model X.prog X.w) A (call (.builtin "isinstance") [u,c]) Q E s:=by
 cases ty with
 | non=>cases (show u=Value.none from rx); exact PySem.W.kia_one PySem.W.kitx_none I.kIn True.intro e (fun z=>nomatch z) h
 | bl y=>cases (show u=Value.bool y from rx); exact PySem.W.kia_one PySem.W.kitx_bool I.kIn True.intro e (fun z=>nomatch z) h
 | int i=>obtain ⟨t,q⟩:=(show ∃ t,u=Value.int i t from rx); cases q; exact PySem.W.kia_one PySem.W.kitx_int I.kIn True.intro e (fun z=>nomatch z) h
 | str y=>obtain ⟨t,q⟩:=(show ∃ t,u=Value.str y t from rx); cases q; exact PySem.W.kia_one PySem.W.kitx_str I.kIn True.intro e (fun z=>nomatch z) h
 | flt y=>obtain ⟨t,q⟩:=(show ∃ t,u=Value.float y t from rx); cases q; exact PySem.W.kia_one PySem.W.kitx_float I.kIn True.intro e (fun z=>nomatch z) h
 | @lst a xs ea =>
  cases (show u=Value.ref a from rx)
  obtain ⟨_,_,n,_,h1⟩:=(show ObjOk X.prog X.w H s.heap a (.lst xs) from I.hok a _ ea)
  exact PySem.W.kia_one PySem.W.kitx_list I.kIn ⟨_,h1,rfl⟩ e (fun z=>nomatch z) h
 | @frz a ob xs ea =>
  cases (show u=Value.ref a from rx)
  obtain ⟨_,_,_,n,_,h1⟩:=(show ObjOk X.prog X.w H s.heap a (.frz ob (.lst xs)) from I.hok a _ ea)
  exact PySem.W.kia_one PySem.W.kitx_list I.kIn ⟨_,h1,rfl⟩ e (fun z=>nomatch z) h
 | @tup a xs ea =>
  cases (show u=Value.ref a from rx)
  obtain ⟨_,_,_,p⟩:=(show ObjOk X.prog X.w H s.heap a (.tup xs) from I.hok a _ ea)
  obtain ⟨o,h1,h2,_⟩:=p
  exact PySem.W.kia_one PySem.W.kitx_tuple I.kIn ⟨o,h1,h2⟩ e (fun z=>nomatch z) h
 | @dK a kvs ea =>
  cases (show u=Value.ref a from rx)
  obtain ⟨_,_,vs,_,p⟩:=(show ObjOk X.prog X.w H s.heap a (.dK kvs) from I.hok a _ ea)
  obtain ⟨o,es,ep,h1,h2,_⟩:=p
  exact PySem.W.kia_one PySem.W.kitx_dict I.kIn ⟨o,h1,h2.1⟩ e (fun z=>nomatch z) h
 | @dT a kvs ea =>
  cases (show u=Value.ref a from rx)
  obtain ⟨_,_,xs,_,o,es,ep,h1,h2,_⟩:=(show ObjOk X.prog X.w H s.heap a (.dT kvs) from I.hok a _ ea)
  exact PySem.W.kia_one PySem.W.kitx_dict I.kIn ⟨o,h1,h2.1⟩ e (fun z=>nomatch z) h
 | @ins a C dx fs ea cl ha hn htk hm =>
  cases (show u=Value.ref a from rx)
  obtain ⟨mA,O,_⟩:=P0 I.hok ea
  obtain ⟨od,J,_⟩:=O.look
  exact PySem.W.kia_one (PySem.W.kitx_own (cl.get _) cl.hd ha hn htk hm) I.kIn J e (fun z=>nomatch z) h
end
structure Room (k:Nat) (A:Around):Prop where
 hd:A.handled=none
 dp:A.depth + 3 * k + 5 < recursionLimit
 un:A.units + 16 * k + 200 < cLine
theorem Room.mono {j k:Nat} {A:Around} (r:Room k A) (h:j<=k):Room j A:=⟨r.hd,by have:=r.dp; omega,by have:=r.un; omega⟩
theorem Room.deeper {k:Nat} {A:Around} (r:Room (k + 1) A) (env:Env):Room k (A.deeper env) :=
 ⟨r.hd,by have:=r.dp; show A.depth + 1 + 3 * k + 5 < _; omega,by have:=r.un; show A.units + 3 + 16 * k + 200 < _; omega⟩
theorem Room.depth {k:Nat} {A:Around} (r:Room k A):A.depth < recursionLimit:=by have:=r.dp; omega
theorem Room.units {k:Nat} {A:Around} (r:Room k A):A.units + 64 < cLine:=by have:=r.un; omega
noncomputable def R6:TA:=fun _ H Q=>Q [] H
noncomputable def Pt (ta:TE) (tr:TA):TA:=fun σ H Q=>ta σ H fun x H1=>tr σ H1 fun xs H2=>Q (x :: xs) H2
section
variable {X:Cx} {e:Expr} {es:List Expr} {te:TE} {t:TA} {pos:Pos}
theorem Da:PA X [] R6:=fun _ _ _ _ H Q I h=>Calls.spliced_nil ⟨[],H,I,.nil,h⟩
theorem Ba (ha:PE X e te) (hr:PA X es t) (hs:starEach (e :: es) X.env=(false,eval e X.env) :: starEach es X.env:=by rfl):PA X (e :: es) (Pt te t):=by
 intro pos pins s σ H Q I h
 rw [hs]
 show wpAny _ _ (spliced ((false,eval e X.env) :: backTo pos (starEach es X.env))) _ _ s
 refine Calls.spliced_cons (thn (ha pins s σ H _ I h) fun u s1 ⟨x,H1,I1,r1,q1⟩=>?_)
 exact thn (hr pos pins s1 σ H1 _ I1 q1) fun us s2 ⟨xs,H2,I2,r2,q2⟩=>⟨x :: xs,H2,I2,.cons r1 r2,q2⟩
noncomputable def R7 (t:TA):TE:=fun σ H Q=>t σ H fun xs H1=>xs.length<=sizeLine/\∀ p,H1 p=none->Q (.ref p) (upd H1 p (.tup xs))
noncomputable def UC (t:TA):TE:=fun σ H Q=>t σ H fun xs H1=>xs.length<=sizeLine/\∀ p,H1 p=none->Q (.ref p) (upd H1 p (.lst xs))
theorem M0 {x1} (h:PA X es t):PE X (.Tuple es x1 pos) (R7 t):=by
 intro pins s σ H Q I hq
 refine wpAny_Tuple_spliced (thn (h pos pins s σ H _ I hq) fun us s1 ⟨xs,H1,I1,r,z,q⟩=>⟨by rw [<- r.length]; exact z,?_⟩)
 have hf:H1 s1.heap.objs.size=none:=I1.hok.fresh (aai _)
 refine ⟨.ref s1.heap.objs.size,upd H1 s1.heap.objs.size (.tup xs),I1.laid (t':=s1.toks) (fun b u e=>Heap.get?_push_of_some _ e) (aai _) ?_,rfl,q _ hf⟩
 exact ⟨z,us,r,⟨_,Heap.get?_push_size _ rfl,rfl,_,rfl⟩⟩
theorem R8 (h:PA X es t):PE X (.List es pos) (UC t):=by
 intro pins s σ H Q I hq
 refine wpAny_List_spliced (thn (h pos pins s σ H _ I hq) fun us s1 ⟨xs,H1,I1,r,z,q⟩=>⟨by rw [<- r.length]; exact z,?_⟩)
 have hf:H1 s1.heap.objs.size=none:=I1.hok.fresh (aai _)
 refine ⟨.ref s1.heap.objs.size,upd H1 s1.heap.objs.size (.lst xs),I1.laid (t':=s1.toks) (fun b u e=>Heap.get?_push_of_some _ e) (aai _) ?_,rfl,q _ hf⟩
 exact ⟨z,us,0,r,Heap.get?_push_size _ rfl⟩
end
noncomputable abbrev Sp:=List V->Hp->VK->XK->Prop
noncomputable abbrev CXT:=List Env->Hp->Shared->XK->Value->Shared->Prop
structure Env0 (P:Program) (w:World) (K:PySem.W.Frag) (mg:Str->Option Value) (base:Heap) (A:Around) (outer:List Env) (s:Shared) (H:Hp):Prop where
 frames:A.frames=some outer
 mod:Mod K mg base
 bs:∀ b o,base.get? b=some o->s.heap.get? b=some o/\H b=none
 bsz:base.objs.size<=s.heap.objs.size
 funs:s.heap.FunFrames base outer
 frf:∀ b ∈ frs outer,H b=none
 hok:HOk P w H s.heap
 bare:AllBare s.gens
noncomputable def CE (outer:List Env) (P:Program) (w:World) (H:Hp) (s:Shared) (Q:VK) (u:Value) (s':Shared):Prop :=
 ∃ v H',s'.os=s.os/\AllBare s'.gens/\Un (frs outer) [] H H' s.heap s'.heap/\HOk P w H' s'.heap/\RelV v u/\Q v H'
noncomputable def CR (CX:CXT) (outer:List Env) (P:Program) (w:World) (H:Hp) (s:Shared) (Q:VK) (E:XK) (r:Result) (s':Shared):Prop :=
 match r with
 | .ok (.ret u)=>CE outer P w H s Q u s'
 | .ok _=>False
 | .error e=>CX outer H s E e s'
structure FnOk (P:Program) (w:World) (K:PySem.W.Frag) (mg:Str->Option Value) (base:Heap) (CX:CXT) (k:Nat) (f:Addr) (fd:FuncData) (ps:List Str) (sp:Sp):Prop where
 len:∀ vs H Q E,sp vs H Q E->vs.length=ps.length
 run:∀ (A:Around) (outer:List Env) (s:Shared) (H:Hp) (args:Args) (us:List Value) (vs:List V) (Q:VK) (E:XK),Room k A->Env0 P w K mg base A outer s H->BindsTo s fd args (ps.zip us)->Vals vs us->sp vs H Q E ->
  codeAny (model P w) A (.call (.ref f) args) (CR CX outer P w H s Q E) s
theorem FnOk.imp {P:Program} {w:World} {K:PySem.W.Frag} {mg:Str->Option Value} {base:Heap} {CX:CXT} {k:Nat} {f:Addr} {fd:FuncData} {ps:List Str} {sp sp':Sp} (F:FnOk P w K mg base CX k f fd ps sp)
  (h:∀ vs H Q E,sp' vs H Q E->sp vs H Q E):FnOk P w K mg base CX k f fd ps sp' :=
 ⟨fun vs H Q E q=>F.len vs H Q E (h _ _ _ _ q),fun A outer s H args us vs Q E hr he hb hv hs=>F.run A outer s H args us vs Q E hr he hb hv (h _ _ _ _ hs)⟩
section
variable {X:Cx} {pins:List (Addr × Obj)} {σ:St} {H:Hp} {s s':Shared}
theorem Inv.env0 (I:Inv X pins σ H s):Env0 X.prog X.w X.K X.mg X.base X.A X.stack s H :=
 ⟨I.ok.frames,I.ok.mod,I.bs,aaM I.ok.bsz I.sz,I.stack,I.stkFree,I.hok,I.bare⟩
theorem Inv.after {Q:VK} {u:Value} (I:Inv X pins σ H s) (h:CE X.stack X.prog X.w H s Q u s'):EP X pins σ Q u s':=by
 obtain ⟨v,H',os,bare,un,hok,r,q⟩:=h
 obtain ⟨hh,g,d,t,os'⟩:=s'
 obtain rfl:os'=s.os:=os
 exact ⟨v,H',I.call (h':=hh) (g':=g) (d':=d) (t':=t) (ch:=[]) un hok bare (fun b z=>absurd z (by simp)),r,q⟩
end
noncomputable def Binds (K:PySem.W.Frag) (fd:FuncData) (ps:List Str) (ds:List Value):Prop :=
 ∀ (s:Shared) (us:List Value),K.In s.heap->(us ++ ds).length=ps.length->BindsTo s fd ⟨us,[]⟩ (ps.zip (us ++ ds))
theorem Binds.all {K:PySem.W.Frag} {fd:FuncData} {ps:List Str} (h:∀ us:List Value,us.length=ps.length->bindArgs fd ⟨us,[]⟩=pure (ps.zip us)):Binds K fd ps []:=fun s us _ hl=>by
 rw [aaJ] at hl ⊢
 exact .of_eq (h us hl)
noncomputable def R9 (CX:CXT) (X:Cx) (E:XK):Prop:=∀ (pins:List (Addr × Obj)) (σ:St) (H:Hp) (s:Shared) (e:Value) (s':Shared),Inv X pins σ H s->CX X.stack H s E e s'->X.xe e s'
structure FnScope (N P:List Str) (sc:Scope):Prop where
 kind:sc.kind=.function
 co:sc.isCoroutine=false
 gen:sc.isGenerator=false
 nd:N.Nodup
 pre:N.take P.length=P
 par:∀ x ∈ P,sc.names.lookup x=some .local\/sc.names.lookup x=some .cell
 nofree:∀ y ∈ sc.names,y.2 ≠ .free
theorem Il {kindOf:Str->Option NameKind} {x:Str}:∀ {binds:List (Str × Value)} {m:Str->Option Value},(∀ v,(x,v) ∉ binds)->bindL kindOf binds m x=m x
 | [],_,_=>rfl
 | (n,v) :: r,m,h=>by
  unfold bindL
  rw [Il fun w hw=>h w (aab _ hw)]
  split
  ·have:x ≠ n:=by rintro rfl; exact h v aac
   simp [this]
  ·rfl
theorem Im {kindOf:Str->Option NameKind} {x:Str}:∀ {binds:List (Str × Value)} {m:Str->Option Value},(∀ v,(x,v) ∉ binds)->bindC kindOf binds m x=m x
 | [],_,_=>rfl
 | (n,v) :: r,m,h=>by
  unfold bindC
  rw [Im fun w hw=>h w (aab _ hw)]
  split
  ·rfl
  ·have:x ≠ n:=by rintro rfl; exact h v aac
   simp [this]
theorem Io {kindOf:Str->Option NameKind} {x:Str} {v:Value}:∀ {P:List Str} {vs:List Value} {i:Nat} {m:Str->Option Value},P.Nodup->P[i]?=some x->vs[i]?=some v->kindOf x=some .local ->
  bindL kindOf (P.zip vs) m x=some v
 | [],_,_,_,_,h,_,_=>by simp at h
 | _ :: _,[],_,_,_,_,h,_=>by simp at h
 | p :: P,w :: vs,0,m,nd,h1,h2,hk=>by
  simp at h1 h2; subst h1; subst h2
  show bindL kindOf ((p,w) :: P.zip vs) m p=_
  unfold bindL
  rw [Il fun v hv=>(aaG.mp nd).1 (ach hv).1,if_pos hk]
  simp
 | p :: P,w :: vs,i + 1,m,nd,h1,h2,hk=>by
  show bindL kindOf ((p,w) :: P.zip vs) m x=_
  unfold bindL
  exact Io (i:=i) (aaG.mp nd).2 (by simpa using h1) (by simpa using h2) hk
theorem Ip {kindOf:Str->Option NameKind} {x:Str} {v:Value}:∀ {P:List Str} {vs:List Value} {i:Nat} {m:Str->Option Value},P.Nodup->P[i]?=some x->vs[i]?=some v->kindOf x ≠ some .local ->
  bindC kindOf (P.zip vs) m x=some v
 | [],_,_,_,_,h,_,_=>by simp at h
 | _ :: _,[],_,_,_,_,h,_=>by simp at h
 | p :: P,w :: vs,0,m,nd,h1,h2,hk=>by
  simp at h1 h2; subst h1; subst h2
  show bindC kindOf ((p,w) :: P.zip vs) m p=_
  unfold bindC
  rw [Im fun v hv=>(aaG.mp nd).1 (ach hv).1,if_neg hk]
  simp
 | p :: P,w :: vs,i + 1,m,nd,h1,h2,hk=>by
  show bindC kindOf ((p,w) :: P.zip vs) m x=_
  unfold bindC
  exact Ip (i:=i) (aaG.mp nd).2 (by simpa using h1) (by simpa using h2) hk
noncomputable def AH (N:List Str) (vs:List V):St:=vs.map some ++ aag (N.length - vs.length) none
noncomputable def BF (CX:CXT) (P:Program) (w:World) (K:PySem.W.Frag) (mg:Str->Option Value) (base:Heap) (N:List Str) (qual:Str) (scope:Scope) (f:Addr) (cd:Value) (A:Around) (outer:List Env) (s:Shared) (H:Hp) (E:XK):Cx where
 prog:=P
 w:=w
 K:=K
 mg:=mg
 base:=base
 A:=A.deeper (envOfC qual scope s.heap.objs.size f cd)
 N:=N
 s₀:=s
 H₀:=H
 env:=envOfC qual scope s.heap.objs.size f cd
 outer:=outer
 stack:=envOfC qual scope s.heap.objs.size f cd :: outer
 ex:=[]
 calm:=true
 fn:=fun _=>true
 pn:=[]
 xe:=fun e s'=>wpAny (model P w) (A.deeper (envOfC qual scope s.heap.objs.size f cd)) (leaving (envOfC qual scope s.heap.objs.size f cd) e) (fun _ s''=>CX outer H s E e s'') (fun e' s''=>CX outer H s E e' s'') s'
theorem Jg {sc:Scope} {n:Nat} {x:Str} (h:sc.names.lookup x=some .cell):∃ c,(cellsFrom n sc.names []).lookup x=some c:=by
 have q:=PySem.W.cellsFrom_some sc.names n [] (.inl h)
 exact aaz.mp q
theorem M1 {CX:CXT} {P:Program} {w:World} {K:PySem.W.Frag} {mg:Str->Option Value} {base:Heap} {N ps:List Str} {qual:Str} {scope:Scope} {f:Addr} {cd:Value} {A:Around} {outer:List Env} {s s1:Shared} {H:Hp} {E:XK} {us:List Value} {vs:List V}
  (S:FnScope N ps scope) (hd:A.handled=none) (e0:Env0 P w K mg base A outer s H) (hl:vs.length=ps.length) (r:Vals vs us)
  (x:InCallC s s.heap.objs.size (bindL (envOfC qual scope s.heap.objs.size f cd).kindOf (ps.zip us) fun _=>none) (cellsFrom (s.heap.objs.size + 1) scope.names []) (bindC (envOfC qual scope s.heap.objs.size f cd).kindOf (ps.zip us) fun _=>none) s1) :
  Inv (BF CX P w K mg base N qual scope f cd A outer s H E) [] (AH N vs) H s1:=by
 have hpl:ps.length<=N.length:=by have:=congrArg abe S.pre; rw [aa3] at this; omega
 obtain ⟨h1,tk,rfl,hk⟩:=x.done
 have noA:∀ b:Addr,b ∉ (BF CX P w K mg base N qual scope f cd A outer s H E).ex:=fun b z=>absurd (show b ∈ ([]:List Addr) from z) (by simp)
 refine ⟨⟨e0.mod,S.kind,rfl,rfl,aai _,fun y z c h1 h2=>?_,fun y hy=>?_,fun y c _ h=>?_,fun _=>hd,Around.frames_deeper e0.frames,.inr ⟨rfl,rfl⟩,fun b z=>absurd z (noA b),e0.bs,e0.bsz,fun b _ _=>noA b,fun b z=>absurd z (noA b),e0.funs,e0.frf⟩,
  rfl,e0.bare,Un.kept hk,⟨_,x.toInCall.ns,fun i y v h1 h2 h3=>?_⟩,fun y c h=>⟨_,x.cell y c h⟩,e0.hok.fresh (aai _),fun y c h=>?_,fun p hp=>absurd (show p ∈ ([]:List (Addr × Obj)) from hp) (by simp),e0.hok.kept hk,?_⟩
 ·exact name_of_addr x.apart (PySem.mem_of_lookup h1) (PySem.mem_of_lookup h2)
 ·have hy:scope.names.lookup y=some .cell\/scope.names.lookup y=some .free:=hy
  rcases hy with hy | hy
  ·exact Jg hy
  ·exact absurd rfl (S.nofree _ (PySem.mem_of_lookup hy))
 ·exact acw (x.above y c (PySem.mem_of_lookup h))
 ·have hi:i < vs.length:=by
   unfold AH at h2
   by_cases hi:i < vs.length
   ·exact hi
   ·rw [aaD (by simpa using hi)] at h2
    rw [aaR] at h2
    split at h2 <;> cases h2
  have ha:vs[i]?=some v:=by
   unfold AH at h2
   rw [aaK (by simpa using hi),aaj] at h2
   cases e:vs[i]? with
   | none=>rw [e] at h2; cases h2
   | some a=>rw [e] at h2; cases h2; rfl
  obtain ⟨u,hu,rv⟩:=r.get ha
  have hp:ps[i]?=some y:=by
   rw [<- S.pre,aca (by omega)]; exact h1
  have ndP:ps.Nodup:=by rw [<- S.pre]; exact S.nd.sublist (List.take_sublist _ _)
  refine ⟨u,rv,?_⟩
  rcases S.par y (aae hp) with k | k
  ·exact .inl ⟨k,Io ndP hp hu k⟩
  ·obtain ⟨c,e⟩:=Jg (n:=s.heap.objs.size + 1) k
   refine .inr ⟨.inl k,c,e,?_⟩
   have q:=x.cell y c e
   rw [Ip ndP hp hu (by show scope.names.lookup y ≠ _; rw [k]; decide)] at q
   exact q
 ·exact e0.hok.fresh (acw (x.above y c (PySem.mem_of_lookup h)))
 ·unfold AH
  show _=N.length
  rw [aav,aaa,aa2]
  omega
theorem TW {CX:CXT} {P:Program} {w:World} {K:PySem.W.Frag} {mg:Str->Option Value} {base:Heap} {k:Nat} {f:Addr} {name qual:Str} {params:Arguments} {body:List Stmt} {scope:Scope} {dV kV doc pm cdv ct oc:Value} {an od:Option Addr}
  {osl:Array (Option Value)} {N ps:List Str} {sp:Sp} (lk:K.lookup f=some ⟨oc,od,.func (PySem.W.fnOf name qual params body scope dV kV doc pm an cdv ct),osl⟩) (hcd:PySem.W.codeIn K cdv qual=true) (S:FnScope N ps scope)
  (len:∀ vs H Q E,sp vs H Q E->vs.length=ps.length)
  (hbody:∀ (A:Around) (outer:List Env) (s:Shared) (H:Hp) (vs:List V) (Q:VK) (E:XK),Room k (A.deeper (envOfC qual scope s.heap.objs.size f cdv))->sp vs H Q E ->
   ∃ t,PSs (BF CX P w K mg base N qual scope f cdv A outer s H E) body t/\t { nx:=fun _ H'=>Q .non H',rt:=Q } (AH N vs) H) :
  FnOk P w K mg base CX (k + 1) f (PySem.W.fnOf name qual params body scope dV kV doc pm an cdv ct) ps sp:=by
 refine ⟨len,fun A outer s H args us vs Q E hr e0 hb r hsp=>?_⟩
 have hl:=len _ _ _ _ hsp
 have KX:K.In s.heap:=e0.mod.kin.keeps fun b o e=>(e0.bs b o e).1
 have lim:s.heap.NoLimit:=e0.mod.nolimit.keeps fun b o e=>(e0.bs b o e).1
 have hkind:∀ y ∈ ps.zip us,scope.names.lookup y.1=some .local\/(scope.names.lookup y.1=some .cell/\((cellsFrom (s.heap.objs.size + 1) scope.names []).lookup y.1).isSome=true):=fun ⟨n,v⟩ hy=>by
  rcases S.par n (ach hy).1 with q | q
  ·exact .inl q
  ·exact .inr ⟨q,PySem.W.cellsFrom_some _ _ _ (.inl q)⟩
 refine codeAny_call_function hr.depth (KX _ _ lk) rfl S.co S.gen rfl (PySem.W.codeRec_of KX hcd) (hb _ _ _ _ ?_)
 refine wpAny_newFunctionEnv_cells S.kind hkind fun env he s1 x=>?_
 subst he
 refine ⟨lim.keeps x.toInCall.keep,codeAny_func ?_⟩
 obtain ⟨t,ht,hq⟩:=hbody A outer s H vs Q E (hr.deeper _) hsp
 have I:Inv (BF CX P w K mg base N qual scope f cdv A outer s H E) [] (AH N vs) H s1:=M1 S hr.hd e0 hl r x
 refine wpAny_mono (ht [] s1 (AH N vs) H _ I hq) (fun fl s' hs=>?_) fun e s' hs=>hs
 have fin:∀ {σ':St} {H':Hp} {v:V} {u:Value},Inv (BF CX P w K mg base N qual scope f cdv A outer s H E) [] σ' H' s'->RelV v u->Q v H'->CE outer P w H s Q u s' :=
  fun {σ' H' v u} J rv q=>⟨v,H',J.os,J.bare,J.base,J.hok,rv,q⟩
 cases fl with
 | ret u =>
  obtain ⟨v,σ',H',J,rv,q⟩:=hs
  exact fin J rv q
 | next =>
  obtain ⟨σ',H',J,q⟩:=hs
  exact fin (v:=V.non) (u:=Value.none) J rfl q
 | brk =>
  obtain ⟨_,_,_,q⟩:=hs
  exact False.elim q
 | cont =>
  obtain ⟨_,_,_,q⟩:=hs
  exact False.elim q
section
variable {X:Cx} {x:Str} {p pos:Pos} {e:Expr} {es:List Expr} {t:TA} {id T:String} {r:List V->Hp->VK->Prop}
noncomputable def tCB (r:List V->Hp->VK->Prop) (t:TA):TE:=fun σ H Q=>t σ H fun vs H1=>r vs H1 Q
theorem CY (hc:C9 X (.builtin id) r) (hg:Gl X x) (hm:X.mg x=none) (hv:bootBuiltins x=some (.builtin id)) (ha:PA X (e :: es) t) (hn:x ≠ "__name__" := by decide) (hdb:(x==("__debug__" : Str))=false:=by decide)
  (he:starEach (e :: es) X.env=(false,eval e X.env) :: starEach es X.env:=by rfl) (hpl:(backTo pos (starEach es X.env)).any (·.1)=false:=by rfl):PE X (.Call (.Name x p) (e :: es) [] pos) (tCB r t):=by
 intro pins s σ H Q I h
 refine wpAny_Call_Name_kw (E3 I hg hm hv ?_ hn hdb)
 exact PyProof.Rows.callWith_builtin1 (thn (ha pos pins s σ H _ I h) fun us s1 ⟨vs,H1,I1,r1,q1⟩=>hc pins s1 σ H1 vs us Q I1 r1 q1) he hpl
theorem FB (hc:C9 X (.type T) r) (hg:Gl X x) (hm:X.mg x=none) (hv:bootBuiltins x=some (.type T)) (ha:PA X (e :: es) t) (hn:x ≠ "__name__" := by decide) (hdb:(x==("__debug__" : Str))=false:=by decide)
  (he:starEach (e :: es) X.env=(false,eval e X.env) :: starEach es X.env:=by rfl) (hpl:(backTo pos (starEach es X.env)).any (·.1)=false:=by rfl):PE X (.Call (.Name x p) (e :: es) [] pos) (tCB r t):=by
 intro pins s σ H Q I h
 refine wpAny_Call_Name_kw (E3 I hg hm hv ?_ hn hdb)
 exact PyProof.Rows.callWith_type1 (thn (ha pos pins s σ H _ I h) fun us s1 ⟨vs,H1,I1,r1,q1⟩=>hc pins s1 σ H1 vs us Q I1 r1 q1) he hpl
end
end L2
namespace HT
open PySem PyProof.Rows
section
variable {prog:Program} {w:World} {A:Around} {E:Value->Shared->Prop} {s:Shared}
noncomputable def sIx (n d:Nat):Option Int->Nat
 | none=>d
 | some v=>if v < 0 then (v + (n:Int)).toNat else min v.toNat n
theorem Sa (n d:Nat) (hd:d<=n) (o:Option Int):sIx n d o<=n:=by
 cases o with
 | none=>exact hd
 | some v =>
  show (if v < 0 then (v + (n:Int)).toNat else min v.toNat n)<=n
  by_cases hv:v < 0
  ·rw [if_pos hv]; omega
  ·rw [if_neg hv]; exact aaQ _ _
theorem clip_eq (v:Int) (n d:Nat):(if v < 0 then max (v + (n:Int)) 0 else min v (n:Int))=((sIx n d (some v):Nat):Int):=by
 show (if v < 0 then max (v + (n:Int)) 0 else min v (n:Int))=(((if v < 0 then (v + (n:Int)).toNat else min v.toNat n):Nat):Int)
 by_cases hv:v < 0
 ·simp only [if_pos hv]; omega
 ·simp only [if_neg hv]; omega
theorem LJ (lo hi:Option Int) (n:Nat):Builtin.Slice.sliceAdjust lo hi 1 (n:Int)=(((sIx n 0 lo:Nat):Int),((sIx n n hi:Nat):Int)):=by
 have h1:¬ ((1:Int) < 0):=by omega
 unfold Builtin.Slice.sliceAdjust
 simp only [h1,if_false]
 refine Prod.ext ?_ ?_
 ·cases lo with
  | none=>rfl
  | some v=>exact clip_eq v n 0
 ·cases hi with
  | none=>rfl
  | some v=>exact clip_eq v n n
theorem LK (i j:Nat):Builtin.Slice.slicePlaces (i:Int) (j:Int) 1=j - i:=by
 unfold Builtin.Slice.slicePlaces
 have h1:(1:Int) > 0:=by omega
 simp only [h1,if_true,Int.ediv_one]
 split <;> omega
theorem G5 {v:Value} {o:Option Int} {Q:Option Int->Shared->Prop} (p:IsPart v o) (h:Q o s):wpAny (model prog w) A (Builtin.Slice.slicePartIndex v) Q E s:=by
 cases p with
 | none=>exact slicePart_none h
 | int i t=>exact slicePart_int h
theorem GF {sl:Addr} {vl vu:Value} {lo hi:Option Int} {n:Nat} {Q:Int × Int × Nat->Shared->Prop} (hs:s.heap.IsSliceOf sl vl vu .none) (pl:IsPart vl lo) (pu:IsPart vu hi)
  (h:Q (((sIx n 0 lo:Nat):Int),1,sIx n n hi - sIx n 0 lo) s):wpAny (model prog w) A (Builtin.Slice.sliceApplied (.ref sl) (pure (n:Int))) Q E s:=by
 obtain ⟨os,hos,hcs,hds⟩:=id hs
 unfold Builtin.Slice.sliceApplied Builtin.Slice.sliceFields
 refine wpAny_bind (wpAny_bind (wpAny_field hos hds (x:=vl) rfl (wpAny_bind (wpAny_field hos hds (x:=vu) rfl (wpAny_bind (wpAny_field hos hds (x:=.none) rfl (wpAny_pure ?_)))))))
 refine wpAny_bind (slicePart_none ?_)
 show wpAny _ _ (if ((1:Int)==0)=true then _ else _) _ _ s
 rw [if_neg (by decide)]
 refine wpAny_bind (G5 pl (wpAny_bind (G5 pu (wpAny_bind (wpAny_pure ?_)))))
 show wpAny _ _ (match Builtin.Slice.sliceAdjust lo hi 1 (n:Int) with | (lo,hi)=>pure (lo,(1:Int),Builtin.Slice.slicePlaces lo hi 1)) _ _ s
 rw [LJ lo hi n]
 show wpAny _ _ (pure (((sIx n 0 lo:Nat):Int),(1:Int),Builtin.Slice.slicePlaces ((sIx n 0 lo:Nat):Int) ((sIx n n hi:Nat):Int) 1)) _ _ s
 rw [LK]
 exact wpAny_pure h
theorem On (xs:Array Value) (i k:Nat):((aat k).filterMap fun (m:Nat)=>xs[((i:Int) + (m:Int) * 1).toNat]?).toArray=((xs.toList.drop i).take k).toArray:=by
 have e:(fun (m:Nat)=>xs[((i:Int) + (m:Int) * 1).toNat]?)=fun m=>xs[i + m]?:=by
  funext m
  have:((i:Int) + (m:Int) * 1).toNat=i + m:=by omega
  rw [this]
 rw [e]
 have:=pick_run xs i k
 rw [List.filterMap_map] at this
 have e2:((fun x=>xs[x]?) ∘ fun x=>i + x)=fun m=>xs[i + m]?:=rfl
 rw [e2] at this
 rw [this]
theorem getItem_tuple_cut {t sl:Addr} {items:Array Value} {vl vu:Value} {lo hi:Option Int} {Q:Value->Shared->Prop} (ht:IsTup s.heap t items) (hs:s.heap.IsSliceOf sl vl vu .none) (pl:IsPart vl lo) (pu:IsPart vu hi)
  (hw:¬ (sIx items.size 0 lo=0/\sIx items.size items.size hi=items.size))
  (h:Q (.ref s.heap.objs.size) { s with heap:=s.heap.push { cls:=.type "tuple",data:=.seq ((items.toList.drop (sIx items.size 0 lo)).take (sIx items.size items.size hi - sIx items.size 0 lo)).toArray } })
  (hsz:items.size<=sizeLine):wpAny (model prog w) A (getItem (.ref t) (.ref sl)) Q E s:=by
 have htake:sizeOk (.seq ((items.toList.drop (sIx items.size 0 lo)).take (sIx items.size items.size hi - sIx items.size 0 lo)).toArray):=by
  show ((items.toList.drop (sIx items.size 0 lo)).take (sIx items.size items.size hi - sIx items.size 0 lo)).toArray.size<=sizeLine
  rw [aap,aa3,aa4,Array.length_toList]
  omega
 have hj:sIx items.size items.size hi<=items.size:=Sa _ _ (aai _) hi
 obtain ⟨os,hos,hcs,hds⟩:=id hs
 have hTs:s.TypeIs (.ref sl) "slice" := ⟨os,hos,hcs⟩
 unfold getItem
 try with_reducible refine wpAny_holding ?_
 first | refine wpAny_bind (wpAny_pure ?_) | skip
 refine wpAny_bind (wpAny_sequenceKey ht.typeIs (by decide) ?_)
 refine wpAny_bind (wpAny_callSpecial?_slot (name:=Str.ofString "__getitem__") ht.typeIs PyProof.Rows.slot_tuple_getitem
  (wpAny_call_entry PyProof.Rows.slot_tuple_getitem ht.typeIs entry_tuple_getitem ?_ (args_tuple_getitem _ _)))
 show wpAny _ _ (Builtin.Tuple.tupleItemsOf (.ref t) >>= _) _ _ s
 refine wpAny_bind (tupleItemsOf_ ht ?_)
 refine wpAny_bind (wpAny_typeOf hTs ?_)
 rw [if_pos (by decide)]
 refine wpAny_bind (GF hs pl pu ?_)
 have hno:¬ ((((sIx items.size 0 lo:Nat):Int)==0 && (1:Int)==1 && (sIx items.size items.size hi - sIx items.size 0 lo)==items.size)=true):=by
  intro q
  rw [aak,aak] at q
  have q1:((sIx items.size 0 lo:Nat):Int)=0:=eq_of_beq q.1.1
  have q2:sIx items.size items.size hi - sIx items.size 0 lo=items.size:=eq_of_beq q.2
  exact hw ⟨by omega,by omega⟩
 show wpAny _ _ (if (((sIx items.size 0 lo:Nat):Int)==0 && (1:Int)==1 && (sIx items.size items.size hi - sIx items.size 0 lo)==items.size)=true then _ else _) _ _ s
 rw [if_neg hno,On]
 first
  | exact wpAny_bind (m:=Builtin.Tuple.tupleExact _) (wpAny_newObj_type (wpAny_pure ⟨_,rfl,wpAny_pure h⟩) htake)
  | exact wpAny_bind (m:=Builtin.Tuple.tupleExact _) (wpAny_newObj_type (wpAny_bind (wpAny_pure (wpAny_pure ⟨_,rfl,wpAny_pure h⟩))) htake)
  | exact wpAny_bind (wpAny_bind (m:=Builtin.Tuple.tupleExact _) (wpAny_newObj_type (wpAny_pure (wpAny_pure ⟨_,rfl,wpAny_pure h⟩)) htake))
  | exact wpAny_bind (wpAny_bind (m:=Builtin.Tuple.tupleExact _) (wpAny_newObj_type (wpAny_pure ⟨_,rfl,wpAny_pure h⟩) htake))
end
end HT
namespace L2
open PySem PySem.Spec PyProof.Rows
noncomputable abbrev TO:=St->Hp->(Option Int->Hp->Prop)->Prop
noncomputable def PO (X:Cx) (e:Option Expr) (t:TO):Prop :=
 ∀ (pins:List (Addr × Obj)) (s:Shared) (σ:St) (H:Hp) (Q:Option Int->Hp->Prop),Inv X pins σ H s->t σ H Q ->
  wpAny (model X.prog X.w) X.A (evalPart e X.env) (fun u s'=>∃ o H',Inv X pins σ H' s'/\IsPart u o/\Q o H') X.xe s
noncomputable def P5:TO:=fun _ H Q=>Q none H
noncomputable def TX (t:TE):TO:=fun σ H Q=>t σ H fun x H1=>∃ i,x=.int i/\Q (some i) H1
theorem LL {ns:List Int}:∀ {us:List Value},Vals (ns.map V.int) us->IntsAre us ns:=by
 induction ns with
 | nil=>intro us r; rw [abE] at r; cases r; exact .nil
 | cons n ns ih =>
  intro us r
  rw [aaE] at r
  cases r with
  | cons r1 r2 =>
   obtain ⟨t,e⟩:=r1
   subst e
   exact .cons n t (ih r2)
section
variable {X:Cx} {e:Expr} {te:TE} {lo hi:Option Expr} {tl th:TO} {pos p2:Pos}
theorem P6:PO X none P5:=by
 intro pins s σ H Q I h
 rw [evalPart_none]
 exact wpAny_pure ⟨none,H,I,.none,h⟩
theorem P7 (h:PE X e te):PO X (some e) (TX te):=by
 intro pins s σ H Q I hw
 rw [evalPart_some]
 refine thn (h pins s σ H _ I hw) fun u s1 ⟨x,H1,I1,r1,q1⟩=>?_
 obtain ⟨i,rfl,q⟩:=q1
 obtain ⟨t,rfl⟩:=r1
 exact ⟨some i,H1,I1,.int i t,q⟩
noncomputable def SlR (X:Cx) (r:V->Option Int->Option Int->Hp->VK->Prop):Prop :=
 ∀ (pins:List (Addr × Obj)) (s:Shared) (σ:St) (H:Hp) (x:V) (v vl vu:Value) (lo hi:Option Int) (sl:Addr) (Q:VK),Inv X pins σ H s->RelV x v->s.heap.IsSliceOf sl vl vu .none->IsPart vl lo->IsPart vu hi->r x lo hi H Q ->
  ∃ T id,typeLookup (.type T) "__getitem__" = pure (some (.builtin id))/\s.TypeIs v T/\wpAny (model X.prog X.w) X.A (getItem v (.ref sl)) (EP X pins σ Q) X.xe s
theorem SlR.or {r r':V->Option Int->Option Int->Hp->VK->Prop} (h:SlR X r) (h':SlR X r'):SlR X (fun x lo hi H Q=>r x lo hi H Q\/r' x lo hi H Q):=by
 intro pins s σ H x v vl vu lo hi sl Q I rx hs pl pu q
 rcases q with q | q
 ·exact h pins s σ H x v vl vu lo hi sl Q I rx hs pl pu q
 ·exact h' pins s σ H x v vl vu lo hi sl Q I rx hs pl pu q
noncomputable def tSl (r:V->Option Int->Option Int->Hp->VK->Prop) (te:TE) (tl th:TO):TE:=fun σ H Q=>te σ H fun x H1=>tl σ H1 fun l H2=>th σ H2 fun u H3=>r x l u H3 Q
theorem Oo {r:V->Option Int->Option Int->Hp->VK->Prop} (hr:SlR X r) (he:PE X e te) (hl:PO X lo tl) (hu:PO X hi th):PE X (.Subscript e (.Slice lo hi none p2) pos) (tSl r te tl th):=by
 intro pins s σ H Q I h
 refine Subscript_ (thn (he pins s σ H _ I h) fun v s1 ⟨x,H1,I1,r1,q1⟩=>?_)
 refine wpAny_Slice (thn (hl pins s1 σ H1 _ I1 q1) fun vl s2 ⟨l,H2,I2,pl,q2⟩=>thn (hu pins s2 σ H2 _ I2 q2) fun vu s3 ⟨u,H3,I3,pu,q3⟩=>?_)
 rw [evalPart_none]
 refine wpAny_pure ?_
 have I4:Inv X pins σ H3 { s3 with heap:=s3.heap.push { cls:=.type "slice",data:=.fields #[vl,vu,.none] } }:=I3.kept (t':=s3.toks) fun b ob q=>Heap.get?_push_of_some _ q
 obtain ⟨T,id,hT,ht,hg⟩:=hr pins { s3 with heap:=s3.heap.push { cls:=.type "slice",data:=.fields #[vl,vu,.none] } } σ H3 x v vl vu l u s3.heap.objs.size Q I4 r1 (Heap.IsSliceOf.new ..) pl pu q3
 show wpAny (model X.prog X.w) X.A (subscriptTail e (.Slice lo hi none p2) v (.ref s3.heap.objs.size)) (EP X pins σ Q) X.xe { s3 with heap:=s3.heap.push { cls:=.type "slice",data:=.fields #[vl,vu,.none] } }
 exact tail_any (ops:=[.ref s3.heap.objs.size,v]) ht hT hg (by with_unfolding_all rfl)
noncomputable def FC (xs:List V) (lo hi:Option Int):List V:=(xs.drop (HT.sIx xs.length 0 lo)).take (HT.sIx xs.length xs.length hi - HT.sIx xs.length 0 lo)
theorem Gx (xs:List V) (lo hi:Option Int):(FC xs lo hi).length<=xs.length:=by
 unfold FC
 rw [aa3,aa4]
 omega
noncomputable def UD (K:PySem.W.Frag):V->Option Int->Option Int->Hp->VK->Prop:=fun x lo hi H Q=>∃ a xs,x=.ref a/\SqT K H a xs /\
 ¬ (HT.sIx xs.length 0 lo=0/\HT.sIx xs.length xs.length hi=xs.length)/\∀ p,H p=none->Q (.ref p) (upd H p (.tup (FC xs lo hi)))
theorem Sb:SlR X (UD X.K):=by
 intro pins s σ H x v vl vu lo hi sl Q I rx hs pl pu h
 obtain ⟨a,xs,rfl,hx,hw,q⟩:=h
 cases rx
 obtain ⟨its,r,ht,hz⟩:=I.tuple hx
 have hlen:its.toArray.size=xs.length:=by rw [aap]; exact r.length.symm
 refine ⟨"tuple",_,PyProof.Rows.slot_tuple_getitem.lookup,ht.typeIs,?_⟩
 refine HT.getItem_tuple_cut ht hs pl pu (by rw [hlen]; exact hw) ?_ (by rw [hlen]; exact hz)
 rw [hlen]
 refine ⟨.ref s.heap.objs.size,_,I.laid (t':=s.toks) (o:=.tup (FC xs lo hi)) (fun b ob q=>Heap.get?_push_of_some _ q) (aai _) ?_,rfl,q _ (I.hok.fresh (aai _))⟩
 exact ⟨aaM (Gx xs lo hi) hz,_,(r.drop (HT.sIx xs.length 0 lo)).take (HT.sIx xs.length xs.length hi - HT.sIx xs.length 0 lo),IsTup.new _ _⟩
end
noncomputable def ixN (n:Nat) (i:Int):Option Nat:=if 0<=i then (if i < n then some i.toNat else none) else if -(n:Int)<=i then some (i + n).toNat else none
noncomputable def atI {α:Type} (xs:List α) (i:Int):Option α:=(ixN xs.length i).bind fun j=>xs[j]?
theorem KT {n:Nat} {i:Int} {j:Nat} (h:ixN n i=some j):seqIndex? i n=some j/\j < n/\-(n:Int)<=i/\i < n:=by
 unfold ixN at h
 by_cases h0:0<=i
 ·rw [if_pos h0] at h
  by_cases h1:i < n
  ·rw [if_pos h1] at h
   have e:i.toNat=j:=Option.some.inj h
   exact ⟨by rw [seqIndex_of h0 h1,e],by omega,by omega,h1⟩
  ·rw [if_neg h1] at h; cases h
 ·rw [if_neg h0] at h
  by_cases h1:-(n:Int)<=i
  ·rw [if_pos h1] at h
   have e:(i + n).toNat=j:=Option.some.inj h
   exact ⟨by rw [seqIndex_neg (by omega) h1,e],by omega,h1,by omega⟩
  ·rw [if_neg h1] at h; cases h
theorem KU {α:Type} {xs:List α} {i:Int} {v:α} (h:atI xs i=some v):∃ j,seqIndex? i xs.length=some j/\xs[j]?=some v/\j < xs.length/\-(xs.length:Int)<=i/\i < xs.length:=by
 unfold atI at h
 cases e:ixN xs.length i with
 | none=>rw [e] at h; cases h
 | some j =>
  rw [e] at h
  obtain ⟨h1,h2,h3,h4⟩:=KT e
  exact ⟨j,h1,h,h2,h3,h4⟩
noncomputable def KW (b:Expr):Prop:=∀ o i,subscripted b false o i=operate [o,i] (getItem o i)
noncomputable def IxR (X:Cx) (r:R2):Prop :=
 ∀ (value slice:Expr) (pins:List (Addr × Obj)) (s:Shared) (σ:St) (H:Hp) (x y:V) (v u:Value) (Q:VK),Inv X pins σ H s->RelV x v->RelV y u->r x y H Q ->
  subscripted slice false v u=operate [v,u] (getItem v u)->wpAny (model X.prog X.w) X.A (subscriptTail value slice v u) (EP X pins σ Q) X.xe s
noncomputable def MtR (X:Cx) (id:String) (r:V->List V->Hp->VK->Prop):Prop :=
 ∀ (pins:List (Addr × Obj)) (s:Shared) (σ:St) (H:Hp) (x:V) (xs:List V) (v:Value) (us:List Value) (Q:VK),Inv X pins σ H s->RelV x v->Vals xs us->r x xs H Q ->
  wpAny (model X.prog X.w) X.A (call (.builtin id) (v :: us)) (EP X pins σ Q) X.xe s
section
variable {X:Cx} {a b:Expr} {ta tb:TE} {pos:Pos}
theorem IxR.or {r r':R2} (h:IxR X r) (h':IxR X r'):IxR X (fun x y H Q=>r x y H Q\/r' x y H Q):=by
 intro value slice pins s σ H x y v u Q I rx ry q hs
 rcases q with q | q
 ·exact h value slice pins s σ H x y v u Q I rx ry q hs
 ·exact h' value slice pins s σ H x y v u Q I rx ry q hs
theorem LM {r:R2} (hr:IxR X r) (ha:PE X a ta) (hb:PE X b tb) (hs:KW b):PE X (.Subscript a b pos) (tOp r ta tb):=by
 intro pins s σ H Q I h
 exact Subscript_ (Oh ha hb I h fun v u s2 x y H2 I2 rx ry q=>hr a b pins s2 σ H2 x y v u Q I2 rx ry q (hs _ _))
noncomputable def Sd (K:PySem.W.Frag):R2:=fun x y H Q=>∃ p xs i v,x=.ref p/\y=.int i/\SqL K H p xs/\atI xs i=some v/\Q v H
noncomputable def Se (K:PySem.W.Frag):R2:=fun x y H Q=>∃ p xs i v,x=.ref p/\y=.int i/\SqT K H p xs/\atI xs i=some v/\Q v H
theorem HF:IxR X (Sd X.K):=by
 intro value slice pins s σ H x y v u Q I rx ry h hs
 obtain ⟨p,xs,i,z,rfl,rfl,hq,he,q⟩:=h
 cases rx
 obtain ⟨t,rfl⟩:=ry
 obtain ⟨its,r,pl,hz⟩:=I.list hq
 obtain ⟨j,h1,h2,h3,h4,h5⟩:=KU he
 obtain ⟨w,ew,rw'⟩:=r.get h2
 have hl:=r.length
 have hn:=G4
 have fin:EP X pins σ Q w s:=⟨z,H,I,rw',q⟩
 by_cases h0:0<=i
 ·have hj:i.toNat=j:=by
   rw [seqIndex_of h0 h5] at h1
   exact Option.some.inj h1
  exact item_listR pl.isList h0 (by omega) (by rw [hj]; simpa using ew) fin hs
 ·have hj:(i + (its.toArray.size:Int)).toNat=j:=by
   rw [seqIndex_neg (by omega) h4] at h1
   rw [aap,<- hl]
   exact Option.some.inj h1
  exact subscriptTail_builtinR (x:=w) pl.isList.typeIs slot_list_getitem.lookup
   (wpAny_getItem_list_neg (Q:=fun r s'=>r=w/\EP X pins σ Q r s') pl.isList (by omega) (by rw [aap] <;> omega) (by omega) (by rw [hj]; simpa using ew) ⟨rfl,fin⟩) hs
theorem M2:IxR X (Se X.K):=by
 intro value slice pins s σ H x y v u Q I rx ry h hs
 obtain ⟨p,xs,i,z,rfl,rfl,hq,he,q⟩:=h
 cases rx
 obtain ⟨t,rfl⟩:=ry
 obtain ⟨its,r,pl,hz⟩:=I.tuple hq
 obtain ⟨j,h1,h2,h3,h4,h5⟩:=KU he
 obtain ⟨w,ew,rw'⟩:=r.get h2
 have hl:=r.length
 have hn:=G4
 have fin:EP X pins σ Q w s:=⟨z,H,I,rw',q⟩
 exact subscriptTail_builtinR (x:=w) pl.typeIs slot_tuple_getitem.lookup
  (getItem_tuple (j:=j) (Q:=fun r s'=>r=w/\EP X pins σ Q r s') pl (by omega) (by omega) (by rw [aap,<- hl]; exact h1) (by simpa using ew) ⟨rfl,fin⟩) hs
theorem Jh (lo hi:Option Int) (n:Nat):(sliceBounds lo hi none n).1=((HT.sIx n 0 lo:Nat):Int)/\(sliceBounds lo hi none n).2.1=((HT.sIx n n hi:Nat):Int)/\(sliceBounds lo hi none n).2.2=1:=by
 refine ⟨?_,?_,rfl⟩
 ·cases lo with
  | none=>simp [sliceBounds,HT.sIx]
  | some i =>
   simp only [sliceBounds,HT.sIx,acF,show (1:Int) > 0 by decide,if_true]
   by_cases h:i < 0
   ·simp only [h,if_true] <;> omega
   ·simp only [h,if_false] <;> omega
 ·cases hi with
  | none=>simp [sliceBounds,HT.sIx]
  | some i =>
   simp only [sliceBounds,HT.sIx,acF,show (1:Int) > 0 by decide,if_true]
   by_cases h:i < 0
   ·simp only [h,if_true] <;> omega
   ·simp only [h,if_false] <;> omega
theorem IG (its:List Value) (lo hi:Option Int):slicePick its.toArray lo hi none=((its.drop (HT.sIx its.length 0 lo)).take (HT.sIx its.length its.length hi - HT.sIx its.length 0 lo)).toArray:=by
 obtain ⟨h1,h2,h3⟩:=Jh lo hi its.toArray.size
 unfold slicePick
 rw [h1,h2,h3]
 simp only [sliceRange_one,pick_run,aap] <;> rfl
noncomputable def UE (K:PySem.W.Frag):V->Option Int->Option Int->Hp->VK->Prop:=fun x lo hi H Q=>∃ a xs,x=.ref a/\SqL K H a xs/\∀ p,H p=none->Q (.ref p) (upd H p (.lst (FC xs lo hi)))
theorem P8:SlR X (UE X.K):=by
 intro pins s σ H x v vl vu lo hi sl Q I rx hs pl pu h
 obtain ⟨a,xs,rfl,hx,q⟩:=h
 cases rx
 obtain ⟨its,r,ht,hz⟩:=I.list hx
 have hlen:=r.length
 refine ⟨"list",_,slot_list_getitem.lookup,ht.isList.typeIs,?_⟩
 refine wpAny_getItem_list_slice ht.isList hs pl pu .none (by simp) ?_ (by rw [aap] <;> omega)
 rw [IG,<- hlen]
 refine ⟨.ref s.heap.objs.size,_,I.laid (t':=s.toks) (o:=.lst (FC xs lo hi)) (fun b ob q=>Heap.get?_push_of_some _ q) (aai _) ?_,rfl,q _ (I.hok.fresh (aai _))⟩
 exact ⟨aaM (Gx xs lo hi) hz,_,0,(r.drop (HT.sIx xs.length 0 lo)).take (HT.sIx xs.length xs.length hi - HT.sIx xs.length 0 lo),Heap.get?_push_size _ rfl⟩
theorem Ji:C9 X (.builtin "len") (fun xs H Q=>∃ p ys,xs=[.ref p]/\(SqL X.K H p ys\/SqT X.K H p ys)/\Q (.int ys.length) H):=by
 intro pins s σ H xs us Q I r h
 obtain ⟨p,ys,rfl,hq,q⟩:=h
 obtain ⟨u,rfl,rx⟩:=Ga r
 cases rx
 have hn:=G4
 rcases hq with hq | hq
 ·obtain ⟨its,r',pl,hz⟩:=I.list hq
  have hlen:=r'.length
  exact Calls.call_len_list pl.isList (by simp only [aap] <;> omega) ⟨.int ys.length,H,I.tok _,⟨s.toks + 1,by rw [aap,hlen]⟩,q⟩
 ·obtain ⟨its,r',pl,hz⟩:=I.tuple hq
  have hlen:=r'.length
  exact len_tuple pl (by simp only [aap] <;> omega) ⟨.int ys.length,H,I.tok _,⟨s.toks + 1,by rw [aap,hlen]⟩,q⟩
theorem FD:C9 X (.type "list") (fun xs H Q=>∃ p ys,xs=[.ref p]/\(SqL X.K H p ys\/SqT X.K H p ys)/\∀ l,H l=none->Q (.ref l) (upd H l (.lst ys))):=by
 intro pins s σ H xs us Q I r h
 obtain ⟨p,ys,rfl,hq,q⟩:=h
 obtain ⟨u,rfl,rx⟩:=Ga r
 cases rx
 have fin:∀ (its:List Value),Vals ys its->ys.length<=sizeLine->∀ (h':Heap) (c':Nat),(∀ b o',s.heap.get? b=some o'->h'.get? b=some o') ->
   h'.get? s.heap.objs.size=some { cls:=.type "list",dict:=none,data:=.seq its.toArray c',slots:=#[] }->EP X pins σ Q (.ref s.heap.objs.size) { s with heap:=h' }:=fun its r' hz h' c' kp e =>
  ⟨.ref s.heap.objs.size,_,I.laid (t':=s.toks) kp (aai _) (show ObjOk X.prog X.w _ h' _ (.lst ys) from ⟨hz,its,c',r',e⟩),rfl,q _ (I.hok.fresh (aai _))⟩
 rcases hq with hq | hq
 ·obtain ⟨its,r',pl,hz⟩:=I.list hq
  have hlen:=r'.length
  obtain ⟨o,ho,hc,n,hd⟩:=pl.isList
  exact call_list_seq p (.inl rfl) ho hc hd (fun h' c' kp e=>fin its r' hz h' c' kp e) (by simp only [aap] <;> omega)
 ·obtain ⟨its,r',pl,hz⟩:=I.tuple hq
  have hlen:=r'.length
  obtain ⟨o,ho,hc,n,hd⟩:=pl
  exact call_list_seq p (.inr rfl) ho hc hd (fun h' c' kp e=>fin its r' hz h' c' kp e) (by simp only [aap] <;> omega)
noncomputable def tyV (K:PySem.W.Frag) (T:String) (x:V) (H:Hp):Prop:=match x with
 | .str _=>T = "str"
 | .int _=>T = "int"
 | .ref p=>(T = "list" /\ ∃ xs,SqL K H p xs)\/(T = "tuple" /\ ∃ o,K.lookup p=some o/\o.cls=.type "tuple" /\ o.dict=none) \/
   (T = "dict" /\ ((∃ kvs,H p=some (.dK kvs))\/∃ kvs,H p=some (.dT kvs)))\/(T = "set" /\ ∃ S n,H p=some (.set S n))
 | _=>False
theorem M3 {pins:List (Addr × Obj)} {σ:St} {H:Hp} {s:Shared} {T:String} {x:V} {v:Value} (I:Inv X pins σ H s) (r:RelV x v) (ty:tyV X.K T x H) :
  s.TypeIs v T/\∀ a,v=.ref a->∃ ob,s.heap.get? a=some ob/\ob.dict=none:=by
 cases x with
 | str z =>
  obtain ⟨t,rfl⟩:=r
  cases (show T = "str" from ty)
  exact ⟨typeIs_str s z t,fun _ e=>nomatch e⟩
 | int i =>
  obtain ⟨t,rfl⟩:=r
  cases (show T = "int" from ty)
  exact ⟨typeIs_int s i t,fun _ e=>nomatch e⟩
 | ref p =>
  cases r
  rcases ty with ⟨rfl,xs,hq⟩ | ⟨rfl,o,hk,hc,hd⟩ | ⟨rfl,hk⟩ | ⟨rfl,S,n,hk⟩
  ·obtain ⟨its,_,pl,_⟩:=I.list hq
   refine ⟨pl.isList.typeIs,fun a e=>?_⟩
   cases e
   obtain ⟨o,n,e,c,hd,_⟩:=pl
   exact ⟨o,e,hd⟩
  ·refine ⟨⟨o,I.kIn p o hk,hc⟩,fun a e=>?_⟩
   cases e
   exact ⟨o,I.kIn _ o hk,hd⟩
  ·have z:∃ o,s.heap.get? p=some o/\o.ExactDict:=by
    rcases hk with ⟨kvs,hk⟩ | ⟨kvs,hk⟩
    ·obtain ⟨_,_,_,_,o,_,_,e,ex,_⟩:=I.hok p _ hk
     exact ⟨o,e,ex⟩
    ·obtain ⟨_,_,_,_,o,_,_,e,ex,_⟩:=I.hok p _ hk
     exact ⟨o,e,ex⟩
   obtain ⟨o,e,ex⟩:=z
   refine ⟨⟨o,e,ex.1⟩,fun a e2=>?_⟩
   cases e2
   exact ⟨o,e,ex.2.1⟩
  ·obtain ⟨o,_,_,_,e,ex,_⟩:=I.hok p _ hk
   refine ⟨⟨o,e,ex.1⟩,fun a e2=>?_⟩
   cases e2
   exact ⟨o,e,ex.2.1⟩
 | _=>exact False.elim ty
noncomputable def UF (K:PySem.W.Frag) (T:String) (r:V->List V->Hp->VK->Prop) (to:TE):TE:=fun σ H Q=>to σ H fun x H1=>tyV K T x H1/\r x [] H1 Q
noncomputable def tBM (K:PySem.W.Frag) (T:String) (r:V->List V->Hp->VK->Prop) (to:TE) (t:TA):TE:=fun σ H Q=>to σ H fun x H1=>tyV K T x H1/\t σ H1 fun xs H2=>r x xs H2 Q
variable {o e:Expr} {es:List Expr} {to:TE} {t:TA} {name:Str} {apos cpos:Pos} {T id:String} {r:V->List V->Hp->VK->Prop}
theorem Jj (pa:PlainAttrs T) (slot:Slot T name id) (hty:typeOf (.builtin id)=pure (.type "method_descriptor")) (hm:MtR X id r) (ho:PE X o to)
  (hbase:attributeBase o name X.env (eval o X.env)=eval o X.env:=by rfl) (hline:(apos.endLine==cpos.line)=true:=by rfl):PE X (.Call (.Attribute o name apos) [] [] cpos) (UF X.K T r to):=by
 intro pins s σ H Q I h
 refine wpAny_Call_method0_late hbase hline (thn (ho pins s σ H _ I h) fun v s1 ⟨x,H1,I1,r1,ty,q1⟩=>?_)
 obtain ⟨h1,h2⟩:=M3 I1 r1 ty
 exact ⟨T,id,pa,slot,hty,h1,h2,Calls.callWith_builtin rfl (PySem.evalArgs_none (hm pins s1 σ H1 x [] v [] Q I1 r1 .nil q1))⟩
theorem Fj (pa:PlainAttrs T) (slot:Slot T name id) (hty:typeOf (.builtin id)=pure (.type "method_descriptor")) (hm:MtR X id r) (ho:PE X o to) (ha:PA X (e :: es) t)
  (hbase:attributeBase o name X.env (eval o X.env)=eval o X.env:=by rfl)
  (hfew:((backTo cpos (starEach (e :: es) X.env)).all (fun x=>!x.1) && (backToKw cpos (keywordEach [] X.env)).all (fun x=>x.1.isSome)
   && decide ((e :: es).length + ([]:List Keyword).length + (if ([]:List Keyword).isEmpty then 0 else 1) < 30))=true:=by rfl)
  (hline:(apos.endLine==cpos.line)=true:=by rfl) (hs:starEach (e :: es) X.env=(false,eval e X.env) :: starEach es X.env:=by rfl) (hplain:(backTo cpos (starEach es X.env)).any (·.1)=false:=by rfl) :
  PE X (.Call (.Attribute o name apos) (e :: es) [] cpos) (tBM X.K T r to t):=by
 intro pins s σ H Q I h
 refine wpAny_Call_method_late hbase hfew hline rfl (thn (ho pins s σ H _ I h) fun v s1 ⟨x,H1,I1,r1,ty,q1⟩=>?_)
 obtain ⟨h1,h2⟩:=M3 I1 r1 ty
 refine ⟨T,id,pa,slot,hty,h1,h2,?_⟩
 have hA:=ha cpos pins s1 σ H1 _ I1 q1
 rw [hs] at hA ⊢
 refine Calls.callWith_builtin (by show (false || (backTo cpos (starEach es X.env)).any (·.1))=false; rw [hplain] <;> rfl) (Calls.evalArgs_plain ?_)
 exact thn hA fun us s2 ⟨vs,H2,I2,r2,q2⟩=>hm pins s2 σ H2 x vs v us Q I2 r1 r2 q2
/- xs.append(e),list.index on a module's tuple .. are MtR facts of 06m -/
end
noncomputable def MtM (X:Cx) (id:String) (r:V->List V->Hp->VK->Prop):Prop :=
 ∀ (pins:List (Addr × Obj)) (s:Shared) (σ:St) (H:Hp) (x:V) (xs:List V) (v:Value) (us:List Value) (Q:VK),Inv X pins σ H s->RelV x v->Vals xs us->r x xs H Q ->
  wpAny (model X.prog X.w) X.A (call (.builtin id) (v :: us)) (EP X pins σ Q) X.xe s
theorem Vals.one:∀ {x:V} {us:List Value},Vals [x] us->∃ u,us=[u]/\RelV x u
 | _,_,.cons r .nil=>⟨_,rfl,r⟩
theorem Vals.zero:∀ {us:List Value},Vals [] us->us=[]
 | _,.nil=>rfl
theorem Vals.dropLast {xs:List V} {us:List Value} (h:Vals xs us):Vals xs.dropLast us.dropLast:=by
 induction h with
 | nil=>exact .nil
 | cons r t ih =>
  cases t with
  | nil=>exact .nil
  | cons q t'=>exact .cons r ih
theorem Vals.eraseIdx:∀ {xs:List V} {us:List Value} (i:Nat),Vals xs us->Vals (xs.eraseIdx i) (us.eraseIdx i)
 | _,_,_,.nil=>.nil
 | _,_,0,.cons _ t=>t
 | _,_,i + 1,.cons r t=>.cons r (Vals.eraseIdx i t)
theorem Vals.reverse {xs:List V} {us:List Value} (h:Vals xs us):Vals xs.reverse us.reverse:=by
 induction h with
 | nil=>exact .nil
 | cons r t ih=>rw [abH,abH]; exact Vals.append ih (.cons r .nil)
theorem Vals.rep {xs:List V} {us:List Value} (h:Vals xs us):∀ k:Nat,Vals (aag k xs).flatten (aag k us).flatten
 | 0=>.nil
 | k + 1=>by
  rw [aa9,aa9,abu,abu]
  exact Vals.append h (Vals.rep h k)
theorem LO {α:Type} (l:List α):l.eraseIdx (l.length - 1)=l.dropLast:=by
 induction l with
 | nil=>rfl
 | cons a r ih =>
  cases r with
  | nil=>rfl
  | cons b r =>
   have e:(a :: b :: r).length - 1=((b :: r).length - 1) + 1:=by
    have h1:(a :: b :: r).length=r.length + 2:=rfl
    have h2:(b :: r).length=r.length + 1:=rfl
    omega
   rw [e,List.eraseIdx_cons_succ,ih]
   all_goals rfl
theorem Iq {α:Type}:∀ (l:List α) (i:Nat),(l.eraseIdx i).length<=l.length
 | [],_=>aai _
 | _ :: _,0=>abJ _
 | _ :: r,i + 1=>Nat.succ_le_succ (Iq r i)
theorem Ir (its:List Value):∀ (k:Nat) (acc:List Value),
  acG (fun x1 x2=>x1 ++ x2) acc.toArray (aag k its.toArray)=(acc ++ (aag k its).flatten).toArray
 | 0,acc=>by simp
 | k + 1,acc=>by
  have e:acc.toArray ++ its.toArray=(acc ++ its).toArray:=by simp
  have e2:(acc ++ its) ++ (aag k its).flatten=acc ++ (aag (k + 1) its).flatten:=by
   rw [aa9,abu,abI]
  rw [<- e2,<- Ir its k (acc ++ its),<- e,aa9,abR]
section
variable {X:Cx} {pins:List (Addr × Obj)} {σ:St} {H:Hp} {s:Shared} {l b:Addr} {xs ys zs:List V}
theorem Inv.lset {its its':List Value} {n:Nat} {f:Array Value->Array Value} {t':Nat} (I:Inv X pins σ H s) (hH:H l=some (.lst xs))
  (e:s.heap.get? l=some { cls:=.type "list",data:=.seq its.toArray n }) (hf:f its.toArray=its'.toArray) (hv:Vals ys its') (hz:ys.length<=sizeLine) :
  Inv X pins σ (upd H l (.lst ys)) { s with heap:=s.heap.update l (Obj.mapSeq f),toks:=t' }:=by
 have q:=PySem.IsL.update e f
 rw [hf] at q
 refine I.write (x:=l) (e:=l) (by rw [hH]; exact trivial) (.inl rfl) (fun b' u hb hu=>(Heap.get?_update_other s.heap (Obj.mapSeq f) (Ne.symm hb)).trans hu) ⟨_,q⟩ ?_
 exact ⟨hz,its',_,hv,q⟩
theorem Inv.lnew {its:List Value} {t':Nat} (I:Inv X pins σ H s) (hv:Vals ys its) (hz:ys.length<=sizeLine) :
  Inv X pins σ (upd H s.heap.objs.size (.lst ys)) { s with heap:=s.heap.push { cls:=.type "list",data:=.seq its.toArray },toks:=t' } :=
 I.laid (fun _ _ q=>Heap.get?_push_of_some _ q) (aai _) ⟨hz,its,0,hv,Heap.get?_push_size _ rfl⟩
theorem Inv.fresh (I:Inv X pins σ H s):H s.heap.objs.size=none:=I.hok.fresh (aai _)
theorem Inv.lstM (I:Inv X pins σ H s) (hH:H l=some (.lst xs)):xs.length<=sizeLine/\∃ (its:List Value) (n:Nat),Vals xs its/\xs.length=its.length/\s.heap.get? l=some { cls:=.type "list",data:=.seq its.toArray n }:=by
 obtain ⟨z,its,n,r,e⟩:=I.hok l _ hH
 exact ⟨z,its,n,r,r.length,e⟩
theorem Jk {n:Nat} (h:n<=sizeLine):Builtin.List.listTooLong n=false:=by
 unfold Builtin.List.listTooLong
 exact decide_eq_false (by omega)
end
section
variable {X:Cx}
noncomputable def Gb:V->List V->Hp->VK->Prop:=fun x vs H Q=>∃ l xs y,x=.ref l/\vs=[y]/\H l=some (.lst xs)/\xs.length < sizeLine/\Q .non (upd H l (.lst (xs ++ [y])))
theorem EH:MtM X "list.append" Gb:=by
 intro pins s σ H x vs v us Q I rx rv h
 obtain ⟨l,xs,y,rfl,rfl,hH,hz,q⟩:=h
 cases rx
 obtain ⟨u,rfl,ru⟩:=rv.one
 obtain ⟨z,its,n,r,hl,e⟩:=I.lstM hH
 refine call_meets F.slot_list_append ⟨_,e,rfl⟩ F.entry_list_append (F.args_list_append_2 _ _) (PySem.list_append l its.toArray n u (by rw [aap]; omega)) ⟨e,?_⟩
 refine ⟨.non,_,I.lset (its':=its ++ [u]) hH e (by simp) (r.append (.cons ru .nil)) ?_,rfl,q⟩
 rw [aav,abv]
 omega
noncomputable def Sg:V->List V->Hp->VK->Prop:=fun x vs H Q=>∃ l xs y,x=.ref l/\vs=[]/\H l=some (.lst xs)/\xs[xs.length - 1]?=some y/\Q y (upd H l (.lst xs.dropLast))
theorem Si:MtM X "list.pop" Sg:=by
 intro pins s σ H x vs v us Q I rx rv h
 obtain ⟨l,xs,y,rfl,rfl,hH,hy,q⟩:=h
 cases rx
 have hus:=rv.zero
 subst hus
 obtain ⟨z,its,n,r,hl,e⟩:=I.lstM hH
 obtain ⟨u,hu,ru⟩:=r.get hy
 have hy':its.toArray[its.toArray.size - 1]?=some u:=by
  show its.toArray[its.length - 1]?=some u
  rw [<- Array.getElem?_toList,<- hl]
  exact hu
 refine call_meets F.slot_list_pop ⟨_,e,rfl⟩ F.entry_list_pop (F.args_list_pop_1 _) (MeetsSeq.list_pop_last l its.toArray n u hy' (by rw [aap]; omega)) ⟨e,?_⟩
 refine ⟨y,_,I.lset (its':=its.dropLast) hH e ?_ r.dropLast ?_,ru,q⟩
 ·show its.toArray.eraseIdxIfInBounds (its.toArray.size - 1)=its.dropLast.toArray
  rw [aap,abQ,LO]
 ·rw [List.length_dropLast]
  omega
noncomputable def M4:V->List V->Hp->VK->Prop:=fun x vs H Q=>∃ l xs i k y,x=.ref l/\vs=[.int i]/\H l=some (.lst xs)/\-(2 ^ 63)<=i/\i < 2 ^ 63/\seqIndex? i xs.length=some k/\xs[k]?=some y/\Q y (upd H l (.lst (xs.eraseIdx k)))
theorem Op:MtM X "list.pop" M4:=by
 intro pins s σ H x vs v us Q I rx rv h
 obtain ⟨l,xs,i,k,y,rfl,rfl,hH,h1,h2,hk,hy,q⟩:=h
 cases rx
 obtain ⟨u,rfl,ru⟩:=rv.one
 obtain ⟨t,rfl⟩:=ru
 obtain ⟨z,its,n,r,hl,e⟩:=I.lstM hH
 obtain ⟨w,hw,rw'⟩:=r.get hy
 refine call_meets F.slot_list_pop ⟨_,e,rfl⟩ F.entry_list_pop (F.args_list_pop_2 _ _)
  (MeetsSeq.list_pop_at l its.toArray n i t k w (fitsIndex_both h1 h2) (by rw [aap,<- hl]; exact hk) (by rw [<- Array.getElem?_toList]; exact hw) (by rw [aap]; omega)) ⟨e,?_⟩
 refine ⟨y,_,I.lset (its':=its.eraseIdx k) hH e ?_ (r.eraseIdx k) ?_,rw',q⟩
 ·show its.toArray.eraseIdxIfInBounds k=(its.eraseIdx k).toArray
  rw [abQ]
 ·have:=Iq xs k
  omega
noncomputable def Jl:V->List V->Hp->VK->Prop:=fun x vs H Q=>∃ l xs,x=.ref l/\vs=[]/\H l=some (.lst xs)/\Q .non (upd H l (.lst xs.reverse))
theorem LP:MtM X "list.reverse" Jl:=by
 intro pins s σ H x vs v us Q I rx rv h
 obtain ⟨l,xs,rfl,rfl,hH,q⟩:=h
 cases rx
 have hus:=rv.zero
 subst hus
 obtain ⟨z,its,n,r,hl,e⟩:=I.lstM hH
 refine call_meets F.slot_list_reverse ⟨_,e,rfl⟩ F.entry_list_reverse (F.args_list_reverse_1 _) (AutoSeq1.list_reverse_list_0 l its.toArray n (by rw [aap]; omega)) ⟨e,?_⟩
 refine ⟨.non,_,I.lset (its':=its.reverse) hH e (by simp) r.reverse ?_,rfl,q⟩
 rw [List.length_reverse]
 omega
noncomputable def M5:V->List V->Hp->VK->Prop:=fun x vs H Q=>∃ l xs,x=.ref l/\vs=[]/\H l=some (.lst xs)/\Q .non (upd H l (.lst []))
theorem Oq:MtM X "list.clear" M5:=by
 intro pins s σ H x vs v us Q I rx rv h
 obtain ⟨l,xs,rfl,rfl,hH,q⟩:=h
 cases rx
 have hus:=rv.zero
 subst hus
 obtain ⟨z,its,n,r,hl,e⟩:=I.lstM hH
 refine call_meets F.slot_list_clear ⟨_,e,rfl⟩ F.entry_list_clear (F.args_list_clear_1 _) (AutoSeq1.list_clear_list_0 l its.toArray n (by rw [aap]; omega)) ⟨e,?_⟩
 exact ⟨.non,_,I.lset (its':=[]) (ys:=[]) hH e rfl .nil (aaw _),rfl,q⟩
theorem P9 {α:Type} (xs:List α) (k:Nat):(aag k xs).flatten.length=k * xs.length:=by
 induction k with
 | zero=>simp
 | succ k ih=>rw [aa9,abu,aav,ih,Nat.succ_mul,Nat.add_comm]
end
end L2
namespace Att
open PySem PySem.W PySem.Calls PyProof.Rows
theorem G6 {P:Params} {h:Heap}:∀ (ns:List Int) (vs:List Value),WellAll P h vs (ns.map WData.int)->IntsAre vs ns:=by
 intro ns
 induction ns with
 | nil =>
  intro vs w
  rw [abE] at w
  cases w
  exact .nil
 | cons n ns ih =>
  intro vs w
  rw [aaE] at w
  cases w with
  | cons a b =>
   cases a
   exact .cons _ _ (ih _ b)
theorem M6 {l:OpenLaw} {n:Nat} (hn:l.most=some n) {P:Params} {h:Heap} {args:List WData} {vals:List Value}
  (hpre:l.row.toRowW.claim.pre args=true) (hwl:WellAll P h vals args) :
  ∃ a vs ns,vals=[Value.ref a]/\args=[WData.list (ns.map WData.int)]/\h.get? a=some { cls:=.type "list",data:=.seq vs.toArray }/\IntsAre vs ns/\ns.length<=n:=by
 have hsh:WShape.hasAll [] args [.list .int]=true:=(pre_splitW hpre).1
 have hc:l.pre.holds [] { args:=args }=true:=(pre_splitW hpre).2
 obtain ⟨d,r,rfl,h1,h2⟩:=hasAllW_cons hsh
 obtain rfl:=hasAllW_nil h2
 obtain ⟨xs,rfl,h3⟩:=hasW_list h1
 obtain ⟨ns,rfl⟩:=items_int h3
 have hlen:ns.length<=n:=by
  unfold OpenLaw.pre at hc
  have h4:(WTm.not (.lt (.lit (.int (n:Int))) (.len (.arg 0)))).holds [] { args:=[.list (ns.map .int)] }=true:=by
   have h4:=(holds_andW hc).1
   rw [hn] at h4
   exact h4
  have h5:=condW_of h4 (w_not (w_lt w_lit (w_len_list (w_arg rfl))))
  rw [aaa] at h5
  refine aaU fun q=>?_
  have q':(n:Int) < ((ns.length:Nat):Int):=by omega
  first
   | (rw [decide_eq_true q'] at h5; exact absurd h5 (by decide))
   | (simp at h5; omega)
 cases hwl with
 | cons w1 w2 =>
  cases w2
  cases w1 with
  | list ho hall=>exact ⟨_,_,ns,rfl,rfl,ho,G6 ns _ hall,hlen⟩
theorem M7 (l:OpenLaw) (args:List WData):l.row.toRowW.claim.post args (.bool true) args=true :=
 postW_of (r:=l.row.toRowW) (X:=(true==true))
  (show WShape.has [] (.bool true) .bool=true by first | rfl | decide | simp [WShape.has,WShape.arms,WShape.armsAll])
  (show (WTm.eq .res (.lit (.bool true))).value [] { args:=args,res:=some (.bool true),after:=args }=some (.bool (true==true)) from w_eq_bool (w_res rfl) w_lit) rfl
theorem attach_call {l:OpenLaw} {n:Nat} {q:Program} {loose:List Str} {XP:(Str->Option Value)->Heap->Prop} {YP:World->Heap->Prop} {d:DefRec}
  (hn:l.most=some n) (hdf:d.params.defaults=[])
  (call:∀ (w:World) (s₀ s₁:Shared) (mg mb:Str->Option Value) (fa:Addr) (o:Obj) (pm cd doc:Value) (a:Addr) (vs:List Value) (ns:List Int),
   Ground q loose [] XP w s₀ mg mb s₁.heap->YP w s₁.heap ->
   s₁.heap.get? fa=some o->o.data=.func (docDef d.name d.params d.body d.scope pm cd doc)->s₁.heap.CodeRec cd d.name->mg d.name=some (.ref fa) ->
   s₁.heap.get? a=some { cls:=.type "list",data:=.seq vs.toArray }->IntsAre vs ns->ns.length<=n->s₁.gens=#[] ->
   codeAny (model l.prog w) callerA (.call (.ref fa) ⟨[.ref a],[]⟩) (fun r s'=>r=.ok (.ret (.bool true))/\OldK s₁.heap s'.heap/\s'.os=s₁.os/\AllBare s'.gens) s₁) :
  WalkO q loose XP YP l.row.toRowW d [] (fun f vs=>PySem.call f vs):=by
 intro w s₀ s₁ mg mb G Y fa o pm cd doc dV kV ho hd hcd hD hmg hg args vals as hpre hlay hrd hwl hlo
 obtain rfl:dV=.none:=Dflts.none hD hdf
 obtain rfl:kV=.none:=Dflts.noKw hD
 obtain ⟨a,vs,ns,rfl,rfl,hobj,hints,hlen⟩:=M6 hn hpre hwl
 refine enter_call (codeAny_mono (call w s₀ s₁ mg mb fa o pm cd doc a vs ns G Y ho (fd_plain hd) hcd hmg hobj hints hlen hg) fun r s' hq=>?_)
 obtain ⟨rfl,h2,h3,h4⟩:=hq
 exact ⟨.inl ⟨.bool true,.bool true,[],rfl,fun _=>rfl,.bool true,M7 l _,fun _=>⟨List.Pairwise.nil,fun _ hm=>(nomatch hm)⟩⟩,h2,h3,h4⟩
end Att
namespace L2
open PySem PySem.Spec PyProof.Rows
theorem Iu:∀ {vs:List Value} {ns:List Int},IntsAre vs ns->Vals (ns.map V.int) vs
 | _,_,.nil=>.nil
 | _,_,.cons n t h=>.cons ⟨t,rfl⟩ (Iu h)
noncomputable def Os (H:Hp):Prop:=∀ b,H b=none\/∃ o xs,H b=some (.frz o (.lst xs))
theorem Ot {P:Program} {w:World} {K:PySem.W.Frag} {mg mb:Str->Option Value} {CX:CXT} {k:Nat} {fa a:Addr} {fd:FuncData} {x:Str} {sp:Sp} {s₁:Shared} {vs:List Value} {ns:List Int}
  (KX:K.In s₁.heap) (hns:s₁.heap.Ns mainGlobals mg) (hb:s₁.heap.Ns builtinsNs mb) (hbb:∀ x:Str,x ≠ "__name__" -> mb x=bootBuiltins x) (hlim:s₁.heap.NoLimit) (hg:s₁.gens=#[])
  (ha:s₁.heap.get? a=some { cls:=.type "list",data:=.seq vs.toArray }) (hi:IntsAre vs ns) (hl:ns.length<=sizeLine) (hr:Room k callerA)
  (F:∀ base:Heap,K.In base->base.Ns mainGlobals mg->FnOk P w K mg base CX k fa fd [x] sp) (hbind:∀ (s:Shared) (u:Value),BindsTo s fd ⟨[u],[]⟩ [(x,u)])
  (hsp:∀ H:Hp,Os H->SqL K H a (ns.map V.int)->sp [.ref a] H (fun v _=>v=.bl true) fun _ _ _=>False)
  (hCX:∀ H e s',CX [] H s₁ (fun _ _ _=>False) e s'->False) :
  codeAny (model P w) callerA (.call (.ref fa) ⟨[.ref a],[]⟩) (fun r s'=>r=.ok (.ret (.bool true))/\OldK s₁.heap s'.heap/\s'.os=s₁.os/\AllBare s'.gens) s₁:=by
 have rv:=Iu hi
 have lenV:=hi.length
 have core:∀ H:Hp,Os H->SqL K H a (ns.map V.int)->HOk P w H s₁.heap->(∀ b,H b ≠ none->b=a)->(H a ≠ none->K.lookup a=none) ->
   codeAny (model P w) callerA (.call (.ref fa) ⟨[.ref a],[]⟩) (fun r s'=>r=.ok (.ret (.bool true))/\OldK s₁.heap s'.heap/\s'.os=s₁.os/\AllBare s'.gens) s₁:=by
  intro H hO hS hok hA hK
  have base_of:∀ {b:Addr} {o:Obj},s₁.heap.get? b=some o->H b=none->(Fi s₁.heap H).get? b=some o:=fun e n=>Oa e n
  have noA:∀ {b:Addr} {o:Obj} {es:Array DictEntry} {ep:Nat},s₁.heap.get? b=some o->o.data=.dict es ep->H b=none:=fun {b o es ep} e d=>by
   cases q:H b with
   | none=>rfl
   | some u =>
    have e':b=a:=hA b (by rw [q]; simp)
    subst e'
    rw [ha] at e; cases e
    have d':Data.seq vs.toArray _=Data.dict es ep:=d
    cases d'
  have nsK:∀ {b:Addr} {m:Str->Option Value},s₁.heap.Ns b m->(Fi s₁.heap H).Ns b m:=fun {b m} ⟨o,es,ep,e,d,r⟩=>⟨o,es,ep,base_of e (noA e d),d,r⟩
  have hKb:K.In (Fi s₁.heap H):=fun b o e=>base_of (KX b o e) (by
   cases q:H b with
   | none=>rfl
   | some u =>
    have e':b=a:=hA b (by rw [q]; simp)
    subst e'
    rw [hK (by rw [q]; simp)] at e; cases e)
  have hM:Mod K mg (Fi s₁.heap H):=⟨hKb,nsK hns,⟨mb,nsK hb,hbb⟩,let ⟨mc,h1,h2⟩:=hlim; ⟨mc,nsK h1,h2⟩⟩
  have e0:Env0 P w K mg (Fi s₁.heap H) callerA [] s₁ H:=⟨rfl,hM,fun b o e=>PQ e,Nat.le_of_eq (MM _ _),trivial,fun b hb=>absurd (show b ∈ ([]:List Addr) from hb) (by simp),hok,.of_eq hg⟩
  refine codeAny_mono ((F _ hKb (nsK hns)).run callerA [] s₁ H ⟨[.ref a],[]⟩ [.ref a] [.ref a] _ _ hr e0 (hbind s₁ (.ref a)) (.cons rfl .nil) (hsp H hO hS)) fun r s' h=>?_
  cases r with
  | error e=>exact (hCX H e s' h).elim
  | ok fl =>
   cases fl with
   | next=>exact False.elim h
   | brk=>exact False.elim h
   | cont=>exact False.elim h
   | ret u =>
    obtain ⟨v,H',os,bare,un,hok',r',q⟩:=h
    have q':v=.bl true:=q
    subst q'
    obtain rfl:u=Value.bool true:=r'
    refine ⟨rfl,OldK.of_keep fun b o e=>?_,os,bare⟩
    cases q:H b with
    | none=>exact un.keep b o e q (by intro z; exact absurd (show b ∈ ([]:List Addr) from z) (by simp)) (by simp)
    | some u =>
     rcases hO b with z | ⟨ob,xs,z⟩
     ·rw [q] at z; cases z
     ·have z2:=un.frzs b ob _ z
      obtain ⟨e1,_⟩:=hok b _ z
      obtain ⟨e2,_⟩:=hok' b _ z2
      rw [e] at e1; cases e1
      exact e2
 cases hk:K.lookup a with
 | some o =>
  have e:=KX a o hk
  rw [ha] at e
  cases e
  refine core (fun _=>none) (fun _=>.inl rfl) (.inr ⟨_,vs.toArray,_,hk,rfl,rfl,rfl,by rw [aap,lenV]; exact hl,by simpa using rv⟩) (fun b u z=>by have z':(none:Option HO)=some u:=z; cases z') (fun b z=>absurd rfl z) fun z=>absurd rfl z
 | none =>
  refine core (fun b=>if b=a then some (.frz { cls:=.type "list",data:=.seq vs.toArray } (.lst (ns.map V.int))) else none) (fun b=>?_) (.inl (.inr ⟨{ cls:=.type "list",data:=.seq vs.toArray },if_pos rfl⟩)) (fun b u z=>?_) (fun b z=>?_) fun _=>hk
  ·by_cases hb:b=a
   ·exact .inr ⟨_,_,if_pos hb⟩
   ·exact .inl (if_neg hb)
  ·by_cases hb:b=a
   ·have z':=(if_pos hb).symm.trans z
    cases z'
    subst hb
    exact ⟨ha,by rw [aaa]; exact hl,vs,_,rv,ha⟩
   ·have z':=(if_neg hb).symm.trans z
    cases z'
  ·by_cases hb:b=a
   ·exact hb
   ·exact absurd (if_neg hb) z
theorem Qa {l:PySem.W.OpenLaw} {n k:Nat} {q:Program} {loose:List Str} {XP:(Str->Option Value)->Heap->Prop} {YP:World->Heap->Prop} {d:DefRec} {K:Params->PySem.W.Frag} {CX:World->CXT} {sp:World->Sp} {x:Str}
  (hn:l.most=some n) (hn2:n<=sizeLine) (hdf:d.params.defaults=[]) (hr:Room k callerA)
  (hY:∀ (w:World) (h:Heap),YP w h->(K w.params).In h)
  (F:∀ (w:World) (mg:Str->Option Value) (fa:Addr) (h:Heap),(K w.params).In h->h.Ns mainGlobals mg->mg d.name=some (.ref fa) ->
   ∃ fd:FuncData,(∀ (s:Shared) (u:Value),BindsTo s fd ⟨[u],[]⟩ [(x,u)]) /\
    ∀ base:Heap,(K w.params).In base->base.Ns mainGlobals mg->FnOk l.prog w (K w.params) mg base (CX w) k fa fd [x] (sp w))
  (hsp:∀ (w:World) (H:Hp) (a:Addr) (ns:List Int),ns.length<=n->Os H->SqL (K w.params) H a (ns.map V.int)->sp w [.ref a] H (fun v _=>v=.bl true) fun _ _ _=>False)
  (hCX:∀ (w:World) (H:Hp) (s:Shared) (e:Value) (s':Shared),CX w [] H s (fun _ _ _=>False) e s'->False) :
  PySem.W.WalkO q loose XP YP l.row.toRowW d [] (fun f vs=>PySem.call f vs):=by
 refine Att.attach_call hn hdf fun w s₀ s₁ mg mb fa o pm cd doc a vs ns G Y ho hd hcd hmg hobj hints hlen hg=>?_
 have KX:=hY w _ Y
 obtain ⟨fd,hb,hF⟩:=F w mg fa _ KX G.T.g hmg
 exact Ot KX G.T.g G.T.b G.T.builtins G.T.nolimit hg hobj hints (aaM hlen hn2) hr hF hb (fun H hO hS=>hsp w H a ns hlen hO hS) fun H e s'=>hCX w H s₁ e s'
noncomputable def BX (s:Stmt):Arguments:=match s with
 | .FunctionDef _ a _ _ _ _ _ _ _ _=>a
 | _=>{ posonlyargs:=[],args:=[],vararg:=none,kwonlyargs:=[],kw_defaults:=[],kwarg:=none,defaults:=[] }
noncomputable def AN (s:Stmt):List Stmt:=match s with
 | .FunctionDef _ _ b _ _ _ _ _ _ _=>b
 | _=>[]
noncomputable def Am (s:Stmt):Scope:=match s with
 | .FunctionDef _ _ _ _ _ _ sc _ _ _=>sc
 | _=>{ kind:=.function,names:=[],isGenerator:=false,isCoroutine:=false }
structure Fun (K:PySem.W.Frag) (x qual:Str) (st:Stmt) (f:Addr) (fd:FuncData):Prop where
 ex:∃ (oc:Value) (od:Option Addr) (kV doc pm:Value) (an:Option Addr) (cdv ct:Value) (osl:Array (Option Value)),
  fd=PySem.W.fnOf x qual (BX st) (AN st) (Am st) .none kV doc pm an cdv ct/\K.lookup f=some ⟨oc,od,.func fd,osl⟩/\PySem.W.codeIn K cdv qual=true
 kp:PySem.W.keepIn K (.ref f)=true
section
variable {P:Program} {w:World} {K:PySem.W.Frag} {mg:Str->Option Value} {base:Heap}
theorem Fun.binds {x qual:Str} {st:Stmt} {f:Addr} {fd:FuncData} {ps:List Str} (F:Fun K x qual st f fd)
  (h:∀ (kV doc pm:Value) (an:Option Addr) (cdv ct:Value) (us:List Value),us.length=ps.length->bindArgs (PySem.W.fnOf x qual (BX st) (AN st) (Am st) .none kV doc pm an cdv ct) ⟨us,[]⟩=pure (ps.zip us)):Binds K fd ps []:=by
 obtain ⟨oc,od,kV,doc,pm,an,cdv,ct,osl,rfl,lk,hcd⟩:=F.ex
 exact .all (h kV doc pm an cdv ct)
theorem M8 {x qual:Str} {st:Stmt} {f:Addr} {oc:Value} {od an:Option Addr} {osl:Array (Option Value)} {kV doc pm cdv ct:Value} (l:K.lookup f=some ⟨oc,od,.func (PySem.W.fnOf x qual (BX st) (AN st) (Am st) .none kV doc pm an cdv ct),osl⟩)
  (c:PySem.W.codeIn K cdv qual=true) (k:PySem.W.keepIn K (.ref f)=true):Fun K x qual st f (PySem.W.fnOf x qual (BX st) (AN st) (Am st) .none kV doc pm an cdv ct):=⟨⟨oc,od,kV,doc,pm,an,cdv,ct,osl,rfl,l,c⟩,k⟩
end
noncomputable def Same (H H':Hp):Prop:=∀ b o,H b=some o->H' b=some o
theorem Same.refl (H:Hp):Same H H:=fun _ _ h=>h
theorem Same.trans {H H1 H2:Hp} (a:Same H H1) (b:Same H1 H2):Same H H2:=fun c o h=>b c o (a c o h)
theorem Same.free {H H':Hp} (e:Same H H') {l:Addr} (h:H' l=Option.none):H l=Option.none:=by
 cases q:H l with
 | none=>rfl
 | some o =>
  rw [e l o q] at h
  cases h
theorem Same.seq {K:PySem.W.Frag} {H H':Hp} {a:Addr} {xs:List V} (e:Same H H') (h:SqL K H a xs):SqL K H' a xs:=by
 rcases h with (h | ⟨o,h⟩) | h
 ·exact .inl (.inl (e _ _ h))
 ·exact .inl (.inr ⟨o,e _ _ h⟩)
 ·exact .inr h
end L2
end
section
set_option maxHeartbeats 1000000
namespace L2
open PySem PySem.Spec PyProof.Rows PySem.W
section
variable {prog:Program} {w:World} {A:Around} {E:Value->Shared->Prop} {s:Shared} {K:Frag} {e C:Addr} {ox:Obj}
structure XCls (K:Frag) (C:Addr):Prop where
 ga:findIn K (.ref C) "__getattribute__" = some (some (.builtin "BaseException.__getattribute__"))
 gn:findIn K (.ref C) "__getattr__" = some none
 sb:subIn K (.ref C) (.type "BaseException")=some true
 cl:findIn K (.ref C) "__class__" = some (some (.builtin "object.__class__"))
 mo:mroIn K C (.type "object")=some true
 ty:typeIn K (.ref C)=some (.type "type")
 cc:(clsIn K C).isSome=true
noncomputable def XAt (e C:Addr) (h:Heap):Prop:=∃ oe,h.get? e=some oe/\oe.cls=.ref C
theorem XAt.type {M:Model} {h:Heap} (I:XAt e C h):Looks M h (typeOf (.ref e)) (.ref C):=by
 obtain ⟨oe,h1,h2⟩:=I
 exact h2 ▸ (Looks.ld h1).andThen .now
theorem Sj {R:Result->Shared->Prop} (X:K.In s.heap) (I:XAt e C s.heap) (c:XCls K C) (h:R (.ok (.ret (.ref C))) s) :
  codeAny (model prog w) A (.call (.builtin "getset_descriptor.__get__") ⟨[.builtin "object.__class__",.ref e,.ref C],[]⟩) R s:=by
 obtain ⟨hh,g,d,t,os⟩:=s
 have hT5:(⟨hh,g,d,t,os⟩:Shared).TypeIs (.builtin "object.__class__") "getset_descriptor" := F.typeOf_object_class
 have L0:=I.type (M:=model prog w)
 have L1:=looks_mroIn (M:=model prog w) X c.mo
 refine codeAny_call_builtin F.slot_gs_get.plain F.entry_gs_get (F.slot_gs_get.check _ _ _ _ _ _ _ _ hT5 (F.args_gs_get _ _ _) ?_)
 repeat (any_goals (first | assumption | refine L0.at ?_ | refine L1.at ?_ | refine wpAny_bind (L0.at ?_) | refine wpAny_bind (L1.at ?_) | wp_step))
 refine ⟨Code.quiet_builtin _ (by decide +kernel),codeAny_builtin KF.entry_class ?_⟩
 unfold Builtin.«object.__class__» shownTypeOf
 repeat (any_goals (first | assumption | refine L0.at ?_ | refine wpAny_bind (L0.at ?_) | wp_step))
theorem Qb {tk:Tok} {R:Result->Shared->Prop} (X:K.In s.heap) (I:XAt e C s.heap) (c:XCls K C) (h:R (.ok (.ret (.ref C))) s) :
  codeAny (model prog w) A (.call (.builtin "BaseException.__getattribute__") ⟨[.ref e,.str "__class__" tk],[]⟩) R s:=by
 obtain ⟨hh,g,d,t,os⟩:=s
 have L0:=I.type (M:=model prog w)
 have LS:=looks_subIn (M:=model prog w) X c.sb
 have LI:Looks (model prog w) hh (isInstance (.ref e) (.type "BaseException")) true:=L0.andThen LS
 have LC:=looks_findIn (M:=model prog w) X c.cl
 refine codeAny_call_builtin (by decide +kernel) F.entry_bexc_ga ?_
 have hk:builtinKind "BaseException.__getattribute__" = some .slot:=by decide +kernel
 have hsplit:splitId "BaseException.__getattribute__" = some ("BaseException", "__getattribute__"):=by decide +kernel
 have ha:=F.args_bexc_ga (.ref e) (.str "__class__" tk)
 simp only [checkBuiltinCall,hk,hsplit]
 refine wpAny_bind (LI.at ?_)
 unfold argsOk at ha
 simp only [abl,aaX,if_false]
 refine wpAny_of_eq ha ?_
 have hT5:(⟨hh,g,d,t,os⟩:Shared).TypeIs (.builtin "object.__class__") "getset_descriptor" := F.typeOf_object_class
 have f5:=F.typeOf_object_class
 have f6:=F.slot_gs_get.lookup
 have f7:=F.slot_gs_set.lookup
 repeat (any_goals (first | assumption | refine L0.at ?_ | refine wpAny_bind (L0.at ?_) | refine LC.at ?_ | refine wpAny_bind (LC.at ?_) | wp_step))
 exact Sj X I c (wpAny_pure h)
theorem Qc {Q:Option Value->Shared->Prop} (X:K.In s.heap) (I:XAt e C s.heap) (c:XCls K C) (h:Q (some (.ref C)) { s with toks:=s.toks + 1 }) :
  wpAny (model prog w) A (getAttr? (.ref e) "__class__") Q E s:=by
 obtain ⟨hh,g,d,t,os⟩:=s
 have L0:=I.type (M:=model prog w)
 have LG:=looks_findIn (M:=model prog w) X c.ga
 have LN:=looks_findIn (M:=model prog w) X c.gn
 have fb1:=F.excAttr_ValueError.ga.bind (.ref e)
 unfold getAttr? getAttrBy? getAttrBy
 repeat (first | refine wpAny_bind (L0.at ?_) | refine wpAny_bind (LG.at ?_) | refine wpAny_bind (LN.at ?_) | refine LN.at ?_ | wp_step)
 exact Qb (s:=⟨hh,g,d,t + 1,os⟩) X I c (handed_on rfl (wpAny_pure h))
theorem Ou (c:XCls K C):KitX K (.ref e) (.ref C) (XAt e C) where
 ty:=fun _ _ _ I=>I.type
 it:=fun M h X _=>by
  have hc:=c.cc
  unfold clsIn at hc
  split at hc
  ·rename_i ho
   intro A' Q' E' s' k q
   unfold isType loadHead
   exact wpAny_bind (wpAny_loadPart (k _ _ (X _ _ ho)) (wpAny_pure q))
  ·cases hc
 ne:=fun h tp dd its n sl X htp=>by
  refine Bool.eq_false_iff.mpr fun q=>?_
  have e:C=tp:=Value.ref.inj (beq_iff_eq.mp q)
  subst e
  have hc:=c.cc
  unfold clsIn at hc
  split at hc
  ·rename_i ho
   have z:=(X _ _ ho).symm.trans htp
   cases z
  ·cases hc
 ca:=fun X I k=>Qc X I c k
end
noncomputable def xO (a C:Addr):HO:=.ext (XAt a C)
noncomputable def dO (a:Addr):HO:=.ext (KitAt a "dict")
inductive TyX (K:Frag) (H:Hp):V->Value->Prop where
 | dct {a:Addr} (y:H a=some (dO a)):TyX K H (.ref a) (.type "dict")
 | of {x:V} {t:Value} (y:TyOf K H x t):TyX K H x t
 | exc {a C:Addr} (y:H a=some (xO a C)) (c:XCls K C):TyX K H (.ref a) (.ref C)
noncomputable def clV:V->Option Value
 | .ty n=>some (.type n)
 | .ref C=>some (.ref C)
 | _=>none
noncomputable def UG (K:Frag):List V->Hp->VK->Prop:=fun xs H Q=>∃ x c cv t b,xs=[x,c]/\clV c=some cv/\TyX K H x t/\kitOne K t cv=some b/\Q (.bl b) H
theorem Ov {X:Cx}:C9 X (.builtin "isinstance") (UG X.K):=by
 intro pins s σ H xs us Q I r h
 obtain ⟨x,c,cv,t,b,rfl,hc,ty,e,q⟩:=h
 obtain ⟨u,w',rfl,ru,rw'⟩:=IV r
 have ec:w'=cv:=by
  cases c with
  | ty n=>cases hc; exact rw'
  | ref C=>cases hc; exact rw'
  | _=>cases hc
 subst ec
 have fin:∀ tk,EP X pins σ Q (.bool b) { s with toks:=tk }:=fun tk=>⟨.bl b,H,I.tok tk,rfl,q⟩
 cases ty with
 | @dct a y =>
  cases (show u=Value.ref a from ru)
  exact kia_one kitx_dict I.kIn (I.hok a _ y).1 e (fun z=>nomatch z) fin
 | of y=>exact MZ I ru y e fin
 | @exc a C y c =>
  cases (show u=Value.ref a from ru)
  exact kia_one (Ou c) I.kIn (I.hok a _ y).1 e (fun z=>nomatch z) fin
noncomputable def Sk:V->List V->Hp->VK->Prop:=fun x xs H Q=>∃ (a:Addr) (bs:List Bool) (k:Bool),x=.ref a/\xs=[.bl k]/\Rd H a (.lst (bs.map V.bl))/\Q (.int ((bs.filter (·==k)).length:Nat)) H
theorem G7:∀ {bs:List Bool} {its:List Value},Vals (bs.map V.bl) its->its=bs.map Value.bool
 | [],its,h=>by cases h; rfl
 | C :: r,its,h=>by
  cases h with
  | cons h1 h2 =>
   rw [G7 (bs:=r) h2]
   cases (show _=Value.bool C from h1)
   rfl
theorem FE (k:Bool):∀ bs:List Bool,(bs.map Value.bool).countP (isBoolOf k)=(bs.filter (·==k)).length
 | []=>rfl
 | b :: r=>by
  rw [aaE,List.countP_cons,FE k r,List.filter_cons]
  show _ + (if (b==k)=true then 1 else 0)=_
  cases b==k <;> simp
theorem Ow {X:Cx}:MtR X "list.count" Sk:=by
 intro pins s σ H x xs v us Q I rx rv h
 obtain ⟨a,bs,k,rfl,rfl,hR,q⟩:=h
 cases rx
 obtain ⟨u,rfl,ru⟩:=rv.one
 cases (show u=Value.bool k from ru)
 obtain ⟨its,n,rel,dd,sl,ho⟩:∃ (its:List Value) (n:Nat),Vals (bs.map V.bl) its/\∃ dd sl,s.heap.get? a=some { cls:=.type "list",dict:=dd,data:=.seq its.toArray n,slots:=sl }:=by
  rcases hR with e | ⟨o,e⟩
  ·obtain ⟨_,its,n,r,e⟩:=I.hok a _ e
   exact ⟨its,n,r,_,_,e⟩
  ·obtain ⟨_,_,its,n,r,e⟩:=I.hok a _ e
   exact ⟨its,n,r,_,_,e⟩
 cases G7 rel
 refine call_meets PySem.F.slot_list_count ⟨_,ho,rfl⟩ PySem.F.entry_list_count (PySem.F.args_list_count_2 _ _) (PySem.SeqAt.list_countAt a _ n dd sl (.bool k) (isBoolOf k)) ⟨ho,fun y hy=>?_,?_⟩
 ·have:y ∈ bs.map Value.bool:=by simpa using hy
  obtain ⟨b,_,rfl⟩:=aaC.mp this
  exact PySem.SeqAt.EqAt.bool_bool b k
 ·show EP X pins σ Q (.int (((bs.map Value.bool).countP (isBoolOf k):Nat):Int) s.toks) _
  rw [FE]
  exact ⟨.int _,H,I.tok _,⟨_,rfl⟩,q⟩
theorem ObjOk.there {P:Program} {w:World} {H:Hp} {h:Heap} {a:Addr} {o:HO} (x:ObjOk P w H h a o):∃ ob,h.get? a=some ob:=by
 induction o with
 | lst xs=>obtain ⟨_,_,_,_,e⟩:=x; exact ⟨_,e⟩
 | tup xs=>obtain ⟨_,_,_,ob,e,_⟩:=x; exact ⟨_,e⟩
 | dK kvs=>obtain ⟨_,_,_,_,ob,_,_,e,_⟩:=x; exact ⟨_,e⟩
 | dT kvs=>obtain ⟨_,_,_,_,ob,_,_,e,_⟩:=x; exact ⟨_,e⟩
 | set S n=>obtain ⟨ob,_,_,_,e,_⟩:=x; exact ⟨_,e⟩
 | ins C dx fs=>obtain ⟨_,_,_,e,_⟩:=x; exact ⟨_,e⟩
 | own y=>exact x
 | xd fs=>obtain ⟨_,⟨od,_,_,e,_⟩,_⟩:=x; exact ⟨_,e⟩
 | rng lo hi=>obtain ⟨_,_,_,e⟩:=x; exact ⟨_,e⟩
 | frz ob u _=>exact ⟨_,x.1⟩
 | tbl ps=>exact ⟨_,x⟩
 | met f y=>exact ⟨_,x⟩
 | ext φ=>exact x.2.1
theorem HOk.hide {P:Program} {w:World} {H:Hp} {h:Heap} (x:HOk P w H h) {fs:List Addr} (hf:∀ b ∈ fs,H b=none):HOk P w H (hideAll h fs):=fun a o e =>
 (x a o e).stay (fun b u hb q=>hideAll_get _ q fun z=>by
  have n:=hf b z
  rcases hb with rfl | hb
  ·rw [n] at e; cases e
  ·rw [n] at hb; cases hb) (fun _ q=>q) fun _ _ q=>q
noncomputable def CXe (P:Program) (w:World):CXT:=fun outer H s E ev s'=>∃ (e:Addr) (cls a0:Value) (H':Hp) (B:Heap),ev=.ref e/\s'.os=s.os/\AllBare s'.gens/\Heap.FlyingW B outer e cls a0 s'.heap/\HOk P w H' B/\H' e=none /\
 (∀ b o,s.heap.get? b=some o->H b=none->b ∉ frs outer->B.get? b=some o)/\(∀ b o,s.heap.get? b=some o->H b=none->b ∈ frs outer->∃ sl,s'.heap.get? b=some { o with slots:=sl }) /\
 (∀ b o,s.heap.get? b=some o->H b=none->H' b=none)/\(∀ b o,s.heap.get? b=some o->b ∉ frs outer->∃ o',B.get? b=some o') /\
 (∀ b xs,H b=some (.tup xs)->H' b=some (.tup xs))/\(∀ b o u,H b=some (.frz o u)->H' b=some (.frz o u))/\(∀ b ps,H b=some (.tbl ps)->∃ more,H' b=some (.tbl (ps ++ more)))/\E cls none H'
noncomputable def LQ (X:Cx) (E:XK):Prop:=∀ (pins:List (Addr × Obj)) (σ:St) (H:Hp) (s:Shared) (h':Heap) (e C:Addr) (vs:List Value),Inv X pins σ H s->Heap.MadeExcOf s.heap h' e (.ref C) vs->E (.ref C) none H->X.xe (.ref e) { s with heap:=h' }
section
variable {P:Program} {w:World} {K:Frag} {mg:Str->Option Value} {base:Heap} {N:List Str} {qual:Str} {scope:Scope} {f:Addr} {cd:Value} {A:Around} {outer:List Env} {s₀:Shared} {H₀:Hp} {E E':XK}
theorem Ox (hE:∀ c d H,E c d H->E' c d H):LQ (BF (CXe P w) P w K mg base N qual scope f cd A outer s₀ H₀ E') E:=by
 intro pins σ H s h' e C vs I hx he
 show wpAny _ _ (leaving _ (.ref e)) _ _ _
 have hfr:∀ env ∈ (BF (CXe P w) P w K mg base N qual scope f cd A outer s₀ H₀ E').stack,∀ b,env.frame=some b->b ∈ frs (BF (CXe P w) P w K mg base N qual scope f cd A outer s₀ H₀ E').stack:=fun env h b hb=>aaN.mpr ⟨env,h,hb⟩
 have hB:=I.hok.hide I.stkFree
 have hff:=funFrames_hide I.stack hfr
 have en:H e=none:=by
  cases q:H e with
  | none=>rfl
  | some o=>obtain ⟨ob,z⟩:=(I.hok e o q).there; rw [hx.new] at z; cases z
 refine wpAny_leaves_madeW (base:=hideAll s.heap (frs (BF (CXe P w) P w K mg base N qual scope f cd A outer s₀ H₀ E').stack)) I.ok.frames rfl (fun b o q=>of_hideAll _ q) hff hx fun h2 t fl _ _ up=>?_
 have sub:∀ b ∈ frs outer,b ∈ frs (BF (CXe P w) P w K mg base N qual scope f cd A outer s₀ H₀ E').stack:=fun b hb=>by
  obtain ⟨env,h1,h2⟩:=aaN.mp hb
  exact aaN.mpr ⟨env,aab _ h1,h2⟩
 have nloc:∀ b o,s₀.heap.get? b=some o->b ≠ s₀.heap.objs.size:=fun b o q z=>by
  have:=Heap.lt_size q
  exact aaL _ (z ▸ this)
 have nfr:∀ b o,s₀.heap.get? b=some o->b ∉ frs outer->b ∉ frs (BF (CXe P w) P w K mg base N qual scope f cd A outer s₀ H₀ E').stack:=fun b o q hb z=>by
  obtain ⟨env,h1,h2⟩:=aaN.mp z
  rcases aal.mp h1 with rfl | h1
  ·exact nloc b o q (Option.some.inj h2).symm
  ·exact hb (aaN.mpr ⟨env,h1,h2⟩)
 have nx:∀ b:Addr,b ∉ (BF (CXe P w) P w K mg base N qual scope f cd A outer s₀ H₀ E').ex:=fun b z=>absurd (show b ∈ ([]:List Addr) from z) (by simp)
 refine ⟨e,.ref C,.ref t,H,_,rfl,I.os,I.bare,fl,hB,en,fun b o q n hb=>hideAll_get _ (I.base.keep b o q n hb (nx b)) (nfr b o q hb),fun b o q n hb=>?_,fun b o q n=>I.base.free b o q n (nx b),fun b o q hb=>?_,I.base.tups,I.base.frzs,I.base.tbls,hE _ _ _ he⟩
 ·obtain ⟨sl,e1⟩:=I.base.slot b o q n hb (nx b)
  obtain ⟨⟨hn,o2,ho2,hnf⟩⟩:=And.intro (I.stack.mem (sub b hb)) trivial
  rw [e1] at ho2
  cases ho2
  obtain ⟨sl2,e2⟩:=up b _ (hx.keeps b _ e1) hnf
  exact ⟨sl2,e2⟩
 ·obtain ⟨o',e1⟩:=I.base.there b o q (nx b)
  exact ⟨o',hideAll_get _ e1 (nfr b o q hb)⟩
theorem TY (hE:∀ c d H,E c d H->E' c d H):R9 (CXe P w) (BF (CXe P w) P w K mg base N qual scope f cd A outer s₀ H₀ E') E:=by
 intro pins σ H s ev s' I h
 obtain ⟨e,cls,a0,H',B,rfl,ho,hg,fl,hok,en,keep,slot,free,there,tups,frzs,tbls,he⟩:=h
 show wpAny _ _ (leaving _ (.ref e)) _ _ _
 refine wpAny_leaves_onW (base:=B) I.ok.frames rfl fl fun h2 fl2 up=>?_
 have sub:∀ b ∈ frs outer,b ∈ frs (BF (CXe P w) P w K mg base N qual scope f cd A outer s₀ H₀ E').stack:=fun b hb=>by
  obtain ⟨env,h1,h2⟩:=aaN.mp hb
  exact aaN.mpr ⟨env,aab _ h1,h2⟩
 have nfr:∀ b o,s₀.heap.get? b=some o->b ∉ frs outer->b ∉ frs (BF (CXe P w) P w K mg base N qual scope f cd A outer s₀ H₀ E').stack:=fun b o q hb z=>by
  obtain ⟨env,h1,h2⟩:=aaN.mp z
  rcases aal.mp h1 with rfl | h1
  ·exact aaL _ ((Option.some.inj h2).symm ▸ Heap.lt_size q)
  ·exact hb (aaN.mpr ⟨env,h1,h2⟩)
 have nx:∀ b:Addr,b ∉ (BF (CXe P w) P w K mg base N qual scope f cd A outer s₀ H₀ E').ex:=fun b z=>absurd (show b ∈ ([]:List Addr) from z) (by simp)
 have frNF:∀ b o,s'.heap.get? b=some o->b ∈ frs (BF (CXe P w) P w K mg base N qual scope f cd A outer s₀ H₀ E').stack->∃ sl,h2.get? b=some { o with slots:=sl }:=fun b o q hb=>by
  obtain ⟨hn,o2,ho2,hnf⟩:=fl.2.2.1.mem hb
  rw [q] at ho2
  cases ho2
  exact up b _ q hnf
 refine ⟨e,cls,a0,H',B,rfl,ho.trans I.os,hg,fl2,hok,en,fun b o q n hb=>keep b o (I.base.keep b o q n hb (nx b)) (I.base.free b o q n (nx b)) (nfr b o q hb),fun b o q n hb=>?_,
  fun b o q n=>?_,fun b o q hb=>?_,fun b xs q=>tups b xs (I.base.tups b xs q),fun b o u q=>frzs b o u (I.base.frzs b o u q),fun b ps q=>?_,hE _ _ _ he⟩
 ·obtain ⟨sl,e1⟩:=I.base.slot b o q n hb (nx b)
  obtain ⟨sl1,e2⟩:=slot b _ e1 (I.base.free b o q n (nx b)) (sub b hb)
  obtain ⟨sl2,e3⟩:=frNF b _ e2 (sub b hb)
  exact ⟨sl2,e3⟩
 ·obtain ⟨o',e1⟩:=I.base.there b o q (nx b)
  exact free b o' e1 (I.base.free b o q n (nx b))
 ·obtain ⟨o',e1⟩:=I.base.there b o q (nx b)
  exact there b o' e1 (nfr b o q hb)
 ·obtain ⟨m1,e1⟩:=I.base.tbls b ps q
  obtain ⟨m2,e2⟩:=tbls b _ e1
  exact ⟨m1 ++ m2,by rw [e2,Array.append_assoc]⟩
end
section
variable {X:Cx} {C:Addr} {x:Str} {e:Expr} {es:List Expr} {t:TA} {E:XK} {np cpos pos:Pos}
abbrev GG:List Value:=[.type "ValueError",.type "Exception",.type "BaseException",.type "object"]
theorem Sl {h:Heap} (KX:X.K.In h) (G:h.Ns mainGlobals X.mg) (B:∃ mb,h.Ns builtinsNs mb/\∀ x:Str,x ≠ "__name__" -> mb x=bootBuiltins x) (L:h.NoLimit) (hm:nsIn X.K mainGlobals x=some (some (.ref C))) (hC:excIn X.K C GG "ValueError.__new__" = true) :
  OwnCls x C GG "ValueError.__new__" X.mg h:=by
 obtain ⟨mb,Bn,hb⟩:=B
 obtain ⟨o,es,ep,ho,hd,hs,hf⟩:=id G
 have T:TopRead default (es.toList.filterMap fun d=>match d.key with | .str n _=>some n | _=>none) X.mg mb h:=⟨G,Bn,L,hb,fun y _ hy _ _ _=>by
  rw [<- hf y]
  unfold nsFind findBy
  rw [Option.map_eq_none_iff,Array.find?_eq_none]
  intro d hm hy2
  obtain ⟨n,tk,ek⟩:=hs d hm
  rw [ek] at hy2
  have en:n=y:=by simpa [Value.isStr] using hy2
  exact hy (aaN.mpr ⟨d,by simpa using hm,by rw [ek,en]⟩)⟩
 exact own_of_in KX T hm hC
theorem Oy (hw:LQ X E) (hc:X.calm=true) (hg:Gl X x) (hn:nsIn X.K mainGlobals x=some (some (.ref C))) (hC:excIn X.K C GG "ValueError.__new__" = true) (ha:PA X (e :: es) t) (hd:(x==("__debug__" : Str))=false:=by decide)
  (he:starEach (e :: es) X.env=(false,eval e X.env) :: starEach es X.env:=by rfl) (hpl:(backTo cpos (starEach es X.env)).any (·.1)=false:=by rfl) :
  PS X (.Raise (some (.Call (.Name x np) (e :: es) [] cpos)) none pos) (fun D σ H=>t σ H fun vs H1=>vs.length<=sizeLine/\E (.ref C) none H1):=by
 intro pins s σ H D I h
 have O:=Sl (X:=X) I.mod.kin I.mod.glob I.mod.blt I.mod.nolimit hn hC
 obtain ⟨bm,N',nm,q,bs,hdct,sn,sub,ab,col,dd,k0,k1,k2,k3,k5,mN,hCo,hN,hni,T⟩:=O.obj
 refine wpAny_Raise_call_subT (nm:=nm) (q:=q) (N:=N') (bs:=bs) (bm:=bm) (hdct:=hdct) (sn:=sn) (sub:=sub) (ab:=ab) (col:=col) (dd:=dd) (k0:=k0) (k1:=k1) (k2:=k2) (k3:=k3) (k5:=k5) PySem.F.excBase_ValueError (mN:=mN) (T.hasType rfl) (I.ok.hd hc) (by rw [he]; exact hpl) hni (HE I hg O.bound ⟨rfl,?_⟩ hd)
 have h2:=ha cpos pins s σ H _ I h
 rw [he] at h2 ⊢
 exact Calls.evalArgs_plain (thn h2 fun us s1 ⟨vs,H1,I1,r,q⟩=>⟨rfl,r.length ▸ q.1,I1.bk _ _ hCo,hN.keeps I1.bk,T.keeps I1.bk,fun h' ex hx=>hw pins σ H1 s1 h' ex C us I1 hx q.2⟩)
end
noncomputable abbrev EXT:=St->XK
noncomputable def FF (CX:CXT) (X:Cx) (E:EXT):Prop:=∀ (pins:List (Addr × Obj)) (σ:St) (H:Hp) (s:Shared) (e:Value) (s':Shared),Inv X pins σ H s->CX X.stack H s (E σ) e s'->X.xe e s'
noncomputable def M9 (sp:Sp) (dvs:List V) (E:EXT) (t:TA):TE:=fun σ H Q=>t σ H fun vs H1=>sp (vs ++ dvs) H1 Q (E σ)
section
variable {X:Cx} {CX:CXT} {k:Nat} {f:Addr} {fd:FuncData} {ps:List Str} {sp:Sp} {dvs:List V} {ds:List Value} {E:EXT} {x:Str} {p pos:Pos} {e:Expr} {es:List Expr} {t:TA}
theorem Oz (F:FnOk X.prog X.w X.K X.mg X.base CX k f fd ps sp) (hr:Room k X.A) (hg:Gl X x) (hm:X.mg x=some (.ref f)) (hk:PySem.W.keepIn X.K (.ref f)=true) (hb:Binds X.K fd ps ds) (hd:Vals dvs ds) (hx:FF CX X E)
  (ha:PA X (e :: es) t) (hdb:(x==("__debug__" : Str))=false:=by decide) (he:starEach (e :: es) X.env=(false,eval e X.env) :: starEach es X.env:=by rfl) (hpl:(backTo pos (starEach es X.env)).any (·.1)=false:=by rfl) :
  PE X (.Call (.Name x p) (e :: es) [] pos) (M9 sp dvs E t):=by
 intro pins s σ H Q I h
 refine wpAny_Call_Name_kw (HE I hg hm ?_ hdb)
 refine PySem.W.callWith_K (h₀:=X.base) I.ok.mod.kin hk (thn (ha pos pins s σ H _ I h) fun us s1 ⟨vs,H1,I1,r,q⟩=>⟨I1.kIn,?_⟩) he hpl
 have r2:Vals (vs ++ dvs) (us ++ ds):=r.append hd
 have hl:(us ++ ds).length=ps.length:=r2.length ▸ F.len _ _ _ _ q
 refine wpAny_call (codeAny_mono (F.run X.A X.stack s1 H1 ⟨us,[]⟩ (us ++ ds) (vs ++ dvs) Q (E σ) hr I1.env0 (hb s1 us I1.kIn hl) r2 q) fun rr s' hq=>?_)
 rcases rr with ev | fl
 ·exact hx pins σ H1 s1 ev s' I1 hq
 ·cases fl with
  | ret u=>exact I1.after hq
  | next=>exact False.elim hq
  | brk=>exact False.elim hq
  | cont=>exact False.elim hq
end
noncomputable abbrev KY (ifs:List Expr) (env:Env):Sem Bool:=forIn ifs true fun c r=>if r=true then do let ok <- isTrue c env (eval c env); pure (ForInStep.yield ok) else pure (ForInStep.yield r)
section
variable {prog:Program} {w:World} {A:Around} {R:Result->Shared->Prop} {s:Shared} {elt tg iter:Expr} {ifs:List Expr} {scope:Scope} {pos:Pos} {it acc:Value} {env:Env}
theorem FG (I:Nat->Shared->Prop)
  (turn:∀ n s,I n s->wpAny (model prog w) A (pyNext it) (fun r s1=>match r with
   | none=>R (.ok .next) s1
   | some v=>wpAny (model prog w) A (letOwnedTupleGo tg it v) (fun _ s2=>wpAny (model prog w) A (assign tg env v) (fun _ s3=>wpAny (model prog w) A (KY ifs env) (fun ok s4 =>
     if ok=true then wpAny (model prog w) A (eval elt env) (fun x s5=>wpAny (model prog w) A (call (.builtin "list.append") [acc,x]) (fun _ s6=>∃ m,m < n/\I m s6) (fun _ _=>False) s5) (fun _ _=>False) s4
     else ∃ m,m < n/\I m s4) (fun _ _=>False) s3) (fun _ _=>False) s2) (fun _ _=>False) s1) (fun _ _=>False) s) (n:Nat) (h:I n s) :
  codeAny (model prog w) A (.compLoop (.ListComp elt [⟨tg,iter,ifs,0⟩] scope pos) 0 it acc env) R s:=by
 refine codeAny_loop rfl I (fun k s' hk=>?_) n h
 show wpAny _ A ((compTurn (.ListComp elt [⟨tg,iter,ifs,0⟩] scope pos) 0 it acc env).onRaise (fun z=>do noteFrame z env; theTreesLotGoes z)) _ _ s'
 refine wpAny_noted ?_
 rw [compTurn_list]
 have no:∀ {Z:Value->Shared->Prop} (x:Value) (t:Shared),False->Z x t:=fun _ _ z=>z.elim
 refine wpAny_bind (wpAny_standAt ?_)
 refine wpAny_bind (wpAny_mono (turn k s' hk) (fun r s1 h1=>?_) no)
 rcases r with _ | v
 ·exact wpAny_pure h1
 ·refine wpAny_bind (wpAny_mono h1 (fun _ s2 h2=>?_) no)
  refine wpAny_bind (wpAny_mono h2 (fun _ s3 h3=>?_) no)
  refine wpAny_bind (wpAny_mono h3 (fun ok s4 h4=>?_) no)
  cases ok with
  | false=>exact wpAny_pure ⟨rfl,h4⟩
  | true =>
   refine wpAny_bind ?_
   refine wpAny_bind (wpAny_mono h4 (fun x s5 h5=>?_) no)
   exact wpAny_bind (wpAny_mono h5 (fun _ s6 h6=>wpAny_pure (wpAny_pure ⟨rfl,h6⟩)) no)
noncomputable def BS (env:Env) (names:List (Str × NameKind)) (cs:List (Str × Addr)):List (Str × Addr):=names.foldl (fun cs x=>if (x.2==NameKind.free)=true then (x.1,(env.cells.lookup x.1).getD 0) :: cs else cs) cs
theorem G8 {α β:Type} (f:α->β->Sem (ForInStep β)) (g:β->α->β):∀ (l:List α) (b:β),(∀ x ∈ l,∀ b,f x b=pure (ForInStep.yield (g b x)))->forIn l b f=pure (l.foldl g b)
 | [],b,_=>rfl
 | x :: l,b,h=>by
  rw [List.forIn_cons,h x (aac ..) b,abR]
  exact G8 f g l (g b x) fun y hy=>h y (aab _ hy)
theorem G9 (h:∀ x ∈ scope.names,x.2=.free->(env.cells.lookup x.1).isSome=true):closureFor scope env=pure (BS env scope.names []):=by
 unfold closureFor BS
 dsimp only
 rw [G8 _ (fun cs x=>if (x.2==NameKind.free)=true then (x.1,(env.cells.lookup x.1).getD 0) :: cs else cs)]
 ·rfl
 ·rintro ⟨n,k⟩ hx cs
  by_cases hk:(k==NameKind.free)=true
  ·obtain ⟨c,hc⟩:=aaz.mp (h (n,k) hx (beq_iff_eq.mp hk))
   have hc':List.lookup n env.cells=some c:=hc
   dsimp only
   rw [if_pos hk,if_pos hk]
   unfold cellOf
   rw [hc']
   rfl
  ·dsimp only
   rw [if_neg hk,if_neg hk]
theorem AW (h:∀ x ∈ scope.names,x.2=.free->(env.cells.lookup x.1).isSome=true) {x:Str} {c:Addr} (e:(BS env scope.names []).lookup x=some c):env.cells.lookup x=some c:=by
 have gen:∀ (l:List (Str × NameKind)) (cs:List (Str × Addr)),(∀ y ∈ l,y.2=.free->(env.cells.lookup y.1).isSome=true)->(∀ p ∈ cs,env.cells.lookup p.1=some p.2)->∀ p ∈ BS env l cs,env.cells.lookup p.1=some p.2:=by
  intro l
  induction l with
  | nil=>intro cs _ hc; exact hc
  | cons y l ih =>
   intro cs hl hc
   unfold BS
   rw [abR]
   refine ih _ (fun z hz=>hl z (aab _ hz)) fun p hp=>?_
   split at hp
   ·rename_i hk
    rcases aal.mp hp with rfl | hp
    ·obtain ⟨c',hc'⟩:=aaz.mp (hl y (aac ..) (beq_iff_eq.mp hk))
     show env.cells.lookup y.1=some ((env.cells.lookup y.1).getD 0)
     rw [hc']; rfl
    ·exact hc p hp
   ·exact hc p hp
 exact gen scope.names [] h (fun p hp=>nomatch hp) (x,c) (PySem.mem_of_lookup e)
theorem DY {x:Str} {c:Addr} (hm:(x,NameKind.free) ∈ scope.names) (h:∀ x ∈ scope.names,x.2=.free->(env.cells.lookup x.1).isSome=true) (e:env.cells.lookup x=some c):(BS env scope.names []).lookup x=some c:=by
 have gen:∀ (l:List (Str × NameKind)) (cs:List (Str × Addr)),((x,NameKind.free) ∈ l\/∃ d,(x,d) ∈ cs)->∃ d,(x,d) ∈ BS env l cs:=by
  intro l
  induction l with
  | nil=>intro cs hc; rcases hc with z | z; cases z; exact z
  | cons y l ih =>
   intro cs hc
   unfold BS
   rw [abR]
   refine ih _ ?_
   rcases hc with hc | ⟨d,hc⟩
   ·rcases aal.mp hc with rfl | hc
    ·exact .inr ⟨_,by rw [if_pos (by rfl)]; exact aac ..⟩
    ·exact .inl hc
   ·refine .inr ⟨d,?_⟩
    split
    ·exact aab _ hc
    ·exact hc
 obtain ⟨d,hd⟩:=gen scope.names [] (.inl hm)
 cases q:(BS env scope.names []).lookup x with
 | none =>
  rw [List.lookup_eq_none_iff] at q
  have:=q _ hd
  simp at this
 | some c'=>exact (AW h q).symm.trans e ▸ rfl
end
structure Bk where
 (C:Addr)
 (fp:List Addr)
 (s:Shared)
 (H:Hp)
noncomputable abbrev Cx.blk (X:Cx) (scope:Scope) (C:Addr) (fp:List Addr) (N:List Str) (s:Shared) (H:Hp):Cx :=
 { X with N:=N,s₀:=s,H₀:=H,env:=compEnvC scope (BS X.env scope.names []) C X.env,outer:=X.stack,ex:=fp,fn:=fun _=>false,pn:=[],xe:=fun _ _=>False }
noncomputable def PTs (X:Cx) (ifs:List Expr) (t:TT):Prop :=
 ∀ (pins:List (Addr × Obj)) (s:Shared) (σ:St) (H:Hp) (Q:Bool->Hp->Prop),Inv X pins σ H s->t σ H Q->wpAny (model X.prog X.w) X.A (KY ifs X.env) (TP X pins σ Q) X.xe s
noncomputable def Pv:TT:=fun _ H Q=>Q true H
theorem KZ {X:Cx}:PTs X [] Pv:=fun _ _ _ H _ I h=>wpAny_tests_nil ⟨H,I,h⟩
theorem K0 {X:Cx} {c:Expr} {t:TT} (h:PT X c t):PTs X [c] t:=fun pins s σ H Q I q=>wpAny_tests_one (h pins s σ H Q I q)
noncomputable def A8 (nl:Nat) (fr:List Nat) (σ:St):St:=aag nl none ++ fr.map fun j=>(σ[j]?).join
noncomputable def Gc (nl:Nat) (fr:List Nat) (wi:TI) (gz:Bk->TG) (tcz:Bk->TT) (tez:Bk->TE):TE:=fun σ H Q=>wi σ H fun J H1=>∀ (z:Bk) (D:Addr),H1 D=none->∃ W:Nat->Nat->List V->Hp->Prop,(∃ m,W 0 m [] (upd H1 D (.lst [])))/\∀ i m acc H2,W i m acc H2 ->
 H2 D=some (.lst acc)/\((J.stop i H2/\Q (.ref D) H2)\/(J.go i H2/\∀ x H3,J.yld i H2 x H3->gz z x (A8 nl fr σ) H3 fun σ4 H4=>tcz z σ4 H4 fun b H5 =>
  if b=true then tez z σ4 H5 fun v H6=>H6 D=some (.lst acc)/\acc.length < sizeLine/\∃ m',m' < m/\W (i + 1) m' (acc ++ [v]) (upd H6 D (.lst (acc ++ [v]))) else ∃ m',m' < m/\W (i + 1) m' acc H5))
theorem K1 {X:Cx} {elt tg iter:Expr} {ifs:List Expr} {scope:Scope} {pos:Pos} {wi:TI} {gz:Bk->TG} {tcz:Bk->TT} {tez:Bk->TE} (loc:List Str) (fr:List Nat) (frn:List Str) (hc:X.calm=true) (hi:PI X tg iter wi)
  (hfr:∀ (j:Nat) (k:Nat) (x:Str),fr[j]?=some k->frn[j]?=some x->X.N[k]?=some x/\X.env.kindOf x=some .cell/\(x,NameKind.free) ∈ scope.names) (hln:frn.length=fr.length)
  (hcell:∀ y ∈ scope.names,y.2 ≠ .cell) (hkind:scope.kind=.function) (hnames:∀ y ∈ scope.names,y.2=.local->scope.names.lookup y.1=some .local) (hfree:∀ y ∈ scope.names,y.2=.free->X.env.kindOf y.1=some .cell)
  (hkin:∀ (x:Str),x ∈ frn->(relabel scope X.env).names.lookup x=some .cell) (hsc:X.env.scope.kind=.function)
  (hgk:∀ (z:Bk) (v:V) (σ:St) (H:Hp) (Q:St->Hp->Prop),gz z v σ H Q->gz z v σ H fun σ' H'=>Q σ' H'/\σ'.length=σ.length/\∀ i,loc.length<=i->σ'[i]?=σ[i]?)
  (hblk:∀ (z:Bk),PG (X.blk scope z.C z.fp (loc ++ frn) z.s z.H) tg (gz z)/\PTs (X.blk scope z.C z.fp (loc ++ frn) z.s z.H) ifs (tcz z)/\PE (X.blk scope z.C z.fp (loc ++ frn) z.s z.H) elt (tez z))
  (hs:∀ x,foldedSetIterable iter X.env x=pure x:=by intro _; rfl):PE X (.ListComp elt [⟨tg,iter,ifs,0⟩] scope pos) (Gc loc.length fr wi gz tcz tez):=by
 intro pins s σ H Q I h
 have hcs:∀ x ∈ scope.names,x.2=.free->(X.env.cells.lookup x.1).isSome=true:=fun x hx hf=>by
  obtain ⟨c,e⟩:=I.ok.has x.1 (.inl (hfree x hx hf))
  rw [e]; rfl
 rw [eval_ListComp]
 refine wpAny_comprehension_free (use:=none) rfl hs (G9 hcs) hkind hnames (thn (hi pins s σ H _ I h) fun v s1 h1=>thn h1 fun itv s2 h2=>?_)
 obtain ⟨it,fp,tn,J,H2,rfl,I2,T,st2,f2,q2⟩:=h2
 refine wpAny_newList (items:=[]) ?_ (by simp)
 have eD:H2 s2.heap.objs.size=none:=I2.hok.fresh (aai _)
 have pk:∀ (o:Obj) b u,s2.heap.get? b=some u->(s2.heap.push o).get? b=some u:=fun o b u e=>Heap.get?_push_of_some _ e
 have I3:=I2.laid (a:=s2.heap.objs.size) (o:=.lst []) (t':=s2.toks) (h':=s2.heap.push { cls:=.type "list",data:=.seq ([]:List Value).toArray }) (pk _) (aai _)
  ⟨aaw _,[],0,.nil,Heap.get?_push_size _ rfl⟩
 generalize hs3:(⟨s2.heap.push { cls:=.type "list",data:=.seq ([]:List Value).toArray },s2.gens,s2.drawn,s2.toks,s2.os⟩:Shared)=s3 at I3 ⊢
 have k3:∀ b u,s2.heap.get? b=some u->s3.heap.get? b=some u:=fun b u e=>by rw [<- hs3]; exact pk _ b u e
 have tk3:s3.os=s2.os/\s3.gens=s2.gens:=by rw [<- hs3]; exact ⟨rfl,rfl⟩
 have z3:s3.heap.objs.size=s2.heap.objs.size + 1:=by rw [<- hs3]; exact Heap.size_push ..
 refine wpAny_newFunctionEnv hcell (by intro y hy; simp at hy) (fun h4 hns hsb=>?_) hkind
 have k4:∀ b u,s3.heap.get? b=some u->h4.get? b=some u:=fun b u e=>hsb.extBut b u (aaI (Heap.lt_size e)) (Heap.get?_push_of_some _ e)
 have fpl:∀ b ∈ fp,b < s2.heap.objs.size:=fun b hb=>by
  obtain ⟨o,e,_⟩:=T.obj 0 _ st2 b hb
  exact Heap.lt_size e
 obtain ⟨W,⟨m0,w0⟩,turn⟩:=q2 ⟨s3.heap.objs.size,fp,s3,upd H2 s2.heap.objs.size (.lst [])⟩ _ eD
 have ok4:(X.blk scope s3.heap.objs.size fp (loc ++ frn) s3 (upd H2 s2.heap.objs.size (.lst []))).Ok:=by
  refine ⟨I.ok.mod,hkind,I.ok.glob,I.ok.blt,aai _,fun x y c e1 e2=>I.ok.inj x y c (AW hcs e1) (AW hcs e2),fun x hx=>?_,fun x c z=>(nomatch z),I.ok.hd,I.ok.frames,.inl rfl,fun b hb=>⟨?_,fun x c e=>(f2 b hb).2.2.2.2.1 x c (AW hcs e)⟩,I3.bs,aaM I.ok.bsz I3.sz,
   fun b o e hb=>?_,fun b hb z=>?_,I3.stack,I3.stkFree⟩
  ·have hm:(x,NameKind.free) ∈ scope.names:=by
    have:∃ k',(k'=NameKind.cell\/k'=NameKind.free)/\(relabel scope X.env).names.lookup x=some k':=by
     rcases hx with z | z
     ·exact ⟨_,.inl rfl,z⟩
     ·exact ⟨_,.inr rfl,z⟩
    obtain ⟨k',hk',z⟩:=this
    have zm:=PySem.mem_of_lookup z
    unfold relabel at zm
    obtain ⟨⟨n,k⟩,hn,e⟩:=aaC.mp zm
    dsimp only at e
    split at e
    ·rename_i hk
     cases e
     have:k=NameKind.free:=by
      cases k <;> first | rfl | (simp at hk)
     rw [<- this]; exact hn
    ·cases e
     rcases hk' with rfl | rfl
     ·exact absurd rfl (hcell _ hn)
     ·exact hn
   obtain ⟨c,e⟩:=I.ok.has x (.inl (hfree _ hm rfl))
   exact ⟨c,DY hm hcs e⟩
  ·have:=fpl b hb
   exact aaI (by rw [z3]; exact Nat.lt_succ_of_lt this)
  ·rcases (f2 b hb).2.2.2.1 with z | z
   ·exact I.ok.noex b o e z
   ·exact absurd (aaA (Heap.lt_size (I.ok.bs b o e).1) z) (aaL _)
  ·have:=I2.stkSub b z
   rcases aal.mp this with rfl | y
   ·exact (f2 _ hb).2.1 rfl
   ·exact (f2 b hb).2.2.1 y
 have I4:Inv (X.blk scope s3.heap.objs.size fp (loc ++ frn) s3 (upd H2 s2.heap.objs.size (.lst []))) [] (A8 loc.length fr σ) (upd H2 s2.heap.objs.size (.lst [])) { s3 with heap:=h4,toks:=s3.toks + ([]:List (Str × Value)).length }:=by
  refine ⟨ok4,rfl,I3.bare,Un.kept k4,⟨_,hns,fun i x v e1 e2 e3=>?_⟩,fun x c e=>?_,I3.hok.fresh (aai _),fun x c e=>I3.freeC x c (AW hcs e),fun p hp=>(nomatch hp),I3.hok.kept k4,?_⟩
  ·unfold A8 at e2
   by_cases hi:i < loc.length
   ·rw [aaK (by simpa using hi),aaR] at e2
    split at e2 <;> cases e2
   ·rw [aaD (by simpa using hi),aa2,aaj] at e2
    have e1':frn[i - loc.length]?=some x:=by
     have:(loc ++ frn)[i]?=some x:=e1
     rw [aaD (aaU hi)] at this
     exact this
    cases ek:fr[i - loc.length]? with
    | none=>rw [ek] at e2; cases e2
    | some k =>
     rw [ek] at e2
     have e2':(σ[k]?).join=some v:=Option.some.inj e2
     have e2'':σ[k]?=some (some v):=by
      cases q:σ[k]? with
      | none=>rw [q] at e2'; cases e2'
      | some y=>rw [q] at e2'; exact congrArg some e2'
     obtain ⟨n1,n2,n3⟩:=hfr _ k x ek e1'
     obtain ⟨m,_,hl⟩:=I3.loc
     obtain ⟨u,ru,lk⟩:=hl k x v n1 e2'' (.inr (.inl n2))
     refine ⟨u,ru,.inr ⟨.inl (hkin x (aae e1')),?_⟩⟩
     rcases lk with ⟨z,_⟩ | ⟨_,c,ec,ic⟩
     ·rw [n2] at z; cases z
     ·obtain ⟨o,ho,hd⟩:=ic
      exact ⟨c,DY n3 hcs ec,o,k4 _ _ ho,hd⟩
  ·obtain ⟨v,o,ho,hd⟩:=I3.cell x c (AW hcs e)
   exact ⟨v,o,k4 _ _ ho,hd⟩
  ·unfold A8
   show _=(loc ++ frn).length
   rw [aav,aav,aa2,aaa,hln]
 have stat:∀ {H':Hp},(∀ b ∈ fp,H' b=none)->∀ b ∈ fp,ER (X.blk scope s3.heap.objs.size fp (loc ++ frn) s3 (upd H2 s2.heap.objs.size (.lst []))) [] H' b:=fun hn b hb =>
  ⟨hn b hb,(ok4.exf b hb).1,ok4.exfs b hb,.inl hb,(ok4.exf b hb).2,fun p hp=>(nomatch hp)⟩
 have fp3:∀ b ∈ fp,(upd H2 s2.heap.objs.size (.lst [])) b=none:=fun b hb=>by
  rw [Ap (aaI (fpl b hb))]; exact (f2 b hb).1
 obtain ⟨pg,pt,pe⟩:=hblk ⟨s3.heap.objs.size,fp,s3,upd H2 s2.heap.objs.size (.lst [])⟩
 have st4:tn 0 h4:=T.keep 0 _ _ st2 fun b _ o e=>k4 b o (k3 b o e)
 have after:∀ {i:Nat} {H':Hp} {s':Shared} {acc:List V} {σ':St},Inv (X.blk scope s3.heap.objs.size fp (loc ++ frn) s3 (upd H2 s2.heap.objs.size (.lst []))) [] σ' H' s'->Q (.ref s2.heap.objs.size) H' ->
   compPost (model X.prog X.w) X.A X.xe none (EP X pins σ Q) (.ref s2.heap.objs.size) s3.heap.objs.size (.ok .next) s':=by
  intro i H' s' acc σ' I5 q
  obtain ⟨m,hn,_⟩:=I5.loc
  refine ⟨m,hn,fun h' hb=>?_⟩
  have same:∀ b o,s3.heap.get? b=some o->h'.get? b=s'.heap.get? b:=fun b o e=>hb.2 b (aaI (Heap.lt_size e))
  have u:=I5.base
  have un:Un (frs X.stack) fp (upd H2 s2.heap.objs.size (.lst [])) H' s3.heap h':=⟨fun b o e n h1 h2=>(same b o e).trans (u.keep b o e n h1 h2),fun b o e n h1 h2=>by
    obtain ⟨sl,z⟩:=u.slot b o e n h1 h2
    exact ⟨sl,(same b o e).trans z⟩,u.free,fun b o e h1=>by
    obtain ⟨o',z⟩:=u.there b o e h1
    exact ⟨o',(same b o e).trans z⟩,u.tups,u.frzs,u.tbls⟩
  have hok:HOk X.prog X.w H' h':=fun b o e=>by
   have fC:H' s3.heap.objs.size=none:=I5.free
   refine (I5.hok b o e).stay (fun c w' hc z=>(hb.2 c ?_).trans z) (fun _ z=>z) fun _ _ z=>z
   rintro rfl
   rcases hc with rfl | hc
   ·rw [fC] at e; cases e
   ·rw [fC] at hc; cases hc
  exact ⟨.ref s2.heap.objs.size,H',I3.call' (s':={ s' with heap:=h' }) (ch:=fp) I5.os un hok I5.bare (fun b hb=>⟨(f2 b hb).2.2.2.1,(f2 b hb).2.1,(f2 b hb).2.2.2.2.1,(f2 b hb).2.2.2.2.2⟩),rfl,q⟩
 have loop:∀ s5:Shared,s5={ s3 with heap:=h4,toks:=s3.toks + ([]:List (Str × Value)).length } ->
   codeAny (model X.prog X.w) X.A (.compLoop (.ListComp elt [⟨tg,iter,ifs,0⟩] scope pos) 0 (.ref it) (.ref s2.heap.objs.size) (compEnvC scope (BS X.env scope.names []) s3.heap.objs.size X.env))
    (compPost (model X.prog X.w) X.A X.xe none (EP X pins σ Q) (.ref s2.heap.objs.size) s3.heap.objs.size) s5:=by
  rintro s5 rfl
  refine FG (fun n s'=>∃ i acc H',Inv (X.blk scope s3.heap.objs.size fp (loc ++ frn) s3 (upd H2 s2.heap.objs.size (.lst []))) [] (A8 loc.length fr σ) H' s'/\tn i s'.heap/\(∀ b ∈ fp,H' b=none)/\W i n acc H') ?_ m0
   ⟨0,[],_,I4,st4,fp3,w0⟩
  rintro n s6 ⟨i,acc,H6,I6,st6,fr6,w6⟩
  obtain ⟨hD,alt⟩:=turn i n acc H6 w6
  rcases alt with ⟨stop,q⟩ | ⟨go,step⟩
  ·refine thn (T.done (X.blk scope s3.heap.objs.size fp (loc ++ frn) s3 (upd H2 s2.heap.objs.size (.lst []))) rfl rfl rfl hc i [] s6 _ H6 (fun _ _=>False) I6 (stat fr6) st6 stop) fun r s7 ⟨hr,I7⟩=>?_
   subst hr
   exact after (i:=i) (acc:=acc) I7 q
  ·refine thn (T.item (X.blk scope s3.heap.objs.size fp (loc ++ frn) s3 (upd H2 s2.heap.objs.size (.lst []))) rfl rfl rfl hc i [] s6 _ H6 (fun _ _=>False) I6 (stat fr6) st6 go) fun r s7 ⟨u,hr,h7⟩=>?_
   subst hr
   refine thn h7 fun _ s8 ⟨x,H8,I8,r8,y8,st8,fr8⟩=>?_
   have I8':=I8.pinned (stat fr8) (T.obj _ _ st8)
   have back:∀ {σ9:St} {H9:Hp} {s9:Shared},Inv (X.blk scope s3.heap.objs.size fp (loc ++ frn) s3 (upd H2 s2.heap.objs.size (.lst []))) ([] ++ E4 fp s8.heap) σ9 H9 s9->σ9.length=(A8 loc.length fr σ).length->(∀ i,loc.length<=i->σ9[i]?=(A8 loc.length fr σ)[i]?) ->
     Inv (X.blk scope s3.heap.objs.size fp (loc ++ frn) s3 (upd H2 s2.heap.objs.size (.lst []))) [] (A8 loc.length fr σ) H9 s9/\tn (i + 1) s9.heap/\(∀ b ∈ fp,H9 b=none):=by
    intro σ9 H9 s9 I9 hl hk
    refine ⟨(I9.unpinned).weak hl.symm fun j v ej=>?_,T.keep _ _ _ st8 fun b hb o e=>(I9.pin (b,o) (aan _ (aan _ (Ch hb e)))).1,fun b hb=>?_⟩
    ·by_cases hj:j < loc.length
     ·unfold A8 at ej
      rw [aaK (by simpa using hj),aaR] at ej
      split at ej <;> cases ej
     ·rw [hk j (aaU hj)]; exact ej
    ·obtain ⟨o,e,d⟩:=T.obj _ _ st8 b hb
     exact (I9.pin (b,o) (aan _ (aan _ (Ch hb e)))).2.1
   refine thn (pg _ s8 _ H8 x u _ I8' r8 (hgk _ _ _ _ _ (step x H8 y8))) fun _ s9 ⟨σ9,H9,I9,q9,l9,k9⟩=>?_
   refine thn (pt _ s9 σ9 H9 _ I9 q9) fun ok s10 ⟨H10,I10,q10⟩=>?_
   cases ok with
   | false =>
    rw [if_neg (by decide)] at q10 ⊢
    obtain ⟨m',hm,w'⟩:=q10
    obtain ⟨b1,b2,b3⟩:=back I10 l9 k9
    exact ⟨m',hm,i + 1,acc,H10,b1,b2,b3,w'⟩
   | true =>
    rw [if_pos rfl] at q10 ⊢
    refine thn (pe _ s10 σ9 H10 _ I10 q10) fun y s11 ⟨v,H11,I11,r11,hD11,hz,m',hm,w'⟩=>?_
    refine thn (EH _ s11 σ9 H11 (.ref s2.heap.objs.size) [v] (.ref s2.heap.objs.size) [y] (fun _ H12=>W (i + 1) m' (acc ++ [v]) H12) I11 rfl (.cons r11 .nil) ⟨_,acc,v,rfl,rfl,hD11,hz,w'⟩) fun _ s12 ⟨_,H12,I12,_,w12⟩=>?_
    obtain ⟨b1,b2,b3⟩:=back I12 l9 k9
    exact ⟨m',hm,i + 1,_,H12,b1,b2,b3,w12⟩
 exact codeAny_compStart_list (loop _ rfl) (T.self X.A 0 _ _ _ st4 (loop _ rfl))
mutual
inductive RD (K:Frag) (H:Hp):V->PyData->Prop where
 | non:RD K H .non .none
 | bl (b:Bool):RD K H (.bl b) (.bool b)
 | int (i:Int):RD K H (.int i) (.int i)
 | str (x:Str):RD K H (.str x) (.str x)
 | lst {a:Addr} {xs:List V} {ds:List PyData} (h:SqL K H a xs) (r:RDs K H xs ds):RD K H (.ref a) (.list ds)
 | tup {a:Addr} {xs:List V} {ds:List PyData} (h:SqT K H a xs) (r:RDs K H xs ds):RD K H (.ref a) (.tuple ds)
inductive RDs (K:Frag) (H:Hp):List V->List PyData->Prop where
 | nil:RDs K H [] []
 | cons {x:V} {xs:List V} {d:PyData} {ds:List PyData} (h:RD K H x d) (r:RDs K H xs ds):RDs K H (x :: xs) (d :: ds)
end
section
variable {X:Cx} {pins:List (Addr × Obj)} {σ:St} {H:Hp} {s:Shared}
mutual
theorem RD.reads (I:Inv X pins σ H s):∀ {v:V} {d:PyData} {u:Value},RD X.K H v d->RelV v u->∃ as,Reads s.heap u d as
 | _,_,_,.non,r=>by cases (show _=Value.none from r); exact ⟨_,.none⟩
 | _,_,_,.bl b,r=>by cases (show _=Value.bool b from r); exact ⟨_,.bool b⟩
 | _,_,_,.int i,r=>by obtain ⟨t,q⟩:=(show ∃ t,_=Value.int i t from r); cases q; exact ⟨_,.int i t⟩
 | _,_,_,.str x,r=>by obtain ⟨t,q⟩:=(show ∃ t,_=Value.str x t from r); cases q; exact ⟨_,.str x t⟩
 | _,_,_,.lst (a:=a) h rs,r=>by
  cases (show _=Value.ref a from r)
  obtain ⟨its,rv,⟨o,n,hp,hc,_,hd⟩,_⟩:=I.list h
  obtain ⟨as,ra⟩:=RDs.reads I rs rv
  exact ⟨_,reads_list_at hp hc hd (by simpa using ra)⟩
 | _,_,_,.tup (a:=a) h rs,r=>by
  cases (show _=Value.ref a from r)
  obtain ⟨its,rv,⟨o,h1,h2,n,h3⟩,_⟩:=I.tuple h
  obtain ⟨as,ra⟩:=RDs.reads I rs rv
  exact ⟨_,reads_tuple_at h1 h2 h3 (by simpa using ra)⟩
theorem RDs.reads (I:Inv X pins σ H s):∀ {xs:List V} {ds:List PyData} {us:List Value},RDs X.K H xs ds->Vals xs us->∃ as,ReadsAll s.heap us ds as
 | _,_,_,.nil,.nil=>⟨_,.nil⟩
 | _,_,_,.cons h r,.cons q t=>by
  obtain ⟨as,e1⟩:=RD.reads I h q
  obtain ⟨bs,e2⟩:=RDs.reads I r t
  exact ⟨_,.cons e1 e2⟩
end
noncomputable def Sm (K:Frag) (neg:Bool):R2:=fun x y H Q=>∃ d e,RD K H x d/\RD K H y e/\SeqAt.shaped d=true/\SeqAt.shaped e=true/\Q (.bl (if neg then !d.eqv e else d.eqv e)) H
theorem Sn (hu:X.A.units + 64 < cLine):OpR X (compareOp .Eq) (Sm X.K false):=by
 intro pins s σ H x y u w' Q I rx ry h
 obtain ⟨d,e,h1,h2,s1,s2,q⟩:=h
 obtain ⟨_,r1⟩:=h1.reads I rx
 obtain ⟨_,r2⟩:=h2.reads I ry
 exact eq_dataH r1 r2 s1 s2 hu ⟨.bl (d.eqv e),H,I,rfl,q⟩
theorem So (hu:X.A.units + 64 < cLine):OpR X (compareOp .NotEq) (Sm X.K true):=by
 intro pins s σ H x y u w' Q I rx ry h
 obtain ⟨d,e,h1,h2,s1,s2,q⟩:=h
 obtain ⟨_,r1⟩:=h1.reads I rx
 obtain ⟨_,r2⟩:=h2.reads I ry
 exact ne_dataH r1 r2 s1 s2 hu ⟨.bl (!d.eqv e),H,I,rfl,q⟩
noncomputable def TZ (K:Frag):List V->Hp->VK->Prop:=fun xs H Q=>∃ (l:Addr) (bs:List Bool),xs=[.ref l]/\SqL K H l (bs.map V.bl)/\Q (.bl (bs.all id)) H
theorem HG (bs:List Bool):(aat bs.length).all (fun i=>bs.getD i false)=bs.all id:=by
 induction bs with
 | nil=>rfl
 | cons b r ih =>
  rw [aa5,abK,aaH,aaH,List.all_map,<- ih]
  rfl
theorem Na (hc:X.calm=true):C9 X (.builtin "all") (TZ X.K):=by
 intro pins s σ H xs us Q I r h
 obtain ⟨l,bs,rfl,hS,q⟩:=h
 obtain ⟨u,rfl,ru⟩:=Ga r
 cases (show u=Value.ref l from ru)
 obtain ⟨its,rr,p,_⟩:=I.list hS
 have hl:its.length=bs.length:=by rw [<- rr.length,aaa]
 refine call_all_walk (wpAny_pyIter_list p.isList ?_)
 have hne:l ≠ s.heap.objs.size:=(by obtain ⟨_,e,_⟩:=p.isList; exact aaI (Heap.lt_size e))
 refine ⟨_,_,_,_,_,_,fun i=>bs.getD i false,rfl,Walks.list (A:=X.A.in1) (I.ok.hd hc) s.heap.objs.size l hne its.toArray,?_,?_,?_⟩
 ·exact ⟨⟨_,Heap.get?_push_size _ rfl,rfl,rfl⟩,p.isList.push _⟩
 ·intro i v s' Q' E' hP hQ'
  have hv:v=Value.bool (bs.getD i false):=by
   have hP':its[i]?=some v:=by simpa using hP
   have hi:i < its.length:=(aaq.mp hP').1
   have hx:(bs.map V.bl)[i]?=some (V.bl (bs.getD i false)):=by
    rw [aaj,aas,aah (by omega)]
    rfl
   obtain ⟨u,e1,e2⟩:=rr.get hx
   rw [hP'] at e1
   cases e1
   exact e2
  subst hv
  exact wpAny_pure hQ'
 ·intro h' tk hk
  have e:(aat its.toArray.size).all (fun i=>bs.getD i false)=bs.all id:=by rw [aap,hl,HG]
  rw [e]
  exact ⟨.bl _,H,I.kept (h':=h') (t':=tk) (fun b o e=>hk b o (fun hm=>by
   have hm':b=s.heap.objs.size:=by simpa using hm
   exact aaL _ (hm' ▸ Heap.lt_size e)) (Heap.get?_push_of_some _ e)),rfl,q⟩
end
section
variable {P:Program} {w:World} {K:Frag} {mg:Str->Option Value} {base:Heap}
theorem Fun.okX {x qual:Str} {st:Stmt} {f:Addr} {fd:FuncData} {N ps:List Str} {k:Nat} {sp:Sp} (F:Fun K x qual st f fd) (S:FnScope N ps (Am st)) (len:∀ vs H Q E,sp vs H Q E->vs.length=ps.length)
  (hbody:∀ (f:Addr) (cdv:Value) (A:Around) (outer:List Env) (s:Shared) (H:Hp) (vs:List V) (Q:VK) (E:XK),Room k (A.deeper (envOfC qual (Am st) s.heap.objs.size f cdv))->sp vs H Q E ->
   ∃ t,PSs (BF (CXe P w) P w K mg base N qual (Am st) f cdv A outer s H E) (AN st) t/\t { nx:=fun _ H'=>Q .non H',rt:=Q } (AH N vs) H):FnOk P w K mg base (CXe P w) (k + 1) f fd ps sp:=by
 obtain ⟨oc,od,kV,doc,pm,an,cdv,ct,osl,rfl,lk,hcd⟩:=F.ex
 exact TW lk hcd S len fun A outer s H vs Q E hr hsp=>hbody f cdv A outer s H vs Q E hr hsp
noncomputable def Df (K:Frag) (mg:Str->Option Value) (x:Str) (st:Stmt) (ps:List Str):Prop:=∃ f fd,Fun K x x st f fd/\mg x=some (.ref f)/\Binds K fd ps []
noncomputable def Has (P:Program) (w:World) (K:Frag) (mg:Str->Option Value) (base:Heap) (x:Str) (k:Nat) (ps:List Str) (sp:Sp):Prop :=
 ∃ f fd,FnOk P w K mg base (CXe P w) k f fd ps sp/\mg x=some (.ref f)/\PySem.W.keepIn K (.ref f)=true/\Binds K fd ps []
theorem T0 {h:Heap} {x:Str} {st:Stmt} {ps:List Str} {f:Addr} {oc:Value} {od an:Option Addr} {osl:Array (Option Value)} {kV doc pm cdv ct:Value} (X:K.In h) (G:h.Ns mainGlobals mg) (a:nsIn K mainGlobals x=some (some (.ref f)))
  (l:K.lookup f=some ⟨oc,od,.func (PySem.W.fnOf x x (BX st) (AN st) (Am st) .none kV doc pm an cdv ct),osl⟩) (c:PySem.W.codeIn K cdv x=true) (k:PySem.W.keepIn K (.ref f)=true)
  (hb:∀ (kV doc pm:Value) (an:Option Addr) (cdv ct:Value) (us:List Value),us.length=ps.length->bindArgs (PySem.W.fnOf x x (BX st) (AN st) (Am st) .none kV doc pm an cdv ct) ⟨us,[]⟩=pure (ps.zip us)):Df K mg x st ps:=by
 have F:=M8 (st:=st) l c k
 exact ⟨f,_,F,mg_of X G a,F.binds hb⟩
end
section
variable {X:Cx} {k:Nat} {ps:List Str} {sp:Sp} {E:XK} {EX:EXT} {x:Str} {p pos:Pos} {e:Expr} {es:List Expr} {t:TA}
theorem Pw (F:Has X.prog X.w X.K X.mg X.base x k ps sp) (hr:Room k X.A) (hg:Gl X x) (hx:FF (CXe X.prog X.w) X EX) (ha:PA X (e :: es) t) (hdb:(x==("__debug__" : Str))=false:=by decide)
  (he:starEach (e :: es) X.env=(false,eval e X.env) :: starEach es X.env:=by rfl) (hpl:(backTo pos (starEach es X.env)).any (·.1)=false:=by rfl):PE X (.Call (.Name x p) (e :: es) [] pos) (M9 sp [] EX t):=by
 obtain ⟨f,fd,F,m,kp,b⟩:=F
 exact Oz F hr hg m kp b .nil hx ha hdb he hpl
end
theorem Same.new {H:Hp} {p:Addr} {o:HO} (h:H p=none):Same H (upd H p o):=fun b u e=>by rw [Ap (AJ e h)]; exact e
theorem Same.tup {K:Frag} {H H':Hp} {a:Addr} {xs:List V} (e:Same H H') (h:SqT K H a xs):SqT K H' a xs:=by
 rcases h with (h | ⟨o,h⟩) | h
 ·exact .inl (.inl (e _ _ h))
 ·exact .inl (.inr ⟨o,e _ _ h⟩)
 ·exact .inr h
mutual
theorem Same.rd {K:Frag} {H H':Hp} (e:Same H H'):∀ {x:V} {d:PyData},RD K H x d->RD K H' x d
 | _,_,.non=>.non
 | _,_,.bl b=>.bl b
 | _,_,.int i=>.int i
 | _,_,.str x=>.str x
 | _,_,.lst h r=>.lst (e.seq h) (Same.rds e r)
 | _,_,.tup h r=>.tup (e.tup h) (Same.rds e r)
theorem Same.rds {K:Frag} {H H':Hp} (e:Same H H'):∀ {xs:List V} {ds:List PyData},RDs K H xs ds->RDs K H' xs ds
 | _,_,.nil=>.nil
 | _,_,.cons h r=>.cons (Same.rd e h) (Same.rds e r)
end
theorem OA {X:Cx} {use:Option (Value->Sem Unit)} {R:Value->Shared->Prop} {ipos:Pos} {pins:List (Addr × Obj)} {s:Shared} {σ:St} {H:Hp} {Q:VK} {elt tg iter:Expr} {ifs:List Expr} {scope:Scope} {pos:Pos} {wi:TI} {gz:Bk->TG} {tcz:Bk->TT} {tez:Bk->TE} (loc:List Str) (fr:List Nat) (frn:List Str) (hc:X.calm=true) (hi:PI X tg iter wi)
  (hfr:∀ (j:Nat) (k:Nat) (x:Str),fr[j]?=some k->frn[j]?=some x->X.N[k]?=some x/\X.env.kindOf x=some .cell/\(x,NameKind.free) ∈ scope.names) (hln:frn.length=fr.length)
  (hcell:∀ y ∈ scope.names,y.2 ≠ .cell) (hkind:scope.kind=.function) (hnames:∀ y ∈ scope.names,y.2=.local->scope.names.lookup y.1=some .local) (hfree:∀ y ∈ scope.names,y.2=.free->X.env.kindOf y.1=some .cell)
  (hkin:∀ (x:Str),x ∈ frn->(relabel scope X.env).names.lookup x=some .cell) (hsc:X.env.scope.kind=.function)
  (hgk:∀ (z:Bk) (v:V) (σ:St) (H:Hp) (Q:St->Hp->Prop),gz z v σ H Q->gz z v σ H fun σ' H'=>Q σ' H'/\σ'.length=σ.length/\∀ i,loc.length<=i->σ'[i]?=σ[i]?)
  (hblk:∀ (z:Bk),PG (X.blk scope z.C z.fp (loc ++ frn) z.s z.H) tg (gz z)/\PTs (X.blk scope z.C z.fp (loc ++ frn) z.s z.H) ifs (tcz z)/\PE (X.blk scope z.C z.fp (loc ++ frn) z.s z.H) elt (tez z))
  (I:Inv X pins σ H s) (h:Gc loc.length fr wi gz tcz tez σ H Q)
  (haf:∀ (D C:Addr) (H':Hp) (s':Shared) (m:Str->Option Value),s'.heap.Ns C m->(∀ h',Heap.SameBut C s'.heap h'->Inv X pins σ H' { s' with heap:=h' }) ->
   (X.s₀.heap.objs.size<=C/\C ≠ X.env.locals/\(∀ x c,X.env.cells.lookup x=some c->c ≠ C)/\(∀ p ∈ X.pn ++ pins,p.1 ≠ C)/\H' C=none/\C ∉ frs X.stack)->Q (.ref D) H'->compPost (model X.prog X.w) X.A X.xe use R (.ref D) C (.ok .next) s')
  (hs:∀ x,foldedSetIterable iter X.env x=pure x):wpAny (model X.prog X.w) X.A (comprehension (.ListComp elt [⟨tg,iter,ifs,0⟩] scope pos) scope X.env ipos (newList []) false (eval iter X.env) use) R X.xe s:=by
 have hcs:∀ x ∈ scope.names,x.2=.free->(X.env.cells.lookup x.1).isSome=true:=fun x hx hf=>by
  obtain ⟨c,e⟩:=I.ok.has x.1 (.inl (hfree x hx hf))
  rw [e]; rfl
 refine wpAny_comprehension_free rfl hs (G9 hcs) hkind hnames (thn (hi pins s σ H _ I h) fun v s1 h1=>thn h1 fun itv s2 h2=>?_)
 obtain ⟨it,fp,tn,J,H2,rfl,I2,T,st2,f2,q2⟩:=h2
 refine wpAny_newList (items:=[]) ?_ (by simp)
 have eD:H2 s2.heap.objs.size=none:=I2.hok.fresh (aai _)
 have pk:∀ (o:Obj) b u,s2.heap.get? b=some u->(s2.heap.push o).get? b=some u:=fun o b u e=>Heap.get?_push_of_some _ e
 have I3:=I2.laid (a:=s2.heap.objs.size) (o:=.lst []) (t':=s2.toks) (h':=s2.heap.push { cls:=.type "list",data:=.seq ([]:List Value).toArray }) (pk _) (aai _)
  ⟨aaw _,[],0,.nil,Heap.get?_push_size _ rfl⟩
 generalize hs3:(⟨s2.heap.push { cls:=.type "list",data:=.seq ([]:List Value).toArray },s2.gens,s2.drawn,s2.toks,s2.os⟩:Shared)=s3 at I3 ⊢
 have k3:∀ b u,s2.heap.get? b=some u->s3.heap.get? b=some u:=fun b u e=>by rw [<- hs3]; exact pk _ b u e
 have tk3:s3.os=s2.os/\s3.gens=s2.gens:=by rw [<- hs3]; exact ⟨rfl,rfl⟩
 have z3:s3.heap.objs.size=s2.heap.objs.size + 1:=by rw [<- hs3]; exact Heap.size_push ..
 refine wpAny_newFunctionEnv hcell (by intro y hy; simp at hy) (fun h4 hns hsb=>?_) hkind
 have k4:∀ b u,s3.heap.get? b=some u->h4.get? b=some u:=fun b u e=>hsb.extBut b u (aaI (Heap.lt_size e)) (Heap.get?_push_of_some _ e)
 have fpl:∀ b ∈ fp,b < s2.heap.objs.size:=fun b hb=>by
  obtain ⟨o,e,_⟩:=T.obj 0 _ st2 b hb
  exact Heap.lt_size e
 obtain ⟨W,⟨m0,w0⟩,turn⟩:=q2 ⟨s3.heap.objs.size,fp,s3,upd H2 s2.heap.objs.size (.lst [])⟩ _ eD
 have ok4:(X.blk scope s3.heap.objs.size fp (loc ++ frn) s3 (upd H2 s2.heap.objs.size (.lst []))).Ok:=by
  refine ⟨I.ok.mod,hkind,I.ok.glob,I.ok.blt,aai _,fun x y c e1 e2=>I.ok.inj x y c (AW hcs e1) (AW hcs e2),fun x hx=>?_,fun x c z=>(nomatch z),I.ok.hd,I.ok.frames,.inl rfl,fun b hb=>⟨?_,fun x c e=>(f2 b hb).2.2.2.2.1 x c (AW hcs e)⟩,I3.bs,aaM I.ok.bsz I3.sz,
   fun b o e hb=>?_,fun b hb z=>?_,I3.stack,I3.stkFree⟩
  ·have hm:(x,NameKind.free) ∈ scope.names:=by
    have:∃ k',(k'=NameKind.cell\/k'=NameKind.free)/\(relabel scope X.env).names.lookup x=some k':=by
     rcases hx with z | z
     ·exact ⟨_,.inl rfl,z⟩
     ·exact ⟨_,.inr rfl,z⟩
    obtain ⟨k',hk',z⟩:=this
    have zm:=PySem.mem_of_lookup z
    unfold relabel at zm
    obtain ⟨⟨n,k⟩,hn,e⟩:=aaC.mp zm
    dsimp only at e
    split at e
    ·rename_i hk
     cases e
     have:k=NameKind.free:=by
      cases k <;> first | rfl | (simp at hk)
     rw [<- this]; exact hn
    ·cases e
     rcases hk' with rfl | rfl
     ·exact absurd rfl (hcell _ hn)
     ·exact hn
   obtain ⟨c,e⟩:=I.ok.has x (.inl (hfree _ hm rfl))
   exact ⟨c,DY hm hcs e⟩
  ·have:=fpl b hb
   exact aaI (by rw [z3]; exact Nat.lt_succ_of_lt this)
  ·rcases (f2 b hb).2.2.2.1 with z | z
   ·exact I.ok.noex b o e z
   ·exact absurd (aaA (Heap.lt_size (I.ok.bs b o e).1) z) (aaL _)
  ·have:=I2.stkSub b z
   rcases aal.mp this with rfl | y
   ·exact (f2 _ hb).2.1 rfl
   ·exact (f2 b hb).2.2.1 y
 have I4:Inv (X.blk scope s3.heap.objs.size fp (loc ++ frn) s3 (upd H2 s2.heap.objs.size (.lst []))) [] (A8 loc.length fr σ) (upd H2 s2.heap.objs.size (.lst [])) { s3 with heap:=h4,toks:=s3.toks + ([]:List (Str × Value)).length }:=by
  refine ⟨ok4,rfl,I3.bare,Un.kept k4,⟨_,hns,fun i x v e1 e2 e3=>?_⟩,fun x c e=>?_,I3.hok.fresh (aai _),fun x c e=>I3.freeC x c (AW hcs e),fun p hp=>(nomatch hp),I3.hok.kept k4,?_⟩
  ·unfold A8 at e2
   by_cases hi:i < loc.length
   ·rw [aaK (by simpa using hi),aaR] at e2
    split at e2 <;> cases e2
   ·rw [aaD (by simpa using hi),aa2,aaj] at e2
    have e1':frn[i - loc.length]?=some x:=by
     have:(loc ++ frn)[i]?=some x:=e1
     rw [aaD (aaU hi)] at this
     exact this
    cases ek:fr[i - loc.length]? with
    | none=>rw [ek] at e2; cases e2
    | some k =>
     rw [ek] at e2
     have e2':(σ[k]?).join=some v:=Option.some.inj e2
     have e2'':σ[k]?=some (some v):=by
      cases q:σ[k]? with
      | none=>rw [q] at e2'; cases e2'
      | some y=>rw [q] at e2'; exact congrArg some e2'
     obtain ⟨n1,n2,n3⟩:=hfr _ k x ek e1'
     obtain ⟨m,_,hl⟩:=I3.loc
     obtain ⟨u,ru,lk⟩:=hl k x v n1 e2'' (.inr (.inl n2))
     refine ⟨u,ru,.inr ⟨.inl (hkin x (aae e1')),?_⟩⟩
     rcases lk with ⟨z,_⟩ | ⟨_,c,ec,ic⟩
     ·rw [n2] at z; cases z
     ·obtain ⟨o,ho,hd⟩:=ic
      exact ⟨c,DY n3 hcs ec,o,k4 _ _ ho,hd⟩
  ·obtain ⟨v,o,ho,hd⟩:=I3.cell x c (AW hcs e)
   exact ⟨v,o,k4 _ _ ho,hd⟩
  ·unfold A8
   show _=(loc ++ frn).length
   rw [aav,aav,aa2,aaa,hln]
 have stat:∀ {H':Hp},(∀ b ∈ fp,H' b=none)->∀ b ∈ fp,ER (X.blk scope s3.heap.objs.size fp (loc ++ frn) s3 (upd H2 s2.heap.objs.size (.lst []))) [] H' b:=fun hn b hb =>
  ⟨hn b hb,(ok4.exf b hb).1,ok4.exfs b hb,.inl hb,(ok4.exf b hb).2,fun p hp=>(nomatch hp)⟩
 have fp3:∀ b ∈ fp,(upd H2 s2.heap.objs.size (.lst [])) b=none:=fun b hb=>by
  rw [Ap (aaI (fpl b hb))]; exact (f2 b hb).1
 obtain ⟨pg,pt,pe⟩:=hblk ⟨s3.heap.objs.size,fp,s3,upd H2 s2.heap.objs.size (.lst [])⟩
 have st4:tn 0 h4:=T.keep 0 _ _ st2 fun b _ o e=>k4 b o (k3 b o e)
 have after:∀ {i:Nat} {H':Hp} {s':Shared} {acc:List V} {σ':St},Inv (X.blk scope s3.heap.objs.size fp (loc ++ frn) s3 (upd H2 s2.heap.objs.size (.lst []))) [] σ' H' s'->Q (.ref s2.heap.objs.size) H' ->
   compPost (model X.prog X.w) X.A X.xe use R (.ref s2.heap.objs.size) s3.heap.objs.size (.ok .next) s':=by
  intro i H' s' acc σ' I5 q
  obtain ⟨m,hn,_⟩:=I5.loc
  refine haf s2.heap.objs.size s3.heap.objs.size H' s' m hn (fun h' hb=>?_) ⟨I3.sz,ab9 I3.lt,fun x c e z=>?_,fun p hp z=>?_,I5.free,fun z=>?_⟩ q
  ·have same:∀ b o,s3.heap.get? b=some o->h'.get? b=s'.heap.get? b:=fun b o e=>hb.2 b (aaI (Heap.lt_size e))
   have u:=I5.base
   have un:Un (frs X.stack) fp (upd H2 s2.heap.objs.size (.lst [])) H' s3.heap h':=⟨fun b o e n h1 h2=>(same b o e).trans (u.keep b o e n h1 h2),fun b o e n h1 h2=>by
     obtain ⟨sl,z⟩:=u.slot b o e n h1 h2
     exact ⟨sl,(same b o e).trans z⟩,u.free,fun b o e h1=>by
     obtain ⟨o',z⟩:=u.there b o e h1
     exact ⟨o',(same b o e).trans z⟩,u.tups,u.frzs,u.tbls⟩
   have hok:HOk X.prog X.w H' h':=fun b o e=>by
    have fC:H' s3.heap.objs.size=none:=I5.free
    refine (I5.hok b o e).stay (fun c w' hc z=>(hb.2 c ?_).trans z) (fun _ z=>z) fun _ _ z=>z
    rintro rfl
    rcases hc with rfl | hc
    ·rw [fC] at e; cases e
    ·rw [fC] at hc; cases hc
   exact I3.call' (s':={ s' with heap:=h' }) (ch:=fp) I5.os un hok I5.bare (fun b hb=>⟨(f2 b hb).2.2.2.1,(f2 b hb).2.1,(f2 b hb).2.2.2.2.1,(f2 b hb).2.2.2.2.2⟩)
  ·obtain ⟨v,hcell⟩:=I3.cell x c e
   exact absurd (z ▸ hcell.lt) (aaL _)
  ·exact absurd (z ▸ Heap.lt_size (I3.pin p hp).1) (aaL _)
  ·rcases aal.mp (I3.stkSub _ z) with y | y
   ·exact absurd (y ▸ I3.lt) (aaL _)
   ·exact I3.nofs (aai _) y
 have loop:∀ s5:Shared,s5={ s3 with heap:=h4,toks:=s3.toks + ([]:List (Str × Value)).length } ->
   codeAny (model X.prog X.w) X.A (.compLoop (.ListComp elt [⟨tg,iter,ifs,0⟩] scope pos) 0 (.ref it) (.ref s2.heap.objs.size) (compEnvC scope (BS X.env scope.names []) s3.heap.objs.size X.env))
    (compPost (model X.prog X.w) X.A X.xe use R (.ref s2.heap.objs.size) s3.heap.objs.size) s5:=by
  rintro s5 rfl
  refine FG (fun n s'=>∃ i acc H',Inv (X.blk scope s3.heap.objs.size fp (loc ++ frn) s3 (upd H2 s2.heap.objs.size (.lst []))) [] (A8 loc.length fr σ) H' s'/\tn i s'.heap/\(∀ b ∈ fp,H' b=none)/\W i n acc H') ?_ m0
   ⟨0,[],_,I4,st4,fp3,w0⟩
  rintro n s6 ⟨i,acc,H6,I6,st6,fr6,w6⟩
  obtain ⟨hD,alt⟩:=turn i n acc H6 w6
  rcases alt with ⟨stop,q⟩ | ⟨go,step⟩
  ·refine thn (T.done (X.blk scope s3.heap.objs.size fp (loc ++ frn) s3 (upd H2 s2.heap.objs.size (.lst []))) rfl rfl rfl hc i [] s6 _ H6 (fun _ _=>False) I6 (stat fr6) st6 stop) fun r s7 ⟨hr,I7⟩=>?_
   subst hr
   exact after (i:=i) (acc:=acc) I7 q
  ·refine thn (T.item (X.blk scope s3.heap.objs.size fp (loc ++ frn) s3 (upd H2 s2.heap.objs.size (.lst []))) rfl rfl rfl hc i [] s6 _ H6 (fun _ _=>False) I6 (stat fr6) st6 go) fun r s7 ⟨u,hr,h7⟩=>?_
   subst hr
   refine thn h7 fun _ s8 ⟨x,H8,I8,r8,y8,st8,fr8⟩=>?_
   have I8':=I8.pinned (stat fr8) (T.obj _ _ st8)
   have back:∀ {σ9:St} {H9:Hp} {s9:Shared},Inv (X.blk scope s3.heap.objs.size fp (loc ++ frn) s3 (upd H2 s2.heap.objs.size (.lst []))) ([] ++ E4 fp s8.heap) σ9 H9 s9->σ9.length=(A8 loc.length fr σ).length->(∀ i,loc.length<=i->σ9[i]?=(A8 loc.length fr σ)[i]?) ->
     Inv (X.blk scope s3.heap.objs.size fp (loc ++ frn) s3 (upd H2 s2.heap.objs.size (.lst []))) [] (A8 loc.length fr σ) H9 s9/\tn (i + 1) s9.heap/\(∀ b ∈ fp,H9 b=none):=by
    intro σ9 H9 s9 I9 hl hk
    refine ⟨(I9.unpinned).weak hl.symm fun j v ej=>?_,T.keep _ _ _ st8 fun b hb o e=>(I9.pin (b,o) (aan _ (aan _ (Ch hb e)))).1,fun b hb=>?_⟩
    ·by_cases hj:j < loc.length
     ·unfold A8 at ej
      rw [aaK (by simpa using hj),aaR] at ej
      split at ej <;> cases ej
     ·rw [hk j (aaU hj)]; exact ej
    ·obtain ⟨o,e,d⟩:=T.obj _ _ st8 b hb
     exact (I9.pin (b,o) (aan _ (aan _ (Ch hb e)))).2.1
   refine thn (pg _ s8 _ H8 x u _ I8' r8 (hgk _ _ _ _ _ (step x H8 y8))) fun _ s9 ⟨σ9,H9,I9,q9,l9,k9⟩=>?_
   refine thn (pt _ s9 σ9 H9 _ I9 q9) fun ok s10 ⟨H10,I10,q10⟩=>?_
   cases ok with
   | false =>
    rw [if_neg (by decide)] at q10 ⊢
    obtain ⟨m',hm,w'⟩:=q10
    obtain ⟨b1,b2,b3⟩:=back I10 l9 k9
    exact ⟨m',hm,i + 1,acc,H10,b1,b2,b3,w'⟩
   | true =>
    rw [if_pos rfl] at q10 ⊢
    refine thn (pe _ s10 σ9 H10 _ I10 q10) fun y s11 ⟨v,H11,I11,r11,hD11,hz,m',hm,w'⟩=>?_
    refine thn (EH _ s11 σ9 H11 (.ref s2.heap.objs.size) [v] (.ref s2.heap.objs.size) [y] (fun _ H12=>W (i + 1) m' (acc ++ [v]) H12) I11 rfl (.cons r11 .nil) ⟨_,acc,v,rfl,rfl,hD11,hz,w'⟩) fun _ s12 ⟨_,H12,I12,_,w12⟩=>?_
    obtain ⟨b1,b2,b3⟩:=back I12 l9 k9
    exact ⟨m',hm,i + 1,_,H12,b1,b2,b3,w12⟩
 exact codeAny_compStart_list (loop _ rfl) (T.self X.A 0 _ _ _ st4 (loop _ rfl))
theorem Inv.but {X:Cx} {pins:List (Addr × Obj)} {s:Shared} {σ:St} {H:Hp} {C:Addr} {h':Heap} (I:Inv X pins σ H s) (hC:X.s₀.heap.objs.size<=C/\C ≠ X.env.locals/\(∀ x c,X.env.cells.lookup x=some c->c ≠ C)/\(∀ p ∈ X.pn ++ pins,p.1 ≠ C)/\H C=none/\C ∉ frs X.stack)
  (hb:Heap.SameBut C s.heap h'):Inv X pins σ H { s with heap:=h' }:=by
 obtain ⟨h1,h2,h3,h4,h5,h6⟩:=hC
 have same:∀ b,b ∉ [C]->h'.get? b=s.heap.get? b:=fun b z=>hb.2 b (fun e=>z (by simp [e]))
 refine I.call' (s':={ s with heap:=h' }) (ch:=[C]) rfl ⟨fun b o e _ _ z=>(same b z).trans e,fun b o e _ _ z=>⟨o.slots,(same b z).trans e⟩,fun b o e n z=>n,fun b o e z=>⟨o,(same b z).trans e⟩,fun _ _ e=>e,fun _ _ _ e=>e,fun _ ps e=>⟨#[],by simpa using e⟩⟩ ?_ I.bare
  (fun b z=>by
   have:b=C:=by simpa using z
   subst this
   exact ⟨.inr h1,h2,h3,h4⟩)
 intro b o e
 refine (I.hok b o e).stay (fun c w' hc z=>(hb.2 c ?_).trans z) (fun _ z=>z) fun _ _ z=>z
 rintro rfl
 rcases hc with rfl | hc
 ·rw [h5] at e; cases e
 ·rw [h5] at hc; cases hc
theorem Ha {X:Cx} {elt tg iter:Expr} {ifs:List Expr} {scope:Scope} {pos spos py:Pos} {y:Str} {k:Nat} {wi:TI} {gz:Bk->TG} {tcz:Bk->TT} {tez:Bk->TE} (loc:List Str) (fr:List Nat) (frn:List Str) (hc:X.calm=true) (hi:PI X tg iter wi)
  (hfr:∀ (j:Nat) (k:Nat) (x:Str),fr[j]?=some k->frn[j]?=some x->X.N[k]?=some x/\X.env.kindOf x=some .cell/\(x,NameKind.free) ∈ scope.names) (hln:frn.length=fr.length)
  (hcell:∀ y ∈ scope.names,y.2 ≠ .cell) (hkind:scope.kind=.function) (hnames:∀ y ∈ scope.names,y.2=.local->scope.names.lookup y.1=some .local) (hfree:∀ y ∈ scope.names,y.2=.free->X.env.kindOf y.1=some .cell)
  (hkin:∀ (x:Str),x ∈ frn->(relabel scope X.env).names.lookup x=some .cell) (hsc:X.env.scope.kind=.function)
  (hgk:∀ (z:Bk) (v:V) (σ:St) (H:Hp) (Q:St->Hp->Prop),gz z v σ H Q->gz z v σ H fun σ' H'=>Q σ' H'/\σ'.length=σ.length/\∀ i,loc.length<=i->σ'[i]?=σ[i]?)
  (hblk:∀ (z:Bk),PG (X.blk scope z.C z.fp (loc ++ frn) z.s z.H) tg (gz z)/\PTs (X.blk scope z.C z.fp (loc ++ frn) z.s z.H) ifs (tcz z)/\PE (X.blk scope z.C z.fp (loc ++ frn) z.s z.H) elt (tez z))
  (hs:∀ x,foldedSetIterable iter X.env x=pure x) (hN:X.N.Nodup) (hk:X.N[k]?=some y) (hx:Loc X.env.scope y) (hf:X.fn y=true\/X.env.scope.names.lookup y=some .local)
  (hsw:swapsWith (.ListComp elt [⟨tg,iter,ifs,0⟩] scope pos) (some (.Name y py)) spos.line X.env=pure true) :
  PS X (.Assign [.Name y py] (.ListComp elt [⟨tg,iter,ifs,0⟩] scope pos) spos) (GE (Gc loc.length fr wi gz tcz tez) (EG k)):=by
 intro pins s σ H D I h
 rw [exec_Assign_Name_used _ _ _ _ hsw]
 refine wpAny_bind (wpAny_standAt (wpAny_bind ?_))
 show wpAny _ X.A (do let _ <- comprehension (.ListComp elt [⟨tg,iter,ifs,0⟩] scope pos) scope X.env _ (newList []) false (eval iter X.env) (some (assign (.Name y py) X.env))) _ _ s
 refine wpAny_bind (wpAny_mono (OA (R:=fun _ s'=>SP X pins D .next s') loc fr frn hc hi hfr hln hcell hkind hnames hfree hkin hsc hgk hblk I h (fun D' C H' s' m hn hI hC q=>?_) hs) (fun _ s' hq=>wpAny_pure (wpAny_pure hq)) fun _ _ e=>e)
 have I7:Inv X pins σ H' s':=hI s'.heap ⟨rfl,fun _ _=>rfl⟩
 refine wpAny_assign_Name (Ik (v:=.ref D') I7 hN hk hx rfl (fun s8 I8 ⟨a,sb,ha⟩=>?_) hf)
 refine ⟨m,hn.sameBut sb ?_,fun h9 sb9=>⟨_,H',I8.but hC sb9,q⟩⟩
 rcases ha with rfl | ha
 ·exact hC.2.1
 ·exact fun z=>hC.2.2.1 _ _ ha z.symm
end L2
end
section
namespace L2
open PySem PySem.Spec PyProof.Rows PySem.W
section
variable {X:Cx} {pins:List (Addr × Obj)} {σ:St} {H:Hp} {s:Shared} {h':Heap}
theorem Inv.turnLaid {t':Nat} {ch:List Addr} {a:Addr} {o:HO} (I:Inv X pins σ H s) (k:∀ b u,b ∉ ch->s.heap.get? b=some u->h'.get? b=some u) (hf:∀ c ∈ ch,ER X pins H c) (ha:s.heap.objs.size<=a) (new:ObjOk X.prog X.w (upd H a o) h' a o) :
  Inv X pins σ (upd H a o) { s with heap:=h',toks:=t' }:=by
 have hn:=I.hok.fresh ha
 have nch:∀ b u,H b=some u->b ∉ ch:=fun b u e z=>by rw [(hf b z).1] at e; cases e
 have na:∀ b u,s.heap.get? b=some u->b ≠ a:=fun b u e z=>absurd (aaA (Heap.lt_size e) (z ▸ ha)) (aaL _)
 refine I.step (g':=s.gens) (d':=s.drawn) (ch:=ch) (fun b hb=>?_) (fun b o _ _ hc e _=>k b o hc e) (fun b o _ _ hc e _=>⟨o.slots,k b o hc e⟩) (fun b u _ e n=>by rw [Ap (na b u e)]; exact n)
  (fun b o hc e=>⟨o,k b o hc e⟩) (fun b xs e=>by rw [Ap (AJ e hn)]; exact e) (fun b u v e=>by rw [Ap (AJ e hn)]; exact e) (fun b ps e=>⟨#[],by rw [Ap (AJ e hn),e]; simp⟩) (fun m hm=>?_) (fun b u e=>?_) I.bare
 ·obtain ⟨f0,f1,f2,f3,f4,f5⟩:=hf b hb
  exact ⟨f3,f1,f4,f5⟩
 ·obtain ⟨o,es,ep,ho,r⟩:=hm
  exact ⟨o,es,ep,k _ o (fun z=>(hf _ z).2.1 rfl) ho,r⟩
 ·by_cases hb:b=a
  ·subst hb; rw [AS] at e; cases e; exact new
  ·rw [Ap hb] at e
   refine (I.hok b u e).stay (fun c v hc q=>k c v ?_ q) (fun c q=>by rw [Ap (AJ q hn)]; exact q) fun c xs q=>by rw [Ap (AJ q hn)]; exact q
   rcases hc with z | z
   ·rw [z]; exact nch b u e
   ·exact nch c _ z
theorem Inv.turnedL {t':Nat} {ch:List Addr} (I:Inv X pins σ H s) (k:∀ b u,b ∉ ch->s.heap.get? b=some u->h'.get? b=some u) (hf:∀ c ∈ ch,ER X pins H c):Inv X pins σ H { s with heap:=h',toks:=t' }:=by
 have nch:∀ b u,H b=some u->b ∉ ch:=fun b u e z=>by rw [(hf b z).1] at e; cases e
 refine I.step (g':=s.gens) (d':=s.drawn) (ch:=ch) (fun b hb=>?_) (fun b o _ _ hc e _=>k b o hc e) (fun b o _ _ hc e _=>⟨o.slots,k b o hc e⟩) (fun b u _ e n=>n)
  (fun b o hc e=>⟨o,k b o hc e⟩) (fun b xs e=>e) (fun b u v e=>e) (fun b ps e=>⟨#[],by rw [e]; simp⟩) (fun m hm=>?_) (fun b u e=>?_) I.bare
 ·obtain ⟨f0,f1,f2,f3,f4,f5⟩:=hf b hb
  exact ⟨f3,f1,f4,f5⟩
 ·obtain ⟨o,es,ep,ho,r⟩:=hm
  exact ⟨o,es,ep,k _ o (fun z=>(hf _ z).2.1 rfl) ho,r⟩
 ·refine (I.hok b u e).stay (fun c v hc q=>k c v ?_ q) (fun c q=>q) fun c xs q=>q
  rcases hc with z | z
  ·rw [z]; exact nch b u e
  ·exact nch c _ z
end
noncomputable def Ite (K:PySem.W.Frag) (a:Addr):It :=
 ⟨fun i H=>∃ xs x,SqL K H a xs/\xs[i]?=some x,fun i H v H'=>∃ t,H t=none/\v=.ref t/\∀ xs x,SqL K H a xs->xs[i]?=some x->H'=upd H t (.tup [.int i,x]),fun i H=>∃ xs,SqL K H a xs/\xs.length<=i⟩
theorem Nb {P:Program} {w:World} {K:PySem.W.Frag} {elts:List Expr} {k1:Nat} {pos:Pos} (a it e:Addr) (hne:e ≠ it):Turn P w K (.Tuple elts k1 pos) (Ite K a) [e,it] e (fun i h=>(∃ old,IsEnum h e it (i:Nat) old)/\h.IsListIter it a i) where
 mem:=by simp
 obj:=fun i h st b hb=>by
  obtain ⟨⟨old,st⟩,o,ho,c,d⟩:=st
  rcases aal.mp hb with rfl | hb
  ·exact ⟨_,st,fun v z=>by
    have z':Data.fields _=Data.cell v:=z
    cases z'⟩
  ·cases aaO.mp hb
   exact ⟨o,ho,fun v z=>by rw [d] at z; cases z⟩
 keep:=fun i h h' st k=>by
  obtain ⟨⟨old,st⟩,st2⟩:=st
  exact ⟨⟨old,k e (by simp) _ st⟩,st2.at fun o q=>k it (by simp) o q⟩
 item:=by
  intro X hP hw hK hc i pins s σ H E I hf st hg
  subst hP hw hK
  obtain ⟨xs,x,hq,hx⟩:=hg
  obtain ⟨its,rv,p,hz⟩:=I.list hq
  obtain ⟨u,hu,ru⟩:=rv.get hx
  obtain ⟨⟨old,st1⟩,st2⟩:=st
  have fe:=hf e (by simp)
  have fi:=hf it (by simp)
  refine wpAny_pyNext_enum_item st1 st2 p.isList (x:=u) (by simpa using hu) hne fun h' ho hit' hT hsz hk=>?_
  refine ⟨_,rfl,wpAny_letOwnedTupleGo_enum ho fun h2 he2 hs2=>?_⟩
  have lte:e < s.heap.objs.size:=Heap.lt_size st1
  have lti:it < s.heap.objs.size:=by obtain ⟨o,q,_⟩:=st2; exact Heap.lt_size q
  have hT2:h2.get? s.heap.objs.size=some { cls:=.type "tuple",data:=.seq #[.int i s.toks,u] }:=(hs2.2 _ (ab9 lte)).trans hT
  have I1:Inv X pins σ (upd H s.heap.objs.size (.tup [.int i,x])) { s with heap:=h2,toks:=s.toks + 1 }:=I.turnLaid (ch:=[e,it]) (fun b o hb q=>by
    have n1:b ≠ e:=fun z=>hb (by simp [z])
    have n2:b ≠ it:=fun z=>hb (by simp [z])
    exact (hs2.2 b n1).trans (hk b o n1 n2 q)) hf (aai _)
   ⟨by simp [sizeLine],[.int i s.toks,u],.cons ⟨s.toks,rfl⟩ (.cons ru .nil),⟨_,hT2,rfl,_,rfl⟩⟩
  refine ⟨.ref s.heap.objs.size,_,I1,rfl,⟨_,I.hok.fresh (aai _),rfl,fun ys y hy hyx=>?_⟩,⟨⟨u,?_⟩,hit'.at fun o q=>(hs2.2 it (Ne.symm hne)).trans q⟩,fun b hb=>?_⟩
  ·have:=I.list_inj hy hq
   subst this
   rw [hx] at hyx
   cases hyx
   rfl
  ·have:((i + 1:Nat):Int)=(i:Int) + 1:=by omega
   rw [this]; exact he2
  ·rw [Ap (fun z=>by
    subst z
    rcases aal.mp hb with q | q
    ·exact absurd lte (by rw [<- q]; exact aaL _)
    ·exact absurd lti (by rw [<- aaO.mp q]; exact aaL _))]
   exact (hf b hb).1
 done:=by
  intro X hP hw hK hc i pins s σ H E I hf st hg
  subst hP hw hK
  obtain ⟨xs,hq,hx⟩:=hg
  obtain ⟨its,rv,p,hz⟩:=I.list hq
  obtain ⟨⟨old,st1⟩,st2⟩:=st
  have hl:=rv.length
  refine wpAny_pyNext_enum_end (I.ok.hd hc) st1 st2 p.isList (by simp; omega) fun h' eb=>⟨rfl,I.turnedL (t':=s.toks) (ch:=[e,it]) (fun b o hb q=>eb b o (fun z=>hb (by simp [z])) q) hf⟩
 self:=fun _ _ _ _ _ st h=>let ⟨⟨_,st⟩,_⟩:=st; wpAny_pyIter_enum st h
section
variable {X:Cx}
theorem Ku {M:Model} {A:Around} {E:Value->Shared->Prop} {s:Shared} {Q:Value->Shared->Prop} {x:V} {v:Value} {d:Bool} (r:RelV x v) (h:Q (.bool (decide (x=.bl d))) s):wpAny M A (compareOp .Is v (.bool d)) Q E s:=by
 cases x with
 | non=>cases r; exact wpAny_pure h
 | bl c=>cases r; refine is_bool ?_; cases c <;> cases d <;> exact h
 | int _=>obtain ⟨t,rfl⟩:=r; exact wpAny_pure h
 | str _=>obtain ⟨t,rfl⟩:=r; exact wpAny_pure h
 | byt _=>obtain ⟨t,rfl⟩:=r; exact wpAny_pure h
 | flt _=>obtain ⟨t,rfl⟩:=r; exact wpAny_pure h
 | ref _=>cases r; exact wpAny_pure h
 | ty _=>cases r; exact wpAny_pure h
theorem HH {M:Model} {A:Around} {E:Value->Shared->Prop} {s:Shared} {Q:Value->Shared->Prop} {x:V} {v:Value} {d:Bool} (r:RelV x v) (h:Q (.bool (!decide (x=.bl d))) s):wpAny M A (compareOp .IsNot v (.bool d)) Q E s:=by
 cases x with
 | non=>cases r; exact wpAny_pure h
 | bl c=>cases r; refine isnot_bool ?_; cases c <;> cases d <;> exact h
 | int _=>obtain ⟨t,rfl⟩:=r; exact wpAny_pure h
 | str _=>obtain ⟨t,rfl⟩:=r; exact wpAny_pure h
 | byt _=>obtain ⟨t,rfl⟩:=r; exact wpAny_pure h
 | flt _=>obtain ⟨t,rfl⟩:=r; exact wpAny_pure h
 | ref _=>cases r; exact wpAny_pure h
 | ty _=>cases r; exact wpAny_pure h
noncomputable def UH (d:Bool) (ta:TE):TE:=fun σ H Q=>ta σ H fun x H1=>Q (.bl (decide (x=.bl d))) H1
noncomputable def T1 (d:Bool) (ta:TE):TE:=fun σ H Q=>ta σ H fun x H1=>Q (.bl (!decide (x=.bl d))) H1
theorem Nc {a:Expr} {ta:TE} {d:Bool} {j pos'} (ha:PE X a ta):PC X .Is a (.Constant (.bool d) j pos') (UH d ta):=by
 intro pins s σ H Q I h
 refine thn (ha pins s σ H _ I h) fun v s1 ⟨x,H1,I1,r1,q1⟩=>?_
 exact Constant_bool (Ku r1 ⟨.bl _,H1,I1,rfl,q1⟩)
theorem K2 {a:Expr} {ta:TE} {d:Bool} {j pos'} (ha:PE X a ta):PC X .IsNot a (.Constant (.bool d) j pos') (T1 d ta):=by
 intro pins s σ H Q I h
 refine thn (ha pins s σ H _ I h) fun v s1 ⟨x,H1,I1,r1,q1⟩=>?_
 exact Constant_bool (HH r1 ⟨.bl _,H1,I1,rfl,q1⟩)
noncomputable def Sq:V->List V->Hp->VK->Prop:=fun x xs H Q=>∃ (a:Addr) (ns:List Int) (v:Int) (j:Nat),x=.ref a/\xs=[.int v]/\Rd H a (.lst (ns.map V.int))/\(ns[j]?=some v/\∀ m,m < j->ns[m]? ≠ some v)/\Q (.int (j:Nat)) H
theorem EI:∀ {ns:List Int} {its:List Value},Vals (ns.map V.int) its->∀ (i:Nat) (y:Value),its[i]?=some y->∃ (x:Int) (t:Tok),ns[i]?=some x/\y=.int x t
 | [],its,h,i,y,e=>by cases h; simp at e
 | x :: r,its,h,i,y,e=>by
  cases h with
  | cons h1 h2 =>
   obtain ⟨t,rfl⟩:=h1
   cases i with
   | zero=>exact ⟨x,t,rfl,by simpa using e.symm⟩
   | succ i=>exact EI (ns:=r) h2 i y (by simpa using e)
theorem Jm:∀ {ns:List Int} {its:List Value},Vals (ns.map V.int) its->its.length=ns.length
 | [],its,h=>by cases h; rfl
 | x :: r,its,h=>by
  cases h with
  | cons h1 h2=>rw [aa5,aa5,Jm (ns:=r) h2]
noncomputable def Qd (k:Int):Value->Bool
 | .int a _=>a==k
 | _=>false
theorem OB:MtR X "list.index" Sq:=by
 intro pins s σ H x xs v us Q I rx rv h
 obtain ⟨a,ns,k,j,rfl,rfl,hR,⟨hj,hno⟩,q⟩:=h
 cases rx
 obtain ⟨u,rfl,ru⟩:=rv.one
 obtain ⟨tu,rfl⟩:=ru
 obtain ⟨its,n,hz,rel,dd,sl,ho⟩:∃ (its:List Value) (n:Nat),(ns.map V.int).length<=sizeLine/\Vals (ns.map V.int) its/\∃ dd sl,s.heap.get? a=some { cls:=.type "list",dict:=dd,data:=.seq its.toArray n,slots:=sl }:=by
  rcases hR with e | ⟨o,e⟩
  ·obtain ⟨hz,its,n,r,e⟩:=I.hok a _ e
   exact ⟨its,n,hz,r,_,_,e⟩
  ·obtain ⟨_,hz,its,n,r,e⟩:=I.hok a _ e
   exact ⟨its,n,hz,r,_,_,e⟩
 have hl:=Jm rel
 have hjl:j < its.length:=by rw [hl]; exact (aaq.mp hj).1
 have hz:ns.length<=sizeLine:=by rwa [aaa] at hz
 have hs:sizeLine=16777216:=rfl
 refine call_meets PySem.F.slot_list_index ⟨_,ho,rfl⟩ PySem.F.entry_list_index (PySem.F.args_list_index_2 _ _) (PySem.SeqAt.list_indexAt a _ n dd sl (.int k tu) (Qd k) j (by simpa using hjl) (by omega) ?_ ?_) ⟨ho,fun y hy=>?_,?_⟩
 ·obtain ⟨x,t,h1,h2⟩:=EI rel j its[j] (aah hjl)
  rw [hj] at h1
  cases h1
  rw [acq,h2]
  exact beq_self_eq_true k
 ·intro m hm hmj
  have hm:m < its.length:=by simpa using hm
  obtain ⟨x,t,h1,h2⟩:=EI rel m its[m] (aah hm)
  rw [acq,h2]
  show (x==k)=false
  rw [beq_eq_false_iff_ne]
  rintro rfl
  exact hno m hmj h1
 ·have:y ∈ its:=by simpa using hy
  obtain ⟨i,hi⟩:=abS this
  obtain ⟨x,t,_,rfl⟩:=EI rel i y hi
  exact PySem.SeqAt.EqAt.int_int x t k tu
 ·exact ⟨.int _,H,I.tok _,⟨_,rfl⟩,q⟩
noncomputable def GH (n:Nat) (i:Int):Nat:=if i < 0 then (i + (n:Int)).toNat else min i.toNat n
noncomputable def K3:V->List V->Hp->VK->Prop:=fun x vs H Q=>∃ l xs i y,x=.ref l/\vs=[.int i,y]/\H l=some (.lst xs)/\-(2 ^ 63)<=i/\i < 2 ^ 63/\xs.length < sizeLine/\Q .non (upd H l (.lst (xs.take (GH xs.length i) ++ y :: xs.drop (GH xs.length i))))
theorem Vals.tk {xs:List V} {us:List Value} (h:Vals xs us):∀ n,Vals (xs.take n) (us.take n)/\Vals (xs.drop n) (us.drop n):=by
 induction h with
 | nil=>intro n; cases n <;> exact ⟨.nil,.nil⟩
 | cons h1 h2 ih =>
  intro n
  cases n with
  | zero=>exact ⟨.nil,.cons h1 h2⟩
  | succ n=>exact ⟨.cons h1 (ih n).1,(ih n).2⟩
theorem Nf:MtM X "list.insert" K3:=by
 intro pins s σ H x vs v us Q I rx rv h
 obtain ⟨l,xs,i,y,rfl,rfl,hH,h1,h2,hz,q⟩:=h
 cases rx
 cases rv with
 | cons ra rb =>
  cases rb with
  | cons ru rc =>
   cases rc
   obtain ⟨t,rfl⟩:=ra
   rename_i u
   obtain ⟨z,its,n,r,hl,e⟩:=I.lstM hH
   refine call_meets PySem.F.slot_list_insert ⟨_,e,rfl⟩ PySem.F.entry_list_insert (PySem.F.args_list_insert_3 _ _ _) (PySem.AutoListH.list_insert_list_int_val_1 l its.toArray n i t u (by rw [fitsIndex_both h1 h2]; decide) (by rw [aap]; omega)) ⟨e,?_⟩
   refine ⟨.non,_,I.lset (its':=its.take (GH xs.length i) ++ u :: its.drop (GH xs.length i)) hH e ?_ ((r.tk _).1.append (.cons ru (r.tk _).2)) ?_,rfl,q⟩
   ·rw [hl]
    unfold GH
    simp
    generalize (if i < 0 then (i + (its.length:Int)).toNat else min i.toNat its.length)=k
    exact abr (by rw [aa4]; exact aai _)
   ·rw [aav,aa5,aa3,aa4]
    omega
end
noncomputable def LR (lo c:Int) (n:Nat):It:=⟨fun i _=>i < n,fun i H x H'=>H'=H/\x=.int (lo + i * c),fun i _=>n<=i⟩
theorem Kv {P:Program} {w:World} {K:PySem.W.Frag} {tg:Expr} (it:Addr) (lo c:Int) (n:Nat):Turn P w K tg (LR lo c n) [it] it (fun i h=>IsRangeIter h it (lo + (i:Nat) * c) ((n:Int) - (i:Nat)) c) where
 mem:=by simp
 obj:=fun i h st b hb=>by
  have e:b=it:=by simpa using hb
  subst e
  exact ⟨_,st,fun v z=>by
   have z':Data.fields _=Data.cell v:=z
   cases z'⟩
 keep:=fun i h h' st k=>k it (by simp) _ st
 item:=by
  intro X hP hw hK hc i pins s σ H E I hf st hg
  subst hP hw hK
  obtain ⟨f0,f1,f2,f3,f4,f5⟩:=hf it (by simp)
  have W:=Walks.range (prog:=X.prog) (w:=X.w) (I.ok.hd hc) it lo c n
  refine W.item i s _ _ hg st fun v h' tk hv st' kk=>?_
  obtain ⟨t,rfl⟩:=hv
  have I1:Inv X pins σ H { s with heap:=h',toks:=tk }:=I.turned (fun b o hb e=>kk b o (by simpa using hb) e) f0 f1 f3 f4 f5
  exact ⟨_,rfl,G2 (s:={ s with heap:=h',toks:=tk }) (n := "range_iterator") st' rfl rfl (by decide) ⟨.int (lo + i * c),H,I1,⟨t,rfl⟩,⟨rfl,rfl⟩,st',fun b hb=>(hf b hb).1⟩⟩
 done:=by
  intro X hP hw hK hc i pins s σ H E I hf st hg
  subst hP hw hK
  obtain ⟨f0,f1,f2,f3,f4,f5⟩:=hf it (by simp)
  exact wpAny_pyNext_range_end (I.ok.hd hc) st (by have:n<=i:=hg; omega) fun h' eb=>⟨rfl,I.turned (t':=s.toks) (fun b o hb e=>eb b o hb e) f0 f1 f3 f4 f5⟩
 self:=fun _ _ _ _ _ st h=>wpAny_pyIter_rangeiter st h
theorem Sr {a b c:Int} (hc:c ≠ 0):0<=Builtin.Range.rangeSize a b c:=by
 unfold Builtin.Range.rangeSize
 split
 ·split
  ·have:=Int.ediv_nonneg (a:=b - a - 1) (b:=c) (by omega) (by omega); omega
  ·omega
 ·split
  ·have:=Int.ediv_nonneg (a:=a - b - 1) (b:=-c) (by omega) (by omega); omega
  ·omega
end L2
end
section
namespace L2
open PySem PySem.Spec PyProof PyProof.Rows PySem.W
section
variable {prog:Program} {w:World} {A:Around} {E:Value->Shared->Prop}
theorem Ng {it l:Addr} {items:Array Value} (hne:l ≠ it):∀ (n i:Nat) (s:Shared) (Q:List Value->Shared->Prop),s.heap.IsListIter it l i->s.heap.IsList l items->i + n<=items.size->(∀ h',h'.IsListIter it l (i + n)->Heap.SameBut it s.heap h'->Q ((items.toList.drop i).take n) { s with heap:=h' })->wpAny (model prog w) A (draw (.ref it) n) Q E s
 | 0,i,s,Q,hit,_,_,hQ=>wpAny_pure (by simpa using hQ s.heap hit (Heap.SameBut.refl ..))
 | n + 1,i,s,Q,hit,hl,hle,hQ=>by
  have hz:i < items.size:=by omega
  show wpAny _ _ (pyNext (.ref it) >>= _) Q E s; refine wpAny_bind (wpAny_pyNext_list_item hit hl (x:=items[i]) (by simp [hz]) fun h1 hit1 hs1=>?_)
  have hl1:h1.IsList l items:=by
   obtain ⟨o,e,c⟩:=hl
   exact ⟨o,(hs1.2 l hne).trans e,c⟩
  refine wpAny_bind (wpAny_holding (Ng hne n (i + 1) _ _ hit1 hl1 (by omega) fun h2 hit2 hs2=>wpAny_pure ?_))
  have hd:items.toList.drop i=items[i] :: items.toList.drop (i + 1):=by simp [abi,hz]
  have:=hQ h2 (by rw [show i + (n + 1)=i + 1 + n by omega]; exact hit2) ⟨hs2.1.trans hs1.1,fun b hb=>(hs2.2 b hb).trans (hs1.2 b hb)⟩
  rw [hd,List.take_succ_cons] at this; exact this
theorem Qe {s:Shared} {l:Addr} {items:Array Value} {Q:List Value->Shared->Prop} (hh:A.handled=none) (hl:s.heap.IsList l items) (hQ:∀ h',Heap.ExtBut s.heap.objs.size s.heap h'->Q items.toList { s with heap:=h' }):wpAny (model prog w) A (unpackItems (.ref l) items.size none) Q E s:=by
 have hlt:l ≠ s.heap.objs.size:=by obtain ⟨o,ho,_⟩:=hl; exact aaI (Heap.lt_size ho)
 unfold unpackItems notIterableAtAll
 refine wpAny_bind (wpAny_bind (wpAny_specialOf hl.typeIs slot_list_iter.lookup (wpAny_pure ?_)))
 simp only [aaX,if_false]; refine wpAny_bind (wpAny_holding (wpAny_pyIter_list hl ?_))
 have hl0:(s.heap.push { cls:=.type "list_iterator",data:=.fields #[.ref l,.int 0 0] }).IsList l items:=by
  obtain ⟨o,e,c⟩:=hl
  exact ⟨o,Heap.get?_push_of_some _ e,c⟩
 refine wpAny_bind (wpAny_holding (Ng hlt items.size 0 _ _ ⟨_,Heap.get?_push_size _ rfl,rfl,rfl⟩ hl0 (by omega) fun h1 hit1 hs1=>?_))
 have hall:List.take items.size (List.drop 0 items.toList)=items.toList:=by
  rw [List.drop_zero]; exact abr (by simp)
 rw [hall,if_neg (by simp)]
 have hl1:h1.IsList l items:=by
  obtain ⟨o,e,c⟩:=hl0
  exact ⟨o,(hs1.2 l hlt).trans e,c⟩
 refine wpAny_bind (wpAny_holding (wpAny_pyNext_list_end hh hit1 hl1 (by simp) fun h2 he2=>?_))
 simp only [Option.isSome_none,aaX,if_false]
 exact wpAny_pure (hQ h2 fun b o hb e=>he2 b o hb ((hs1.2 b hb).trans (Heap.get?_push_of_some _ e)))
end
section
variable {X:Cx} {pos:Pos}
noncomputable def Su (K:PySem.W.Frag) (n:Nat) (t:TGs):TG:=fun v σ H Q=>∃ a xs,v=.ref a/\SqL K H a xs/\xs.length=n/\t xs σ H Q
theorem Sv {es:List Expr} {k:Nat} {t:TGs} {n:Nat} (hc:X.calm=true) (h:PGs X es t) (hn:(assignEach es X.env).length=n) (hst:(assignEach es X.env).findIdx? (·.1)=none):PG X (.Tuple es k pos) (Su X.K n t):=by
 intro pins s σ H v u Q I r hw
 obtain ⟨a,xs,rfl,hq,hl,hw⟩:=hw
 cases r
 obtain ⟨its,rv,pl,hz⟩:=I.list hq
 rw [assign_Tuple]
 refine wpAny_bind (wpAny_standAt ?_)
 unfold unpack
 rw [hst,hn,<- hl,rv.length,show its.length=its.toArray.size by simp]
 refine wpAny_bind (wpAny_holding (Qe (I.ok.hd hc) pl.isList fun h' hx=>?_))
 have I1:Inv X pins σ H { s with heap:=h' }:=I.kept (t':=s.toks) fun b o e=>hx b o (aaI (Heap.lt_size e)) e
 exact h pins _ σ H xs _ Q I1 (by simpa using rv) hw
end
end L2
end
section
namespace L2
open PySem PySem.Spec PyProof.Rows PySem.W
theorem Nh {P:Program} {w:World} {K:PySem.W.Frag} {tg:Expr} (it:Addr) (lo c:Int) (n:Nat):Turn P w K tg (LR lo c n) [it] it (fun i h=>IsLongIter h it (lo + (i:Nat) * c) ((n:Int) - (i:Nat)) c) where
 mem:=by simp
 obj:=fun i h st b hb=>by
  have e:b=it:=by simpa using hb
  subst e
  exact ⟨_,st,fun v z=>by
   have z':Data.fields _=Data.cell v:=z
   cases z'⟩
 keep:=fun i h h' st k=>k it (by simp) _ st
 item:=by
  intro X hP hw hK hc i pins s σ H E I hf st hg
  subst hP hw hK
  obtain ⟨f0,f1,f2,f3,f4,f5⟩:=hf it (by simp)
  have W:=Walks.longrange (prog:=X.prog) (w:=X.w) (I.ok.hd hc) it lo c n
  refine W.item i s _ _ hg st fun v h' tk hv st' kk=>?_
  obtain ⟨t,rfl⟩:=hv
  have I1:Inv X pins σ H { s with heap:=h',toks:=tk }:=I.turned (fun b o hb e=>kk b o (by simpa using hb) e) f0 f1 f3 f4 f5
  exact ⟨_,rfl,G2 (s:={ s with heap:=h',toks:=tk }) (n := "longrange_iterator") st' rfl rfl (by decide) ⟨.int (lo + i * c),H,I1,⟨t,rfl⟩,⟨rfl,rfl⟩,st',fun b hb=>(hf b hb).1⟩⟩
 done:=by
  intro X hP hw hK hc i pins s σ H E I hf st hg
  subst hP hw hK
  obtain ⟨f0,f1,f2,f3,f4,f5⟩:=hf it (by simp)
  exact wpAny_pyNext_long_end (I.ok.hd hc) st (by have:n<=i:=hg; omega) fun h' eb=>⟨rfl,I.turned (t':=s.toks) (fun b o hb e=>eb b o hb e) f0 f1 f3 f4 f5⟩
 self:=fun _ _ _ _ _ st h=>wpAny_pyIter_longiter st h
section
variable {X:Cx} {tg:Expr}
noncomputable def Sw (ta:TA):TI:=fun σ H R=>ta σ H fun vs H1=>∃ i j c:Int,vs=[.int i,.int j,.int c]/\(-(2 ^ 62)<=c/\c < 2 ^ 62)/\c ≠ 0/\R (LR i c (Builtin.Range.rangeSize i j c).toNat) H1
theorem LT {a b d:Expr} {ta:TA} {p pos:Pos} (hg:Gl X "range") (hm:X.mg "range" = none) (ha:PA X [a,b,d] ta) (hs:starEach [a,b,d] X.env=[(false,eval a X.env),(false,eval b X.env),(false,eval d X.env)]) (hs2:starEach [b,d] X.env=[(false,eval b X.env),(false,eval d X.env)]) :
  PI X tg (.Call (.Name "range" p) [a,b,d] [] pos) (Sw ta):=by
 intro pins s σ H R I h
 refine Call_ (E3 I hg hm boot_range (PyProof.Rows.callWith_type1 (thn (ha pos pins s σ H _ I h) fun us s1 ⟨vs,H1,I1,r1,q1⟩=>?_) (by rw [hs,hs2]) (by rw [hs2]; rfl)))
 obtain ⟨i,j,c,e,⟨q5,q6⟩,q0,q⟩:=q1
 subst e
 cases r1 with
 | cons r rr =>
  cases rr with
  | cons r' rr =>
   cases rr with
   | cons r2 rr =>
    cases rr
    obtain ⟨t,rfl⟩:=r
    obtain ⟨t',rfl⟩:=r'
    obtain ⟨t2,rfl⟩:=r2
    have e1:i + ((0:Nat):Int) * c=i:=by simp
    have e2:(((Builtin.Range.rangeSize i j c).toNat:Nat):Int) - ((0:Nat):Int)=Builtin.Range.rangeSize i j c:=by have:=Sr (a:=i) (b:=j) q0; omega
    have I2:Inv X pins σ H1 { s1 with heap:=s1.heap.push { cls:=.type "range",data:=.fields #[.int i t,.int j t',.int c t2] },toks:=s1.toks }:=I1.kept fun b o e=>Heap.get?_push_of_some _ e
    refine call_range_3 q0 ?_ (.inl (PyProof.noPylong_of_log2 ?_))
    ·cases hz:Builtin.Range.small i j c with
     | true =>
      refine wpAny_pyIter_range (IsRange.new ..) hz ?_
      refine ⟨(s1.heap.push { cls:=.type "range",data:=.fields #[.int i t,.int j t',.int c t2] }).objs.size,[(s1.heap.push { cls:=.type "range",data:=.fields #[.int i t,.int j t',.int c t2] }).objs.size],_,_,H1,rfl,I2.kept (t':=s1.toks) fun b o e=>Heap.get?_push_of_some _ e,Kv _ i c (Builtin.Range.rangeSize i j c).toNat,?_,fun b hb=>?_,q⟩
      ·show IsRangeIter _ _ (i + ((0:Nat):Int) * c) ((((Builtin.Range.rangeSize i j c).toNat:Nat):Int) - ((0:Nat):Int)) c
       rw [e1,e2]
       exact Heap.get?_push_size _ rfl
      ·have e:b=(s1.heap.push { cls:=.type "range",data:=.fields #[.int i t,.int j t',.int c t2] }).objs.size:=by simpa using hb
       subst e
       exact I2.fpOk (aai _) (I2.hok.fresh (aai _))
     | false =>
      refine wpAny_pyIter_longrange (IsRange.new ..) hz ?_
      refine ⟨(s1.heap.push { cls:=.type "range",data:=.fields #[.int i t,.int j t',.int c t2] }).objs.size,[(s1.heap.push { cls:=.type "range",data:=.fields #[.int i t,.int j t',.int c t2] }).objs.size],_,_,H1,rfl,I2.kept (t':=s1.toks) fun b o e=>Heap.get?_push_of_some _ e,Nh _ i c (Builtin.Range.rangeSize i j c).toNat,?_,fun b hb=>?_,q⟩
      ·show IsLongIter _ _ (i + ((0:Nat):Int) * c) ((((Builtin.Range.rangeSize i j c).toNat:Nat):Int) - ((0:Nat):Int)) c
       rw [e1,e2]
       exact Heap.get?_push_size _ rfl
      ·have e:b=(s1.heap.push { cls:=.type "range",data:=.fields #[.int i t,.int j t',.int c t2] }).objs.size:=by simpa using hb
       subst e
       exact I2.fpOk (aai _) (I2.hok.fresh (aai _))
    ·have:c.natAbs.log2 < 63:=(acE (by omega)).mpr (by omega)
     omega
end
end L2
end
section
namespace Pu
open PySem (Str)
inductive D where
 | non
 | bl (b:Bool)
 | int (i:Int)
 | str (x:Str)
 | tup (ds:List D)
 | lst (ds:List D)
 | exn (c:Nat)
inductive Res (α:Type) where
 | ok (a:α)
 | exc (c:Nat)
 | bad
namespace Res
noncomputable def bind {α β:Type}:Res α->(α->Res β)->Res β
 | .ok a,f=>f a
 | .exc c,_=>.exc c
 | .bad,_=>.bad
@[simp] theorem bind_ok {α β:Type} (a:α) (f:α->Res β):(Res.ok a).bind f=f a:=rfl
@[simp] theorem bind_exc {α β:Type} (c:Nat) (f:α->Res β):(Res.exc c:Res α).bind f=.exc c:=rfl
@[simp] theorem bind_bad {α β:Type} (f:α->Res β):(Res.bad:Res α).bind f=.bad:=rfl
theorem bind_eq_ok {α β:Type} {r:Res α} {f:α->Res β} {b:β} (h:r.bind f=.ok b):∃ a,r=.ok a/\f a=.ok b:=by
 cases r <;> simp_all
end Res
mutual
noncomputable def D.eqv:D->D->Bool
 | .non,.non=>true
 | .bl a,.bl b=>a==b
 | .bl a,.int j=>(if a then 1 else 0)==j
 | .int i,.bl b=>i==(if b then 1 else 0)
 | .int i,.int j=>i==j
 | .str x,.str y=>x==y
 | .lst xs,.lst ys=>D.eqvs xs ys
 | .tup xs,.tup ys=>D.eqvs xs ys
 | _,_=>false
noncomputable def D.eqvs:List D->List D->Bool
 | [],[]=>true
 | x :: xs,y :: ys=>D.eqv x y && D.eqvs xs ys
 | _,_=>false
end
noncomputable def D.shp:Nat->D->Bool
 | _,.non=>true
 | _,.bl _=>true
 | _,.int _=>true
 | _,.str x=>x.cps.all (· < 0x110000)
 | 0,.tup _=>false
 | 0,.lst _=>false
 | n + 1,.tup ds=>ds.all (D.shp n)
 | n + 1,.lst ds=>ds.all (D.shp n)
 | _,.exn _=>false
noncomputable def D.flat:Nat->Nat->D->Bool
 | 0,_,_=>false
 | _ + 1,_,.non=>true
 | _ + 1,_,.bl _=>true
 | _ + 1,_,.int _=>true
 | _ + 1,_,.str _=>true
 | _ + 1,_,.exn _=>true
 | m + 1,k,.tup ds=>ds.all (D.flat m k)
 | _ + 1,0,.lst _=>false
 | m + 1,k + 1,.lst ds=>ds.all (D.flat m k)
noncomputable abbrev LIM:Nat:=16777216
noncomputable abbrev Fr:=List (Option D)
structure Fn where
 name:Str
 ar:Nat
 lv:Nat
 dep:Nat
 den:List D->Res D
set_option genSizeOf false
set_option genSizeOfSpec false
set_option genInjectivity false
inductive B2 where
 | add | sub | mul | fdiv | mod | pow
 deriving DecidableEq
inductive C2 where
 | lt | le | gt | ge | eq | ne | inn | nin
 deriving DecidableEq
inductive Kd where
 | int | bool | str | list | tuple | dict | verr | cls (n:Nat)
 deriving DecidableEq
inductive Bi where
 | len | min | max | max3 | maxL | int | list | listL | all
 deriving DecidableEq
inductive Mt where
 | count | index
 deriving DecidableEq
inductive Tg where
 | nm (i:Nat)
 | tp (is:List Nat)
 deriving DecidableEq
mutual
inductive E where
 | nm (i:Nat)
 | cN
 | cB (b:Bool)
 | cI (i:Int)
 | cS (x:Str)
 | gl (x:Str) (d:D)
 | tup (es:Es)
 | lst (es:Es)
 | bin (o:B2) (a b:E)
 | neg (a:E)
 | not (a:E)
 | cmp (o:C2) (a b:E)
 | chain (o o':C2) (a b c:E)
 | isN (n:Bool) (a:E)
 | isB (n:Bool) (b:Bool) (a:E)
 | bo (and:Bool) (es:Es)
 | ifx (c a b:E)
 | ix (a i:E)
 | ixL (a i:E)
 | slc (a lo hi:E)
 | call (f:Fn) (es:Es)
 | callB (f:Fn) (es:Es)
 | bi (b:Bi) (es:Es)
 | isi (a:E) (k:Kd)
 | mt (m:Mt) (a:E) (es:Es)
 | comp0 (nl:Nat) (fr:List Nat) (tg:Tg) (it:It) (elt:E)
 | comp1 (nl:Nat) (fr:List Nat) (tg:Tg) (it:It) (cond elt:E)
inductive Es where
 | nil
 | cons (e:E) (r:Es)
inductive It where
 | seq (e:E)
 | seqL (e:E)
 | r1 (a:E)
 | r3w (a b c:E)
 | en (e:E)
end
noncomputable def get (δ:Fr) (i:Nat):Res D:=match δ[i]? with
 | some (some d)=>.ok d
 | _=>.bad
noncomputable def on1:List D->(D->Res D)->Res D
 | [a],f=>f a
 | _,_=>.bad
noncomputable def on2:List D->(D->D->Res D)->Res D
 | [a,b],f=>f a b
 | _,_=>.bad
noncomputable def on3:List D->(D->D->D->Res D)->Res D
 | [a,b,c],f=>f a b c
 | _,_=>.bad
noncomputable def Dt:D->(Int->Res D)->Res D
 | .int i,f=>f i
 | _,_=>.bad
noncomputable def By (a b:D) (f:Int->Int->Res D):Res D:=Dt a fun i=>Dt b fun j=>f i j
noncomputable def Du:D->(List D->Res D)->Res D
 | .lst ds,f=>f ds
 | .tup ds,f=>f ds
 | _,_=>.bad
noncomputable def LU:D->D->Res D
 | .int i,.int j=>.ok (.int (i + j))
 | .lst a,.lst b=>if a.length + b.length<=LIM then .ok (.lst (a ++ b)) else .bad
 | .str a,.str b=>if a.length + b.length<=LIM then .ok (.str (a ++ b)) else .bad
 | _,_=>.bad
noncomputable def Jn:D->D->Res D
 | .int i,.int j=>if (-(2 ^ 64) < i/\i < 2 ^ 64)\/(-(2 ^ 64) < j/\j < 2 ^ 64) then .ok (.int (i * j)) else if i.natAbs < 2 ^ 400/\j.natAbs < 2 ^ 400 then .ok (.int (i * j)) else .bad
 | .lst a,.int k=>if -(2 ^ 63)<=k/\k < 2 ^ 63/\a.length * k.toNat<=LIM then .ok (.lst (aag k.toNat a).flatten) else .bad
 | _,_=>.bad
noncomputable def b2:B2->D->D->Res D
 | .add,a,b=>LU a b
 | .sub,a,b=>By a b fun i j=>.ok (.int (i - j))
 | .mul,a,b=>Jn a b
 | .fdiv,a,b=>By a b fun i j=>if 0 < j/\j < 2 ^ 200 then .ok (.int (i / j)) else .bad
 | .mod,a,b=>By a b fun i j=>if 0 < j then .ok (.int (i % j)) else .bad
 | .pow,a,b=>By a b fun i j=>if 0<=j/\j<=1000000/\i.natAbs < 2 ^ 64 then .ok (.int (i ^ j.toNat)) else .bad
noncomputable def D.scal:D->Bool
 | .non | .bl _ | .int _ | .str _=>true
 | _=>false
noncomputable def inD (x:D) (ys:List D):Res Bool:=if D.shp 8 x && ys.all (D.shp 8) then .ok (ys.any fun y=>D.eqv y x) else .bad
noncomputable def c2:C2->D->D->Res D
 | .lt,a,b=>By a b fun i j=>.ok (.bl (decide (i < j)))
 | .le,a,b=>By a b fun i j=>.ok (.bl (decide (i<=j)))
 | .gt,a,b=>By a b fun i j=>.ok (.bl (decide (j < i)))
 | .ge,a,b=>By a b fun i j=>.ok (.bl (decide (j<=i)))
 | .eq,x,y=>if D.shp 8 x && D.shp 8 y then .ok (.bl (D.eqv x y)) else .bad
 | .ne,x,y=>if D.shp 8 x && D.shp 8 y then .ok (.bl (!D.eqv x y)) else .bad
 | .inn,x,y=>Du y fun ys=>(inD x ys).bind fun b=>.ok (.bl b)
 | .nin,x,y=>Du y fun ys=>(inD x ys).bind fun b=>.ok (.bl !b)
noncomputable def ixN (n:Nat) (i:Int):Option Nat:=if 0<=i then (if i < n then some i.toNat else none) else if -(n:Int)<=i then some (i + n).toNat else none
noncomputable def atD (ds:List D) (i:Int):Res D:=match (ixN ds.length i).bind (fun j=>ds[j]?) with
 | some d=>.ok d
 | none=>.bad
noncomputable def ixD:D->D->Res D
 | .lst ds,.int i=>atD ds i
 | .tup ds,.int i=>atD ds i
 | _,_=>.bad
noncomputable def Ej:D->D->Res D
 | .lst ds,.int i=>atD ds i
 | _,_=>.bad
noncomputable def Fk:D->D->Res D
 | .tup ds,.int i=>atD ds i
 | _,_=>.bad
noncomputable def sIx (n d:Nat):Option Int->Nat
 | none=>d
 | some v=>(if v < 0 then max (v + (n:Int)) 0 else min v (n:Int)).toNat
noncomputable def cut {α:Type} (xs:List α) (lo hi:Option Int):List α:=(xs.drop (sIx xs.length 0 lo)).take (sIx xs.length xs.length hi - sIx xs.length 0 lo)
noncomputable def Db:D->Res (Option Int)
 | .int i=>.ok (some i)
 | _=>.bad
noncomputable def Ci (n:Bool) (r:Res D):Res (Option Int):=if n then .ok none else r.bind Db
noncomputable def E.isCN:E->Bool
 | .cN=>true
 | _=>false
noncomputable def CZ:D->Option Int->Option Int->Res D
 | .lst ds,lo,hi=>.ok (.lst (cut ds lo hi))
 | .tup ds,lo,hi=>if ds.all D.scal=true/\¬ (sIx ds.length 0 lo=0/\sIx ds.length ds.length hi=ds.length) then .ok (.tup (cut ds lo hi)) else .bad
 | _,_,_=>.bad
noncomputable def BA:D->Res Bool
 | .non=>.ok false
 | .bl b=>.ok b
 | .int i=>.ok (i != 0)
 | .lst ds=>.ok (!ds.isEmpty)
 | .tup ds=>.ok (!ds.isEmpty)
 | _=>.bad
noncomputable def isa (c d:Nat):Bool:=c==d || d==0
noncomputable def dI:D->Bool
 | .int _=>true
 | .bl _=>true
 | _=>false
noncomputable def dB:D->Bool
 | .bl _=>true
 | _=>false
noncomputable def dS:D->Bool
 | .str _=>true
 | _=>false
noncomputable def dL:D->Bool
 | .lst _=>true
 | _=>false
noncomputable def dT':D->Bool
 | .tup _=>true
 | _=>false
noncomputable def dD:D->Bool
 | .exn c=>c==999
 | _=>false
noncomputable def dX:D->(Nat->Bool)->Res Bool
 | .exn c,f=>if c==999 then .bad else .ok (f c)
 | _,_=>.bad
noncomputable def C0 (d:D):Kd->Res Bool
 | .int=>.ok (dI d)
 | .bool=>.ok (dB d)
 | .str=>.ok (dS d)
 | .list=>.ok (dL d)
 | .tuple=>.ok (dT' d)
 | .dict=>.ok (dD d)
 | .verr=>dX d fun _=>true
 | .cls n=>dX d fun c=>isa c n
noncomputable def Bh:List D->Option (List Int)
 | []=>some []
 | .int i :: r=>(Bh r).map (i :: ·)
 | _=>none
noncomputable def AA:List D->Option (List Bool)
 | []=>some []
 | .bl i :: r=>(AA r).map (i :: ·)
 | _=>none
noncomputable def BG {α:Type}:Option α->Res α
 | some a=>.ok a
 | none=>.bad
noncomputable def DF:D->(List Int->Res D)->Res D
 | .lst ds,f=>(BG (Bh ds)).bind f
 | _,_=>.bad
noncomputable def CB:D->(List Bool->Res D)->Res D
 | .lst ds,f=>(BG (AA ds)).bind f
 | _,_=>.bad
noncomputable def ES:D->(List D->Res D)->Res D
 | .lst ds,f=>f ds
 | _,_=>.bad
noncomputable def ET:D->Res D
 | .int i=>.ok (.int i)
 | .bl b=>.ok (.int (if b then 1 else 0))
 | _=>.bad
noncomputable def biD:Bi->List D->Res D
 | .len,ds=>on1 ds fun d=>Du d fun ds=>.ok (.int ds.length)
 | .min,ds=>on2 ds fun a b=>By a b fun i j=>.ok (.int (min i j))
 | .max,ds=>on2 ds fun a b=>By a b fun i j=>.ok (.int (max i j))
 | .max3,ds=>on3 ds fun a b c=>By a b fun i j=>Dt c fun k=>.ok (.int (max (max i j) k))
 | .maxL,ds=>on1 ds fun d=>DF d fun ns=>(BG ns.max?).bind fun n=>.ok (.int n)
 | .int,ds=>on1 ds ET
 | .list,ds=>on1 ds fun d=>Du d fun ds=>.ok (.lst ds)
 | .listL,ds=>on1 ds fun d=>ES d fun ds=>.ok (.lst ds)
 | .all,ds=>on1 ds fun d=>CB d fun bs=>.ok (.bl (bs.all id))
noncomputable def GI (v:Int):List Int->Option Nat
 | []=>none
 | x :: r=>if x=v then some 0 else (GI v r).map (· + 1)
noncomputable def mtD:Mt->D->List D->Res D
 | .count,.lst ds,[.bl k]=>(BG (AA ds)).bind fun bs=>.ok (.int ((bs.filter (·==k)).length:Int))
 | .index,.lst ds,[.int v]=>(BG (Bh ds)).bind fun ns=>(BG (GI v ns)).bind fun j=>.ok (.int (j:Nat))
 | _,_,_=>.bad
noncomputable def FH:List Nat->List D->Fr->Option Fr
 | [],[],δ=>some δ
 | i :: is,d :: ds,δ=>FH is ds (δ.set i (some d))
 | _,_,_=>none
noncomputable def CN:Tg->D->Fr->Option Fr
 | .nm i,d,δ=>some (δ.set i (some d))
 | .tp is,.tup ds,δ=>FH is ds δ
 | .tp is,.lst ds,δ=>FH is ds δ
 | _,_,_=>none
noncomputable def A6 (f:D->Res (Option D)):List D->Res (List D)
 | []=>.ok []
 | d :: ds=>match f d with
  | .ok o=>(A6 f ds).bind fun r=>.ok (match o with | some x=>x :: r | none=>r)
  | _=>.bad
noncomputable def blk (nl:Nat) (fr:List Nat) (δ:Fr):Fr:=aag nl none ++ fr.map fun j=>(δ[j]?).join
noncomputable def Av (a b:Int):List D:=(aat (b - a).toNat).map fun (i:Nat)=>D.int (a + i)
noncomputable def DG:D->Res (List D)
 | .lst ds=>.ok ds
 | .tup ds=>.ok ds
 | _=>.bad
noncomputable def CC:D->Res (List D)
 | .lst ds=>.ok ds
 | _=>.bad
noncomputable def DR (i:Int):Bool:=decide (-(2 ^ 62)<=i) && decide (i < 2 ^ 62)
noncomputable def Sx:D->D->Res (List D)
 | .int a,.int b=>if DR a && DR b && decide ((b - a).toNat<=LIM) then .ok (Av a b) else .bad
 | _,_=>.bad
noncomputable def Ek (a:Int) (c:Int) (n:Nat):List D:=(aat n).map fun (i:Nat)=>D.int (a + i * c)
noncomputable def r3N (a b c:Int):Nat:=if 0 < c then ((b - a + c - 1) / c).toNat else ((a - b + (-c) - 1) / (-c)).toNat
noncomputable def LW:D->D->D->Res (List D)
 | .int a,.int b,.int c=>if DR c && decide (c ≠ 0) && decide (r3N a b c<=LIM) then .ok (Ek a c (r3N a b c)) else .bad
 | _,_,_=>.bad
noncomputable def BH (ds:List D):List D:=ds.zipIdx.map fun p=>.tup [.int p.2,p.1]
noncomputable def LX:D->Res (List D)
 | .lst ds=>.ok (BH ds)
 | _=>.bad
mutual
noncomputable def ev:E->Fr->Res D
 | .nm i,δ=>get δ i
 | .cN,_=>.ok .non
 | .cB b,_=>.ok (.bl b)
 | .cI i,_=>.ok (.int i)
 | .cS x,_=>.ok (.str x)
 | .gl _ d,_=>.ok d
 | .tup es,δ=>(evs es δ).bind fun ds=>.ok (.tup ds)
 | .lst es,δ=>(evs es δ).bind fun ds=>.ok (.lst ds)
 | .bin o a b,δ=>(ev a δ).bind fun x=>(ev b δ).bind fun y=>b2 o x y
 | .neg a,δ=>(ev a δ).bind fun x=>match x with | .int i=>.ok (.int (-i)) | _=>.bad
 | .not a,δ=>(ev a δ).bind fun x=>match x with | .bl b=>.ok (.bl !b) | _=>.bad
 | .cmp o a b,δ=>(ev a δ).bind fun x=>(ev b δ).bind fun y=>c2 o x y
 | .chain o o' a b c,δ=>(ev a δ).bind fun x=>(ev b δ).bind fun y=>(c2 o x y).bind fun r=>match r with
  | .bl true=>(ev c δ).bind fun z=>c2 o' y z
  | .bl false=>.ok (.bl false)
  | _=>.bad
 | .isN n a,δ=>(ev a δ).bind fun x=>.ok (.bl (match x with | .non=>!n | _=>n))
 | .isB n b a,δ=>(ev a δ).bind fun x=>.ok (.bl (match x with | .bl c=>(b==c) != n | _=>n))
 | .bo k es,δ=>evBo k es δ
 | .ifx c a b,δ=>((ev c δ).bind BA).bind fun t=>if t then ev a δ else ev b δ
 | .ix a i,δ=>(ev a δ).bind fun x=>(ev i δ).bind fun y=>ixD x y
 | .ixL a i,δ=>(ev a δ).bind fun x=>(ev i δ).bind fun y=>Ej x y
 | .slc a lo hi,δ=>(ev a δ).bind fun x=>(Ci lo.isCN (ev lo δ)).bind fun l=>(Ci hi.isCN (ev hi δ)).bind fun h=>CZ x l h
 | .call f es,δ=>(evs es δ).bind fun ds=>f.den ds
 | .callB f es,δ=>(evs es δ).bind fun ds=>(f.den ds).bind fun d=>if D.flat 9 f.dep d then .ok d else .bad
 | .bi b es,δ=>(evs es δ).bind fun ds=>biD b ds
 | .isi a k,δ=>(ev a δ).bind fun x=>(C0 x k).bind fun b=>.ok (.bl b)
 | .mt m a es,δ=>(ev a δ).bind fun x=>if dL x=true then (evs es δ).bind fun ds=>mtD m x ds else .bad
 | .comp0 nl fr tg it elt,δ=>(evI it δ).bind fun ds=>(A6 (fun d=>match CN tg d (blk nl fr δ) with
   | some δ'=>(ev elt δ').bind fun x=>.ok (some x)
   | none=>.bad) ds).bind fun r=>.ok (.lst r)
 | .comp1 nl fr tg it cond elt,δ=>(evI it δ).bind fun ds=>(A6 (fun d=>match CN tg d (blk nl fr δ) with
   | some δ'=>((ev cond δ').bind BA).bind fun t=>if t then (ev elt δ').bind fun x=>.ok (some x) else .ok none
   | none=>.bad) ds).bind fun r=>.ok (.lst r)
noncomputable def evs:Es->Fr->Res (List D)
 | .nil,_=>.ok []
 | .cons e r,δ=>(ev e δ).bind fun x=>(evs r δ).bind fun xs=>.ok (x :: xs)
noncomputable def evBo (k:Bool):Es->Fr->Res D
 | .nil,_=>.bad
 | .cons e .nil,δ=>ev e δ
 | .cons e (.cons e' r),δ=>(ev e δ).bind fun x=>match x with
  | .bl c=>if c=k then evBo k (.cons e' r) δ else .ok (.bl c)
  | _=>.bad
noncomputable def evI:It->Fr->Res (List D)
 | .seq e,δ=>(ev e δ).bind DG
 | .seqL e,δ=>(ev e δ).bind CC
 | .r1 a,δ=>(ev a δ).bind fun x=>Sx (.int 0) x
 | .r3w a b c,δ=>(ev a δ).bind fun x=>(ev b δ).bind fun y=>(ev c δ).bind fun z=>LW x y z
 | .en e,δ=>(ev e δ).bind LX
end
noncomputable def tv (e:E) (δ:Fr):Res Bool:=(ev e δ).bind BA
inductive Um where
 | append | extend | insert | pop | popAt | clear | reverse
 deriving DecidableEq
mutual
inductive S where
 | asg (x:Nat) (k:Nat) (e:E)
 | dem (x:Nat) (k:Nat)
 | dead (x:Nat)
 | asgT (xs:List Nat) (e:E)
 | mut (x:Nat) (path:List (Bool × E)) (m:Um) (es:Es)
 | expr (e:E)
 | iff (c:E) (a b:Ss)
 | wh (c:E) (b:Ss)
 | for_ (tg:Tg) (it:It) (b:Ss)
 | ret (e:E)
 | retT (es:Es)
 | raise (c:Nat) (es:Es)
inductive Ss where
 | nil
 | cons (s:S) (r:Ss)
end
inductive Out where
 | nxt (δ:Fr)
 | ret (d:D)
 | exc (c:Nat) (δ:Fr)
 | bad
noncomputable def evP:List (Bool × E)->Fr->Res (List (Bool × Int))
 | [],_=>.ok []
 | (t,e) :: r,δ=>match ev e δ with
  | .ok (.int i)=>(evP r δ).bind fun is=>.ok ((t,i) :: is)
  | _=>.bad
noncomputable def Cw (f:List D->Option (List D)):List (Bool × Int)->D->Option D
 | [],.lst ds=>(f ds).map D.lst
 | (false,i) :: r,.lst ds=>(ixN ds.length i).bind fun j=>(ds[j]?).bind fun d=>(Cw f r d).map fun d'=>.lst (ds.set j d')
 | (true,i) :: r,.tup ds=>(ixN ds.length i).bind fun j=>(ds[j]?).bind fun d=>(Cw f r d).map fun d'=>.tup (ds.set j d')
 | _,_=>none
noncomputable def FI (n:Nat) (i:Int):Nat:=(if i < 0 then max (i + (n:Int)) 0 else min i (n:Int)).toNat
noncomputable def un1 {α:Type}:List D->(D->Option α)->Option α
 | [d],f=>f d
 | _,_=>none
noncomputable def un0 {α:Type}:List D->Option α->Option α
 | [],r=>r
 | _,_=>none
noncomputable def T2 (ds:List D):D->Option (List D)
 | .lst es=>if ds.length + es.length<=LIM then some (ds ++ es) else none
 | _=>none
noncomputable def Py (ds:List D):List D->Option (List D)
 | [.int i,d]=>if ds.length < LIM/\-(2 ^ 63)<=i/\i < 2 ^ 63 then some (ds.take (FI ds.length i) ++ d :: ds.drop (FI ds.length i)) else none
 | _=>none
noncomputable def K4 (ds:List D):D->Option (List D)
 | .int i=>if -(2 ^ 63)<=i/\i < 2 ^ 63 then (ixN ds.length i).map fun j=>ds.eraseIdx j else none
 | _=>none
noncomputable def umD:Um->List D->List D->Option (List D)
 | .append,es,ds=>un1 es fun d=>if ds.length < LIM then some (ds ++ [d]) else none
 | .extend,es,ds=>un1 es (T2 ds)
 | .insert,es,ds=>Py ds es
 | .pop,es,ds=>un0 es (if ds=[] then none else some ds.dropLast)
 | .popAt,es,ds=>un1 es (K4 ds)
 | .clear,es,_=>un0 es (some [])
 | .reverse,es,ds=>un0 es (some ds.reverse)
noncomputable def upd (δ:Fr) (x:Nat) (f:D->Option D):Out:=match δ[x]? with
 | some (some d)=>match f d with
  | some d'=>.nxt (δ.set x (some d'))
  | none=>.bad
 | _=>.bad
noncomputable def Res.out {α:Type} (r:Res α) (δ:Fr) (f:α->Out):Out:=match r with
 | .ok a=>f a
 | .exc c=>.exc c δ
 | .bad=>.bad
@[simp] theorem Res.out_ok {α:Type} (a:α) (δ:Fr) (f:α->Out):(Res.ok a).out δ f=f a:=rfl
@[simp] theorem Res.out_exc {α:Type} (c:Nat) (δ:Fr) (f:α->Out):(Res.exc c:Res α).out δ f=.exc c δ:=rfl
@[simp] theorem Res.out_bad {α:Type} (δ:Fr) (f:α->Out):(Res.bad:Res α).out δ f=.bad:=rfl
noncomputable def Out.then (o:Out) (f:Fr->Out):Out:=match o with
 | .nxt δ=>f δ
 | .ret d=>.ret d
 | .exc c δ=>.exc c δ
 | .bad=>.bad
@[simp] theorem Out.then_nxt (δ:Fr) (f:Fr->Out):(Out.nxt δ).then f=f δ:=rfl
@[simp] theorem Out.then_ret (d:D) (f:Fr->Out):(Out.ret d).then f=.ret d:=rfl
@[simp] theorem Out.then_exc (c:Nat) (δ:Fr) (f:Fr->Out):(Out.exc c δ).then f=.exc c δ:=rfl
@[simp] theorem Out.then_bad (f:Fr->Out):Out.bad.then f=.bad:=rfl
noncomputable def AI (c:Fr->Res Bool) (b:Fr->Out):Nat->Fr->Out
 | 0,_=>.bad
 | n + 1,δ=>(c δ).out δ fun t=>if t then (b δ).then (AI c b n) else .nxt δ
noncomputable def A3 (tg:Tg) (b:Fr->Out):List D->Fr->Out
 | [],δ=>.nxt δ
 | d :: ds,δ=>match CN tg d δ with
  | some δ'=>(b δ').then (A3 tg b ds)
  | none=>.bad
noncomputable def FU:Nat:=1073741824
mutual
noncomputable def ex:S->Fr->Out
 | .dem _ _,δ=>.nxt δ
 | .dead _,δ=>.nxt δ
 | .asg x _ e,δ=>(ev e δ).out δ fun d=>.nxt (δ.set x (some d))
 | .asgT xs e,δ=>(ev e δ).out δ fun d=>match CN (.tp xs) d δ with
  | some δ'=>.nxt δ'
  | none=>.bad
 | .mut x p m es,δ=>match evP p δ,evs es δ with
  | .ok q,.ok ds=>upd δ x (Cw (umD m ds) q)
  | _,_=>.bad
 | .expr e,δ=>(ev e δ).out δ fun _=>.nxt δ
 | .iff c a b,δ=>(tv c δ).out δ fun t=>if t then exs a δ else exs b δ
 | .wh c b,δ=>AI (tv c) (exs b) FU δ
 | .for_ tg it b,δ=>(evI it δ).out δ fun ds=>A3 tg (exs b) ds δ
 | .ret e,δ=>(ev e δ).out δ fun d=>.ret d
 | .retT es,δ=>(evs es δ).out δ fun ds=>.ret (.tup ds)
 | .raise c es,δ=>(evs es δ).out δ fun _=>.exc c δ
noncomputable def exs:Ss->Fr->Out
 | .nil,δ=>.nxt δ
 | .cons s r,δ=>(ex s δ).then (exs r)
end
noncomputable def AH (n:Nat) (ds:List D):Fr:=ds.map some ++ aag (n - ds.length) none
noncomputable def run (n:Nat) (b:Ss) (ds:List D):Res D:=match exs b (AH n ds) with
 | .nxt _=>.ok .non
 | .ret d=>.ok d
 | .exc c _=>.exc c
 | .bad=>.bad
end Pu
end
section
namespace Pu
open PySem PySem.W L2
inductive T where
 | non
 | bl (b:Bool)
 | int (i:Int)
 | str (x:Str)
 | tup (a:Addr) (ts:List T)
 | lst (a:Addr) (ts:List T)
 | exn (a:Addr) (c:Nat)
noncomputable def T.val:T->V
 | .non=>.non
 | .bl b=>.bl b
 | .int i=>.int i
 | .str x=>.str x
 | .tup a _=>.ref a
 | .lst a _=>.ref a
 | .exn a _=>.ref a
mutual
noncomputable def T.dat:T->D
 | .non=>.non
 | .bl b=>.bl b
 | .int i=>.int i
 | .str x=>.str x
 | .tup _ ts=>.tup (T.dats ts)
 | .lst _ ts=>.lst (T.dats ts)
 | .exn _ c=>.exn c
noncomputable def T.dats:List T->List D
 | []=>[]
 | t :: r=>t.dat :: T.dats r
end
theorem T.dats_map:∀ ts:List T,T.dats ts=ts.map T.dat
 | []=>rfl
 | t :: r=>by simp [T.dats,T.dats_map r]
structure Px where
 K:Frag
 cl:Nat->Addr
 has:Nat->Bool
noncomputable def exO (p:Px) (a:Addr) (c:Nat):HO:=if c=999 then dO a else xO a (p.cl c)
theorem Sy {p:Px} {a:Addr} {c:Nat} (vs:List V):exO p a c ≠ .lst vs:=by
 unfold exO
 split
 ·intro e; cases e
 ·intro e; cases e
mutual
noncomputable def T.Ok (p:Px) (H:Hp):T->Prop
 | .tup a ts=>H a=some (.tup (ts.map T.val))/\T.Oks p H ts
 | .lst a ts=>Rd H a (.lst (ts.map T.val))/\T.Oks p H ts
 | .exn a c=>H a=some (exO p a c)/\(c=999\/p.has c=true)
 | .non=>True
 | .bl _=>True
 | .int _=>True
 | .str _=>True
noncomputable def T.Oks (p:Px) (H:Hp):List T->Prop
 | []=>True
 | t :: r=>t.Ok p H/\T.Oks p H r
noncomputable def T.adr:T->Nat->List Addr
 | .tup _ ts,k=>T.adrs ts k
 | .lst _ _,0=>[]
 | .lst a ts,k + 1=>a :: T.adrs ts k
 | .non,_=>[]
 | .bl _,_=>[]
 | .int _,_=>[]
 | .str _,_=>[]
 | .exn _ _,_=>[]
noncomputable def T.adrs:List T->Nat->List Addr
 | [],_=>[]
 | t :: r,k=>t.adr k ++ T.adrs r k
noncomputable def T.rest:T->Nat->List Addr
 | .tup _ ts,k=>T.rests ts k
 | .lst a ts,0=>a :: T.rests ts 0
 | .lst _ ts,k + 1=>T.rests ts k
 | .non,_=>[]
 | .bl _,_=>[]
 | .int _,_=>[]
 | .str _,_=>[]
 | .exn _ _,_=>[]
noncomputable def T.rests:List T->Nat->List Addr
 | [],_=>[]
 | t :: r,k=>t.rest k ++ T.rests r k
end
theorem T.ind {P:T->Prop} (h0:P .non) (h1:∀ b,P (.bl b)) (h2:∀ i,P (.int i)) (h3:∀ x,P (.str x)) (h4:∀ a ts,(∀ t ∈ ts,P t)->P (.tup a ts)) (h5:∀ a ts,(∀ t ∈ ts,P t)->P (.lst a ts)) (h6:∀ a c,P (.exn a c)):∀ t,P t
 | .non=>h0
 | .bl b=>h1 b
 | .int i=>h2 i
 | .str x=>h3 x
 | .tup a ts=>h4 a ts fun t h=>T.ind h0 h1 h2 h3 h4 h5 h6 t
 | .lst a ts=>h5 a ts fun t h=>T.ind h0 h1 h2 h3 h4 h5 h6 t
 | .exn a c=>h6 a c
termination_by t=>t
theorem T.oks_iff {p:Px} {H:Hp}:∀ {ts:List T},T.Oks p H ts ↔ ∀ t ∈ ts,t.Ok p H
 | []=>by simp [T.Oks]
 | t :: r=>by simp [T.Oks,T.oks_iff (ts:=r)]
theorem T.mem_adrs {a:Addr} {k:Nat}:∀ {ts:List T},a ∈ T.adrs ts k ↔ ∃ t ∈ ts,a ∈ t.adr k
 | []=>by simp [T.adrs]
 | t :: r=>by simp [T.adrs,T.mem_adrs (ts:=r)]
theorem T.mem_rests {a:Addr} {k:Nat}:∀ {ts:List T},a ∈ T.rests ts k ↔ ∃ t ∈ ts,a ∈ t.rest k
 | []=>by simp [T.rests]
 | t :: r=>by simp [T.rests,T.mem_rests (ts:=r)]
theorem T.adrs_append {k:Nat}:∀ {ts us:List T},T.adrs (ts ++ us) k=T.adrs ts k ++ T.adrs us k
 | [],us=>by simp [T.adrs]
 | t :: r,us=>by simp [T.adrs,T.adrs_append (ts:=r)]
theorem T.rests_append {k:Nat}:∀ {ts us:List T},T.rests (ts ++ us) k=T.rests ts k ++ T.rests us k
 | [],us=>by simp [T.rests]
 | t :: r,us=>by simp [T.rests,T.rests_append (ts:=r)]
theorem T.adr_zero:∀ t:T,t.adr 0=[]:=by
 refine T.ind rfl (fun _=>rfl) (fun _=>rfl) (fun _=>rfl) (fun a ts ih=>?_) (fun _ _ _=>by simp [T.adr]) (fun _ _=>rfl)
 simp only [T.adr]
 refine aaS.mpr fun b hb=>?_
 obtain ⟨t,ht,h⟩:=T.mem_adrs.mp hb
 rw [ih t ht] at h; cases h
theorem T.adrs_zero (ts:List T):T.adrs ts 0=[]:=by
 refine aaS.mpr fun b hb=>?_
 obtain ⟨t,ht,h⟩:=T.mem_adrs.mp hb
 rw [T.adr_zero] at h; cases h
theorem T.all_iff {a:Addr}:∀ (t:T) (k:Nat),a ∈ t.rest 0 ↔ a ∈ t.adr k\/a ∈ t.rest k:=by
 refine T.ind (by simp [T.rest,T.adr]) (by simp [T.rest,T.adr]) (by simp [T.rest,T.adr]) (by simp [T.rest,T.adr]) (fun b ts ih k=>?_) (fun b ts ih k=>?_) (by simp [T.rest,T.adr])
 ·simp only [T.rest,T.adr,T.mem_rests,T.mem_adrs]
  constructor
  ·rintro ⟨t,ht,h⟩
   rcases (ih t ht k).mp h with h | h
   ·exact .inl ⟨t,ht,h⟩
   ·exact .inr ⟨t,ht,h⟩
  ·rintro (⟨t,ht,h⟩ | ⟨t,ht,h⟩)
   ·exact ⟨t,ht,(ih t ht k).mpr (.inl h)⟩
   ·exact ⟨t,ht,(ih t ht k).mpr (.inr h)⟩
 ·cases k with
  | zero=>simp [T.adr]
  | succ k =>
   simp only [T.rest,T.adr,T.mem_rests,T.mem_adrs,aal]
   constructor
   ·rintro (h | ⟨t,ht,h⟩)
    ·exact .inl (.inl h)
    rcases (ih t ht k).mp h with h | h
    ·exact .inl (.inr ⟨t,ht,h⟩)
    ·exact .inr ⟨t,ht,h⟩
   ·rintro ((h | ⟨t,ht,h⟩) | ⟨t,ht,h⟩)
    ·exact .inl h
    ·exact .inr ⟨t,ht,(ih t ht k).mpr (.inl h)⟩
    ·exact .inr ⟨t,ht,(ih t ht k).mpr (.inr h)⟩
theorem T.alls_iff {a:Addr} (ts:List T) (k:Nat):a ∈ T.rests ts 0 ↔ a ∈ T.adrs ts k\/a ∈ T.rests ts k:=by
 simp only [T.mem_rests,T.mem_adrs]
 constructor
 ·rintro ⟨t,ht,h⟩
  rcases (T.all_iff t k).mp h with h | h
  ·exact .inl ⟨t,ht,h⟩
  ·exact .inr ⟨t,ht,h⟩
 ·rintro (⟨t,ht,h⟩ | ⟨t,ht,h⟩)
  ·exact ⟨t,ht,(T.all_iff t k).mpr (.inl h)⟩
  ·exact ⟨t,ht,(T.all_iff t k).mpr (.inr h)⟩
theorem T.rest_le {a:Addr}:∀ (t:T) {j j':Nat},j<=j'->a ∈ t.rest j'->a ∈ t.rest j:=by
 refine T.ind (by simp [T.rest]) (by simp [T.rest]) (by simp [T.rest]) (by simp [T.rest]) (fun b ts ih j j' hj h=>?_) (fun b ts ih j j' hj h=>?_) (by simp [T.rest])
 ·simp only [T.rest,T.mem_rests] at h ⊢
  obtain ⟨t,ht,h⟩:=h
  exact ⟨t,ht,ih t ht hj h⟩
 ·cases j' with
  | zero=>cases Nat.le_zero.mp hj; exact h
  | succ j' =>
   simp only [T.rest,T.mem_rests] at h
   obtain ⟨t,ht,h⟩:=h
   cases j with
   | zero=>exact aab _ (T.mem_rests.mpr ⟨t,ht,ih t ht (aaw _) h⟩)
   | succ j=>exact T.mem_rests.mpr ⟨t,ht,ih t ht (abL hj) h⟩
theorem T.adr_le {a:Addr}:∀ (t:T) {j j':Nat},j<=j'->a ∈ t.adr j->a ∈ t.adr j':=by
 refine T.ind (by simp [T.adr]) (by simp [T.adr]) (by simp [T.adr]) (by simp [T.adr]) (fun b ts ih j j' hj h=>?_) (fun b ts ih j j' hj h=>?_) (by simp [T.adr])
 ·simp only [T.adr,T.mem_adrs] at h ⊢
  obtain ⟨t,ht,h⟩:=h
  exact ⟨t,ht,ih t ht hj h⟩
 ·cases j with
  | zero=>simp [T.adr] at h
  | succ j =>
   cases j' with
   | zero=>omega
   | succ j' =>
    simp only [T.adr,aal,T.mem_adrs] at h ⊢
    rcases h with h | ⟨t,ht,h⟩
    ·exact .inl h
    ·exact .inr ⟨t,ht,ih t ht (abL hj) h⟩
noncomputable def T.Nd (t:T) (k:Nat):Prop:=(t.adr k).Nodup/\∀ a ∈ t.rest k,a ∉ t.adr k
noncomputable def T.Nds (ts:List T) (k:Nat):Prop:=(T.adrs ts k).Nodup/\∀ a ∈ T.rests ts k,a ∉ T.adrs ts k
theorem T.nd_zero (t:T):t.Nd 0:=by unfold T.Nd; rw [T.adr_zero]; exact ⟨List.nodup_nil,fun _ _ h=>nomatch h⟩
theorem T.nds_zero (ts:List T):T.Nds ts 0:=by unfold T.Nds; rw [T.adrs_zero]; exact ⟨List.nodup_nil,fun _ _ h=>nomatch h⟩
theorem T.nds_cons {t:T} {r:List T} {k:Nat}:T.Nds (t :: r) k ↔ t.Nd k/\T.Nds r k/\(∀ a ∈ t.adr k,a ∉ T.rests r 0)/\(∀ a ∈ T.adrs r k,a ∉ t.rest 0):=by
 unfold T.Nds T.Nd
 simp only [T.adrs,T.rests,acC,aaf]
 constructor
 ·rintro ⟨⟨n1,n2,n3⟩,h⟩
  refine ⟨⟨n1,fun a ha hb=>h a (.inl ha) (.inl hb)⟩,⟨n2,fun a ha hb=>h a (.inr ha) (.inr hb)⟩,fun a ha hb=>?_,fun a ha hb=>?_⟩
  ·rcases (T.alls_iff r k).mp hb with q | q
   ·exact n3 a ha a q rfl
   ·exact h a (.inr q) (.inl ha)
  ·rcases (T.all_iff t k).mp hb with q | q
   ·exact n3 a q a ha rfl
   ·exact h a (.inl q) (.inr ha)
 ·rintro ⟨⟨n1,h1⟩,⟨n2,h2⟩,c1,c2⟩
  refine ⟨⟨n1,n2,fun a ha b hb e=>?_⟩,fun a ha hb=>?_⟩
  ·subst e
   exact c1 a ha ((T.alls_iff r k).mpr (.inl hb))
  ·rcases ha with ha | ha <;> rcases hb with hb | hb
   ·exact h1 a ha hb
   ·exact c2 a hb ((T.all_iff t k).mpr (.inr ha))
   ·exact c1 a hb ((T.alls_iff r k).mpr (.inr ha))
   ·exact h2 a ha hb
theorem T.nd_down:∀ (t:T) {k:Nat},t.Nd (k + 1)->t.Nd k:=by
 have lists:∀ (ts:List T),(∀ t ∈ ts,∀ {k:Nat},t.Nd (k + 1)->t.Nd k)->∀ {k:Nat},T.Nds ts (k + 1)->T.Nds ts k:=by
  intro ts
  induction ts with
  | nil=>intro _ k _; exact ⟨by simp [T.adrs],by simp [T.rests]⟩
  | cons t r ih =>
   intro h k n
   obtain ⟨n1,n2,c1,c2⟩:=T.nds_cons.mp n
   exact T.nds_cons.mpr ⟨h t (aac ..) n1,ih (fun u hu=>h u (aab _ hu)) n2,fun a ha=>c1 a (T.adr_le t (abJ k) ha),fun a ha=>c2 a (by
    obtain ⟨u,hu,hq⟩:=T.mem_adrs.mp ha
    exact T.mem_adrs.mpr ⟨u,hu,T.adr_le u (abJ k) hq⟩)⟩
 refine T.ind (fun _=>by simp [T.Nd,T.adr]) (fun _ _=>by simp [T.Nd,T.adr]) (fun _ _=>by simp [T.Nd,T.adr]) (fun _ _=>by simp [T.Nd,T.adr]) (fun a ts ih k n=>?_) (fun a ts ih k n=>?_) (fun _ _ _=>by simp [T.Nd,T.adr])
 ·exact lists ts ih n
 ·cases k with
  | zero=>exact T.nd_zero _
  | succ k =>
   obtain ⟨n1,n2⟩:=n
   simp only [T.adr,T.rest,aaG] at n1 n2
   have:=lists ts ih (k:=k) ⟨n1.2,fun b hb hc=>n2 b hb (aab _ hc)⟩
   refine ⟨?_,?_⟩
   ·simp only [T.adr,aaG]
    refine ⟨fun h=>n1.1 ?_,this.1⟩
    obtain ⟨u,hu,hq⟩:=T.mem_adrs.mp h
    exact T.mem_adrs.mpr ⟨u,hu,T.adr_le u (abJ k) hq⟩
   ·intro b hb hc
    simp only [T.adr,T.rest,aal] at hb hc
    rcases hc with rfl | hc
    ·have h0:=(T.alls_iff ts (k + 1)).mp ((T.alls_iff ts k).mpr (.inr hb))
     rcases h0 with h0 | h0
     ·exact n1.1 h0
     ·exact n2 b h0 (aac ..)
    ·exact this.2 b hb hc
theorem T.nd_le (t:T) {k k':Nat} (h:k<=k') (n:t.Nd k'):t.Nd k:=by
 induction k' with
 | zero=>cases Nat.le_zero.mp h; exact n
 | succ k' ih =>
  rcases acx k (k' + 1) with q | q
  ·exact ih (Nat.le_of_lt_succ q) (T.nd_down t n)
  ·cases aci h q; exact n
theorem T.nds_le {ts:List T} {k k':Nat} (h:k<=k') (n:T.Nds ts k'):T.Nds ts k:=by
 have:=T.nd_le (.tup 0 ts) h (k':=k') n
 exact this
theorem T.Ok.keep' {p:Px} {H H':Hp}:∀ (t:T),(∀ a u,H a=some u->(a ∈ t.rest 0\/∀ vs,u ≠ .lst vs)->H' a=some u)->t.Ok p H->t.Ok p H':=by
 refine T.ind (P:=fun t=>(∀ a u,H a=some u->(a ∈ t.rest 0\/∀ vs,u ≠ .lst vs)->H' a=some u)->t.Ok p H->t.Ok p H') (fun _ h=>h) (fun _ _ h=>h) (fun _ _ h=>h) (fun _ _ h=>h) (fun a ts ih k h=>?_) (fun a ts ih k h=>?_) (fun a c k h=>?_)
 ·obtain ⟨h1,h2⟩:=h
  refine ⟨k _ _ h1 (.inr fun vs e=>nomatch e),T.oks_iff.mpr fun t ht=>ih t ht (fun b u e q=>k b u e ?_) (T.oks_iff.mp h2 t ht)⟩
  rcases q with q | q
  ·exact .inl (T.mem_rests.mpr ⟨t,ht,q⟩)
  ·exact .inr q
 ·obtain ⟨h1,h2⟩:=h
  refine ⟨?_,T.oks_iff.mpr fun t ht=>ih t ht (fun b u e q=>k b u e ?_) (T.oks_iff.mp h2 t ht)⟩
  ·rcases h1 with h1 | ⟨o,h1⟩
   ·exact .inl (k _ _ h1 (.inl (aac ..)))
   ·exact .inr ⟨o,k _ _ h1 (.inl (aac ..))⟩
  ·rcases q with q | q
   ·exact .inl (aab _ (T.mem_rests.mpr ⟨t,ht,q⟩))
   ·exact .inr q
 ·exact ⟨k _ _ h.1 (.inr Sy),h.2⟩
theorem T.Ok.keep {p:Px} {H H':Hp} {t:T} (k:∀ a u,H a=some u->(a ∈ t.rest 0\/∀ vs,u ≠ .lst vs)->H' a=some u) (h:t.Ok p H):t.Ok p H':=T.Ok.keep' t k h
theorem T.Ok.same {p:Px} {H H':Hp} {t:T} (s:Same H H') (h:t.Ok p H):t.Ok p H':=h.keep fun a u e _=>s a u e
theorem T.Oks.same {p:Px} {H H':Hp} {ts:List T} (s:Same H H') (h:T.Oks p H ts):T.Oks p H' ts:=T.oks_iff.mpr fun t ht=>(T.oks_iff.mp h t ht).same s
theorem T.Ok.at' {p:Px} {H:Hp} {a:Addr}:∀ (t:T),t.Ok p H->a ∈ t.rest 0->∃ vs,Rd H a (.lst vs):=by
 refine T.ind (P:=fun t=>t.Ok p H->a ∈ t.rest 0->∃ vs,Rd H a (.lst vs)) (fun _ h=>nomatch h) (fun _ _ h=>nomatch h) (fun _ _ h=>nomatch h) (fun _ _ h=>nomatch h) (fun b ts ih k h=>?_) (fun b ts ih k h=>?_) (fun _ _ _ h=>nomatch h)
 ·obtain ⟨t,ht,q⟩:=T.mem_rests.mp h
  exact ih t ht (T.oks_iff.mp k.2 t ht) q
 ·rcases aal.mp h with rfl | h
  ·exact ⟨_,k.1⟩
  ·obtain ⟨t,ht,q⟩:=T.mem_rests.mp h
   exact ih t ht (T.oks_iff.mp k.2 t ht) q
theorem T.Ok.at {p:Px} {H:Hp} {a:Addr} {t:T} (h:t.Ok p H) (m:a ∈ t.rest 0):∃ vs,Rd H a (.lst vs):=T.Ok.at' t h m
theorem Qf {H:Hp} {a:Addr} {u:HO} (h:Rd H a u):H a ≠ none:=by
 rcases h with h | ⟨o,h⟩ <;> rw [h] <;> simp
theorem T.Ok.dom {p:Px} {H:Hp} {a:Addr} {t:T} (h:t.Ok p H) (m:a ∈ t.rest 0):H a ≠ none:=by
 obtain ⟨vs,r⟩:=h.at m
 exact Qf r
theorem T.Ok.domk {p:Px} {H:Hp} {a:Addr} {t:T} {k:Nat} (h:t.Ok p H) (m:a ∈ t.adr k):H a ≠ none:=h.dom ((T.all_iff t k).mpr (.inl m))
end Pu
end
section
namespace Pu
open PySem PySem.Spec PyProof.Rows PySem.W L2
noncomputable def gj (c:Bool) (x:Nat × Nat):Option (Nat × Nat):=if c then some x else none
mutual
noncomputable def jk (tn:List Nat):E->Option (Nat × Nat)
 | .nm i=>match tn[i]? with
  | some j=>gj (decide (j < 90)) (j,0)
  | none=>none
 | .cN=>some (0,9)
 | .cB _=>some (0,9)
 | .cI _=>some (0,9)
 | .cS _=>some (0,9)
 | .gl _ d=>gj (D.scal d) (0,9)
 | .tup es=>jks tn es
 | .lst es=>(jks tn es).bind fun x=>some (if x.1=0 then (0,x.2 + 1) else (x.1 + 1,0))
 | .bin _ a b=>(jk tn a).bind fun x=>(jk tn b).bind fun y=>gj (decide (x.1<=1) && decide (y.1<=1)) (0,1)
 | .neg a=>(jk tn a).bind fun _=>some (0,9)
 | .not a=>(jk tn a).bind fun _=>some (0,9)
 | .cmp _ a b=>(jk tn a).bind fun _=>(jk tn b).bind fun _=>some (0,9)
 | .chain _ _ a b c=>(jk tn a).bind fun _=>(jk tn b).bind fun _=>(jk tn c).bind fun _=>some (0,9)
 | .isN _ a=>(jk tn a).bind fun _=>some (0,9)
 | .isB _ _ a=>(jk tn a).bind fun _=>some (0,9)
 | .bo _ es=>jks tn es
 | .ifx c a b=>(jk tn c).bind fun _=>(jk tn a).bind fun x=>(jk tn b).bind fun y=>some (max x.1 y.1,if max x.1 y.1=0 then min x.2 y.2 else 0)
 | .ix a i=>(jk tn a).bind fun x=>(jk tn i).bind fun _=>gj (decide (x.1=0)) (0,0)
 | .ixL a i=>(jk tn a).bind fun x=>(jk tn i).bind fun _=>some (x.1 - 1,0)
 | .slc a lo hi=>(jk tn a).bind fun x=>(jk tn lo).bind fun _=>(jk tn hi).bind fun _=>gj (decide (x.1<=1)) (0,1)
 | .call f es=>(jks tn es).bind fun x=>gj (decide (x.1=0)) (0,f.dep)
 | .callB f es=>(jks tn es).bind fun _=>some (0,9)
 | .bi b es=>(jks tn es).bind fun x=>match b with
  | .list=>gj (decide (x.1=0)) (0,1)
  | .listL=>gj (decide (x.1<=1)) (0,1)
  | _=>some (0,9)
 | .isi a _=>(jk tn a).bind fun _=>some (0,9)
 | .mt _ a es=>(jk tn a).bind fun _=>(jks tn es).bind fun _=>some (0,9)
 | .comp0 nl fr _ it elt=>(jkI tn it).bind fun _=>(jk (aag nl 0 ++ fr.map fun j=>tn.getD j 99) elt).bind fun x=>gj (decide (x.1=0)) (0,x.2 + 1)
 | .comp1 nl fr _ it cond elt=>(jkI tn it).bind fun _=>(jk (aag nl 0 ++ fr.map fun j=>tn.getD j 99) cond).bind fun _ =>
   (jk (aag nl 0 ++ fr.map fun j=>tn.getD j 99) elt).bind fun x=>gj (decide (x.1=0)) (0,x.2 + 1)
noncomputable def jks (tn:List Nat):Es->Option (Nat × Nat)
 | .nil=>some (0,9)
 | .cons e r=>(jk tn e).bind fun x=>(jks tn r).bind fun y=>some (max x.1 y.1,if max x.1 y.1=0 then min x.2 y.2 else 0)
noncomputable def jkI (tn:List Nat):It->Option Nat
 | .seq e=>(jk tn e).bind fun x=>if x.1=0 then some 0 else none
 | .seqL e=>(jk tn e).bind fun x=>if x.1<=1 then some x.1 else none
 | .r1 a=>(jk tn a).bind fun _=>some 0
 | .r3w a b c=>(jk tn a).bind fun _=>(jk tn b).bind fun _=>(jk tn c).bind fun _=>some 0
 | .en e=>(jk tn e).bind fun x=>if x.1<=1 then some x.1 else none
end
noncomputable abbrev St:=L2.St
noncomputable abbrev Ft:=List (Option T)
noncomputable def vτ (τ:Ft):St:=τ.map (Option.map T.val)
noncomputable def dτ (τ:Ft):Fr:=τ.map (Option.map T.dat)
noncomputable def Fok (p:Px) (tn:List Nat) (τ:Ft) (H:Hp):Prop:=∀ (i:Nat) (t:T) (j:Nat),τ[i]?=some (some t)->tn[i]?=some j->j < 90->t.Ok p H
noncomputable def Sh (tn:List Nat) (τ:Ft) (a:Addr):Prop:=∃ (i:Nat) (t:T) (j:Nat),τ[i]?=some (some t)/\tn[i]?=some j/\j < 90/\a ∈ t.rest j
theorem Fok.same {p:Px} {tn:List Nat} {τ:Ft} {H H':Hp} (h:Fok p tn τ H) (s:Same H H'):Fok p tn τ H':=fun i t j e e' l=>(h i t j e e' l).same s
theorem Fok.dom {p:Px} {tn:List Nat} {τ:Ft} {H:Hp} (h:Fok p tn τ H) {a:Addr} (s:Sh tn τ a):H a ≠ none:=by
 obtain ⟨i,t,j,e,e',l,m⟩:=s
 exact (h i t j e e' l).dom (T.rest_le t (aaw j) m)
theorem Dv {τ:Ft} {i:Nat} {t:T} (h:τ[i]?=some (some t)):(vτ τ)[i]?=some (some t.val):=by simp [vτ,h]
theorem Ec {τ:Ft} {i:Nat} {d:D} (h:get (dτ τ) i=.ok d):∃ t,τ[i]?=some (some t)/\t.dat=d:=by
 unfold get dτ at h
 rw [aaj] at h
 cases q:τ[i]? with
 | none=>rw [q] at h; cases h
 | some o =>
  rw [q] at h
  cases o with
  | none=>cases h
  | some t=>exact ⟨t,rfl,by simpa using h⟩
structure Rs (p:Px) (B:Addr->Prop) (H H':Hp) (j k:Nat) (t:T):Prop where
 same:Same H H'
 ok:t.Ok p H'
 src:∀ a ∈ t.rest j,H a=none\/B a
 new:∀ a ∈ t.adr k,H a=none/\∃ vs,H' a=some (.lst vs)
 nd:t.Nd k
structure RsL (p:Px) (B:Addr->Prop) (H H':Hp) (j k:Nat) (ts:List T):Prop where
 same:Same H H'
 ok:T.Oks p H' ts
 src:∀ a ∈ T.rests ts j,H a=none\/B a
 new:∀ a ∈ T.adrs ts k,H a=none/\∃ vs,H' a=some (.lst vs)
 nd:T.Nds ts k
theorem Rs.back {p:Px} {B:Addr->Prop} {H H1 H2:Hp} {j k:Nat} {t:T} (r:Rs p B H1 H2 j k t) (s:Same H H1):Rs p B H H2 j k t :=
 ⟨s.trans r.same,r.ok,fun a m=>(r.src a m).imp s.free id,fun a m=>⟨s.free (r.new a m).1,(r.new a m).2⟩,r.nd⟩
theorem Rs.fwd {p:Px} {B:Addr->Prop} {H H1 H2:Hp} {j k:Nat} {t:T} (r:Rs p B H H1 j k t) (s:Same H1 H2):Rs p B H H2 j k t :=
 ⟨r.same.trans s,r.ok.same s,r.src,fun a m=>⟨(r.new a m).1,let ⟨vs,e⟩:=(r.new a m).2; ⟨vs,s _ _ e⟩⟩,r.nd⟩
theorem Rs.le {p:Px} {B:Addr->Prop} {H H1:Hp} {j k j' k':Nat} {t:T} (r:Rs p B H H1 j k t) (hj:j<=j') (hk:k'<=k):Rs p B H H1 j' k' t :=
 ⟨r.same,r.ok,fun a m=>r.src a (T.rest_le t hj m),fun a m=>r.new a (T.adr_le t hk m),T.nd_le t hk r.nd⟩
theorem RsL.back {p:Px} {B:Addr->Prop} {H H1 H2:Hp} {j k:Nat} {t:List T} (r:RsL p B H1 H2 j k t) (s:Same H H1):RsL p B H H2 j k t :=
 ⟨s.trans r.same,r.ok,fun a m=>(r.src a m).imp s.free id,fun a m=>⟨s.free (r.new a m).1,(r.new a m).2⟩,r.nd⟩
noncomputable def T.sc:T->Bool
 | .non=>true
 | .bl _=>true
 | .int _=>true
 | .str _=>true
 | _=>false
theorem Rs.scal {p:Px} {B:Addr->Prop} {H H':Hp} {j k:Nat} {t:T} (s:Same H H') (h:t.sc=true):Rs p B H H' j k t:=by
 cases t <;> first | exact ⟨s,trivial,by simp [T.rest],by simp [T.adr],by simp [T.Nd,T.adr]⟩ | cases h
noncomputable def Lg {α:Type} (p:Px) (EX:EXT) (σ:St) (r:Res α) (H:Hp) (Kc:α->Prop):Prop:=match r with
 | .ok a=>Kc a
 | .exc c=>p.has c=true->∀ H',Same H H'->EX σ (.ref (p.cl c)) none H'
 | .bad=>False
theorem Lg.bind {α β:Type} {p:Px} {EX:EXT} {σ:St} {r:Res α} {f:α->Res β} {H:Hp} {Kc:β->Prop} (h:Lg p EX σ (r.bind f) H Kc):Lg p EX σ r H fun a=>Lg p EX σ (f a) H Kc:=by
 cases r <;> exact h
theorem Lg.mono {α:Type} {p:Px} {EX:EXT} {σ:St} {r:Res α} {H H1:Hp} {Kc Kc':α->Prop} (h:Lg p EX σ r H Kc) (s:Same H H1) (m:∀ a,r=.ok a->Kc a->Kc' a):Lg p EX σ r H1 Kc':=by
 cases r with
 | ok a=>exact m a rfl h
 | exc c=>exact fun hc H' s'=>h hc H' (s.trans s')
 | bad=>exact h
theorem Lg.guard {α:Type} {p:Px} {EX:EXT} {σ:St} {c:Prop} [Decidable c] {r:Res α} {H:Hp} {Kc:α->Prop} (h:Lg p EX σ (if c then r else .bad) H Kc):c/\Lg p EX σ r H Kc:=by
 split at h
 ·exact ⟨‹_›,h⟩
 ·exact nE h
noncomputable abbrev KE (p:Px) (B:Addr->Prop) (H:Hp) (j k:Nat) (Q:VK):D->Prop:=fun d=>∀ t H',t.dat=d->Rs p B H H' j k t->Q t.val H'
noncomputable abbrev KL (p:Px) (B:Addr->Prop) (H:Hp) (j k:Nat) (Q:List V->Hp->Prop):List D->Prop:=fun ds=>∀ ts H',T.dats ts=ds->RsL p B H H' j k ts->Q (ts.map T.val) H'
noncomputable def lE (p:Px) (EX:EXT) (tn:List Nat) (e:E):TE:=fun σ H Q=>∃ τ,σ=vτ τ/\Fok p tn τ H/\∃ j k,jk tn e=some (j,k)/\Lg p EX σ (ev e (dτ τ)) H (KE p (Sh tn τ) H j k Q)
noncomputable def lEs (p:Px) (EX:EXT) (tn:List Nat) (es:Es):TA:=fun σ H Q=>∃ τ,σ=vτ τ/\Fok p tn τ H/\∃ j k,jks tn es=some (j,k)/\Lg p EX σ (evs es (dτ τ)) H (KL p (Sh tn τ) H j k Q)
noncomputable def lT (p:Px) (EX:EXT) (tn:List Nat) (e:E):TT:=fun σ H Q=>∃ τ,σ=vτ τ/\Fok p tn τ H/\(jk tn e).isSome=true/\Lg p EX σ (tv e (dτ τ)) H fun b=>∀ H',Same H H'->Q b H'
theorem PE.mono {X:Cx} {e:Expr} {t t':TE} (h:PE X e t) (m:∀ σ H Q,t' σ H Q->t σ H Q):PE X e t':=fun pins s σ H Q I q=>h pins s σ H Q I (m _ _ _ q)
theorem PT.mono {X:Cx} {e:Expr} {t t':TT} (h:PT X e t) (m:∀ σ H Q,t' σ H Q->t σ H Q):PT X e t':=fun pins s σ H Q I q=>h pins s σ H Q I (m _ _ _ q)
theorem PA.mono {X:Cx} {e:List Expr} {t t':TA} (h:PA X e t) (m:∀ σ H Q,t' σ H Q->t σ H Q):PA X e t':=fun pos pins s σ H Q I q=>h pos pins s σ H Q I (m _ _ _ q)
section
variable {p:Px} {EX:EXT} {tn:List Nat} {X:Cx} {pos:Pos}
theorem DH {c:Bool} {x:Nat × Nat} {j k:Nat} (h:gj c x=some (j,k)):c=true/\x=(j,k):=by
 unfold gj at h
 split at h
 ·exact ⟨‹_›,Option.some.inj h⟩
 ·cases h
theorem l1 {x:E} {β:Type} {f:D->Res β} {τ:Ft} {H:Hp} {Kc:β->Prop} {Q:VK} {ja ka:Nat} (hF:Fok p tn τ H) (hj:jk tn x=some (ja,ka)) (h:Lg p EX (vτ τ) ((ev x (dτ τ)).bind f) H Kc)
  (m:∀ d t H1,t.dat=d->Rs p (Sh tn τ) H H1 ja ka t->Lg p EX (vτ τ) (f d) H Kc->Q t.val H1):lE p EX tn x (vτ τ) H Q :=
 ⟨τ,rfl,hF,ja,ka,hj,h.bind.mono (Same.refl _) fun d _ hd t H1 ht R=>m d t H1 ht R hd⟩
theorem l2 {x:E} {β:Type} {f:D->Res β} {τ:Ft} {H H1:Hp} {Kc:β->Prop} {Q:VK} {ja ka:Nat} (hF:Fok p tn τ H) (s:Same H H1) (hj:jk tn x=some (ja,ka)) (h:Lg p EX (vτ τ) ((ev x (dτ τ)).bind f) H Kc)
  (m:∀ d t H2,t.dat=d->Rs p (Sh tn τ) H1 H2 ja ka t->Lg p EX (vτ τ) (f d) H Kc->Q t.val H2):lE p EX tn x (vτ τ) H1 Q :=
 ⟨τ,rfl,hF.same s,ja,ka,hj,h.bind.mono s fun d _ hd t H2 ht R=>m d t H2 ht R hd⟩
theorem Sz {i:Nat} {x:Str} (hN:X.N[i]?=some x) (hv:Vis X.env.scope x) (hd:(x==("__debug__" : Str))=false) (hcd:(x==("__classdict__" : Str))=false):PE X (.Name x pos) (lE p EX tn (.nm i)):=by
 refine PE.mono (E2 hN hv hd hcd) fun σ H Q h=>?_
 obtain ⟨τ,rfl,hF,j,k,hj,h⟩:=h
 simp only [jk] at hj
 split at hj
 ·rename_i j' hj'
  obtain ⟨hlt,e⟩:=DH hj
  cases e
  simp only [ev] at h
  cases q:get (dτ τ) i with
  | ok d =>
   rw [q] at h
   obtain ⟨t,ht,e⟩:=Ec q
   exact ⟨t.val,Dv ht,h t H e ⟨Same.refl _,hF i t j ht hj' (of_decide_eq_true hlt),fun a m=>.inr ⟨i,t,j,ht,hj',of_decide_eq_true hlt,m⟩,by rw [T.adr_zero]; simp,T.nd_zero t⟩⟩
  | exc c=>rw [q] at h; unfold get at q; split at q <;> cases q
  | bad=>rw [q] at h; exact h.elim
 ·cases hj
theorem Hb {e:Expr} {x:E} {t:T} (hp:PE X e (tC t.val)) (hs:t.sc=true) (he:∀ δ,ev x δ=.ok t.dat):PE X e (lE p EX tn x):=by
 refine PE.mono hp fun σ H Q h=>?_
 obtain ⟨τ,rfl,hF,j,k,hj,h⟩:=h
 rw [he] at h
 exact h t H rfl (Rs.scal (Same.refl _) hs)
theorem Qg {B:Addr->Prop} {H H1 H2:Hp} {j1 k1 j2 k2:Nat} {t:T} {ts:List T} (hB:∀ a,B a->H a ≠ none) (r:Rs p B H H1 j1 k1 t) (q:RsL p B H1 H2 j2 k2 ts):RsL p B H H2 (max j1 j2) (if max j1 j2=0 then min k1 k2 else 0) (t :: ts):=by
 have r2:=r.fwd q.same
 refine ⟨r2.same,⟨r2.ok,q.ok⟩,fun a m=>?_,fun a m=>?_,?_⟩
 ·simp only [T.rests,aaf] at m
  rcases m with m | m
  ·exact r.src a (T.rest_le t (Nat.le_max_left ..) m)
  ·obtain ⟨u,hu,m⟩:=T.mem_rests.mp m
   exact (q.src a (T.mem_rests.mpr ⟨u,hu,T.rest_le u (Nat.le_max_right ..) m⟩)).imp r.same.free id
 ·split at m
  ·simp only [T.adrs,aaf] at m
   rcases m with m | m
   ·exact r2.new a (T.adr_le t (aaT ..) m)
   ·obtain ⟨u,hu,m⟩:=T.mem_adrs.mp m
    have z:=q.new a (T.mem_adrs.mpr ⟨u,hu,T.adr_le u (aaQ ..) m⟩)
    exact ⟨r.same.free z.1,z.2⟩
  ·rw [T.adrs_zero] at m; cases m
 ·split
  ·rename_i hz
   have h1:j1=0:=by omega
   have h2:j2=0:=by omega
   subst h1 h2
   refine T.nds_cons.mpr ⟨T.nd_le t (aaT ..) r.nd,T.nds_le (aaQ ..) q.nd,fun a m m'=>?_,fun a m m'=>?_⟩
   ·have m1:=T.adr_le t (aaT k1 k2) m
    rcases q.src a m' with z | z
    ·exact r.ok.domk m1 z
    ·exact hB a z (r.new a m1).1
   ·obtain ⟨u,hu,m⟩:=T.mem_adrs.mp m
    exact r.ok.dom m' (q.new a (T.mem_adrs.mpr ⟨u,hu,T.adr_le u (aaQ ..) m⟩)).1
  ·exact T.nds_zero _
theorem OC:PA X [] (lEs p EX tn .nil):=by
 refine PA.mono Da fun σ H Q h=>?_
 obtain ⟨τ,rfl,hF,j,k,hj,h⟩:=h
 exact h [] H rfl ⟨Same.refl _,trivial,by simp [T.rests],by simp [T.adrs],by simp [T.Nds,T.adrs]⟩
theorem Ni {e:Expr} {es:List Expr} {x:E} {xs:Es} (he:PE X e (lE p EX tn x)) (hes:PA X es (lEs p EX tn xs)) (hs:starEach (e :: es) X.env=(false,eval e X.env) :: starEach es X.env):PA X (e :: es) (lEs p EX tn (.cons x xs)):=by
 refine PA.mono (Ba he hes hs) fun σ H Q h=>?_
 obtain ⟨τ,rfl,hF,j,k,hj,h⟩:=h
 simp only [jks] at hj
 obtain ⟨⟨j1,k1⟩,h1,hj⟩:=bS hj
 obtain ⟨⟨j2,k2⟩,h2,hj⟩:=bS hj
 cases hj
 simp only [evs] at h
 refine l1 hF h1 h fun d t H1 ht R h=>?_
 refine ⟨τ,rfl,hF.same R.same,j2,k2,h2,h.bind.mono R.same fun ds _ hd ts H2 hts R2=>?_⟩
 exact hd (t :: ts) H2 (by simp [T.dats,ht,hts]) (Qg (fun a=>hF.dom) R R2)
end
section
variable {p:Px} {EX:EXT} {tn:List Nat} {X:Cx} {pos:Pos}
theorem SA {B:Addr->Prop} {H H1:Hp} {j k:Nat} {a:Addr} {ts:List T} (r:RsL p B H H1 j k ts) (hn:H1 a=none):Rs p B H (L2.upd H1 a (.tup (ts.map T.val))) j k (.tup a ts):=by
 have s:=Same.new (o:=.tup (ts.map T.val)) hn
 exact ⟨r.same.trans s,⟨AS,r.ok.same s⟩,r.src,fun b m=>⟨(r.new b m).1,let ⟨vs,e⟩:=(r.new b m).2; ⟨vs,s _ _ e⟩⟩,r.nd⟩
theorem Nj {B:Addr->Prop} {H H1:Hp} {j k:Nat} {a:Addr} {ts:List T} (r:RsL p B H H1 j k ts) (hn:H1 a=none) :
  Rs p B H (L2.upd H1 a (.lst (ts.map T.val))) (if j=0 then 0 else j + 1) (if j=0 then k + 1 else 0) (.lst a ts):=by
 have s:=Same.new (o:=.lst (ts.map T.val)) hn
 have ha:H a=none:=r.same.free hn
 refine ⟨r.same.trans s,⟨.inl AS,r.ok.same s⟩,fun b m=>?_,fun b m=>?_,?_⟩
 ·split at m
  ·rename_i e
   subst e
   simp only [T.rest,aal] at m
   rcases m with rfl | m
   ·exact .inl ha
   ·exact r.src b m
  ·exact r.src b m
 ·split at m
  ·simp only [T.adr,aal] at m
   rcases m with rfl | m
   ·exact ⟨ha,_,AS⟩
   ·exact ⟨(r.new b m).1,let ⟨vs,e⟩:=(r.new b m).2; ⟨vs,s _ _ e⟩⟩
  ·rw [T.adr_zero] at m; cases m
 ·split
  ·rename_i e
   subst e
   have out:a ∉ T.rests ts 0:=fun m=>by
    obtain ⟨t,ht,m⟩:=T.mem_rests.mp m
    exact (T.oks_iff.mp r.ok t ht).dom m hn
   refine ⟨?_,fun b m m'=>?_⟩
   ·simp only [T.adr,aaG]
    exact ⟨fun m=>out ((T.alls_iff ts k).mpr (.inl m)),r.nd.1⟩
   ·simp only [T.adr,T.rest,aal] at m m'
    rcases m' with rfl | m'
    ·exact out ((T.alls_iff ts k).mpr (.inr m))
    ·exact r.nd.2 b m m'
  ·exact T.nd_zero _
theorem Ac:∀ ts:List T,(T.dats ts).length=ts.length:=fun ts=>by rw [T.dats_map,aaa]
noncomputable def Es.len:Es->Nat
 | .nil=>0
 | .cons _ r=>r.len + 1
theorem BI:∀ (es:Es) (δ:Fr) (ds:List D),evs es δ=.ok ds->ds.length=es.len
 | .nil,δ,ds,h=>by simp only [evs] at h; cases h; rfl
 | .cons e r,δ,ds,h=>by
  simp only [evs] at h
  obtain ⟨x,_,h⟩:=Res.bind_eq_ok h
  obtain ⟨xs,h2,h⟩:=Res.bind_eq_ok h
  cases h
  rw [aa5,BI r δ xs h2,Es.len]
theorem Qh {es:List Expr} {xs:Es} {k1:Nat} (h:PA X es (lEs p EX tn xs)) (hl:xs.len<=1000):PE X (.Tuple es k1 pos) (lE p EX tn (.tup xs)):=by
 refine PE.mono (M0 h) fun σ H Q h=>?_
 obtain ⟨τ,rfl,hF,j,k,hj,h⟩:=h
 simp only [ev] at h
 refine ⟨τ,rfl,hF,j,k,hj,h.bind.mono (Same.refl _) fun ds e hd ts H1 hts R=>⟨?_,fun a ha=>hd (.tup a ts) _ (by simp [T.dat,hts]) (SA R ha)⟩⟩
 have:=BI _ _ _ e
 rw [aaa,<- Ac,hts,this]
 exact aaM hl (by decide)
theorem Qi {es:List Expr} {xs:Es} (h:PA X es (lEs p EX tn xs)) (hl:xs.len<=1000):PE X (.List es pos) (lE p EX tn (.lst xs)):=by
 refine PE.mono (R8 h) fun σ H Q h=>?_
 obtain ⟨τ,rfl,hF,j,k,hj,h⟩:=h
 simp only [jk] at hj
 obtain ⟨⟨j1,k1⟩,h1,hj⟩:=bS hj
 simp only [ev] at h
 refine ⟨τ,rfl,hF,j1,k1,h1,h.bind.mono (Same.refl _) fun ds e hd ts H1 hts R=>⟨?_,fun a ha=>hd (.lst a ts) _ (by simp [T.dat,hts]) ?_⟩⟩
 ·have:=BI _ _ _ e
  rw [aaa,<- Ac,hts,this]
  exact aaM hl (by decide)
 ·have q:=Nj R ha
  have hj:=Option.some.inj hj
  by_cases z:j1=0
  ·subst z; simp only [if_true] at q; simp at hj; obtain ⟨rfl,rfl⟩:=hj; exact q
  ·simp only [if_neg z] at q; simp [z] at hj; obtain ⟨rfl,rfl⟩:=hj; exact q
noncomputable def LY:B2->Operator
 | .add=>.Add
 | .sub=>.Sub
 | .mul=>.Mult
 | .fdiv=>.FloorDiv
 | .mod=>.Mod
 | .pow=>.Pow
theorem Inv.lstR {pins:List (Addr × Obj)} {σ:St} {H:Hp} {s:Shared} {l:Addr} {xs:List V} (I:Inv X pins σ H s) (hH:Rd H l (.lst xs)):xs.length<=sizeLine/\∃ (its:List Value) (n:Nat),Vals xs its/\xs.length=its.length/\s.heap.get? l=some { cls:=.type "list",data:=.seq its.toArray n }:=by
 obtain ⟨z,its,n,r,e⟩:=hH.ok I.hok
 exact ⟨z,its,n,r,r.length,e⟩
noncomputable def Pz:R2:=fun x y H Q=>∃ l b xs zs,x=.ref l/\y=.ref b/\Rd H l (.lst xs)/\Rd H b (.lst zs)/\xs.length + zs.length<=sizeLine/\∀ q,H q=none->Q (.ref q) (L2.upd H q (.lst (xs ++ zs)))
theorem Qj:OpR X (binaryOp .Add) Pz:=by
 intro pins s σ H x y v u Q I rx ry h
 obtain ⟨l,b,xs,zs,rfl,rfl,hH,hB,hz,q⟩:=h
 cases rx
 cases ry
 obtain ⟨z,its,n,r,hl,e⟩:=Inv.lstR I hH
 obtain ⟨z2,its2,n2,r2,hl2,e2⟩:=Inv.lstR I hB
 refine PySem.P.add_list e e2 ?_ (by rw [aap,aap]; omega)
 have ea:its.toArray ++ its2.toArray=(its ++ its2).toArray:=by simp
 rw [ea]
 exact ⟨.ref _,_,I.lnew (t':=s.toks) (r.append r2) (by rw [aav]; omega),rfl,q _ I.fresh⟩
noncomputable def PB:R2:=fun x y H Q=>∃ l k xs,x=.ref l/\y=.int k/\Rd H l (.lst xs)/\-(2 ^ 63)<=k/\k < 2 ^ 63/\xs.length * k.toNat<=sizeLine /\
 ∀ q,H q=none->Q (.ref q) (L2.upd H q (.lst (aag k.toNat xs).flatten))
noncomputable def PD (_ j:Int):Prop:=0 < j/\j < 2 ^ 200
theorem OD:OpR X (binaryOp .FloorDiv) (rI PD fun i j=>.int (i / j)):=opI fun i j _ _ _ _ _ hc q=>by
 have e:i / j=i.fdiv j:=(Int.fdiv_eq_ediv_of_nonneg _ (Int.le_of_lt hc.1)).symm
 rw [e] at q
 refine floordiv_int (by have:=hc.1; omega) q (.inl (PyProof.noPylong_of_log2 ?_))
 have h1:j.natAbs < 2 ^ 200:=by
  have e1:(j.natAbs:Int)=j:=Int.natAbs_of_nonneg (Int.le_of_lt hc.1)
  have e2:(j.natAbs:Int) < ((2 ^ 200:Nat):Int):=by rw [e1]; exact hc.2
  exact Int.ofNat_lt.mp e2
 have:j.natAbs.log2 < 200:=by
  refine (acE (by have:=hc.1; omega)).mpr h1
 omega
theorem Qk:OpR X (binaryOp .Mult) PB:=by
 intro pins s σ H x y v u Q I rx ry h
 obtain ⟨l,k,xs,rfl,rfl,hH,h1,h2,hz,q⟩:=h
 cases rx
 obtain ⟨t,rfl⟩:=ry
 obtain ⟨z,its,n,r,hl,e⟩:=Inv.lstR I hH
 have hlen:its.toArray.size * k.toNat<=sizeLine:=by rw [aap,<- hl]; exact hz
 have hcap:¬ its.toArray.size * k.toNat > (2 ^ 63 - 1) / 8:=by
  have:(sizeLine:Nat)<=(2 ^ 63 - 1) / 8:=by decide
  omega
 have hfit:¬ (!Builtin.List.listFitsIndex k)=true:=by
  rw [fitsIndex_both h1 h2]
  exact aaW
 have hlong:¬ Builtin.List.listTooLong (its.toArray.size * k.toNat)=true:=by
  rw [Jk hlen]
  exact aaW
 have hnew:acG (fun x1 x2=>x1 ++ x2) #[] (aag (if its.toArray.isEmpty=true then 0 else k.toNat) its.toArray)=(aag k.toNat its).flatten.toArray:=by
  have f0:∀ m:Nat,acG (fun x1 x2=>x1 ++ x2) #[] (aag m its.toArray)=(aag m its).flatten.toArray:=fun m=>by
   have:=Ir its m []
   rw [aa0] at this
   exact this
  rw [f0]
  cases its with
  | nil=>simp
  | cons a r'=>rw [if_neg (by simp)]
 refine wpAny_binaryOp_repeat_ref (T := "list") (U := "int") (by decide) ⟨_,e,rfl⟩ (fun s'=>typeIs_int s' k t) noFill_list_mul F.fills_int_mul F.slot_int_rmul repeat_list F.slot_int_index.lookup
  (call_meets F.slot_int_rmul (typeIs_int s k t) F.entry_int_rmul (F.args_int_rmul_2 _ _) (int___rmul___int_list k t l its.toArray n)
   ⟨e,rfl,⟨_,e,rfl⟩,call_meets F.slot_list_mul ⟨_,e,rfl⟩ F.entry_list_mul (F.args_list_mul_2 _ _) (AutoListH.list___mul___list_int_3 l its.toArray n k t hfit hcap hlong) ⟨e,?_⟩⟩)
 rw [hnew]
 exact ⟨.ref _,_,I.lnew (t':=s.toks) (r.rep k.toNat) (by rw [P9,acb]; exact hz),rfl,q _ I.fresh⟩
noncomputable def CMulB (i j:Int):Prop:=CMul i j\/(i.natAbs < 2 ^ 400/\j.natAbs < 2 ^ 400)
theorem K5 {k:Int} (h:k.natAbs < 2 ^ 400):Builtin.Int.intBits k<=400:=by
 unfold Builtin.Int.intBits
 split
 ·exact aaw _
 ·have:k.natAbs.log2 < 400:=by
   rcases ab4 k.natAbs with h0 | hp
   ·rw [h0]; decide
   ·exact (acE (ab9 hp)).mpr h
  omega
theorem CMulB.ok {i j:Int} (h:CMulB i j):IntMulOk i j:=by
 rcases h with h | ⟨h1,h2⟩
 ·exact h.ok
 ·have b1:=K5 h1
  have b2:=K5 h2
  have:Builtin.Int.intTooBig (Builtin.Int.intBits i + Builtin.Int.intBits j)=false:=by
   unfold Builtin.Int.intTooBig bitsLine
   exact decide_eq_false (by omega)
  unfold IntMulOk
  rw [this]
  simp
theorem Ql:OpR X (binaryOp .Mult) (rI CMulB fun i j=>.int (i * j)):=opI fun _ _ _ _ _ _ _ hc q=>mul_int q hc.ok
noncomputable def SB:B2->R2
 | .add=>fun x y H Q=>rI0 (fun i j=>.int (i + j)) x y H Q\/(Pz x y H Q\/∃ i j,x=.str i/\y=.str j/\i.length + j.length<=sizeLine/\Q (.str (i ++ j)) H)
 | .sub=>rI0 fun i j=>.int (i - j)
 | .mul=>fun x y H Q=>rI CMulB (fun i j=>.int (i * j)) x y H Q\/PB x y H Q
 | .fdiv=>rI PD fun i j=>.int (i / j)
 | .mod=>rI (fun _ j=>0 < j) fun i j=>.int (i % j)
 | .pow=>rI RX fun i j=>.int (i ^ j.toNat)
theorem Qm:∀ o:B2,OpR X (binaryOp (LY o)) (SB o)
 | .add=>RY.or (Qj.or LH)
 | .sub=>RZ
 | .mul=>Ql.or Qk
 | .fdiv=>OD
 | .mod=>R1
 | .pow=>R3
theorem Rs.elems {B:Addr->Prop} {H H1:Hp} {j k:Nat} {a:Addr} {ts:List T} (r:Rs p B H H1 j k (.lst a ts)) (hj:j<=1):∀ b ∈ T.rests ts 0,H b=none\/B b:=fun b m=>by
 refine r.src b (T.rest_le _ hj (j':=1) ?_)
 exact m
theorem E5 {B:Addr->Prop} {H H1:Hp} {a:Addr} {ts:List T} (s:Same H H1) (ok:T.Oks p H1 ts) (src:∀ b ∈ T.rests ts 0,H b=none\/B b) (hn:H1 a=none):Rs p B H (L2.upd H1 a (.lst (ts.map T.val))) 0 1 (.lst a ts):=by
 have:=Nj (j:=0) (k:=0) (p:=p) (B:=B) (H:=H) (a:=a) (ts:=ts) ⟨s,ok,src,by rw [T.adrs_zero]; simp,T.nds_zero ts⟩ hn
 exact this
theorem HI {t:T} {f:Int->Res D} {Q:Res D->Prop} (hb:¬ Q .bad) (h:Q (Dt t.dat f)):∃ i,t=.int i/\Q (f i):=by
 cases t with
 | int i=>exact ⟨i,rfl,h⟩
 | _=>exact absurd h hb
theorem BC {t u:T} {f:Int->Int->Res D} {Q:Res D->Prop} (hb:¬ Q .bad) (h:Q (By t.dat u.dat f)):∃ i j,t=.int i/\u=.int j/\Q (f i j):=by
 obtain ⟨i,rfl,h⟩:=HI (t:=t) hb h
 obtain ⟨j,rfl,h⟩:=HI (t:=u) hb h
 exact ⟨i,j,rfl,rfl,h⟩
theorem Qn {t u:T} {Q:Res D->Prop} (hb:¬ Q .bad) (h:Q (LU t.dat u.dat)):(∃ i j,t=.int i/\u=.int j/\Q (.ok (.int (i + j))))\/(∃ x y,t=.str x/\u=.str y/\Q (LU (.str x) (.str y)))\/∃ a ts b us,t=.lst a ts/\u=.lst b us/\Q (LU (.lst (T.dats ts)) (.lst (T.dats us))):=by
 cases t with
 | int i =>
  cases u with
  | int j=>exact .inl ⟨i,j,rfl,rfl,h⟩
  | _=>exact absurd h hb
 | str x =>
  cases u with
  | str y=>exact .inr (.inl ⟨x,y,rfl,rfl,h⟩)
  | _=>exact absurd h hb
 | lst a ts =>
  cases u with
  | lst b us=>exact .inr (.inr ⟨a,ts,b,us,rfl,rfl,h⟩)
  | _=>exact absurd h hb
 | _=>exact absurd h hb
theorem Qo {t u:T} {Q:Res D->Prop} (hb:¬ Q .bad) (h:Q (Jn t.dat u.dat)):(∃ i j,t=.int i/\u=.int j/\Q (Jn (.int i) (.int j)))\/∃ a ts k,t=.lst a ts/\u=.int k/\Q (Jn (.lst (T.dats ts)) (.int k)):=by
 cases t with
 | int i =>
  cases u with
  | int j=>exact .inl ⟨i,j,rfl,rfl,h⟩
  | _=>exact absurd h hb
 | lst a ts =>
  cases u with
  | int k=>exact .inr ⟨a,ts,k,rfl,rfl,h⟩
  | _=>exact absurd h hb
 | _=>exact absurd h hb
theorem T3 {B:Addr->Prop} {H H2:Hp} {ja jb ka kb:Nat} {t u:T} {o:B2} {σ:St} {Q:VK} (r:Rs p B H H2 ja ka t) (r':Rs p B H H2 jb kb u) (ha:ja<=1) (hb:jb<=1) (h:Lg p EX σ (b2 o t.dat u.dat) H (KE p B H 0 1 Q)):SB o t.val u.val H2 Q:=by
 have sc:∀ w:T,w.sc=true->Rs p B H H2 0 1 w:=fun w hw=>Rs.scal r.same hw
 cases o with
 | add =>
  rcases Qn (Q:=fun r=>Lg p EX σ r H _) id h with ⟨i,j,rfl,rfl,h⟩ | ⟨x,y,rfl,rfl,h⟩ | ⟨a,ts,b,us,rfl,rfl,h⟩
  ·exact .inl ⟨_,_,rfl,rfl,h (.int _) H2 rfl (sc _ rfl)⟩
  ·obtain ⟨hl,h⟩:=h.guard
   exact .inr (.inr ⟨_,_,rfl,rfl,hl,h (.str _) H2 rfl (sc _ rfl)⟩)
  ·skip
   obtain ⟨hl,h⟩:=h.guard
   ·refine .inr (.inl ⟨a,b,_,_,rfl,rfl,r.ok.1,r'.ok.1,?_,fun q hq=>?_⟩)
    ·rw [aaa,aaa,<- Ac,<- Ac]; exact hl
    ·rw [<- aao]
     refine h (.lst q (ts ++ us)) _ (by simp [T.dat,T.dats_map]) (E5 r.same (T.oks_iff.mpr fun w hw=>?_) (fun c m=>?_) hq)
     ·rcases aaf.mp hw with hw | hw
      ·exact T.oks_iff.mp r.ok.2 w hw
      ·exact T.oks_iff.mp r'.ok.2 w hw
     ·rw [T.rests_append,aaf] at m
      rcases m with m | m
      ·exact r.elems ha c m
      ·exact r'.elems hb c m
 | sub =>
  obtain ⟨i,j,rfl,rfl,h⟩:=BC (Q:=fun r=>Lg p EX σ r H _) id h
  exact ⟨_,_,rfl,rfl,h (.int _) H2 rfl (sc _ rfl)⟩
 | mul =>
  rcases Qo (Q:=fun r=>Lg p EX σ r H _) id h with ⟨i,j,rfl,rfl,h⟩ | ⟨a,ts,k,rfl,rfl,h⟩
  ·by_cases c:(-(2 ^ 64) < i/\i < 2 ^ 64)\/(-(2 ^ 64) < j/\j < 2 ^ 64)
   ·have h:Lg p EX σ (if (-(2 ^ 64) < i/\i < 2 ^ 64)\/(-(2 ^ 64) < j/\j < 2 ^ 64) then Res.ok (D.int (i * j)) else if i.natAbs < 2 ^ 400/\j.natAbs < 2 ^ 400 then .ok (.int (i * j)) else .bad) H _:=h
    rw [if_pos c] at h
    exact .inl ⟨_,_,rfl,rfl,.inl c,h (.int _) H2 rfl (sc _ rfl)⟩
   ·have h:Lg p EX σ (if (-(2 ^ 64) < i/\i < 2 ^ 64)\/(-(2 ^ 64) < j/\j < 2 ^ 64) then Res.ok (D.int (i * j)) else if i.natAbs < 2 ^ 400/\j.natAbs < 2 ^ 400 then .ok (.int (i * j)) else .bad) H _:=h
    rw [if_neg c] at h
    obtain ⟨hl,h⟩:=h.guard
    exact .inl ⟨_,_,rfl,rfl,.inr hl,h (.int _) H2 rfl (sc _ rfl)⟩
  ·skip
   obtain ⟨⟨h1,h2,h3⟩,h⟩:=h.guard
   ·refine .inr ⟨a,k,_,rfl,rfl,r.ok.1,h1,h2,?_,fun q hq=>?_⟩
    ·rw [aaa,<- Ac]; exact h3
    ·have e:(aag k.toNat (ts.map T.val)).flatten=(aag k.toNat ts).flatten.map T.val:=by
      rw [List.map_flatten,abb]
     rw [e]
     refine h (.lst q (aag k.toNat ts).flatten) _ ?_ (E5 r.same (T.oks_iff.mpr fun w hw=>?_) (fun c m=>?_) hq)
     ·rw [T.dat,T.dats_map,T.dats_map,List.map_flatten,abb]
     ·obtain ⟨l,hl,hw⟩:=List.mem_flatten.mp hw
      rw [(abo.mp hl).2] at hw
      exact T.oks_iff.mp r.ok.2 w hw
     ·obtain ⟨w,hw,m⟩:=T.mem_rests.mp m
      obtain ⟨l,hl,hw⟩:=List.mem_flatten.mp hw
      rw [(abo.mp hl).2] at hw
      exact r.elems ha c (T.mem_rests.mpr ⟨w,hw,m⟩)
 | fdiv =>
  obtain ⟨i,j,rfl,rfl,h⟩:=BC (Q:=fun r=>Lg p EX σ r H _) id h
  obtain ⟨hl,h⟩:=h.guard
  exact ⟨_,_,rfl,rfl,hl,h (.int _) H2 rfl (sc _ rfl)⟩
 | mod =>
  obtain ⟨i,j,rfl,rfl,h⟩:=BC (Q:=fun r=>Lg p EX σ r H _) id h
  obtain ⟨hl,h⟩:=h.guard
  exact ⟨_,_,rfl,rfl,hl,h (.int _) H2 rfl (sc _ rfl)⟩
 | pow =>
  obtain ⟨i,j,rfl,rfl,h⟩:=BC (Q:=fun r=>Lg p EX σ r H _) id h
  obtain ⟨hl,h⟩:=h.guard
  exact ⟨_,_,rfl,rfl,hl,h (.int _) H2 rfl (sc _ rfl)⟩
theorem Qp {a b:Expr} {x y:E} {o:B2} (ha:PE X a (lE p EX tn x)) (hb:PE X b (lE p EX tn y)):PE X (.BinOp a (LY o) b pos) (lE p EX tn (.bin o x y)):=by
 refine PE.mono (TM (Qm o) ha hb) fun σ H Q h=>?_
 obtain ⟨τ,rfl,hF,j,k,hj,h⟩:=h
 simp only [jk] at hj
 obtain ⟨⟨j1,k1⟩,h1,hj⟩:=bS hj
 obtain ⟨⟨j2,k2⟩,h2,hj⟩:=bS hj
 obtain ⟨hc,e⟩:=DH hj
 cases e
 simp only [aak,decide_eq_true_eq] at hc
 simp only [ev] at h
 refine l1 hF h1 h fun d t H1 ht R h=>l2 hF R.same h2 h fun d' t' H2 ht' R' h=>?_
 subst ht ht'
 exact T3 (R.fwd R'.same) (R'.back R.same) hc.1 hc.2 h
end
mutual
noncomputable def D.py:D->PyData
 | .non=>.none
 | .bl b=>.bool b
 | .int i=>.int i
 | .str x=>.str x
 | .tup ds=>.tuple (D.pys ds)
 | .lst ds=>.list (D.pys ds)
 | .exn _=>.none
noncomputable def D.pys:List D->List PyData
 | []=>[]
 | d :: r=>d.py :: D.pys r
end
theorem D.ind {P:D->Prop} (h0:P .non) (h1:∀ b,P (.bl b)) (h2:∀ i,P (.int i)) (h3:∀ x,P (.str x)) (h4:∀ ts,(∀ t ∈ ts,P t)->P (.tup ts)) (h5:∀ ts,(∀ t ∈ ts,P t)->P (.lst ts)) (h6:∀ c,P (.exn c)):∀ t,P t
 | .non=>h0
 | .bl b=>h1 b
 | .int i=>h2 i
 | .str x=>h3 x
 | .tup ts=>h4 ts fun t h=>D.ind h0 h1 h2 h3 h4 h5 h6 t
 | .lst ts=>h5 ts fun t h=>D.ind h0 h1 h2 h3 h4 h5 h6 t
 | .exn c=>h6 c
termination_by t=>t
theorem Br {n c:Nat}:D.shp n (.exn c)=false:=by cases n <;> rfl
theorem Ed {n:Nat} {ds:List D} (h:D.shp n (.tup ds)=true):∃ m,n=m + 1/\∀ d ∈ ds,D.shp m d=true:=by
 cases n with
 | zero=>cases h
 | succ m=>exact ⟨m,rfl,by simpa [D.shp] using h⟩
theorem Ee {n:Nat} {ds:List D} (h:D.shp n (.lst ds)=true):∃ m,n=m + 1/\∀ d ∈ ds,D.shp m d=true:=by
 cases n with
 | zero=>cases h
 | succ m=>exact ⟨m,rfl,by simpa [D.shp] using h⟩
theorem Jo:∀ (d e:D) (n m:Nat),d.shp n=true->e.shp m=true->d.eqv e=d.py.eqv e.py:=by
 have lists:∀ (ds:List D),(∀ d ∈ ds,∀ (e:D) (n m:Nat),d.shp n=true->e.shp m=true->d.eqv e=d.py.eqv e.py)->∀ (es:List D) (n m:Nat),(∀ d ∈ ds,d.shp n=true)->(∀ e ∈ es,e.shp m=true)->D.eqvs ds es=PyData.eqvAll (D.pys ds) (D.pys es):=by
  intro ds
  induction ds with
  | nil=>intro _ es n m _ _; cases es <;> simp [D.eqvs,D.pys,PyData.eqvAll]
  | cons d r ih =>
   intro h es n m h1 h2
   cases es with
   | nil=>simp [D.eqvs,D.pys,PyData.eqvAll]
   | cons e s =>
    simp only [D.eqvs,D.pys,PyData.eqvAll]
    rw [h d (aac ..) e n m (h1 d (aac ..)) (h2 e (aac ..)),ih (fun x hx=>h x (aab _ hx)) s n m (fun x hx=>h1 x (aab _ hx)) (fun x hx=>h2 x (aab _ hx))]
 refine D.ind ?_ ?_ ?_ ?_ ?_ ?_ ?_
 ·intro e n m _ h; cases e <;> simp [D.eqv,D.py,PyData.eqv,Br] at h ⊢
 ·intro b e n m _ h; cases e <;> simp [D.eqv,D.py,PyData.eqv,Br] at h ⊢
 ·intro b e n m _ h; cases e <;> simp [D.eqv,D.py,PyData.eqv,Br] at h ⊢
 ·intro b e n m _ h; cases e <;> simp [D.eqv,D.py,PyData.eqv,Br] at h ⊢
 ·intro ds ih e n m h1 h2
  cases e with
  | tup es =>
   obtain ⟨n',_,h1⟩:=Ed h1
   obtain ⟨m',_,h2⟩:=Ed h2
   simp only [D.eqv,D.py,PyData.eqv]
   exact lists ds ih es n' m' h1 h2
  | exn c=>rw [Br] at h2; cases h2
  | _=>simp [D.eqv,D.py,PyData.eqv]
 ·intro ds ih e n m h1 h2
  cases e with
  | lst es =>
   obtain ⟨n',_,h1⟩:=Ee h1
   obtain ⟨m',_,h2⟩:=Ee h2
   simp only [D.eqv,D.py,PyData.eqv]
   exact lists ds ih es n' m' h1 h2
  | exn c=>rw [Br] at h2; cases h2
  | _=>simp [D.eqv,D.py,PyData.eqv]
 ·intro c e n m h; rw [Br] at h; cases h
theorem HJ:∀ (d:D) (n:Nat),d.shp n=true->d.py.canLay0=true/\d.py.depth<=n:=by
 have lists:∀ (ds:List D),(∀ d ∈ ds,∀ (n:Nat),d.shp n=true->d.py.canLay0=true/\d.py.depth<=n)->∀ n,(∀ d ∈ ds,d.shp n=true)->PyData.canLayAll0 (D.pys ds)=true/\PyData.depthAll (D.pys ds)<=n:=by
  intro ds
  induction ds with
  | nil=>intro _ n _; simp [D.pys,PyData.canLayAll0,PyData.depthAll]
  | cons d r ih =>
   intro h n h1
   obtain ⟨a1,a2⟩:=h d (aac ..) n (h1 d (aac ..))
   obtain ⟨b1,b2⟩:=ih (fun x hx=>h x (aab _ hx)) n (fun x hx=>h1 x (aab _ hx))
   simp only [D.pys,PyData.canLayAll0,PyData.depthAll,a1,b1,Bool.and_self,true_and]
   omega
 refine D.ind ?_ ?_ ?_ ?_ ?_ ?_ ?_
 ·intro n h; simp [D.py,PyData.canLay0,PyData.depth]
 ·intro b n h; simp [D.py,PyData.canLay0,PyData.depth]
 ·intro b n h; simp [D.py,PyData.canLay0,PyData.depth]
 ·intro x n h
  simp only [D.py,PyData.canLay0,PyData.depth,aaw,and_true]
  cases n <;> exact h
 ·intro ds ih n h
  obtain ⟨m,rfl,h'⟩:=Ed h
  have:=lists ds ih m h'
  simp only [D.py,PyData.canLay0,PyData.depth]
  exact ⟨this.1,by omega⟩
 ·intro ds ih n h
  obtain ⟨m,rfl,h'⟩:=Ee h
  have:=lists ds ih m h'
  simp only [D.py,PyData.canLay0,PyData.depth]
  exact ⟨this.1,by omega⟩
 ·intro c n h; rw [Br] at h; cases h
theorem EJ {d:D} (h:d.shp 8=true):SeqAt.shaped d.py=true:=by
 obtain ⟨h1,h2⟩:=HJ d 8 h
 unfold SeqAt.shaped
 rw [h1,abm]
 exact decide_eq_true (by omega)
theorem Gd {p:Px} {H:Hp}:∀ (t:T) (n:Nat),t.Ok p H->t.dat.shp n=true->RD p.K H t.val t.dat.py:=by
 have lists:∀ (ts:List T),(∀ t ∈ ts,∀ n,t.Ok p H->t.dat.shp n=true->RD p.K H t.val t.dat.py)->∀ n,T.Oks p H ts->(∀ d ∈ T.dats ts,d.shp n=true)->RDs p.K H (ts.map T.val) (D.pys (T.dats ts)):=by
  intro ts
  induction ts with
  | nil=>intro _ _ _ _; exact .nil
  | cons t r ih =>
   intro h n ok hs
   exact .cons (h t (aac ..) n ok.1 (hs _ (by simp [T.dats]))) (ih (fun u hu=>h u (aab _ hu)) n ok.2 (fun d hd=>hs d (by simp [T.dats,hd])))
 refine T.ind (fun _ _ _=>.non) (fun b _ _ _=>.bl b) (fun i _ _ _=>.int i) (fun x _ _ _=>.str x) (fun a ts ih n ok h=>?_) (fun a ts ih n ok h=>?_) (fun a c n ok h=>?_)
 ·obtain ⟨m,rfl,h'⟩:=Ed h
  exact .tup (SqT.of ok.1) (lists ts ih m ok.2 h')
 ·obtain ⟨m,rfl,h'⟩:=Ee h
  exact .lst (.inl ok.1) (lists ts ih m ok.2 h')
 ·rw [T.dat,Br] at h; cases h
theorem Hc {H:Hp} {a:Addr} {xs ys:List V} (h:Rd H a (.lst xs)) (h':Rd H a (.lst ys)):xs=ys:=by
 rcases h with h | ⟨o,h⟩ <;> rcases h' with h' | ⟨o',h'⟩ <;> rw [h] at h' <;> cases h' <;> rfl
theorem T.det {p:Px} {H:Hp}:∀ (t u:T) (n m:Nat),t.Ok p H->u.Ok p H->t.dat.shp n=true->u.dat.shp m=true->t.val=u.val->t.dat=u.dat:=by
 have lists:∀ (ts:List T),(∀ t ∈ ts,∀ (u:T) (n m:Nat),t.Ok p H->u.Ok p H->t.dat.shp n=true->u.dat.shp m=true->t.val=u.val->t.dat=u.dat)->∀ (us:List T) (n m:Nat),T.Oks p H ts->T.Oks p H us ->
   (∀ d ∈ T.dats ts,d.shp n=true)->(∀ d ∈ T.dats us,d.shp m=true)->ts.map T.val=us.map T.val->T.dats ts=T.dats us:=by
  intro ts
  induction ts with
  | nil=>intro _ us n m _ _ _ _ e; cases us with | nil=>rfl | cons u r=>simp at e
  | cons t r ih =>
   intro h us n m o1 o2 s1 s2 e
   cases us with
   | nil=>simp at e
   | cons u q =>
    simp only [aaE,List.cons.injEq] at e
    simp only [T.dats,List.cons.injEq]
    exact ⟨h t (aac ..) u n m o1.1 o2.1 (s1 _ (by simp [T.dats])) (s2 _ (by simp [T.dats])) e.1,ih (fun x hx=>h x (aab _ hx)) q n m o1.2 o2.2 (fun d hd=>s1 d (by simp [T.dats,hd])) (fun d hd=>s2 d (by simp [T.dats,hd])) e.2⟩
 refine T.ind ?_ ?_ ?_ ?_ ?_ ?_ ?_
 ·intro u n m _ _ _ _ e; cases u <;> first | rfl | cases e
 ·intro b u n m _ _ _ _ e; cases u <;> first | (cases e; rfl) | cases e
 ·intro b u n m _ _ _ _ e; cases u <;> first | (cases e; rfl) | cases e
 ·intro b u n m _ _ _ _ e; cases u <;> first | (cases e; rfl) | cases e
 ·intro a ts ih u n m o1 o2 s1 s2 e
  cases u with
  | tup b us =>
   cases e
   obtain ⟨n',_,s1⟩:=Ed s1
   obtain ⟨m',_,s2⟩:=Ed s2
   have q:=o1.1.symm.trans o2.1
   simp only [Option.some.injEq,HO.tup.injEq] at q
   simp only [T.dat,lists ts ih us n' m' o1.2 o2.2 s1 s2 q]
  | lst b us =>
   cases e
   have h1:=o1.1
   rcases o2.1 with h | ⟨_,h⟩ <;> rw [h] at h1 <;> cases h1
  | exn b c=>rw [T.dat,Br] at s2; cases s2
  | _=>cases e
 ·intro a ts ih u n m o1 o2 s1 s2 e
  cases u with
  | tup b us =>
   cases e
   have h1:=o2.1
   rcases o1.1 with h | ⟨_,h⟩ <;> rw [h] at h1 <;> cases h1
  | lst b us =>
   cases e
   obtain ⟨n',_,s1⟩:=Ee s1
   obtain ⟨m',_,s2⟩:=Ee s2
   have q:=Hc o1.1 o2.1
   simp only [T.dat,lists ts ih us n' m' o1.2 o2.2 s1 s2 q]
  | exn b c=>rw [T.dat,Br] at s2; cases s2
  | _=>cases e
 ·intro a c u n m _ _ h; rw [T.dat,Br] at h; cases h
section
variable {p:Px} {EX:EXT} {tn:List Nat} {X:Cx} {pos:Pos}
theorem Ge (hK:X.K=p.K) {pins:List (Addr × Obj)} {σ:St} {H:Hp} {s:Shared} {A:Around} (I:Inv X pins σ H s) {t u:T} {x y:Value} (hu:A.units + 60 < cLine) (o1:t.Ok p H) (o2:u.Ok p H) (s1:t.dat.shp 8=true) (s2:u.dat.shp 8=true) (r1:RelV t.val x) (r2:RelV u.val y) :
  SeqAt.EqAt A s x y (t.dat.eqv u.dat):=by
 intro prog w E Q hQ
 obtain ⟨as,q1⟩:=RD.reads (X:=X) I (hK ▸ Gd t 8 o1 s1) r1
 obtain ⟨bs,q2⟩:=RD.reads (X:=X) I (hK ▸ Gd u 8 o2 s2) r2
 obtain ⟨c1,d1⟩:=HJ _ 8 s1
 obtain ⟨c2,d2⟩:=HJ _ 8 s2
 refine PySem.SeqAt.eqBoolOverData prog w A E s x y _ _ as bs Q q1 q2 c1 c2 (by omega) ?_
 rw [<- Jo _ _ 8 8 s1 s2]
 exact hQ
noncomputable def eqS (us:List T) (t:T) (y:Value):Bool:=@decide (∃ u ∈ us,RelV u.val y/\u.dat.eqv t.dat=true) (Classical.propDecidable _)
theorem FJ {H:Hp} {us:List T} {t u:T} {y:Value} (ok:T.Oks p H us) (sh:∀ w ∈ us,w.dat.shp 8=true) (hu:u ∈ us) (r:RelV u.val y):eqS us t y=u.dat.eqv t.dat:=by
 unfold eqS
 cases e:u.dat.eqv t.dat with
 | true=>exact @decide_eq_true _ (Classical.propDecidable _) ⟨u,hu,r,e⟩
 | false =>
  refine @decide_eq_false _ (Classical.propDecidable _) ?_
  rintro ⟨w,hw,r',e'⟩
  rw [T.det w u 8 8 (T.oks_iff.mp ok w hw) (T.oks_iff.mp ok u hu) (sh w hw) (sh u hu) (RelV.inj r' r)] at e'
  rw [e] at e'; cases e'
theorem E6 {H:Hp} {us:List T} {t:T} (ok:T.Oks p H us) (sh:∀ w ∈ us,w.dat.shp 8=true):∀ (ws:List T) (ys:List Value),(∀ w ∈ ws,w ∈ us)->Vals (ws.map T.val) ys->ys.any (eqS us t)=ws.any fun w=>w.dat.eqv t.dat
 | [],_,_,.nil=>rfl
 | w :: ws,_,h,.cons r q=>by
  rw [acs,acs,FJ ok sh (h w (aac ..)) r,E6 ok sh ws _ (fun x hx=>h x (aab _ hx)) q]
theorem El:∀ {ws:List T} {ys:List Value} {y:Value},Vals (ws.map T.val) ys->y ∈ ys->∃ w ∈ ws,RelV w.val y
 | [],_,y,.nil,h=>nomatch h
 | w :: ws,_,y,.cons r q,h=>by
  rcases aal.mp h with rfl | h
  ·exact ⟨w,aac ..,r⟩
  ·obtain ⟨w',hw,r'⟩:=El q h
   exact ⟨w',aab _ hw,r'⟩
noncomputable def LZ (p:Px) (neg:Bool):R2:=fun x y H Q=>∃ (t:T) (a:Addr) (us:List T),x=t.val/\y=.ref a/\(Rd H a (.lst (us.map T.val))\/H a=some (.tup (us.map T.val)))/\T.Oks p H us/\t.Ok p H/\t.dat.shp 8=true/\(∀ w ∈ us,w.dat.shp 8=true) /\
 Q (.bl (if neg then !(us.any fun w=>w.dat.eqv t.dat) else us.any fun w=>w.dat.eqv t.dat)) H
theorem SC (hK:X.K=p.K) (hu:X.A.units + 64 < cLine):OpR X (compareOp .In) (LZ p false):=by
 intro pins s σ H x y v u Q I rx ry h
 obtain ⟨t,a,us,rfl,rfl,hq,ok,o1,s1,s2,q⟩:=h
 cases ry
 rcases hq with hq | hq
 ·obtain ⟨its,r,pl,hz⟩:=I.list (.inl hq)
  refine SeqAt.in_listAt (eqS us t) pl.isList (fun w hw=>?_) ⟨.bl _,H,I,rfl,?_⟩
  ·obtain ⟨w',hw',r'⟩:=El r (by simpa using hw)
   rw [FJ ok s2 hw' r']
   exact Ge hK I (by show X.A.units + 1 + 60 < cLine; omega) (T.oks_iff.mp ok w' hw') o1 (s2 w' hw') s1 r' rx
  ·rw [show its.toArray.any (eqS us t)=its.any (eqS us t) by simp,E6 ok s2 us its (fun _ h=>h) r]
   exact q
 ·obtain ⟨its,r,pl,hz⟩:=I.tuple (SqT.of hq)
  refine SeqAt.in_tupleAt (eqS us t) pl (fun w hw=>?_) ⟨.bl _,H,I,rfl,?_⟩
  ·obtain ⟨w',hw',r'⟩:=El r (by simpa using hw)
   rw [FJ ok s2 hw' r']
   exact Ge hK I (by show X.A.units + 1 + 60 < cLine; omega) (T.oks_iff.mp ok w' hw') o1 (s2 w' hw') s1 r' rx
  ·rw [show its.toArray.any (eqS us t)=its.any (eqS us t) by simp,E6 ok s2 us its (fun _ h=>h) r]
   exact q
theorem Nk (hK:X.K=p.K) (hu:X.A.units + 64 < cLine):OpR X (compareOp .NotIn) (LZ p true):=by
 intro pins s σ H x y v u Q I rx ry h
 obtain ⟨t,a,us,rfl,rfl,hq,ok,o1,s1,s2,q⟩:=h
 cases ry
 rcases hq with hq | hq
 ·obtain ⟨its,r,pl,hz⟩:=I.list (.inl hq)
  refine SeqAt.notIn_listAt (eqS us t) pl.isList (fun w hw=>?_) ⟨.bl _,H,I,rfl,?_⟩
  ·obtain ⟨w',hw',r'⟩:=El r (by simpa using hw)
   rw [FJ ok s2 hw' r']
   exact Ge hK I (by show X.A.units + 1 + 60 < cLine; omega) (T.oks_iff.mp ok w' hw') o1 (s2 w' hw') s1 r' rx
  ·rw [show its.toArray.any (eqS us t)=its.any (eqS us t) by simp,E6 ok s2 us its (fun _ h=>h) r]
   exact q
 ·obtain ⟨its,r,pl,hz⟩:=I.tuple (SqT.of hq)
  refine SeqAt.notIn_tupleAt (eqS us t) pl (fun w hw=>?_) ⟨.bl _,H,I,rfl,?_⟩
  ·obtain ⟨w',hw',r'⟩:=El r (by simpa using hw)
   rw [FJ ok s2 hw' r']
   exact Ge hK I (by show X.A.units + 1 + 60 < cLine; omega) (T.oks_iff.mp ok w' hw') o1 (s2 w' hw') s1 r' rx
  ·rw [show its.toArray.any (eqS us t)=its.any (eqS us t) by simp,E6 ok s2 us its (fun _ h=>h) r]
   exact q
end
section
variable {p:Px} {EX:EXT} {tn:List Nat} {X:Cx} {pos:Pos}
noncomputable def A9:C2->CmpOp
 | .lt=>.Lt
 | .le=>.LtE
 | .gt=>.Gt
 | .ge=>.GtE
 | .eq=>.Eq
 | .ne=>.NotEq
 | .inn=>.In
 | .nin=>.NotIn
noncomputable def SD (p:Px) (neg:Bool):R2:=fun x y H Q=>∃ t u:T,x=t.val/\y=u.val/\t.Ok p H/\u.Ok p H/\t.dat.shp 8=true/\u.dat.shp 8=true/\Q (.bl (if neg then !t.dat.eqv u.dat else t.dat.eqv u.dat)) H
noncomputable def Jp (p:Px):C2->R2
 | .lt=>rI0 fun i j=>.bl (decide (i < j))
 | .le=>rI0 fun i j=>.bl (decide (i<=j))
 | .gt=>rI0 fun i j=>.bl (decide (j < i))
 | .ge=>rI0 fun i j=>.bl (decide (j<=i))
 | .eq=>SD p false
 | .ne=>SD p true
 | .inn=>LZ p false
 | .nin=>LZ p true
theorem Ef (hK:X.K=p.K) (hu:X.A.units + 64 < cLine):∀ o:C2,OpR X (compareOp (A9 o)) (Jp p o)
 | .lt=>TQ
 | .le=>TR
 | .gt=>TU
 | .ge=>TV
 | .eq=>by
  intro pins s σ H x y v u Q I rx ry h
  obtain ⟨t,w,rfl,rfl,o1,o2,s1,s2,q⟩:=h
  refine Sn hu pins s σ H _ _ v u Q I rx ry ⟨_,_,hK ▸ Gd t 8 o1 s1,hK ▸ Gd w 8 o2 s2,EJ s1,EJ s2,?_⟩
  rw [<- Jo _ _ 8 8 s1 s2]; exact q
 | .ne=>by
  intro pins s σ H x y v u Q I rx ry h
  obtain ⟨t,w,rfl,rfl,o1,o2,s1,s2,q⟩:=h
  refine So hu pins s σ H _ _ v u Q I rx ry ⟨_,_,hK ▸ Gd t 8 o1 s1,hK ▸ Gd w 8 o2 s2,EJ s1,EJ s2,?_⟩
  rw [<- Jo _ _ 8 8 s1 s2]; exact q
 | .inn=>SC hK hu
 | .nin=>Nk hK hu
theorem Jq {t:T}:∀ us:List T,((T.dats us).any fun y=>D.eqv y t.dat)=us.any fun w=>w.dat.eqv t.dat
 | []=>rfl
 | u :: r=>by simp [T.dats,Jq r]
theorem Fl {f:D->Bool}:∀ {us:List T},(T.dats us).all f=true->∀ w ∈ us,f w.dat=true
 | [],_,w,h=>nomatch h
 | u :: r,h,w,hw=>by
  simp only [T.dats,aaH,aak] at h
  rcases aal.mp hw with rfl | hw
  ·exact h.1
  ·exact Fl h.2 w hw
theorem IW {β:Type} {t:T} {us:List T} {σ:St} {H:Hp} {f:Bool->Res β} {Kc:β->Prop} (h:Lg p EX σ ((inD t.dat (T.dats us)).bind f) H Kc):t.dat.shp 8=true/\(∀ w ∈ us,w.dat.shp 8=true)/\Lg p EX σ (f (us.any fun w=>w.dat.eqv t.dat)) H Kc:=by
 have h:=h.bind
 unfold inD at h
 obtain ⟨hc,h⟩:=h.guard
 rw [aak] at hc
 rw [Jq] at h
 exact ⟨hc.1,fun w hw=>Fl hc.2 w hw,h⟩
theorem L3 {B:Addr->Prop} {H H2:Hp} {ja jb ka kb:Nat} {t u:T} {o:C2} {σ:St} {Kc:D->Prop} {Q:VK} (r:Rs p B H H2 ja ka t) (r':Rs p B H H2 jb kb u) (h:Lg p EX σ (c2 o t.dat u.dat) H Kc) (hQ:∀ b,Kc (.bl b)->Q (.bl b) H2):Jp p o t.val u.val H2 Q:=by
 cases o with
 | lt =>
  obtain ⟨i,j,rfl,rfl,h⟩:=BC (Q:=fun r=>Lg p EX σ r H Kc) id h
  exact ⟨_,_,rfl,rfl,hQ _ h⟩
 | le =>
  obtain ⟨i,j,rfl,rfl,h⟩:=BC (Q:=fun r=>Lg p EX σ r H Kc) id h
  exact ⟨_,_,rfl,rfl,hQ _ h⟩
 | gt =>
  obtain ⟨i,j,rfl,rfl,h⟩:=BC (Q:=fun r=>Lg p EX σ r H Kc) id h
  exact ⟨_,_,rfl,rfl,hQ _ h⟩
 | ge =>
  obtain ⟨i,j,rfl,rfl,h⟩:=BC (Q:=fun r=>Lg p EX σ r H Kc) id h
  exact ⟨_,_,rfl,rfl,hQ _ h⟩
 | eq =>
  simp only [c2] at h
  obtain ⟨hc,h⟩:=h.guard
  rw [aak] at hc
  exact ⟨t,u,rfl,rfl,r.ok,r'.ok,hc.1,hc.2,hQ _ h⟩
 | ne =>
  simp only [c2] at h
  obtain ⟨hc,h⟩:=h.guard
  rw [aak] at hc
  exact ⟨t,u,rfl,rfl,r.ok,r'.ok,hc.1,hc.2,hQ _ h⟩
 | inn =>
  cases u <;> first | exact nE h | skip
  ·obtain ⟨s1,s2,h⟩:=IW h
   exact ⟨t,_,_,rfl,rfl,.inr r'.ok.1,r'.ok.2,r.ok,s1,s2,hQ _ h⟩
  ·obtain ⟨s1,s2,h⟩:=IW h
   exact ⟨t,_,_,rfl,rfl,.inl r'.ok.1,r'.ok.2,r.ok,s1,s2,hQ _ h⟩
 | nin =>
  cases u <;> first | exact nE h | skip
  ·obtain ⟨s1,s2,h⟩:=IW h
   exact ⟨t,_,_,rfl,rfl,.inr r'.ok.1,r'.ok.2,r.ok,s1,s2,hQ _ h⟩
  ·obtain ⟨s1,s2,h⟩:=IW h
   exact ⟨t,_,_,rfl,rfl,.inl r'.ok.1,r'.ok.2,r.ok,s1,s2,hQ _ h⟩
theorem KE.bl {B:Addr->Prop} {H H2:Hp} {j k:Nat} {Q:VK} {b:Bool} (s:Same H H2) (h:KE p B H j k Q (.bl b)):Q (.bl b) H2:=h (.bl b) H2 rfl (Rs.scal s rfl)
theorem SE {x y:E} {o:C2} {τ:Ft} {H:Hp} {Kc:D->Prop} {Q:VK} {j1 k1 j2 k2:Nat} (hF:Fok p tn τ H) (h1:jk tn x=some (j1,k1)) (h2:jk tn y=some (j2,k2))
  (h:Lg p EX (vτ τ) ((ev x (dτ τ)).bind fun a=>(ev y (dτ τ)).bind fun b=>c2 o a b) H Kc) (hQ:∀ b H2,Same H H2->Kc (.bl b)->Q (.bl b) H2):tOp (Jp p o) (lE p EX tn x) (lE p EX tn y) (vτ τ) H Q:=by
 refine l1 hF h1 h fun d t H1 ht R h=>l2 hF R.same h2 h fun d' t' H2 ht' R' h=>?_
 subst ht ht'
 exact L3 (R.fwd R'.same) (R'.back R.same) h fun b hb=>hQ b H2 (R.same.trans R'.same) hb
theorem Qq (hK:X.K=p.K) (hu:X.A.units + 64 < cLine) {a b:Expr} {x y:E} {o:C2} (ha:PE X a (lE p EX tn x)) (hb:PE X b (lE p EX tn y)) (hm:behindInMarks (A9 o) b=false):PE X (.Compare a [A9 o] [b] pos) (lE p EX tn (.cmp o x y)):=by
 refine PE.mono (PY (Ef hK hu o) ha hb hm) fun σ H Q h=>?_
 obtain ⟨τ,rfl,hF,j,k,hj,h⟩:=h
 simp only [jk] at hj
 obtain ⟨⟨j1,k1⟩,h1,hj⟩:=bS hj
 obtain ⟨⟨j2,k2⟩,h2,hj⟩:=bS hj
 simp only [ev] at h
 exact SE hF h1 h2 h fun b H2 s hb=>KE.bl s hb
theorem OE (hK:X.K=p.K) (hu:X.A.units + 64 < cLine) {a b:Expr} {x y:E} {o:C2} (ha:PE X a (lE p EX tn x)) (hb:PE X b (lE p EX tn y)) (hm:behindInMarks (A9 o) b=false):PT X (.Compare a [A9 o] [b] pos) (lT p EX tn (.cmp o x y)):=by
 refine PT.mono (PZ (Ef hK hu o) ha hb hm) fun σ H Q h=>?_
 obtain ⟨τ,rfl,hF,hj,h⟩:=h
 obtain ⟨q,hj⟩:=aaz.mp hj
 simp only [jk] at hj
 obtain ⟨⟨j1,k1⟩,h1,hj⟩:=bS hj
 obtain ⟨⟨j2,k2⟩,h2,hj⟩:=bS hj
 simp only [tv,ev] at h
 exact SE hF h1 h2 h.bind fun b H2 s hb=>⟨b,rfl,hb H2 s⟩
theorem Nl {x y z:E} {o o':C2} {τ:Ft} {H:Hp} {Kc:D->Prop} {Q:VK} {j1 k1 j2 k2 j3 k3:Nat} (hF:Fok p tn τ H) (h1:jk tn x=some (j1,k1)) (h2:jk tn y=some (j2,k2)) (h3:jk tn z=some (j3,k3))
  (h:Lg p EX (vτ τ) (ev (.chain o o' x y z) (dτ τ)) H Kc) (hQ:∀ b H2,Same H H2->Kc (.bl b)->Q (.bl b) H2):Jf (Jp p o) (Jp p o') (lE p EX tn x) (lE p EX tn y) (lE p EX tn z) (vτ τ) H Q:=by
 simp only [ev] at h
 refine l1 hF h1 h fun d t H1 ht R h=>l2 hF R.same h2 h fun d' t' H2 ht' R' h=>?_
 subst ht ht'
 refine L3 (R.fwd R'.same) (R'.back R.same) h.bind fun b h=>⟨b,rfl,?_⟩
 have s2:=R.same.trans R'.same
 cases b with
 | false=>exact hQ false H2 s2 h
 | true =>
  refine l2 hF s2 h3 h fun d'' t'' H3 ht'' R'' h=>?_
  subst ht''
  exact L3 ((R'.back R.same).fwd R''.same) (R''.back s2) h fun b hb=>hQ b H3 (s2.trans R''.same) hb
theorem Nm (hK:X.K=p.K) (hu:X.A.units + 64 < cLine) {a b c:Expr} {x y z:E} {o o':C2} (ha:PE X a (lE p EX tn x)) (hb:PE X b (lE p EX tn y)) (hc:PE X c (lE p EX tn z)) (hm:lastMarks [A9 o,A9 o'] [b,c]=false):PE X (.Compare a [A9 o,A9 o'] [b,c] pos) (lE p EX tn (.chain o o' x y z)):=by
 refine PE.mono (Oi (Ef hK hu o) (Ef hK hu o') ha hb hc hm) fun σ H Q h=>?_
 obtain ⟨τ,rfl,hF,j,k,hj,h⟩:=h
 simp only [jk] at hj
 obtain ⟨⟨j1,k1⟩,h1,hj⟩:=bS hj
 obtain ⟨⟨j2,k2⟩,h2,hj⟩:=bS hj
 obtain ⟨⟨j3,k3⟩,h3,hj⟩:=bS hj
 exact Nl hF h1 h2 h3 h fun b H2 s hb=>KE.bl s hb
theorem L4 (hK:X.K=p.K) (hu:X.A.units + 64 < cLine) {a b c:Expr} {x y z:E} {o o':C2} (ha:PE X a (lE p EX tn x)) (hb:PE X b (lE p EX tn y)) (hc:PE X c (lE p EX tn z)) (hm:lastMarks [A9 o,A9 o'] [b,c]=false):PT X (.Compare a [A9 o,A9 o'] [b,c] pos) (lT p EX tn (.chain o o' x y z)):=by
 refine PT.mono (Oj (Ef hK hu o) (Ef hK hu o') ha hb hc hm) fun σ H Q h=>?_
 obtain ⟨τ,rfl,hF,hj,h⟩:=h
 obtain ⟨q,hj⟩:=aaz.mp hj
 simp only [jk] at hj
 obtain ⟨⟨j1,k1⟩,h1,hj⟩:=bS hj
 obtain ⟨⟨j2,k2⟩,h2,hj⟩:=bS hj
 obtain ⟨⟨j3,k3⟩,h3,hj⟩:=bS hj
 unfold tv at h
 exact Nl hF h1 h2 h3 h.bind fun b H2 s hb=>⟨b,rfl,hb H2 s⟩
theorem Qr {t:T}:decide (t.val=V.non)=(match t.dat with | .non=>true | _=>false):=by
 cases t <;> rfl
theorem SF {x:E} {n:Bool} {τ:Ft} {H:Hp} {Kc:D->Prop} {Q:VK} {j1 k1:Nat} (hF:Fok p tn τ H) (h1:jk tn x=some (j1,k1)) (h:Lg p EX (vτ τ) (ev (.isN n x) (dτ τ)) H Kc) (hQ:∀ b H2,Same H H2->Kc (.bl b)->Q (.bl b) H2) :
  lE p EX tn x (vτ τ) H fun v H1=>Q (.bl (if n then !decide (v=.non) else decide (v=.non))) H1:=by
 simp only [ev] at h
 refine l1 hF h1 h fun d t H1 ht R h=>?_
 subst ht
 refine hQ _ H1 R.same ?_
 have h:Kc (.bl (match t.dat with | .non=>!n | _=>n)):=h
 rw [Qr]
 cases n <;> cases t <;> exact h
theorem Qs {a:Expr} {x:E} {n:Bool} {j pos'} (ha:PE X a (lE p EX tn x)):PE X (.Compare a [if n then .IsNot else .Is] [.Constant .none j pos'] pos) (lE p EX tn (.isN n x)):=by
 have key:∀ σ H Q,lE p EX tn (.isN n x) σ H Q->lE p EX tn x σ H fun v H1=>Q (.bl (if n then !decide (v=.non) else decide (v=.non))) H1:=by
  intro σ H Q h
  obtain ⟨τ,rfl,hF,j,k,hj,h⟩:=h
  simp only [jk] at hj
  obtain ⟨⟨j1,k1⟩,h1,hj⟩:=bS hj
  exact SF hF h1 h fun b H2 s hb=>KE.bl s hb
 cases n with
 | true=>exact PE.mono (G0 (KR ha)) fun σ H Q h=>key σ H Q h
 | false=>exact PE.mono (G0 (MN ha)) fun σ H Q h=>key σ H Q h
theorem OF {a:Expr} {x:E} {n:Bool} {j pos'} (ha:PE X a (lE p EX tn x)):PT X (.Compare a [if n then .IsNot else .Is] [.Constant .none j pos'] pos) (lT p EX tn (.isN n x)):=by
 have key:∀ σ H Q,lT p EX tn (.isN n x) σ H Q->lE p EX tn x σ H fun v H1=>∃ c,V.bl (if n then !decide (v=.non) else decide (v=.non))=V.bl c/\Q c H1:=by
  intro σ H Q h
  obtain ⟨τ,rfl,hF,hj,h⟩:=h
  obtain ⟨q,hj⟩:=aaz.mp hj
  simp only [jk] at hj
  obtain ⟨⟨j1,k1⟩,h1,hj⟩:=bS hj
  unfold tv at h
  exact SF (Q:=fun v H1=>∃ c,v=V.bl c/\Q c H1) hF h1 h.bind fun b H2 s hb=>⟨b,rfl,hb H2 s⟩
 cases n with
 | true=>exact PT.mono (G1 (KR ha)) fun σ H Q h=>key σ H Q h
 | false=>exact PT.mono (G1 (MN ha)) fun σ H Q h=>key σ H Q h
theorem Qt {t:T} {c:Bool}:decide (t.val=V.bl c)=(match t.dat with | .bl b=>c==b | _=>false):=by
 cases t with
 | bl b=>cases b <;> cases c <;> rfl
 | _=>rfl
theorem SG {x:E} {n c:Bool} {τ:Ft} {H:Hp} {Kc:D->Prop} {Q:VK} {j1 k1:Nat} (hF:Fok p tn τ H) (h1:jk tn x=some (j1,k1)) (h:Lg p EX (vτ τ) (ev (.isB n c x) (dτ τ)) H Kc) (hQ:∀ b H2,Same H H2->Kc (.bl b)->Q (.bl b) H2) :
  lE p EX tn x (vτ τ) H fun v H1=>Q (.bl (if n then !decide (v=.bl c) else decide (v=.bl c))) H1:=by
 simp only [ev] at h
 refine l1 hF h1 h fun d t H1 ht R h=>?_
 subst ht
 refine hQ _ H1 R.same ?_
 have h:Kc (.bl (match t.dat with | .bl b=>(c==b) != n | _=>n)):=h
 rw [Qt]
 cases t with
 | bl b=>cases n <;> cases b <;> cases c <;> exact h
 | _=>cases n <;> exact h
theorem Qu {a:Expr} {x:E} {n c:Bool} {j pos'} (ha:PE X a (lE p EX tn x)):PE X (.Compare a [if n then .IsNot else .Is] [.Constant (.bool c) j pos'] pos) (lE p EX tn (.isB n c x)):=by
 have key:∀ σ H Q,lE p EX tn (.isB n c x) σ H Q->lE p EX tn x σ H fun v H1=>Q (.bl (if n then !decide (v=.bl c) else decide (v=.bl c))) H1:=by
  intro σ H Q h
  obtain ⟨τ,rfl,hF,j,k,hj,h⟩:=h
  simp only [jk] at hj
  obtain ⟨⟨j1,k1⟩,h1,hj⟩:=bS hj
  exact SG hF h1 h fun b H2 s hb=>KE.bl s hb
 cases n with
 | true=>exact PE.mono (G0 (K2 ha)) fun σ H Q h=>key σ H Q h
 | false=>exact PE.mono (G0 (Nc ha)) fun σ H Q h=>key σ H Q h
theorem OG {a:Expr} {x:E} {n c:Bool} {j pos'} (ha:PE X a (lE p EX tn x)):PT X (.Compare a [if n then .IsNot else .Is] [.Constant (.bool c) j pos'] pos) (lT p EX tn (.isB n c x)):=by
 have key:∀ σ H Q,lT p EX tn (.isB n c x) σ H Q->lE p EX tn x σ H fun v H1=>∃ d,V.bl (if n then !decide (v=.bl c) else decide (v=.bl c))=V.bl d/\Q d H1:=by
  intro σ H Q h
  obtain ⟨τ,rfl,hF,hj,h⟩:=h
  obtain ⟨q,hj⟩:=aaz.mp hj
  simp only [jk] at hj
  obtain ⟨⟨j1,k1⟩,h1,hj⟩:=bS hj
  unfold tv at h
  exact SG (Q:=fun v H1=>∃ d,v=V.bl d/\Q d H1) hF h1 h.bind fun b H2 s hb=>⟨b,rfl,hb H2 s⟩
 cases n with
 | true=>exact PT.mono (G1 (K2 ha)) fun σ H Q h=>key σ H Q h
 | false=>exact PT.mono (G1 (Nc ha)) fun σ H Q h=>key σ H Q h
end
section
variable {p:Px} {EX:EXT} {tn:List Nat} {X:Cx} {pos:Pos}
theorem Qv {a:Expr} {x:E} (ha:PE X a (lE p EX tn x)):PE X (.UnaryOp .USub a pos) (lE p EX tn (.neg x)):=by
 refine PE.mono (TN R4 ha) fun σ H Q h=>?_
 obtain ⟨τ,rfl,hF,j,k,hj,h⟩:=h
 simp only [jk] at hj
 obtain ⟨⟨j1,k1⟩,h1,hj⟩:=bS hj
 simp only [ev] at h
 refine l1 hF h1 h fun d t H1 ht R h=>?_
 subst ht
 cases t <;> simp only [T.dat] at h
 all_goals first | exact nE h | exact ⟨_,rfl,h (.int _) H1 rfl (Rs.scal R.same rfl)⟩
theorem Qw {a:Expr} {x:E} (ha:PE X a (lE p EX tn x)):PE X (.UnaryOp .Not a pos) (lE p EX tn (.not x)):=by
 refine PE.mono (RL ha) fun σ H Q h=>?_
 obtain ⟨τ,rfl,hF,j,k,hj,h⟩:=h
 simp only [jk] at hj
 obtain ⟨⟨j1,k1⟩,h1,hj⟩:=bS hj
 simp only [ev] at h
 refine l1 hF h1 h fun d t H1 ht R h=>?_
 subst ht
 cases t <;> simp only [T.dat] at h
 all_goals first | exact nE h | exact ⟨_,rfl,h (.bl _) H1 rfl (Rs.scal R.same rfl)⟩
theorem OH {H:Hp} {t:T} {σ:St} {H0:Hp} {Kc:Bool->Prop} (hK:X.K=p.K) (ok:t.Ok p H) (h:Lg p EX σ (BA t.dat) H0 Kc):∃ b,Ol X.K t.val H b/\Kc b:=by
 cases t <;> simp only [T.dat,BA] at h
 ·exact ⟨false,rfl,h⟩
 ·exact ⟨_,rfl,h⟩
 ·exact ⟨_,rfl,h⟩
 ·exact nE h
 ·rename_i a ts
  refine ⟨_,.inr (.inl ⟨_,SqT.of ok.1,rfl⟩),?_⟩
  have h:Kc (!(T.dats ts).isEmpty):=h
  cases ts <;> exact h
 ·rename_i a ts
  refine ⟨_,.inl ⟨_,.inl ok.1,rfl⟩,?_⟩
  have h:Kc (!(T.dats ts).isEmpty):=h
  cases ts <;> exact h
 ·exact nE h
noncomputable def Jr:Expr->Bool
 | .UnaryOp .Not _ _=>false
 | .BoolOp _ _ _=>false
 | .IfExp _ _ _ _=>false
 | .Compare _ _ _ _=>false
 | _=>true
theorem Nn {a:Expr} {env:Env} (h:Jr a=true):∀ whole,isTrue a env whole=(do let v <- whole; standAt a.pos; holding [v] (truthy v)):=by
 intro whole
 cases a with
 | UnaryOp o x q=>cases o <;> first | rfl | cases h
 | BoolOp _ _ _=>cases h
 | IfExp _ _ _ _=>cases h
 | Compare _ _ _ _=>cases h
 | _=>rfl
theorem L5 (hK:X.K=p.K) {a:Expr} {x:E} (ha:PE X a (lE p EX tn x)) (hp:Jr a=true):PT X a (lT p EX tn x):=by
 refine PT.mono (Om ha (Nn hp)) fun σ H Q h=>?_
 obtain ⟨τ,rfl,hF,hj,h⟩:=h
 obtain ⟨⟨j,k⟩,hj⟩:=aaz.mp hj
 refine l1 hF hj h fun d t H1 ht R h=>?_
 subst ht
 obtain ⟨b,tb,hb⟩:=OH (X:=X) hK R.ok h
 exact ⟨b,tb,hb H1 R.same⟩
theorem OI {a:Expr} {x:E} (ha:PT X a (lT p EX tn x)):PT X (.UnaryOp .Not a pos) (lT p EX tn (.not x)):=by
 refine PT.mono (RI ha) fun σ H Q h=>?_
 obtain ⟨τ,rfl,hF,hj,h⟩:=h
 obtain ⟨q,hj⟩:=aaz.mp hj
 simp only [jk] at hj
 obtain ⟨⟨j1,k1⟩,h1,hj⟩:=bS hj
 refine ⟨τ,rfl,hF,by rw [h1]; rfl,?_⟩
 unfold tv at h ⊢
 simp only [ev] at h
 cases q:ev x (dτ τ) with
 | ok d =>
  rw [q] at h
  simp only [Res.bind_ok] at h ⊢
  cases d <;> simp only [Res.bind_bad] at h
  all_goals first | exact nE h | exact h
 | exc c=>rw [q] at h; exact h
 | bad=>rw [q] at h; exact h
theorem SH {a:Expr} {x:E} {k0:Bool} (ha:PE X a (lE p EX tn x)):PE X (.BoolOp (if k0 then .And else .Or) [a] pos) (lE p EX tn (.bo k0 (.cons x .nil))):=by
 refine PE.mono (RJ ha) fun σ H Q h=>?_
 obtain ⟨τ,rfl,hF,j,k,hj,h⟩:=h
 simp only [jk,jks] at hj
 obtain ⟨⟨j1,k1⟩,h1,hj⟩:=bS hj
 simp only [ev,evBo] at h
 have hj:=Option.some.inj hj
 refine ⟨τ,rfl,hF,j1,k1,h1,h.mono (Same.refl _) fun d _ hd t H' ht R=>hd t H' ht (R.le ?_ ?_)⟩
 ·simp at hj; omega
 ·simp at hj
  obtain ⟨h1,h2⟩:=hj
  rw [<- h2]
  split
  ·exact aaT ..
  ·exact aaw _
theorem Qx {a b:Expr} {rest:List Expr} {x y:E} {r:Es} {k0:Bool} (ha:PE X a (lE p EX tn x)) (hb:PE X (.BoolOp (if k0 then .And else .Or) (b :: rest) pos) (lE p EX tn (.bo k0 (.cons y r)))) :
  PE X (.BoolOp (if k0 then .And else .Or) (a :: b :: rest) pos) (lE p EX tn (.bo k0 (.cons x (.cons y r)))):=by
 have key:∀ σ H Q,lE p EX tn (.bo k0 (.cons x (.cons y r))) σ H Q->lE p EX tn x σ H fun v H1=>∃ c,v=.bl c/\if c=k0 then lE p EX tn (.bo k0 (.cons y r)) σ H1 Q else Q (.bl c) H1:=by
  intro σ H Q h
  obtain ⟨τ,rfl,hF,j,k,hj,h⟩:=h
  simp only [jk,jks] at hj
  obtain ⟨⟨j1,k1⟩,h1,hj⟩:=bS hj
  obtain ⟨⟨j2,k2⟩,h2,hj⟩:=bS hj
  have hj:=Option.some.inj hj
  simp only [Prod.mk.injEq] at hj
  simp only [ev,evBo] at h
  refine l1 hF h1 h fun d t H1 ht R h=>?_
  subst ht
  cases t <;> simp only [T.dat] at h
  all_goals first | exact nE h | skip
  rename_i c
  refine ⟨c,rfl,?_⟩
  by_cases z:c=k0
  ·rw [if_pos z] at h ⊢
   refine ⟨τ,rfl,hF.same R.same,j2,k2,by simp only [jk,jks]; exact h2,?_⟩
   simp only [ev]
   refine h.mono R.same fun d _ hd t H' ht R'=>hd t H' ht ((R'.back R.same).le (by omega) ?_)
   rw [<- hj.2]
   split
   ·exact aaQ ..
   ·exact aaw _
  ·rw [if_neg z] at h ⊢
   exact h (.bl c) H1 rfl (Rs.scal R.same rfl)
 cases k0 with
 | true =>
  refine PE.mono (RK ha hb) fun σ H Q h=>?_
  refine (show ∀ (A B:VK),(∀ v H,A v H->B v H)->lE p EX tn x σ H A->lE p EX tn x σ H B from ?_) _ _ ?_ (key σ H Q h)
  ·rintro A B m ⟨τ,e,hF,j,k,hj,h⟩
   exact ⟨τ,e,hF,j,k,hj,h.mono (Same.refl _) fun d _ hd t H' ht R=>m _ _ (hd t H' ht R)⟩
  ·rintro v H1 ⟨c,rfl,h⟩
   exact ⟨c,rfl,by cases c <;> simpa using h⟩
 | false =>
  refine PE.mono (TH ha hb) fun σ H Q h=>?_
  refine (show ∀ (A B:VK),(∀ v H,A v H->B v H)->lE p EX tn x σ H A->lE p EX tn x σ H B from ?_) _ _ ?_ (key σ H Q h)
  ·rintro A B m ⟨τ,e,hF,j,k,hj,h⟩
   exact ⟨τ,e,hF,j,k,hj,h.mono (Same.refl _) fun d _ hd t H' ht R=>m _ _ (hd t H' ht R)⟩
  ·rintro v H1 ⟨c,rfl,h⟩
   exact ⟨c,rfl,by cases c <;> simpa using h⟩
theorem Qy {a:Expr} {x:E} {k0:Bool} (ha:PT X a (lT p EX tn x)):PW X (.BoolOp (if k0 then .And else .Or) [a] pos) (lT p EX tn (.bo k0 (.cons x .nil))):=by
 have key:∀ σ H Q,lT p EX tn (.bo k0 (.cons x .nil)) σ H Q->lT p EX tn x σ H Q:=by
  rintro σ H Q ⟨τ,rfl,hF,hj,h⟩
  refine ⟨τ,rfl,hF,?_,by simpa only [tv,ev,evBo] using h⟩
  obtain ⟨q,hj⟩:=aaz.mp hj
  simp only [jk,jks] at hj
  obtain ⟨⟨j1,k1⟩,h1,hj⟩:=bS hj
  rw [h1]; rfl
 cases k0 with
 | true=>exact fun wh pins s σ H Q I h=>PU ha wh pins s σ H Q I (key σ H Q h)
 | false=>exact fun wh pins s σ H Q I h=>RG ha wh pins s σ H Q I (key σ H Q h)
theorem OJ {a b:Expr} {rest:List Expr} {x y:E} {r:Es} {k0:Bool} (ha:PT X a (lT p EX tn x)) (hb:PW X (.BoolOp (if k0 then .And else .Or) (b :: rest) pos) (lT p EX tn (.bo k0 (.cons y r)))) :
  PW X (.BoolOp (if k0 then .And else .Or) (a :: b :: rest) pos) (lT p EX tn (.bo k0 (.cons x (.cons y r)))):=by
 have key:∀ σ H Q,lT p EX tn (.bo k0 (.cons x (.cons y r))) σ H Q->lT p EX tn x σ H fun c H1=>if c=k0 then lT p EX tn (.bo k0 (.cons y r)) σ H1 Q else Q c H1:=by
  rintro σ H Q ⟨τ,rfl,hF,hj,h⟩
  obtain ⟨q,hj⟩:=aaz.mp hj
  simp only [jk,jks] at hj
  obtain ⟨⟨j1,k1⟩,h1,hj⟩:=bS hj
  obtain ⟨⟨j2,k2⟩,h2,hj⟩:=bS hj
  refine ⟨τ,rfl,hF,by rw [h1]; rfl,?_⟩
  simp only [tv,ev,evBo] at h ⊢
  cases q:ev x (dτ τ) with
  | ok d =>
   rw [q] at h
   simp only [Res.bind_ok] at h ⊢
   cases d <;> simp only [Res.bind_bad] at h
   all_goals first | exact nE h | skip
   rename_i c
   show ∀ H',Same H H'->if c=k0 then _ else _
   intro H' s
   by_cases z:c=k0
   ·rw [if_pos z] at h ⊢
    refine ⟨τ,rfl,hF.same s,by simp only [jk,jks]; rw [h2]; rfl,?_⟩
    simp only [tv,ev]
    exact h.mono s fun b _ hb H2 s2=>hb H2 (s.trans s2)
   ·rw [if_neg z] at h ⊢
    exact h H' s
  | exc c=>rw [q] at h; exact h
  | bad=>rw [q] at h; exact h
 have mon:∀ (σ:St) (H:Hp) (A B:Bool->Hp->Prop),(∀ v H,A v H->B v H)->lT p EX tn x σ H A->lT p EX tn x σ H B:=by
  rintro σ H A B m ⟨τ,e,hF,hj,h⟩
  exact ⟨τ,e,hF,hj,h.mono (Same.refl _) fun b _ hb H' s=>m _ _ (hb H' s)⟩
 cases k0 with
 | true=>exact fun wh pins s σ H Q I h=>RH ha hb wh pins s σ H Q I (mon _ _ _ _ (fun c H1 h=>by cases c <;> simpa using h) (key σ H Q h))
 | false=>exact fun wh pins s σ H Q I h=>TC ha hb wh pins s σ H Q I (mon _ _ _ _ (fun c H1 h=>by cases c <;> simpa using h) (key σ H Q h))
theorem Qz {c a b:Expr} {x y z:E} (hc:PT X c (lT p EX tn x)) (ha:PE X a (lE p EX tn y)) (hb:PE X b (lE p EX tn z)):PE X (.IfExp c a b pos) (lE p EX tn (.ifx x y z)):=by
 refine PE.mono (Oc hc ha hb) fun σ H Q h=>?_
 obtain ⟨τ,rfl,hF,j,k,hj,h⟩:=h
 simp only [jk] at hj
 obtain ⟨⟨j1,k1⟩,h1,hj⟩:=bS hj
 obtain ⟨⟨j2,k2⟩,h2,hj⟩:=bS hj
 obtain ⟨⟨j3,k3⟩,h3,hj⟩:=bS hj
 have hj:=Option.some.inj hj
 simp only [Prod.mk.injEq] at hj
 simp only [ev] at h
 have hk2:k<=k2:=by rw [<- hj.2]; split; exact aaT ..; exact aaw _
 have hk3:k<=k3:=by rw [<- hj.2]; split; exact aaQ ..; exact aaw _
 refine ⟨τ,rfl,hF,by rw [h1]; rfl,h.bind.mono (Same.refl _) fun t _ ht H' s=>?_⟩
 cases t with
 | true =>
  rw [if_pos rfl] at ht ⊢
  exact ⟨τ,rfl,hF.same s,j2,k2,h2,ht.mono s fun d _ hd t H2 ht R=>hd t H2 ht ((R.back s).le (by omega) hk2)⟩
 | false =>
  rw [if_neg (by decide)] at ht ⊢
  exact ⟨τ,rfl,hF.same s,j3,k3,h3,ht.mono s fun d _ hd t H2 ht R=>hd t H2 ht ((R.back s).le (by omega) hk3)⟩
end
section
variable {p:Px} {EX:EXT} {tn:List Nat} {X:Cx} {pos:Pos}
theorem Js (n:Nat) (i:Int):L2.ixN n i=ixN n i:=rfl
theorem L6 {ts:List T} {i:Int} {σ:St} {H:Hp} {Kc:D->Prop} (h:Lg p EX σ (atD (T.dats ts) i) H Kc):∃ t ∈ ts,atI (ts.map T.val) i=some t.val/\Kc t.dat:=by
 unfold atD at h
 rw [Ac] at h
 cases q:ixN ts.length i with
 | none=>rw [q] at h; exact nE h
 | some j =>
  rw [q] at h
  simp only [aa6] at h
  rw [T.dats_map,aaj] at h
  cases e:ts[j]? with
  | none=>rw [e] at h; exact nE h
  | some t =>
   rw [e] at h
   refine ⟨t,aae e,?_,h⟩
   unfold atI
   rw [aaa,Js,q]
   show (ts.map T.val)[j]?=_
   rw [aaj,e]; rfl
theorem Rs.sub {B:Addr->Prop} {H H1:Hp} {j k j':Nat} {t u:T} (r:Rs p B H H1 j k t) (ok:u.Ok p H1) (h:∀ a ∈ u.rest j',a ∈ t.rest j):Rs p B H H1 j' 0 u :=
 ⟨r.same,ok,fun a m=>r.src a (h a m),by rw [T.adr_zero]; simp,T.nd_zero u⟩
noncomputable def Dc:Expr->Bool
 | .Slice _ _ _ _=>false
 | _=>true
theorem FK {b:Expr} (h:Dc b=true):KW b:=by
 intro o i
 cases b <;> first | rfl | cases h
theorem SI (hK:X.K=p.K):IxR X (fun x y H Q=>Sd X.K x y H Q\/Se X.K x y H Q):=HF.or M2
theorem SJ (hK:X.K=p.K) {a b:Expr} {x y:E} (ha:PE X a (lE p EX tn x)) (hb:PE X b (lE p EX tn y)) (hp:Dc b=true):PE X (.Subscript a b pos) (lE p EX tn (.ix x y)):=by
 refine PE.mono (LM (SI hK) ha hb (FK hp)) fun σ H Q h=>?_
 obtain ⟨τ,rfl,hF,j,k,hj,h⟩:=h
 simp only [jk] at hj
 obtain ⟨⟨j1,k1⟩,h1,hj⟩:=bS hj
 obtain ⟨⟨j2,k2⟩,h2,hj⟩:=bS hj
 obtain ⟨hc,e⟩:=DH hj
 cases e
 have hc:=of_decide_eq_true hc
 subst hc
 simp only [ev] at h
 refine l1 hF h1 h fun d t H1 ht R h=>l2 hF R.same h2 h fun d' t' H2 ht' R' h=>?_
 subst ht ht'
 have R:=R.fwd R'.same
 cases t <;> cases t' <;> simp only [T.dat,ixD] at h
 all_goals first | exact nE h | skip
 ·obtain ⟨u,hu,e,h⟩:=L6 h
  exact .inr ⟨_,_,_,_,rfl,rfl,SqT.of R.ok.1,e,h u H2 rfl (R.sub (T.oks_iff.mp R.ok.2 u hu) fun b m=>T.mem_rests.mpr ⟨u,hu,m⟩)⟩
 ·obtain ⟨u,hu,e,h⟩:=L6 h
  exact .inl ⟨_,_,_,_,rfl,rfl,.inl R.ok.1,e,h u H2 rfl (R.sub (T.oks_iff.mp R.ok.2 u hu) fun b m=>aab _ (T.mem_rests.mpr ⟨u,hu,m⟩))⟩
theorem QA {a b:Expr} {x y:E} (ha:PE X a (lE p EX tn x)) (hb:PE X b (lE p EX tn y)) (hp:Dc b=true):PE X (.Subscript a b pos) (lE p EX tn (.ixL x y)):=by
 refine PE.mono (LM HF ha hb (FK hp)) fun σ H Q h=>?_
 obtain ⟨τ,rfl,hF,j,k,hj,h⟩:=h
 simp only [jk] at hj
 obtain ⟨⟨j1,k1⟩,h1,hj⟩:=bS hj
 obtain ⟨⟨j2,k2⟩,h2,hj⟩:=bS hj
 have hj:=Option.some.inj hj
 simp only [Prod.mk.injEq] at hj
 obtain ⟨rfl,rfl⟩:=hj
 simp only [ev] at h
 refine l1 hF h1 h fun d t H1 ht R h=>l2 hF R.same h2 h fun d' t' H2 ht' R' h=>?_
 subst ht ht'
 have R:=R.fwd R'.same
 cases t <;> cases t' <;> simp only [T.dat,Ej] at h
 all_goals first | exact nE h | skip
 obtain ⟨u,hu,e,h⟩:=L6 h
 refine ⟨_,_,_,_,rfl,rfl,.inl R.ok.1,e,h u H2 rfl (R.sub (T.oks_iff.mp R.ok.2 u hu) fun b m=>?_)⟩
 cases j1 with
 | zero=>exact aab _ (T.mem_rests.mpr ⟨u,hu,m⟩)
 | succ j1=>exact T.mem_rests.mpr ⟨u,hu,m⟩
theorem Hd (n d:Nat) (o:Option Int):HT.sIx n d o=sIx n d o:=by
 cases o with
 | none=>rfl
 | some v=>exact Int.ofNat_inj.mp (by rw [<- HT.clip_eq v n d]; unfold sIx; simp only; split <;> omega)
theorem K6 {α β:Type} (f:α->β) (xs:List α) (lo hi:Option Int):(cut xs lo hi).map f=cut (xs.map f) lo hi:=by
 unfold cut; rw [abB,abC,aaa]
theorem K7 (ts:List T) (lo hi:Option Int):FC (ts.map T.val) lo hi=(cut ts lo hi).map T.val:=by
 unfold FC cut
 rw [abB,abC,aaa,Hd,Hd]
theorem Gf {α:Type} {xs:List α} {lo hi:Option Int} {x:α} (h:x ∈ cut xs lo hi):x ∈ xs:=aby (abz h)
noncomputable def lO (p:Px) (EX:EXT) (tn:List Nat) (e:E):TO:=fun σ H Q=>∃ τ,σ=vτ τ/\Fok p tn τ H/\(jk tn e).isSome=true/\Lg p EX σ (Ci e.isCN (ev e (dτ τ))) H fun o=>∀ H',Same H H'->Q o H'
theorem Iv:PO X none (lO p EX tn .cN):=by
 intro pins s σ H Q I h
 obtain ⟨τ,rfl,hF,hj,h⟩:=h
 exact P6 pins s _ H Q I (h H (Same.refl _))
theorem Iw {e:Expr} {x:E} (he:PE X e (lE p EX tn x)) (hx:x.isCN=false):PO X (some e) (lO p EX tn x):=by
 intro pins s σ H Q I h
 obtain ⟨τ,rfl,hF,hj,h⟩:=h
 obtain ⟨⟨j,k⟩,hj⟩:=aaz.mp hj
 unfold Ci at h
 rw [hx,if_neg (by decide)] at h
 refine P7 he pins s _ H Q I (l1 hF hj h fun d t H1 ht R h=>?_)
 subst ht
 cases t <;> simp only [T.dat,Db] at h
 all_goals first | exact nE h | exact ⟨_,rfl,h H1 R.same⟩
theorem K8:∀ {ts:List T},(T.dats ts).all D.scal=true->∀ t ∈ ts,t.sc=true
 | [],_,t,h=>nomatch h
 | u :: r,h,t,ht=>by
  simp only [T.dats,aaH,aak] at h
  rcases aal.mp ht with rfl | ht
  ·cases t <;> first | rfl | cases h.1
  ·exact K8 h.2 t ht
theorem QB {t:T} {j:Nat} (h:t.sc=true):t.rest j=[]:=by cases t <;> first | rfl | cases h
theorem SK {t:T} {j:Nat} (h:t.sc=true):t.adr j=[]:=by cases t <;> first | rfl | cases h
theorem Jt {ts:List T} {j:Nat} (h:∀ t ∈ ts,t.sc=true):T.rests ts j=[]:=by
 refine aaS.mpr fun b hb=>?_
 obtain ⟨t,ht,q⟩:=T.mem_rests.mp hb
 rw [QB (h t ht)] at q; cases q
theorem K9 {ts:List T} {j:Nat} (h:∀ t ∈ ts,t.sc=true):T.adrs ts j=[]:=by
 refine aaS.mpr fun b hb=>?_
 obtain ⟨t,ht,q⟩:=T.mem_adrs.mp hb
 rw [SK (h t ht)] at q; cases q
theorem OK {B:Addr->Prop} {H H1:Hp} {j k:Nat} {a:Addr} {ts:List T} (s:Same H H1) (ok:(T.tup a ts).Ok p H1) (h:∀ t ∈ ts,t.sc=true):Rs p B H H1 j k (.tup a ts) :=
 ⟨s,ok,by simp only [T.rest]; rw [Jt h]; simp,by simp only [T.adr]; rw [K9 h]; simp,by unfold T.Nd; simp only [T.adr,T.rest]; rw [Jt h,K9 h]; simp⟩
theorem QC {a:Expr} {lo hi:Option Expr} {p2:Pos} {x y z:E} (ha:PE X a (lE p EX tn x)) (hl:PO X lo (lO p EX tn y)) (hh:PO X hi (lO p EX tn z)):PE X (.Subscript a (.Slice lo hi none p2) pos) (lE p EX tn (.slc x y z)):=by
 refine PE.mono (Oo (P8.or Sb) ha hl hh) fun σ H Q h=>?_
 obtain ⟨τ,rfl,hF,j,k,hj,h⟩:=h
 simp only [jk] at hj
 obtain ⟨⟨j1,k1⟩,h1,hj⟩:=bS hj
 obtain ⟨q2,h2,hj⟩:=bS hj
 obtain ⟨q3,h3,hj⟩:=bS hj
 obtain ⟨hc,e⟩:=DH hj
 cases e
 have hc:=of_decide_eq_true hc
 simp only [ev] at h
 refine l1 hF h1 h fun d t H1 ht R h=>?_
 subst ht
 refine ⟨τ,rfl,hF.same R.same,by rw [h2]; rfl,h.bind.mono R.same fun l _ h H2 s2=>?_⟩
 refine ⟨τ,rfl,hF.same (R.same.trans s2),by rw [h3]; rfl,h.bind.mono (R.same.trans s2) fun u _ h H3 s3=>?_⟩
 have R:=R.fwd (s2.trans s3)
 cases t with
 | tup b ts =>
  simp only [T.dat,CZ] at h
  obtain ⟨⟨g1,g2⟩,h⟩:=h.guard
  refine .inr ⟨b,_,rfl,SqT.of R.ok.1,?_,fun q hq=>?_⟩
  ·rw [aaa,Hd,Hd,<- Ac]; exact g2
  ·rw [K7]
   have sn:=Same.new (o:=.tup ((cut ts l u).map T.val)) hq
   refine h (.tup q (cut ts l u)) _ (by simp only [T.dat,T.dats_map,K6]) (OK (R.same.trans sn) ⟨AS,T.oks_iff.mpr fun w hw=>((T.oks_iff.mp R.ok.2 w (Gf hw))).same sn⟩ fun w hw=>K8 g1 w (Gf hw))
 | lst b ts =>
  simp only [T.dat,CZ] at h
  refine .inl ⟨b,_,rfl,.inl R.ok.1,fun q hq=>?_⟩
  rw [K7]
  refine h (.lst q (cut ts l u)) _ (by simp only [T.dat,T.dats_map,K6]) (E5 R.same (T.oks_iff.mpr fun w hw=>T.oks_iff.mp R.ok.2 w (Gf hw)) (fun c m=>?_) hq)
  obtain ⟨w,hw,m⟩:=T.mem_rests.mp m
  exact R.elems hc c (T.mem_rests.mpr ⟨w,Gf hw,m⟩)
 | _=>exact nE h
end
noncomputable def spF (p:Px) (F:Fn):Sp:=fun vs H Q E=>∃ ts:List T,vs=ts.map T.val/\T.Oks p H ts/\ts.length=F.ar/\match F.den (T.dats ts) with
 | .ok d=>∀ t H',t.dat=d->Rs p (fun a=>a ∈ T.rests ts 0) H H' 0 F.dep t->Q t.val H'
 | .exc c=>p.has c=true->∀ H',Same H H'->E (.ref (p.cl c)) none H'
 | .bad=>False
noncomputable def L7 (p:Px) (X:Cx) (F:Fn):Prop:=∃ ps:List Str,ps.length=F.ar/\Has X.prog X.w X.K X.mg X.base F.name F.lv ps (spF p F)
theorem FL:∀ (m:Nat) (t:T) (k:Nat),t.dat.flat m k=true->t.rest k=[]
 | 0,t,k,h=>by simp [D.flat] at h
 | m + 1,t,k,h=>by
  cases t with
  | tup a ts =>
   simp only [T.dat,D.flat] at h
   simp only [T.rest]
   refine aaS.mpr fun b hb=>?_
   obtain ⟨t,ht,q⟩:=T.mem_rests.mp hb
   rw [FL m t k (Fl h t ht)] at q; cases q
  | lst a ts =>
   cases k with
   | zero=>simp [T.dat,D.flat] at h
   | succ k =>
    simp only [T.dat,D.flat] at h
    simp only [T.rest]
    refine aaS.mpr fun b hb=>?_
    obtain ⟨t,ht,q⟩:=T.mem_rests.mp hb
    rw [FL m t k (Fl h t ht)] at q; cases q
  | _=>rfl
noncomputable def Ak:Expr->Bool
 | .Starred _ _=>false
 | _=>true
theorem Ae {e:Expr} {es:List Expr} {env:Env} (h:Ak e=true):starEach (e :: es) env=(false,eval e env) :: starEach es env:=by
 cases e <;> first | rfl | cases h
theorem AC {pos:Pos} {env:Env}:∀ {es:List Expr},es.all Ak=true->(backTo pos (starEach es env)).any (·.1)=false
 | [],_=>rfl
 | e :: es,h=>by
  rw [aaH,aak] at h
  rw [Ae h.1]
  have ih:=AC (pos:=pos) (env:=env) h.2
  unfold backTo at ih ⊢
  rw [aaE,acs,ih]; rfl
section
variable {p:Px} {EX:EXT} {tn:List Nat} {X:Cx} {pos np:Pos}
theorem OL {F:Fn} {e:Expr} {es:List Expr} {x:E} {xs:Es} (hx:FF (CXe X.prog X.w) X EX) (hF:L7 p X F) (hr:Room F.lv X.A) (hg:Gl X F.name) (hdb:(F.name==("__debug__" : Str))=false) (ha:PA X (e :: es) (lEs p EX tn (.cons x xs))) (hst:(e :: es).all Ak=true) (hl:(Es.cons x xs).len=F.ar) :
  PE X (.Call (.Name F.name np) (e :: es) [] pos) (lE p EX tn (.call F (.cons x xs))):=by
 obtain ⟨ps,hps,hF⟩:=hF
 rw [aaH,aak] at hst
 refine PE.mono (Pw hF hr hg hx ha hdb (Ae hst.1) (AC hst.2)) fun σ H Q h=>?_
 obtain ⟨τ,rfl,hFr,j,k,hj,h⟩:=h
 simp only [jk] at hj
 obtain ⟨⟨j1,k1⟩,h1,hj⟩:=bS hj
 obtain ⟨hc,e⟩:=DH hj
 cases e
 have hc:j1=0:=of_decide_eq_true hc
 subst hc
 simp only [ev] at h
 refine ⟨τ,rfl,hFr,0,k1,h1,h.bind.mono (Same.refl _) fun ds e hd ts H1 hts R=>?_⟩
 show spF p F (ts.map T.val ++ []) H1 Q (EX (vτ τ))
 rw [aaJ]
 refine ⟨ts,rfl,R.ok,?_,?_⟩
 ·rw [<- Ac,hts,BI _ _ _ e,hl]
 ·rw [hts]
  cases q:F.den ds with
  | ok d =>
   rw [q] at hd
   intro t H' ht R'
   refine hd t H' ht ⟨R.same.trans R'.same,R'.ok,fun a m=>?_,fun a m=>⟨R.same.free (R'.new a m).1,(R'.new a m).2⟩,R'.nd⟩
   rcases R'.src a m with z | z
   ·exact .inl (R.same.free z)
   ·exact R.src a z
  | exc c =>
   rw [q] at hd
   exact fun hc H' s=>hd hc H' (R.same.trans s)
  | bad=>rw [q] at hd; exact hd
theorem T.adr_rest:∀ (t:T) {d K:Nat},t.rest d=[]->d<=K->t.adr K=t.adr d:=by
 have lists:∀ (ts:List T),(∀ t ∈ ts,∀ {d K:Nat},t.rest d=[]->d<=K->t.adr K=t.adr d)->∀ {d K:Nat},T.rests ts d=[]->d<=K->T.adrs ts K=T.adrs ts d:=by
  intro ts
  induction ts with
  | nil=>intro _ d K _ _; rfl
  | cons t r ih =>
   intro h d K hr hk
   simp only [T.rests,List.append_eq_nil_iff] at hr
   show t.adr K ++ T.adrs r K=t.adr d ++ T.adrs r d
   rw [h t (aac ..) hr.1 hk,ih (fun u hu=>h u (aab _ hu)) hr.2 hk]
 refine T.ind (by intros; rfl) (by intros; rfl) (by intros; rfl) (by intros; rfl) (fun a ts ih d K h hk=>?_) (fun a ts ih d K h hk=>?_) (by intros; rfl)
 ·exact lists ts ih h hk
 ·cases d with
  | zero=>cases h
  | succ d =>
   cases K with
   | zero=>omega
   | succ K=>exact congrArg (a :: ·) (lists ts ih h (abL hk))
theorem No {F:Fn} {e:Expr} {es:List Expr} {x:E} {xs:Es} (hx:FF (CXe X.prog X.w) X EX) (hF:L7 p X F) (hr:Room F.lv X.A) (hg:Gl X F.name) (hdb:(F.name==("__debug__" : Str))=false) (ha:PA X (e :: es) (lEs p EX tn (.cons x xs))) (hst:(e :: es).all Ak=true) (hl:(Es.cons x xs).len=F.ar) :
  PE X (.Call (.Name F.name np) (e :: es) [] pos) (lE p EX tn (.callB F (.cons x xs))):=by
 obtain ⟨ps,hps,hF⟩:=hF
 rw [aaH,aak] at hst
 refine PE.mono (Pw hF hr hg hx ha hdb (Ae hst.1) (AC hst.2)) fun σ H Q h=>?_
 obtain ⟨τ,rfl,hFr,j,k,hj,h⟩:=h
 simp only [jk] at hj
 obtain ⟨⟨j1,k1⟩,h1,hj⟩:=bS hj
 have hj:=Option.some.inj hj
 simp only [Prod.mk.injEq] at hj
 obtain ⟨rfl,rfl⟩:=hj
 simp only [ev] at h
 refine ⟨τ,rfl,hFr,j1,k1,h1,h.bind.mono (Same.refl _) fun ds e hd ts H1 hts R=>?_⟩
 show spF p F (ts.map T.val ++ []) H1 Q (EX (vτ τ))
 rw [aaJ]
 refine ⟨ts,rfl,R.ok,?_,?_⟩
 ·rw [<- Ac,hts,BI _ _ _ e,hl]
 ·rw [hts]
  cases q:F.den ds with
  | ok d =>
   rw [q] at hd
   obtain ⟨hf,hd⟩:=Lg.guard hd
   intro t H' ht R'
   subst ht
   have r0:=FL 9 t F.dep hf
   have up:∀ a,a ∈ t.rest 0->a ∈ t.adr F.dep:=fun a m=>by
    rcases (T.all_iff t F.dep).mp m with z | z
    ·exact z
    ·rw [r0] at z; cases z
   refine hd t H' rfl ⟨R.same.trans R'.same,R'.ok,fun a m=>.inl (R.same.free (R'.new a (up a m)).1),fun a m=>?_,?_⟩
   ·have:=R'.new a (up a ((T.all_iff t 9).mpr (.inl m)))
    exact ⟨R.same.free this.1,this.2⟩
   ·by_cases c9:9<=F.dep
    ·exact T.nd_le t c9 R'.nd
    ·have e9:=T.adr_rest t r0 (show F.dep<=9 by omega)
     refine ⟨by rw [e9]; exact R'.nd.1,fun a m _=>?_⟩
     have:=T.rest_le t (show F.dep<=9 by omega) m
     rw [r0] at this; cases this
  | exc c =>
   rw [q] at hd
   exact fun hc H' s=>hd hc H' (R.same.trans s)
  | bad=>rw [q] at hd; exact hd
theorem Cj {b:Bi} {e:Expr} {es:List Expr} {x:E} {xs:Es} {ex:Expr} {r:List V->Hp->VK->Prop} (hp:PE X ex (tCB r (lEs p EX tn (.cons x xs))))
  (hr:∀ (B:Addr->Prop) (H H1:Hp) (j1 k1 j k:Nat) (ts:List T) (σ:St) (Q:VK),RsL p B H H1 j1 k1 ts->(match b with | .list=>gj (decide (j1=0)) (0,1) | .listL=>gj (decide (j1<=1)) (0,1) | _=>some (0,9))=some (j,k) ->
   Lg p EX σ (biD b (T.dats ts)) H (KE p B H j k Q)->r (ts.map T.val) H1 Q):PE X ex (lE p EX tn (.bi b (.cons x xs))):=by
 refine PE.mono hp fun σ H Q h=>?_
 obtain ⟨τ,rfl,hFr,j,k,hj,h⟩:=h
 simp only [jk] at hj
 obtain ⟨⟨j1,k1⟩,h1,hj⟩:=bS hj
 simp only [ev] at h
 refine ⟨τ,rfl,hFr,j1,k1,h1,h.bind.mono (Same.refl _) fun ds e hd ts H1 hts R=>?_⟩
 subst hts
 exact hr (Sh tn τ) H H1 j1 k1 j k ts _ Q R hj hd
theorem FM:∀ {ts:List T} {bs:List Bool},AA (T.dats ts)=some bs->ts.map T.val=bs.map V.bl
 | [],bs,h=>by simp [T.dats,AA] at h; subst h; rfl
 | t :: r,bs,h=>by
  cases t <;> simp only [T.dats,T.dat,AA] at h
  all_goals first | cases h | skip
  obtain ⟨bs',h1,rfl⟩:=aam.mp h
  simp [T.val,FM h1]
theorem Gy:∀ {ts:List T} {bs:List Int},Bh (T.dats ts)=some bs->ts.map T.val=bs.map V.int
 | [],bs,h=>by simp [T.dats,Bh] at h; subst h; rfl
 | t :: r,bs,h=>by
  cases t <;> simp only [T.dats,T.dat,Bh] at h
  all_goals first | cases h | skip
  obtain ⟨bs',h1,rfl⟩:=aam.mp h
  simp [T.val,Gy h1]
section
variable {e:Expr} {es:List Expr} {x:E} {xs:Es} (hg:∀ y:Str,y ∈ (["len", "min", "max", "abs", "int", "list", "tuple", "all", "any", "sum", "sorted", "isinstance", "str", "range", "enumerate", "zip", "reversed"]:List Str)->X.mg y=none)
 (ha:PA X (e :: es) (lEs p EX tn (.cons x xs))) (hst:(e :: es).all Ak=true)
include hg ha hst
theorem QD (hgl:Gl X "len"):PE X (.Call (.Name "len" np) (e :: es) [] pos) (lE p EX tn (.bi .len (.cons x xs))):=by
 rw [aaH,aak] at hst
 refine Cj (es:=es) (e:=e) (CY Ji hgl (hg _ (by simp)) PySem.boot_len ha (by decide) (by decide) (Ae hst.1) (AC hst.2)) fun B H H1 j1 k1 j k ts σ Q R hj h=>?_
 rcases ts with _ | ⟨t,_ | ⟨u,r⟩⟩
 ·exact nE h
 ·cases t with
  | lst a us=>exact ⟨a,_,rfl,.inl (.inl R.ok.1.1),by have:=h (.int _) H1 rfl (Rs.scal R.same rfl); rw [Ac,<- aaa (f:=T.val)] at this; exact this⟩
  | tup a us=>exact ⟨a,_,rfl,.inr (SqT.of R.ok.1.1),by have:=h (.int _) H1 rfl (Rs.scal R.same rfl); rw [Ac,<- aaa (f:=T.val)] at this; exact this⟩
  | _=>exact nE h
 ·exact nE h
theorem QE (hgl:Gl X "int"):PE X (.Call (.Name "int" np) (e :: es) [] pos) (lE p EX tn (.bi .int (.cons x xs))):=by
 rw [aaH,aak] at hst
 refine Cj (es:=es) (e:=e) (FB MX hgl (hg _ (by simp)) (by decide +kernel) ha (by decide) (by decide) (Ae hst.1) (AC hst.2)) fun B H H1 j1 k1 j k ts σ Q R hj h=>?_
 rcases ts with _ | ⟨t,_ | ⟨u,r⟩⟩
 ·exact nE h
 ·cases t with
  | int i=>exact .inl ⟨i,rfl,h (.int _) H1 rfl (Rs.scal R.same rfl)⟩
  | bl b=>exact .inr ⟨b,rfl,h (.int _) H1 rfl (Rs.scal R.same rfl)⟩
  | _=>exact nE h
 ·exact nE h
theorem OM (hgl:Gl X "list"):PE X (.Call (.Name "list" np) (e :: es) [] pos) (lE p EX tn (.bi .list (.cons x xs))):=by
 rw [aaH,aak] at hst
 refine Cj (es:=es) (e:=e) (FB FD hgl (hg _ (by simp)) (by decide +kernel) ha (by decide) (by decide) (Ae hst.1) (AC hst.2)) fun B H H1 j1 k1 j k ts σ Q R hj h=>?_
 obtain ⟨hc,ej⟩:=DH hj
 cases ej
 have hc:j1=0:=of_decide_eq_true hc
 subst hc
 rcases ts with _ | ⟨t,_ | ⟨u,r⟩⟩
 ·exact nE h
 ·cases t with
  | lst a us=>exact ⟨a,_,rfl,.inl (.inl R.ok.1.1),fun l hl=>h (.lst l us) _ rfl (E5 R.same R.ok.1.2 (fun c m=>R.src c (by simp [T.rests,T.rest,m])) hl)⟩
  | tup a us=>exact ⟨a,_,rfl,.inr (SqT.of R.ok.1.1),fun l hl=>h (.lst l us) _ rfl (E5 R.same R.ok.1.2 (fun c m=>R.src c (by simp [T.rests,T.rest,m])) hl)⟩
  | _=>exact nE h
 ·exact nE h
theorem Np (hgl:Gl X "list"):PE X (.Call (.Name "list" np) (e :: es) [] pos) (lE p EX tn (.bi .listL (.cons x xs))):=by
 rw [aaH,aak] at hst
 refine Cj (es:=es) (e:=e) (FB FD hgl (hg _ (by simp)) (by decide +kernel) ha (by decide) (by decide) (Ae hst.1) (AC hst.2)) fun B H H1 j1 k1 j k ts σ Q R hj h=>?_
 obtain ⟨hc,ej⟩:=DH hj
 cases ej
 have hc:j1<=1:=of_decide_eq_true hc
 rcases ts with _ | ⟨t,_ | ⟨u,r⟩⟩
 ·exact nE h
 ·cases t with
  | lst a us=>exact ⟨a,_,rfl,.inl (.inl R.ok.1.1),fun l hl=>h (.lst l us) _ rfl (E5 R.same R.ok.1.2 (fun c m=>R.src c (by
    simp only [T.rests,aaJ]
    exact T.rest_le (.lst a us) hc (j':=1) m)) hl)⟩
  | _=>exact nE h
 ·exact nE h
theorem QF (hcm:X.calm=true) (hgl:Gl X "all"):PE X (.Call (.Name "all" np) (e :: es) [] pos) (lE p EX tn (.bi .all (.cons x xs))):=by
 rw [aaH,aak] at hst
 refine Cj (es:=es) (e:=e) (CY (Na hcm) hgl (hg _ (by simp)) (by decide +kernel) ha (by decide) (by decide) (Ae hst.1) (AC hst.2)) fun B H H1 j1 k1 j k ts σ Q R hj h=>?_
 rcases ts with _ | ⟨t,_ | ⟨u,r⟩⟩
 ·exact nE h
 ·cases t with
  | lst a us =>
   have h:Lg p EX σ ((BG (AA (T.dats us))).bind _) H (KE p B H j k Q):=h
   cases q:AA (T.dats us) with
   | none=>rw [q] at h; exact nE h
   | some bs =>
    rw [q] at h
    exact ⟨a,bs,rfl,.inl (FM q ▸ R.ok.1.1),h (.bl _) H1 rfl (Rs.scal R.same rfl)⟩
  | _=>exact nE h
 ·exact nE h
end
end
section
variable {p:Px} {EX:EXT} {tn:List Nat} {X:Cx} {pos np:Pos}
theorem L8 {ns:List Int} {its:List Value} (h:Vals (ns.map V.int) its):∃ xs:Array (Int × Tok),its.toArray=intItems xs/\ns=xs.toList.map (·.1):=by
 have hi:=LL h
 obtain ⟨xs,hx⟩:=hi.allInts.items
 refine ⟨xs,hx,?_⟩
 rw [<- nums_intItems,<- hx,<- hi.numsOf]
noncomputable def T4:List V->Hp->VK->Prop:=fun xs H Q=>∃ (l:Addr) (ns:List Int) (M:Int),xs=[.ref l]/\Rd H l (.lst (ns.map V.int))/\ns.max?=some M/\Q (.int M) H
theorem Nq (hc:X.calm=true):C9 X (.builtin "max") T4:=by
 intro pins s σ H xs us Q I r h
 obtain ⟨l,ns,M,rfl,hS,hM,q⟩:=h
 obtain ⟨u,rfl,ru⟩:=Ga r
 cases (show u=Value.ref l from ru)
 obtain ⟨its,rr,pl,_⟩:=I.list (.inl hS)
 obtain ⟨xs,hx,rfl⟩:=L8 rr
 have hl:=pl.isList
 rw [hx] at hl
 have hne:0 < xs.size:=by
  rcases ab4 xs.size with z | z
  ·have:xs.toList=[]:=ab0 (by simpa using z)
   rw [this] at hM; cases hM
  ·exact z
 refine max_intList (I.ok.hd hc) hl hne fun v h' tk hv hk=>?_
 obtain ⟨t,rfl⟩:=intItems_at hv
 obtain ⟨h1,h2⟩:=argBest_gt (numAt xs) (xs.size - 1)
 have e:M=numAt xs (argBest (fun i j=>decide (numAt xs i > numAt xs j)) (xs.size - 1)):=by
  have:(xs.toList.map (·.1)).max?=some (numAt xs (argBest (fun i j=>decide (numAt xs i > numAt xs j)) (xs.size - 1))):=by
   refine acm.mpr ⟨?_,fun a ha=>?_⟩
   ·rw [numAt_eq]; exact getD_mem (by rw [aaa,Array.length_toList]; omega)
   ·obtain ⟨j,hj,rfl⟩:=mem_getD ha
    rw [aaa,Array.length_toList] at hj
    rw [<- numAt_eq]; exact h2 j (by omega)
  exact Option.some.inj (hM.symm.trans this)
 exact ⟨.int M,H,I.kept (t':=tk) hk,⟨t,by rw [e]⟩,q⟩
noncomputable def T5:List V->Hp->VK->Prop:=fun xs H Q=>∃ (i j k:Int),xs=[.int i,.int j,.int k]/\Q (.int (max (max i j) k)) H
theorem Nr (hc:X.calm=true):C9 X (.builtin "max") T5:=by
 intro pins s σ H xs us Q I r h
 obtain ⟨i,j,k,rfl,q⟩:=h
 obtain ⟨u,r',rfl,⟨t,rfl⟩,r2⟩:∃ u r',us=u :: r'/\(∃ t,u=Value.int i t)/\Vals [.int j,.int k] r':=by
  cases r with | cons a b=>exact ⟨_,_,rfl,a,b⟩
 obtain ⟨v,w',rfl,⟨t1,rfl⟩,⟨t2,rfl⟩⟩:=IV r2
 refine max_three_ints (I.ok.hd hc) fun h' tk kk=>⟨.int (max (max i j) k),H,I.kept kk,?_,q⟩
 by_cases h1:j > i
 ·by_cases h2:k > j
  ·rw [if_pos h1,if_pos h2]; exact ⟨_,by congr 1; omega⟩
  ·rw [if_pos h1,if_neg h2]; exact ⟨_,by congr 1; omega⟩
 ·by_cases h2:k > i
  ·rw [if_neg h1,if_pos h2]; exact ⟨_,by congr 1; omega⟩
  ·rw [if_neg h1,if_neg h2]; exact ⟨_,by congr 1; omega⟩
section
variable {e:Expr} {es:List Expr} {x:E} {xs:Es} (hg:∀ y:Str,y ∈ (["len", "min", "max", "abs", "int", "list", "tuple", "all", "any", "sum", "sorted", "isinstance", "str", "range", "enumerate", "zip", "reversed"]:List Str)->X.mg y=none)
 (ha:PA X (e :: es) (lEs p EX tn (.cons x xs))) (hst:(e :: es).all Ak=true)
include hg ha hst
theorem QG (hcm:X.calm=true) (hgl:Gl X "max"):PE X (.Call (.Name "max" np) (e :: es) [] pos) (lE p EX tn (.bi .max (.cons x xs))):=by
 rw [aaH,aak] at hst
 refine Cj (es:=es) (e:=e) (CY (MV hcm) hgl (hg _ (by simp)) (by decide +kernel) ha (by decide) (by decide) (Ae hst.1) (AC hst.2)) fun B H H1 j1 k1 j k ts σ Q R hj h=>?_
 rcases ts with _ | ⟨t,_ | ⟨u,_ | ⟨v,r⟩⟩⟩
 ·exact nE h
 ·exact nE h
 ·obtain ⟨i,m,rfl,rfl,h⟩:=BC (t:=t) (u:=u) (Q:=fun r=>Lg p EX σ r H (KE p B H j k Q)) id h
  refine ⟨i,m,rfl,?_⟩
  have:=h (.int _) H1 rfl (Rs.scal R.same rfl)
  have e:(if m > i then m else i)=max i m:=by split <;> omega
  rw [e]; exact this
 ·exact nE h
theorem OO (hcm:X.calm=true) (hgl:Gl X "max"):PE X (.Call (.Name "max" np) (e :: es) [] pos) (lE p EX tn (.bi .max3 (.cons x xs))):=by
 rw [aaH,aak] at hst
 refine Cj (es:=es) (e:=e) (CY (Nr hcm) hgl (hg _ (by simp)) (by decide +kernel) ha (by decide) (by decide) (Ae hst.1) (AC hst.2)) fun B H H1 j1 k1 j k ts σ Q R hj h=>?_
 rcases ts with _ | ⟨t,_ | ⟨u,_ | ⟨v,_ | ⟨w,r⟩⟩⟩⟩
 ·exact nE h
 ·exact nE h
 ·exact nE h
 ·obtain ⟨i,m,rfl,rfl,h⟩:=BC (t:=t) (u:=u) (Q:=fun r=>Lg p EX σ r H (KE p B H j k Q)) id h
  obtain ⟨l,rfl,h⟩:=HI (t:=v) (Q:=fun r=>Lg p EX σ r H (KE p B H j k Q)) id h
  exact ⟨_,_,_,rfl,h (.int _) H1 rfl (Rs.scal R.same rfl)⟩
 ·exact nE h
theorem OP (hcm:X.calm=true) (hgl:Gl X "max"):PE X (.Call (.Name "max" np) (e :: es) [] pos) (lE p EX tn (.bi .maxL (.cons x xs))):=by
 rw [aaH,aak] at hst
 refine Cj (es:=es) (e:=e) (CY (Nq hcm) hgl (hg _ (by simp)) (by decide +kernel) ha (by decide) (by decide) (Ae hst.1) (AC hst.2)) fun B H H1 j1 k1 j k ts σ Q R hj h=>?_
 rcases ts with _ | ⟨t,_ | ⟨u,r⟩⟩
 ·exact nE h
 ·cases t with
  | lst a us =>
   have h:Lg p EX σ ((BG (Bh (T.dats us))).bind fun ns=>(BG ns.max?).bind fun n=>.ok (.int n)) H (KE p B H j k Q):=h
   cases q:Bh (T.dats us) with
   | none=>rw [q] at h; exact nE h
   | some ns =>
    rw [q] at h
    have h:Lg p EX σ ((BG ns.max?).bind fun n=>.ok (.int n)) H (KE p B H j k Q):=h
    cases q2:ns.max? with
    | none=>rw [q2] at h; exact nE h
    | some M =>
     rw [q2] at h
     exact ⟨a,ns,M,rfl,Gy q ▸ R.ok.1.1,q2,h (.int _) H1 rfl (Rs.scal R.same rfl)⟩
  | _=>exact nE h
 ·exact nE h
theorem QH (hcm:X.calm=true) (hgl:Gl X "min"):PE X (.Call (.Name "min" np) (e :: es) [] pos) (lE p EX tn (.bi .min (.cons x xs))):=by
 rw [aaH,aak] at hst
 refine Cj (es:=es) (e:=e) (CY (MW hcm) hgl (hg _ (by simp)) (by decide +kernel) ha (by decide) (by decide) (Ae hst.1) (AC hst.2)) fun B H H1 j1 k1 j k ts σ Q R hj h=>?_
 rcases ts with _ | ⟨t,_ | ⟨u,_ | ⟨v,r⟩⟩⟩
 ·exact nE h
 ·exact nE h
 ·obtain ⟨i,m,rfl,rfl,h⟩:=BC (t:=t) (u:=u) (Q:=fun r=>Lg p EX σ r H (KE p B H j k Q)) id h
  refine ⟨i,m,rfl,?_⟩
  have:=h (.int _) H1 rfl (Rs.scal R.same rfl)
  have e:(if m < i then m else i)=min i m:=by split <;> omega
  rw [e]; exact this
 ·exact nE h
end
end
structure ItOk (p:Px) (B:Addr->Prop) (H H1:Hp) (J:L2.It) (us:List T) (j:Nat) (ds:List D):Prop where
 same:Same H H1
 ok:T.Oks p H1 us
 src:∀ a ∈ T.rests us j,H a=none\/B a
 len:ds.length<=sizeLine
 go:∀ (i:Nat) (H':Hp),T.Oks p H' us->i < ds.length->J.go i H'
 stop:∀ (i:Nat) (H':Hp),T.Oks p H' us->ds.length<=i->J.stop i H'
 yld:∀ (i:Nat) (H':Hp) (v:V) (H'':Hp) (d:D),T.Oks p H' us->ds[i]?=some d->J.yld i H' v H''->Same H' H''/\∃ t:T,t.val=v/\t.dat=d/\t.Ok p H''/\(∀ a ∈ t.rest 0,a ∈ T.rests us 0)/\∀ a ∈ t.rest 0,H a=none\/B a
noncomputable def lI (p:Px) (EX:EXT) (tn:List Nat) (it:It):TI:=fun σ H R=>∃ τ,σ=vτ τ/\Fok p tn τ H/\∃ j,jkI tn it=some j/\Lg p EX σ (evI it (dτ τ)) H fun ds=>∀ J us H1,ItOk p (Sh tn τ) H H1 J us j ds->R J H1
theorem PI.mono {X:Cx} {tg e:Expr} {t t':TI} (h:PI X tg e t) (m:∀ σ H Q,t' σ H Q->t σ H Q):PI X tg e t':=fun pins s σ H Q I q=>h pins s σ H Q I (m _ _ _ q)
section
variable {p:Px} {EX:EXT} {tn:List Nat} {X:Cx} {pos np:Pos} {tg:Expr}
theorem Em {ts:List T} {i:Nat} {d:D} (h:(T.dats ts)[i]?=some d):∃ t,ts[i]?=some t/\t.dat=d:=by
 rw [T.dats_map,aaj] at h
 obtain ⟨t,h1,h2⟩:=aam.mp h
 exact ⟨t,h1,h2⟩
theorem FN (hK:X.K=p.K) {B:Addr->Prop} {H H1:Hp} {j k:Nat} {a:Addr} {ts:List T} (r:Rs p B H H1 j k (.lst a ts)) (hj:j<=1) (hl:ts.length<=sizeLine):ItOk p B H H1 (Itl X.K a) [.lst a ts] j (T.dats ts) where
 same:=r.same
 ok:=⟨r.ok,trivial⟩
 src:=fun b m=>r.src b (by simpa [T.rests] using m)
 len:=by rw [Ac]; exact hl
 go:=fun i H' ok h=>by
  rw [Ac] at h
  exact ⟨_,(ts.map T.val)[i]'(by simpa using h),.inl ok.1.1,by simp [h]⟩
 stop:=fun i H' ok h=>⟨_,.inl ok.1.1,by simpa [Ac] using h⟩
 yld:=fun i H' v H'' d ok h y=>by
  obtain ⟨rfl,y⟩:=y
  obtain ⟨t,ht,e⟩:=Em h
  have:=y _ (.inl ok.1.1)
  rw [aaj,ht] at this
  refine ⟨Same.refl _,t,Option.some.inj this,e,T.oks_iff.mp ok.1.2 t (aae ht),fun b m=>by simp only [T.rests,T.rest,aaJ]; exact aab _ (T.mem_rests.mpr ⟨t,aae ht,m⟩),fun b m=>r.elems hj b (T.mem_rests.mpr ⟨t,aae ht,m⟩)⟩
theorem OQ {B:Addr->Prop} {H H1:Hp} {k:Nat} {a:Addr} {ts:List T} (r:Rs p B H H1 0 k (.tup a ts)) (hl:ts.length<=sizeLine):ItOk p B H H1 (Itt X.K a) [.tup a ts] 0 (T.dats ts) where
 same:=r.same
 ok:=⟨r.ok,trivial⟩
 src:=fun b m=>r.src b (by simpa [T.rests] using m)
 len:=by rw [Ac]; exact hl
 go:=fun i H' ok h=>by
  rw [Ac] at h
  exact ⟨_,(ts.map T.val)[i]'(by simpa using h),SqT.of ok.1.1,by simp [h]⟩
 stop:=fun i H' ok h=>⟨_,SqT.of ok.1.1,by simpa [Ac] using h⟩
 yld:=fun i H' v H'' d ok h y=>by
  obtain ⟨rfl,y⟩:=y
  obtain ⟨t,ht,e⟩:=Em h
  have:=y _ (SqT.of ok.1.1)
  rw [aaj,ht] at this
  refine ⟨Same.refl _,t,Option.some.inj this,e,T.oks_iff.mp ok.1.2 t (aae ht),fun b m=>by simp only [T.rests,T.rest,aaJ]; exact T.mem_rests.mpr ⟨t,aae ht,m⟩,fun b m=>r.src b (T.mem_rests.mpr ⟨t,aae ht,m⟩)⟩
noncomputable def UI (K:Frag) (tl:TE):TI:=fun σ H R=>tl σ H fun x H1=>∃ a,x=.ref a/\((∃ xs,SqL K H1 a xs/\(xs.length<=sizeLine->R (Itl K a) H1))\/(∃ xs,SqT K H1 a xs/\(xs.length<=sizeLine->R (Itt K a) H1)))
theorem Ju {l:Expr} {tl:TE} (hl:PE X l tl):PI X tg l (UI X.K tl):=by
 intro pins s σ H R I h
 refine thn (hl pins s σ H _ I h) fun v s1 ⟨x,H1,I1,r1,q1⟩=>?_
 obtain ⟨a,e,q1⟩:=q1
 subst e
 cases r1
 rcases q1 with ⟨xs,hq,q⟩ | ⟨xs,hq,q⟩
 ·obtain ⟨its,rv,pl,hz⟩:=I1.list hq
  refine wpAny_pyIter_list pl.isList ?_
  refine ⟨s1.heap.objs.size,[s1.heap.objs.size],_,_,H1,rfl,I1.kept (t':=s1.toks) fun b o e=>Heap.get?_push_of_some _ e,MQ a _,⟨_,Heap.get?_push_size _ rfl,rfl,rfl⟩,fun b hb=>?_,q hz⟩
  have e:b=s1.heap.objs.size:=by simpa using hb
  subst e
  exact I1.fpOk (aai _) (I1.hok.fresh (aai _))
 ·obtain ⟨its,rv,pl,hz⟩:=I1.tuple hq
  refine wpAny_pyIter_tuple (show s1.heap.IsTuple a its.toArray from pl) ?_
  refine ⟨s1.heap.objs.size,[s1.heap.objs.size],_,_,H1,rfl,I1.kept (t':=s1.toks) fun b o e=>Heap.get?_push_of_some _ e,LB a _,⟨_,Heap.get?_push_size _ rfl,rfl,rfl⟩,fun b hb=>?_,q hz⟩
  have e:b=s1.heap.objs.size:=by simpa using hb
  subst e
  exact I1.fpOk (aai _) (I1.hok.fresh (aai _))
theorem OR (hK:X.K=p.K) {e:Expr} {x:E} (he:PE X e (lE p EX tn x)):PI X tg e (lI p EX tn (.seq x)):=by
 refine PI.mono (Ju he) fun σ H R h=>?_
 obtain ⟨τ,rfl,hF,j,hj,h⟩:=h
 simp only [jkI] at hj
 obtain ⟨⟨j1,k1⟩,h1,hj⟩:=bS hj
 split at hj
 ·rename_i z
  cases hj
  have z:j1=0:=z
  subst z
  simp only [evI] at h
  refine l1 hF h1 h fun d t H1 ht r h=>?_
  subst ht
  cases t with
  | lst a ts=>exact ⟨a,rfl,.inl ⟨_,.inl r.ok.1,fun hz=>h _ _ _ (FN hK r (by omega) (by simpa using hz))⟩⟩
  | tup a ts=>exact ⟨a,rfl,.inr ⟨_,SqT.of r.ok.1,fun hz=>h _ _ _ (OQ r (by simpa using hz))⟩⟩
  | _=>exact nE h
 ·cases hj
theorem Nt (hK:X.K=p.K) {e:Expr} {x:E} (he:PE X e (lE p EX tn x)):PI X tg e (lI p EX tn (.seqL x)):=by
 refine PI.mono (Ju he) fun σ H R h=>?_
 obtain ⟨τ,rfl,hF,j,hj,h⟩:=h
 simp only [jkI] at hj
 obtain ⟨⟨j1,k1⟩,h1,hj⟩:=bS hj
 split at hj
 ·rename_i z
  cases hj
  simp only [evI] at h
  refine l1 hF h1 h fun d t H1 ht r h=>?_
  subst ht
  cases t with
  | lst a ts=>exact ⟨a,rfl,.inl ⟨_,.inl r.ok.1,fun hz=>h _ _ _ (FN hK r z (by simpa using hz))⟩⟩
  | _=>exact nE h
 ·cases hj
theorem L9 {B:Addr->Prop} {H H1:Hp} {a b:Int} (s:Same H H1) (hl:(b - a).toNat<=LIM):ItOk p B H H1 (Itr a (b - a).toNat) [] 0 (Av a b) where
 same:=s
 ok:=trivial
 src:=fun c m=>nomatch m
 len:=by unfold Av; rw [aaa,aay]; exact hl
 go:=fun i H' _ h=>by unfold Av at h; rw [aaa,aay] at h; exact h
 stop:=fun i H' _ h=>by unfold Av at h; rw [aaa,aay] at h; exact h
 yld:=fun i H' v H'' d _ h y=>by
  obtain ⟨rfl,rfl⟩:=y
  unfold Av at h
  rw [aaj] at h
  obtain ⟨n,h1,h2⟩:=aam.mp h
  have:n=i:=by
   obtain ⟨_,e⟩:=aaq.mp h1
   simpa using e.symm
  subst this
  exact ⟨Same.refl _,.int (a + n),rfl,h2,trivial,by simp [T.rest],by simp [T.rest]⟩
theorem GJ {i:Int} (h:DR i=true):-(2 ^ 62)<=i/\i < 2 ^ 62:=by
 unfold DR at h
 rw [aak] at h
 exact ⟨of_decide_eq_true h.1,of_decide_eq_true h.2⟩
theorem QI {e:Expr} {x:E} (he:PE X e (lE p EX tn x)) (hst:Ak e=true) (hg:Gl X "range") (hm:X.mg "range" = none):PI X tg (.Call (.Name "range" np) [e] [] pos) (lI p EX tn (.r1 x)):=by
 refine PI.mono (MR hg hm (Ba he Da (Ae hst)) (Ae hst)) fun σ H R h=>?_
 obtain ⟨τ,rfl,hF,j,hj,h⟩:=h
 simp only [jkI] at hj
 obtain ⟨⟨j1,k1⟩,h1,hj⟩:=bS hj
 cases hj
 simp only [evI] at h
 refine l1 hF h1 h fun d t H1 ht r h=>?_
 subst ht
 cases t with
 | int b =>
  obtain ⟨hc,h⟩:=Lg.guard (r:=.ok (Av 0 b)) h
  rw [aak,aak] at hc
  obtain ⟨h3,h4⟩:=GJ hc.1.2
  have hl:=of_decide_eq_true hc.2
  have:=h _ _ _ (L9 (p:=p) r.same hl)
  rw [acy] at this
  exact ⟨b,rfl,h3,h4,this⟩
 | _=>exact nE h
theorem SL {a b c:Int} (hc:c ≠ 0):r3N a b c=(Builtin.Range.rangeSize a b c).toNat:=by
 have key:∀ x c:Int,0 < c->((x + c - 1) / c).toNat=(if 0 < x then (x - 1) / c + 1 else 0).toNat:=fun x c hc=>by
  split
  ·rw [show x + c - 1=x - 1 + 1 * c by omega,Int.add_mul_ediv_right _ _ (by omega)]
  ·have:(x + c - 1) / c < 1:=Int.ediv_lt_of_lt_mul hc (by omega)
   show _=0
   omega
 unfold r3N Builtin.Range.rangeSize
 by_cases h:0 < c
 ·rw [if_pos h,if_pos h,key (b - a) c h]
  by_cases z:a < b
  ·rw [if_pos z,if_pos (by omega)]
  ·rw [if_neg z,if_neg (by omega)]
 ·rw [if_neg h,if_neg h,key (a - b) (-c) (by omega)]
  by_cases z:a > b
  ·rw [if_pos z,if_pos (by omega)]
  ·rw [if_neg z,if_neg (by omega)]
theorem QJ {B:Addr->Prop} {H H1:Hp} {a c:Int} {n:Nat} (s:Same H H1) (hl:n<=LIM):ItOk p B H H1 (LR a c n) [] 0 (Ek a c n) where
 same:=s
 ok:=trivial
 src:=fun c m=>nomatch m
 len:=by unfold Ek; rw [aaa,aay]; exact hl
 go:=fun i H' _ h=>by unfold Ek at h; rw [aaa,aay] at h; exact h
 stop:=fun i H' _ h=>by unfold Ek at h; rw [aaa,aay] at h; exact h
 yld:=fun i H' v H'' d _ h y=>by
  obtain ⟨rfl,rfl⟩:=y
  unfold Ek at h
  rw [aaj] at h
  obtain ⟨n,h1,h2⟩:=aam.mp h
  have:n=i:=by
   obtain ⟨_,e⟩:=aaq.mp h1
   simpa using e.symm
  subst this
  exact ⟨Same.refl _,.int (a + n * c),rfl,h2,trivial,by simp [T.rest],by simp [T.rest]⟩
theorem OS {e e' e2:Expr} {x y z:E} (he:PE X e (lE p EX tn x)) (he':PE X e' (lE p EX tn y)) (he2:PE X e2 (lE p EX tn z)) (hst:Ak e=true) (hst':Ak e'=true) (hst2:Ak e2=true) (hg:Gl X "range") (hm:X.mg "range" = none):PI X tg (.Call (.Name "range" np) [e,e',e2] [] pos) (lI p EX tn (.r3w x y z)):=by
 refine PI.mono (LT hg hm (Ba he (Ba he' (Ba he2 Da (Ae hst2)) (Ae hst')) (Ae hst)) (by rw [Ae hst,Ae hst',Ae hst2]; rfl) (by rw [Ae hst',Ae hst2]; rfl)) fun σ H R h=>?_
 obtain ⟨τ,rfl,hF,j,hj,h⟩:=h
 simp only [jkI] at hj
 obtain ⟨⟨j1,k1⟩,h1,hj⟩:=bS hj
 obtain ⟨⟨j2,k2⟩,h2,hj⟩:=bS hj
 obtain ⟨⟨j3,k3⟩,h3,hj⟩:=bS hj
 cases hj
 simp only [evI] at h
 refine l1 hF h1 h fun d t H1 ht r h=>l2 hF r.same h2 h fun d' t' H2 ht' r' h=>l2 hF (r.same.trans r'.same) h3 h fun d2 t2 H3 ht2 r2 h=>?_
 subst ht ht' ht2
 cases t with
 | int a =>
  cases t' with
  | int b =>
   cases t2 with
   | int c =>
    obtain ⟨hc,h⟩:=Lg.guard (r:=.ok (Ek a c (r3N a b c))) h
    rw [aak,aak] at hc
    have h0:=of_decide_eq_true hc.1.2
    have hl:=of_decide_eq_true hc.2
    rw [SL h0] at hl h
    exact ⟨a,b,c,rfl,⟨(GJ hc.1.1).1,(GJ hc.1.1).2⟩,h0,h _ _ _ (QJ (p:=p) ((r.same.trans r'.same).trans r2.same) hl)⟩
   | _=>exact nE h
  | _=>exact nE h
 | _=>exact nE h
noncomputable def iEn (K:Frag) (ta:TA):TI:=fun σ H R=>ta σ H fun vs H1=>∃ a,vs=[.ref a]/\∃ xs,SqL K H1 a xs/\(xs.length<=sizeLine->R (Ite K a) H1)
theorem QK {e:Expr} {ta:TA} {elts:List Expr} {k1:Nat} {q:Pos} (hg:Gl X "enumerate") (hm:X.mg "enumerate" = none) (ha:PA X [e] ta) (hs:starEach [e] X.env=[(false,eval e X.env)]):PI X (.Tuple elts k1 q) (.Call (.Name "enumerate" np) [e] [] pos) (iEn X.K ta):=by
 intro pins s σ H R I h
 refine Call_ (E3 I hg hm (show bootBuiltins "enumerate" = some (.type "enumerate") by decide +kernel) (PyProof.Rows.callWith_type1 (thn (ha pos pins s σ H _ I h) fun us s1 ⟨vs,H1,I1,r1,q1⟩=>?_) hs rfl))
 obtain ⟨a,e,xs,hq,q⟩:=q1
 subst e
 cases r1 with
 | cons r rr =>
  cases rr
  cases r
  obtain ⟨its,rv,pl,hz⟩:=I1.list hq
  refine call_enumerate_list pl.isList fun h' hE hI hsz hk=>wpAny_pyIter_enum hE ?_
  refine ⟨s1.heap.objs.size + 1,[s1.heap.objs.size + 1,s1.heap.objs.size],_,_,H1,rfl,I1.kept (t':=s1.toks) hk,Nb a _ _ (Nat.succ_ne_self _),⟨⟨_,hE⟩,hI⟩,fun b hb=>?_,q hz⟩
  rcases aal.mp hb with rfl | hb
  ·exact I1.fpOk (abJ _) (I1.hok.fresh (abJ _))
  ·cases aaO.mp hb
   exact I1.fpOk (aai _) (I1.hok.fresh (aai _))
theorem Nu (hK:X.K=p.K) {B:Addr->Prop} {H H1:Hp} {j k:Nat} {a:Addr} {ts:List T} (r:Rs p B H H1 j k (.lst a ts)) (hj:j<=1) (hl:ts.length<=sizeLine):ItOk p B H H1 (Ite X.K a) [.lst a ts] j (BH (T.dats ts)) where
 same:=r.same
 ok:=⟨r.ok,trivial⟩
 src:=fun b m=>r.src b (by simpa [T.rests] using m)
 len:=by unfold BH; rw [aaa,ab5,Ac]; exact hl
 go:=fun i H' ok h=>by
  unfold BH at h
  rw [aaa,ab5,Ac] at h
  exact ⟨_,(ts.map T.val)[i]'(by simpa using h),.inl ok.1.1,by simp [h]⟩
 stop:=fun i H' ok h=>by
  unfold BH at h
  rw [aaa,ab5,Ac] at h
  exact ⟨_,.inl ok.1.1,by simpa using h⟩
 yld:=fun i H' v H'' d ok h y=>by
  obtain ⟨t0,hn,rfl,y⟩:=y
  unfold BH at h
  rw [aaj,abT] at h
  obtain ⟨d0,h1,rfl⟩:=aam.mp h
  obtain ⟨d1,h2,rfl⟩:=aam.mp h1
  obtain ⟨t,ht,rfl⟩:=Em h2
  have:=y _ t.val (.inl ok.1.1) (by rw [aaj,ht]; rfl)
  subst this
  have s0:=Same.new (o:=.tup [.int i,t.val]) hn
  have okt:=T.oks_iff.mp ok.1.2 t (aae ht)
  refine ⟨s0,.tup t0 [.int i,t],rfl,?_,⟨AS,trivial,okt.keep (fun a u e _=>s0 a u e),trivial⟩,fun b m=>?_,fun b m=>?_⟩
  ·simp [T.dat,T.dats]
  ·have m:b ∈ t.rest 0:=by simpa [T.rest,T.rests] using m
   simp only [T.rests,T.rest,aaJ]; exact aab _ (T.mem_rests.mpr ⟨t,aae ht,m⟩)
  ·have m:b ∈ t.rest 0:=by simpa [T.rest,T.rests] using m
   exact r.elems hj b (T.mem_rests.mpr ⟨t,aae ht,m⟩)
theorem QL (hK:X.K=p.K) {e:Expr} {x:E} {elts:List Expr} {k1:Nat} {q:Pos} (he:PE X e (lE p EX tn x)) (hst:Ak e=true) (hg:Gl X "enumerate") (hm:X.mg "enumerate" = none):PI X (.Tuple elts k1 q) (.Call (.Name "enumerate" np) [e] [] pos) (lI p EX tn (.en x)):=by
 refine PI.mono (QK hg hm (Ba he Da (Ae hst)) (Ae hst)) fun σ H R h=>?_
 obtain ⟨τ,rfl,hF,j,hj,h⟩:=h
 simp only [jkI] at hj
 obtain ⟨⟨j1,k1⟩,h1,hj⟩:=bS hj
 split at hj
 ·rename_i z
  cases hj
  simp only [evI] at h
  refine l1 hF h1 h fun d t H1 ht r h=>?_
  subst ht
  cases t with
  | lst a ts=>exact ⟨a,rfl,_,.inl r.ok.1,fun hz=>h _ _ _ (Nu hK r z (by simpa using hz))⟩
  | _=>exact nE h
 ·cases hj
end
noncomputable def BY:List Nat->List T->Ft->Option Ft
 | [],[],τ=>some τ
 | i :: is,t :: ts,τ=>BY is ts (τ.set i (some t))
 | _,_,_=>none
noncomputable def CD:Tg->T->Ft->Option Ft
 | .nm i,t,τ=>some (τ.set i (some t))
 | .tp is,.tup _ ts,τ=>BY is ts τ
 | .tp is,.lst _ ts,τ=>BY is ts τ
 | _,_,_=>none
theorem Gg (τ:Ft) (i:Nat) (t:T):dτ (τ.set i (some t))=(dτ τ).set i (some t.dat):=by unfold dτ; rw [acz]; rfl
theorem Gh (τ:Ft) (i:Nat) (t:T):vτ (τ.set i (some t))=(vτ τ).set i (some t.val):=by unfold vτ; rw [acz]; rfl
theorem He:∀ (is:List Nat) (ts:List T) (τ:Ft),FH is (T.dats ts) (dτ τ)=(BY is ts τ).map dτ
 | [],[],τ=>rfl
 | [],t :: ts,τ=>rfl
 | i :: is,[],τ=>rfl
 | i :: is,t :: ts,τ=>by simp only [T.dats,FH,BY]; rw [<- Gg,He is ts]
theorem FO (g:Tg) (t:T) (τ:Ft):CN g t.dat (dτ τ)=(CD g t τ).map dτ:=by
 cases g with
 | nm i=>simp only [CN,CD,aaV,Gg]
 | tp is=>cases t <;> first | rfl | exact He is _ τ
noncomputable def CF:List Nat->TGs
 | []=>RN
 | i :: r=>Pr (EG i) (CF r)
noncomputable def lG (K:Frag):Tg->TG
 | .nm i=>EG i
 | .tp is=>fun v σ H Q=>RQ K is.length (CF is) v σ H Q\/Su K is.length (CF is) v σ H Q
theorem FP {H:Hp} {Q:L2.St->Hp->Prop}:∀ {is:List Nat} {ts:List T} {τ τ':Ft},BY is ts τ=some τ'->Q (vτ τ') H->CF is (ts.map T.val) (vτ τ) H Q
 | [],[],τ,τ',h,q=>by cases h; exact ⟨rfl,q⟩
 | [],t :: ts,τ,τ',h,q=>by cases h
 | i :: is,[],τ,τ',h,q=>by cases h
 | i :: is,t :: ts,τ,τ',h,q=>by
  refine ⟨t.val,ts.map T.val,rfl,?_⟩
  show CF is (ts.map T.val) ((vτ τ).set i (some t.val)) H Q
  rw [<- Gh]
  exact FP (τ:=τ.set i (some t)) h q
theorem EU:∀ {is:List Nat} {ts:List T} {τ τ':Ft},BY is ts τ=some τ'->ts.length=is.length
 | [],[],τ,τ',h=>rfl
 | [],t :: ts,τ,τ',h=>by cases h
 | i :: is,[],τ,τ',h=>by cases h
 | i :: is,t :: ts,τ,τ',h=>by simp [EU (is:=is) (ts:=ts) (τ:=τ.set i (some t)) h]
theorem Ma {K:Frag} {p:Px} {H:Hp} {g:Tg} {t:T} {τ τ':Ft} {Q:L2.St->Hp->Prop} (ok:t.Ok p H) (h:CD g t τ=some τ') (q:Q (vτ τ') H):lG K g t.val (vτ τ) H Q:=by
 cases g with
 | nm i =>
  cases h
  show Q ((vτ τ).set i (some t.val)) H
  rw [<- Gh]; exact q
 | tp is =>
  cases t with
  | tup a ts=>exact .inl ⟨a,ts.map T.val,rfl,SqT.of ok.1,by rw [aaa]; exact EU h,FP h q⟩
  | lst a ts=>exact .inr ⟨a,ts.map T.val,rfl,.inl ok.1,by rw [aaa]; exact EU h,FP h q⟩
  | _=>cases h
noncomputable def Tg.sl:Tg->List Nat
 | .nm i=>[i]
 | .tp is=>is
theorem EV {n:Nat} {H:Hp} {Q:L2.St->Hp->Prop}:∀ {is:List Nat} {vs:List V} {σ:L2.St},(∀ i ∈ is,i < n)->CF is vs σ H Q->CF is vs σ H fun σ' H'=>Q σ' H'/\σ'.length=σ.length/\∀ i,n<=i->σ'[i]?=σ[i]?
 | [],vs,σ,_,h=>by obtain ⟨e,q⟩:=h; exact ⟨e,q,rfl,fun _ _=>rfl⟩
 | i :: is,vs,σ,hi,h=>by
  obtain ⟨v,r,e,h⟩:=h
  refine ⟨v,r,e,?_⟩
  have h2:=EV (n:=n) (is:=is) (σ:=σ.set i (some v)) (fun j hj=>hi j (aab _ hj)) h
  have mono:∀ {is:List Nat} {vs:List V} {σ:L2.St} {H:Hp} {A B:L2.St->Hp->Prop},(∀ s h,A s h->B s h)->CF is vs σ H A->CF is vs σ H B:=by
   intro is
   induction is with
   | nil=>intro vs σ H A B m h; exact ⟨h.1,m _ _ h.2⟩
   | cons i is ih =>
    intro vs σ H A B m h
    obtain ⟨v,r,e,h⟩:=h
    exact ⟨v,r,e,ih m h⟩
  refine mono (fun s h q=>⟨q.1,by rw [q.2.1,aa1],fun k hk=>?_⟩) h2
  rw [q.2.2 k hk,aaB (by have:=hi i (aac ..); omega)]
theorem Gi {K:Frag} {n:Nat} {g:Tg} (hg:∀ i ∈ g.sl,i < n) {v:V} {σ:L2.St} {H:Hp} {Q:L2.St->Hp->Prop} (h:lG K g v σ H Q):lG K g v σ H fun σ' H'=>Q σ' H'/\σ'.length=σ.length/\∀ i,n<=i->σ'[i]?=σ[i]?:=by
 cases g with
 | nm i=>exact ⟨h,by rw [aa1],fun k hk=>by rw [aaB (by have:=hg i (aaO.mpr rfl); omega)]⟩
 | tp is =>
  rcases h with ⟨a,xs,e,s,l,h⟩ | ⟨a,xs,e,s,l,h⟩
  ·exact .inl ⟨a,xs,e,s,l,EV hg h⟩
  ·exact .inr ⟨a,xs,e,s,l,EV hg h⟩
theorem EW {P:Option T->Prop}:∀ {is:List Nat} {ts:List T} {τ τ':Ft},BY is ts τ=some τ'->(∀ t ∈ ts,P (some t))->∀ i o,τ'[i]?=some o->P o\/(i ∉ is/\τ[i]?=some o)
 | [],[],τ,τ',h,_,i,o,e=>by cases h; exact .inr ⟨by simp,e⟩
 | [],t :: ts,τ,τ',h,_,_,_,_=>by cases h
 | i :: is,[],τ,τ',h,_,_,_,_=>by cases h
 | i :: is,t :: ts,τ,τ',h,hp,j,o,e=>by
  rcases EW (P:=P) (is:=is) (ts:=ts) (τ:=τ.set i (some t)) h (fun u hu=>hp u (aab _ hu)) j o e with q | ⟨q1,q2⟩
  ·exact .inl q
  ·by_cases z:i=j
   ·subst z
    rw [abk ] at q2
    cases w:τ[i]? with
    | none=>rw [w] at q2; cases q2
    | some x =>
     rw [w] at q2
     have:o=some t:=by simpa using q2.symm
     subst this
     exact .inl (hp t (aac ..))
   ·rw [aaB z] at q2
    refine .inr ⟨?_,q2⟩
    intro m
    rcases aal.mp m with rfl | m
    ·exact z rfl
    ·exact q1 m
theorem Hf {P:Option T->Prop} {g:Tg} {t:T} {τ τ':Ft} (h:CD g t τ=some τ') (hp:P (some t)) (hp':∀ a ts,(t=.tup a ts\/t=.lst a ts)->∀ u ∈ ts,P (some u)) (i:Nat) (o:Option T) (e:τ'[i]?=some o):P o\/(i ∉ g.sl/\τ[i]?=some o):=by
 cases g with
 | nm k =>
  cases h
  by_cases z:k=i
  ·subst z
   rw [abk] at e
   cases w:τ[k]? with
   | none=>rw [w] at e; cases e
   | some x =>
    rw [w] at e
    have:o=some t:=by simpa using e.symm
    subst this; exact .inl hp
  ·rw [aaB z] at e
   exact .inr ⟨by simpa [Tg.sl] using fun q=>z q.symm,e⟩
 | tp is =>
  cases t with
  | tup a ts=>exact EW (P:=P) h (fun u hu=>hp' a ts (.inl rfl) u hu) i o e
  | lst a ts=>exact EW (P:=P) h (fun u hu=>hp' a ts (.inr rfl) u hu) i o e
  | _=>cases h
theorem E7:∀ {is:List Nat} {ts:List T} {τ τ':Ft},BY is ts τ=some τ'->τ'.length=τ.length
 | [],[],τ,τ',h=>by cases h; rfl
 | [],t :: ts,τ,τ',h=>by cases h
 | i :: is,[],τ,τ',h=>by cases h
 | i :: is,t :: ts,τ,τ',h=>by rw [E7 (is:=is) (ts:=ts) (τ:=τ.set i (some t)) h,aa1]
theorem IH {g:Tg} {t:T} {τ τ':Ft} (h:CD g t τ=some τ'):τ'.length=τ.length:=by
 cases g with
 | nm k=>cases h; rw [aa1]
 | tp is=>cases t <;> first | cases h | exact E7 h
noncomputable def GK (nl:Nat) (fr:List Nat) (τ:Ft):Ft:=aag nl none ++ fr.map fun j=>(τ[j]?).join
theorem QM (nl:Nat) (fr:List Nat) (τ:Ft):dτ (GK nl fr τ)=blk nl fr (dτ τ):=by
 unfold dτ GK blk
 rw [aao,abb,aaP]
 congr 1
 refine aaZ fun j _=>?_
 simp only [Function.comp,aaj]
 cases τ[j]? with
 | none=>rfl
 | some o=>rfl
theorem QN (nl:Nat) (fr:List Nat) (τ:Ft):vτ (GK nl fr τ)=A8 nl fr (vτ τ):=by
 unfold vτ GK A8
 rw [aao,abb,aaP]
 congr 1
 refine aaZ fun j _=>?_
 simp only [Function.comp,aaj]
 cases τ[j]? with
 | none=>rfl
 | some o=>rfl
noncomputable abbrev tnB (nl:Nat) (fr:List Nat) (tn:List Nat):List Nat:=aag nl 0 ++ fr.map fun j=>tn.getD j 99
theorem La {nl:Nat} {fr:List Nat} {tn:List Nat} {τ:Ft} {i:Nat} {t:T} {j:Nat} (h:(GK nl fr τ)[i]?=some (some t)) (hj:(tnB nl fr tn)[i]?=some j) (hlt:j < 90):∃ k:Nat,τ[k]?=some (some t)/\tn[k]?=some j:=by
 unfold GK at h
 unfold tnB at hj
 by_cases hi:i < nl
 ·rw [aaK (by simpa using hi),aaR] at h
  split at h <;> cases h
 ·rw [aaD (by simpa using hi),aa2,aaj] at h hj
  obtain ⟨k,e1,e2⟩:=aam.mp h
  rw [e1] at hj
  have e3:tn.getD k 99=j:=by simpa using hj
  refine ⟨k,?_,?_⟩
  ·cases w:τ[k]? with
   | none=>rw [w] at e2; cases e2
   | some o=>rw [w] at e2; exact congrArg some e2
  ·rw [aas] at e3
   cases w:tn[k]? with
   | none=>rw [w] at e3; simp at e3; omega
   | some x=>rw [w] at e3; exact congrArg some e3
theorem T.nds_append {ts us:List T} {k:Nat} (h1:T.Nds ts k) (h2:T.Nds us k) (c1:∀ a ∈ T.adrs ts k,a ∉ T.rests us 0) (c2:∀ a ∈ T.adrs us k,a ∉ T.rests ts 0):T.Nds (ts ++ us) k:=by
 unfold T.Nds
 rw [T.adrs_append,T.rests_append]
 refine ⟨acC.mpr ⟨h1.1,h2.1,fun a ha b hb e=>?_⟩,fun a ha hb=>?_⟩
 ·subst e; exact c1 a ha ((T.alls_iff us k).mpr (.inl hb))
 ·rcases aaf.mp ha with ha | ha <;> rcases aaf.mp hb with hb | hb
  ·exact h1.2 a ha hb
  ·exact c2 a hb ((T.alls_iff ts k).mpr (.inr ha))
  ·exact c1 a hb ((T.alls_iff us k).mpr (.inr ha))
  ·exact h2.2 a ha hb
theorem FQ {f:D->Res (Option D)}:∀ (ds:List D) (c:Nat),A6 f ds ≠ .exc c
 | [],c=>by simp [A6]
 | d :: ds,c=>by
  simp only [A6]
  cases f d with
  | ok o =>
   simp only
   cases q:A6 f ds with
   | ok r=>simp
   | exc c'=>exact absurd q (FQ ds c')
   | bad=>simp
  | exc c'=>simp
  | bad=>simp
theorem Kw {f:D->Res (Option D)} {d:D} {ds r:List D} (h:A6 f (d :: ds)=.ok r):∃ o r',f d=.ok o/\A6 f ds=.ok r'/\r=o.toList ++ r':=by
 simp only [A6] at h
 cases q:f d with
 | ok o =>
  rw [q] at h
  obtain ⟨r',h1,h2⟩:=Res.bind_eq_ok h
  cases h2
  refine ⟨o,r',rfl,h1,?_⟩
  cases o <;> rfl
 | exc c=>rw [q] at h; cases h
 | bad=>rw [q] at h; cases h
noncomputable abbrev EX0:EXT:=fun _ _ _ _=>False
section
variable {p:Px} {EX:EXT} {tn:List Nat} {X:Cx} {pos np:Pos}
theorem Lb {K:Frag} {nl:Nat} {fr:List Nat} {g:Tg} {it:It} {k:Nat} {f:D->Res (Option D)} {tc:TT} {elt:E} {τ:Ft} {H:Hp} {Q:VK} {ji:Nat} (hF:Fok p tn τ H) (hji:jkI tn it=some ji) (hg:∀ i ∈ g.sl,i < nl) (hk:jk (tnB nl fr tn) elt=some (0,k))
  (hf:∀ (d:D) (o:Option D),f d=.ok o->∃ δ',CN g d (blk nl fr (dτ τ))=some δ'/\∀ (τ4:Ft) (H3:Hp) (N:Bool->Hp->Prop),dτ τ4=δ'->Fok p (tnB nl fr tn) τ4 H3 ->
   (∀ b H5,Same H3 H5->(match o with | none=>b=false | some x=>b=true/\ev elt δ'=.ok x)->N b H5)->tc (vτ τ4) H3 N)
  (h:Lg p EX (vτ τ) ((evI it (dτ τ)).bind fun ds=>(A6 f ds).bind fun r=>.ok (.lst r)) H (KE p (Sh tn τ) H 0 (k + 1) Q)) :
  Gc nl fr (lI p EX tn it) (fun _=>lG K g) (fun _=>tc) (fun _=>lE p EX0 (tnB nl fr tn) elt) (vτ τ) H Q:=by
 refine ⟨τ,rfl,hF,ji,hji,h.bind.mono (Same.refl _) fun ds _ hd J us H1 IT=>?_⟩
 cases q:A6 f ds with
 | exc c=>exact absurd q (FQ ds c)
 | bad=>rw [q] at hd; exact nE hd
 | ok r =>
 rw [q] at hd
 have hd:KE p (Sh tn τ) H 0 (k + 1) Q (.lst r):=hd
 intro z D hD
 have hDH:H D=none:=IT.same.free hD
 refine ⟨fun i m acc H2=>m=ds.length - i/\i<=ds.length/\∃ (ts:List T) (r':List Pu.D),acc=ts.map T.val/\A6 f (ds.drop i)=.ok r'/\T.dats ts ++ r'=r/\ts.length<=i/\H2 D=some (.lst acc)/\(∀ a u,a ≠ D->H1 a=some u->H2 a=some u) /\
  T.Oks p H2 ts/\(∀ a ∈ T.rests ts 0,(H a=none\/Sh tn τ a)/\a ≠ D)/\(∀ a ∈ T.adrs ts k,H1 a=none/\∃ vs,H2 a=some (.lst vs))/\T.Nds ts k,⟨ds.length,by simp,aaw _,[],r,rfl,by simpa using q,rfl,aai _,AS,fun a u n e=>by rw [Ap n]; exact e,trivial,by simp [T.rests],by simp [T.adrs],by simp [T.Nds,T.adrs]⟩,?_⟩
 rintro i m acc H2 ⟨rfl,hi,ts,r',rfl,hr,hc,hts,hD2,kp,ok,src,new,nd⟩
 refine ⟨hD2,?_⟩
 have s2:Same H H2:=fun a u e=>kp a u (fun z=>by rw [z,hDH] at e; cases e) (IT.same a u e)
 have usok:T.Oks p H2 us:=T.oks_iff.mpr fun u hu=>(T.oks_iff.mp IT.ok u hu).keep fun a w e _=>kp a w (fun z=>by rw [z,hD] at e; cases e) e
 have out:D ∉ T.rests ts 0:=fun m=>(src D m).2 rfl
 rcases acx i ds.length with hlt | hge
 ·refine .inr ⟨IT.go i H2 usok hlt,fun x H3 y=>?_⟩
  have hdi:ds[i]?=some ds[i]:=aah hlt
  obtain ⟨s3,t,rfl,ht,tok,tus,tsrc⟩:=IT.yld i H2 x H3 ds[i] usok hdi y
  have hdrop:ds.drop i=ds[i] :: ds.drop (i + 1):=abi hlt
  rw [hdrop] at hr
  obtain ⟨o,r'',hfo,hr'',rfl⟩:=Kw hr
  obtain ⟨δ',hasg,hev⟩:=hf _ o hfo
  rw [<- ht,<- QM,FO] at hasg
  obtain ⟨τ4,h4,hδ⟩:=aam.mp hasg
  have sH3:Same H H3:=s2.trans s3
  have tusD:∀ a ∈ t.rest 0,a ≠ D:=fun a m z=>by
   obtain ⟨w,hw,m⟩:=T.mem_rests.mp (tus a m)
   exact (T.oks_iff.mp IT.ok w hw).dom m (z ▸ hD)
  have slot:∀ (n:Nat) (w:T),τ4[n]?=some (some w)->(w.Ok p H3/\∀ a ∈ w.rest 0,(H a=none\/Sh tn τ a)/\a ≠ D/\H1 a ≠ none)\/(n ∉ g.sl/\(GK nl fr τ)[n]?=some (some w)):=by
   intro n w e
   refine (Hf (P:=fun o=>∀ w,o=some w->(w.Ok p H3/\∀ a ∈ w.rest 0,(H a=none\/Sh tn τ a)/\a ≠ D/\H1 a ≠ none)) h4 (fun w e=>?_) (fun a ts' e u hu w e'=>?_) n (some w) e).imp (fun q=>q w rfl) id
   ·cases e
    refine ⟨tok,fun a m=>⟨tsrc a m,tusD a m,fun z=>?_⟩⟩
    obtain ⟨w',hw',m'⟩:=T.mem_rests.mp (tus a m)
    exact (T.oks_iff.mp IT.ok w' hw').dom m' z
   ·cases e'
    have sub:∀ b ∈ u.rest 0,b ∈ t.rest 0:=fun b m=>by
     rcases e with rfl | rfl
     ·exact T.mem_rests.mpr ⟨u,hu,m⟩
     ·exact aab _ (T.mem_rests.mpr ⟨u,hu,m⟩)
    have uok:u.Ok p H3:=by
     rcases e with rfl | rfl
     ·exact T.oks_iff.mp tok.2 u hu
     ·exact T.oks_iff.mp tok.2 u hu
    refine ⟨uok,fun b m=>?_⟩
    have m:=sub b m
    refine ⟨tsrc b m,tusD b m,fun z=>?_⟩
    obtain ⟨w',hw',m'⟩:=T.mem_rests.mp (tus b m)
    exact (T.oks_iff.mp IT.ok w' hw').dom m' z
  have F4:Fok p (tnB nl fr tn) τ4 H3:=fun n w j e ej hj=>by
   rcases slot n w e with q | ⟨_,q⟩
   ·exact q.1
   ·obtain ⟨k',e1,e2⟩:=La q ej hj
    exact (hF k' w j e1 e2 hj).same sH3
  have S4:∀ a,Sh (tnB nl fr tn) τ4 a->(H a=none\/Sh tn τ a)/\a ≠ D/\H1 a ≠ none:=by
   rintro a ⟨n,w,j,e,ej,hj,m⟩
   rcases slot n w e with q | ⟨_,q⟩
   ·exact q.2 a (T.rest_le w (aaw j) m)
   ·obtain ⟨k',e1,e2⟩:=La q ej hj
    have sh:Sh tn τ a:=⟨k',w,j,e1,e2,hj,m⟩
    have hd:=hF.dom sh
    exact ⟨.inr sh,fun z=>hd (z ▸ hDH),fun z=>hd (IT.same.free z)⟩
  rw [<- QN]
  refine Ma tok h4 (hev τ4 H3 _ hδ F4 fun b H5 s5 hb=>?_)
  have s25:Same H2 H5:=s3.trans s5
  cases o with
  | none =>
   subst hb
   rw [if_neg (by decide)]
   refine ⟨ds.length - (i + 1),by omega,rfl,hlt,ts,r'',rfl,hr'',?_,by omega,s25 _ _ hD2,fun a u n e=>s25 _ _ (kp a u n e),ok.same s25,src,fun a m=>⟨(new a m).1,let ⟨vs,e⟩:=(new a m).2; ⟨vs,s25 _ _ e⟩⟩,nd⟩
   simpa using hc
  | some xo =>
   obtain ⟨rfl,he⟩:=hb
   rw [if_pos rfl]
   refine ⟨τ4,rfl,F4.same s5,0,k,hk,?_⟩
   rw [hδ,he]
   intro t' H6 ht' R
   have s26:Same H2 H6:=s25.trans R.same
   have hD6:H6 D=some (.lst (ts.map T.val)):=s26 _ _ hD2
   refine ⟨hD6,by rw [aaa]; exact Nat.lt_of_le_of_lt hts (aaA hlt IT.len),ds.length - (i + 1),by omega,rfl,hlt,ts ++ [t'],r'',by simp,hr'',?_,by simp; omega,AS,fun a u n e=>by rw [Ap n]; exact s26 _ _ (kp a u n e),?_,?_,?_,?_⟩
   ·rw [T.dats_map,aao,<- T.dats_map]
    simpa [ht'] using hc
   ·-- all of them stand
    have tD:∀ a ∈ t'.rest 0,a ≠ D:=fun a m z=>by
     rcases R.src a m with q | q
     ·rw [z,s25 _ _ hD2] at q; cases q
     ·exact (S4 a q).2.1 z
    refine T.oks_iff.mpr fun w hw=>?_
    have kk:(∀ a ∈ w.rest 0,a ≠ D)->w.Ok p H6->w.Ok p (L2.upd H6 D (.lst (ts.map T.val ++ [t'.val]))):=fun hne hok=>hok.keep fun a u e hq=>by
     rw [Ap ?_]; exact e
     rintro rfl
     rcases hq with hq | hq
     ·exact hne a hq rfl
     ·rw [hD6] at e
      exact hq _ (Option.some.inj e).symm
    rcases aaf.mp hw with hw | hw
    ·exact kk (fun a m=>(src a (T.mem_rests.mpr ⟨w,hw,m⟩)).2) ((T.oks_iff.mp ok w hw).same s26)
    ·cases aaO.mp hw
     exact kk tD R.ok
   ·intro a m
    rw [T.rests_append,aaf] at m
    rcases m with m | m
    ·exact src a m
    ·have m:a ∈ t'.rest 0:=by simpa [T.rests] using m
     rcases R.src a m with q | q
     ·exact ⟨.inl (sH3.trans s5 |>.free q),fun z=>by rw [z,s25 _ _ hD2] at q; cases q⟩
     ·exact ⟨(S4 a q).1,(S4 a q).2.1⟩
   ·intro a m
    rw [T.adrs_append,aaf] at m
    rcases m with m | m
    ·obtain ⟨n1,vs,e⟩:=new a m
     have aD:a ≠ D:=fun z=>out (by rw [<- z]; exact (T.alls_iff ts k).mpr (.inl m))
     refine ⟨n1,vs,?_⟩
     rw [Ap aD]
     exact s26 _ _ e
    ·have m:a ∈ t'.adr k:=by simpa [T.adrs] using m
     obtain ⟨n1,vs,e⟩:=R.new a m
     have aD:a ≠ D:=fun z=>by rw [z,s25 _ _ hD2] at n1; cases n1
     refine ⟨?_,vs,by rw [Ap aD]; exact e⟩
     cases w:H1 a with
     | none=>rfl
     | some u=>rw [s25 _ _ (kp a u aD w)] at n1; cases n1
   ·refine T.nds_append nd (T.nds_cons.mpr ⟨R.nd,by simp [T.Nds,T.adrs],by simp [T.rests],by simp [T.adrs]⟩) (fun a m m'=>?_) (fun a m m'=>?_)
    ·have m':a ∈ t'.rest 0:=by simpa [T.rests] using m'
     rcases R.src a m' with q | q
     ·obtain ⟨_,vs,e⟩:=new a m
      rw [s25 _ _ e] at q; cases q
     ·exact (S4 a q).2.2 (new a m).1
    ·have m:a ∈ t'.adr k:=by simpa [T.adrs] using m
     obtain ⟨w,hw,m'⟩:=T.mem_rests.mp m'
     exact ((T.oks_iff.mp ok w hw).same s25).dom m' (R.new a m).1
 ·have hil:i=ds.length:=aci hi hge
  refine .inl ⟨IT.stop i H2 usok hge,hd (.lst D ts) H2 ?_ ⟨s2,⟨.inl hD2,ok⟩,fun a m=>?_,fun a m=>?_,?_,fun a m m'=>?_⟩⟩
  ·subst hil
   rw [List.drop_length] at hr
   simp only [A6] at hr
   cases hr
   simp only [T.dat,aaJ] at hc ⊢
   rw [hc]
  ·simp only [T.rest,aal] at m
   rcases m with rfl | m
   ·exact .inl hDH
   ·exact (src a m).1
  ·simp only [T.adr,aal] at m
   rcases m with rfl | m
   ·exact ⟨hDH,_,hD2⟩
   ·exact ⟨IT.same.free (new a m).1,(new a m).2⟩
  ·simp only [T.adr,aaG]
   exact ⟨fun m=>out ((T.alls_iff ts k).mpr (.inl m)),nd.1⟩
  ·simp only [T.adr,T.rest,aal] at m m'
   rcases m' with rfl | m'
   ·exact out ((T.alls_iff ts k).mpr (.inr m))
   ·exact nd.2 a m m'
structure ScOk (X:Cx) (scope:Scope) (loc:List Str) (fr:List Nat) (frn:List Str):Prop where
 hfr:∀ (j:Nat) (k:Nat) (x:Str),fr[j]?=some k->frn[j]?=some x->X.N[k]?=some x/\X.env.kindOf x=some .cell/\(x,NameKind.free) ∈ scope.names
 hln:frn.length=fr.length
 hcell:∀ y ∈ scope.names,y.2 ≠ .cell
 hkind:scope.kind=.function
 hnames:∀ y ∈ scope.names,y.2=.local->scope.names.lookup y.1=some .local
 hfree:∀ y ∈ scope.names,y.2=.free->X.env.kindOf y.1=some .cell
 hkin:∀ (x:Str),x ∈ frn->(relabel scope X.env).names.lookup x=some .cell
 hsc:X.env.scope.kind=.function
theorem Jv {K:Frag} {nl:Nat} {fr:List Nat} {g:Tg} {it:It} {elt:E} {σ:L2.St} {H:Hp} {Q:VK} (hg:∀ i ∈ g.sl,i < nl) (h:lE p EX tn (.comp0 nl fr g it elt) σ H Q):Gc nl fr (lI p EX tn it) (fun _=>lG K g) (fun _=>Pv) (fun _=>lE p EX0 (tnB nl fr tn) elt) σ H Q:=by
 obtain ⟨τ,rfl,hF,j,k,hj,h⟩:=h
 simp only [jk] at hj
 obtain ⟨ji,h1,hj⟩:=bS hj
 obtain ⟨⟨j2,k2⟩,h2,hj⟩:=bS hj
 obtain ⟨hc,e⟩:=DH hj
 cases e
 have hc:j2=0:=of_decide_eq_true hc
 subst hc
 simp only [ev] at h
 refine Lb hF h1 hg h2 (fun d o e=>?_) h
 split at e
 ·rename_i δ' hd
  obtain ⟨x,e1,e2⟩:=Res.bind_eq_ok e
  cases e2
  exact ⟨δ',hd,fun τ4 H3 N _ _ hN=>hN true H3 (Same.refl _) ⟨rfl,e1⟩⟩
 ·cases e
theorem Jw {K:Frag} {nl:Nat} {fr:List Nat} {g:Tg} {it:It} {cond elt:E} {σ:L2.St} {H:Hp} {Q:VK} (hg:∀ i ∈ g.sl,i < nl) (h:lE p EX tn (.comp1 nl fr g it cond elt) σ H Q):Gc nl fr (lI p EX tn it) (fun _=>lG K g) (fun _=>lT p EX0 (tnB nl fr tn) cond) (fun _=>lE p EX0 (tnB nl fr tn) elt) σ H Q:=by
 obtain ⟨τ,rfl,hF,j,k,hj,h⟩:=h
 simp only [jk] at hj
 obtain ⟨ji,h1,hj⟩:=bS hj
 obtain ⟨q3,h3,hj⟩:=bS hj
 obtain ⟨⟨j2,k2⟩,h2,hj⟩:=bS hj
 obtain ⟨hc,e⟩:=DH hj
 cases e
 have hc:j2=0:=of_decide_eq_true hc
 subst hc
 simp only [ev] at h
 refine Lb hF h1 hg h2 (fun d o e=>?_) h
 split at e
 ·rename_i δ' hd
  obtain ⟨b,e1,e2⟩:=Res.bind_eq_ok e
  refine ⟨δ',hd,fun τ4 H3 N e4 F4 hN=>⟨τ4,rfl,F4,by rw [h3]; rfl,?_⟩⟩
  unfold tv
  rw [e4,e1]
  intro H5 s5
  refine hN b H5 s5 ?_
  cases b with
  | true =>
   rw [if_pos rfl] at e2
   obtain ⟨x,e5,e6⟩:=Res.bind_eq_ok e2
   cases e6
   exact ⟨rfl,e5⟩
  | false =>
   rw [if_neg (by decide)] at e2
   cases e2; rfl
 ·cases e
theorem Nv {elt tg iter:Expr} {scope:Scope} {loc:List Str} {fr:List Nat} {frn:List Str} {g:Tg} {it:It} {x:E} (hc:X.calm=true) (S:ScOk X scope loc fr frn) (hi:PI X tg iter (lI p EX tn it)) (hg:∀ i ∈ g.sl,i < loc.length)
  (hb:∀ z:Bk,PG (X.blk scope z.C z.fp (loc ++ frn) z.s z.H) tg (lG X.K g)/\PE (X.blk scope z.C z.fp (loc ++ frn) z.s z.H) elt (lE p EX0 (tnB loc.length fr tn) x)) (hs:∀ y,foldedSetIterable iter X.env y=pure y) :
  PE X (.ListComp elt [⟨tg,iter,[],0⟩] scope pos) (lE p EX tn (.comp0 loc.length fr g it x)) :=
 PE.mono (K1 loc fr frn hc hi S.hfr S.hln S.hcell S.hkind S.hnames S.hfree S.hkin S.hsc (fun _ _ _ _ _ h=>Gi hg h) (fun z=>⟨(hb z).1,KZ,(hb z).2⟩) hs) fun σ H Q h=>Jv hg h
theorem Nw {elt tg iter cnd:Expr} {scope:Scope} {loc:List Str} {fr:List Nat} {frn:List Str} {g:Tg} {it:It} {c x:E} (hc:X.calm=true) (S:ScOk X scope loc fr frn) (hi:PI X tg iter (lI p EX tn it)) (hg:∀ i ∈ g.sl,i < loc.length)
  (hb:∀ z:Bk,PG (X.blk scope z.C z.fp (loc ++ frn) z.s z.H) tg (lG X.K g)/\PT (X.blk scope z.C z.fp (loc ++ frn) z.s z.H) cnd (lT p EX0 (tnB loc.length fr tn) c)/\PE (X.blk scope z.C z.fp (loc ++ frn) z.s z.H) elt (lE p EX0 (tnB loc.length fr tn) x)) (hs:∀ y,foldedSetIterable iter X.env y=pure y) :
  PE X (.ListComp elt [⟨tg,iter,[cnd],0⟩] scope pos) (lE p EX tn (.comp1 loc.length fr g it c x)) :=
 PE.mono (K1 loc fr frn hc hi S.hfr S.hln S.hcell S.hkind S.hnames S.hfree S.hkin S.hsc (fun _ _ _ _ _ h=>Gi hg h) (fun z=>⟨(hb z).1,K0 (hb z).2.1,(hb z).2.2⟩) hs) fun σ H Q h=>Jw hg h
theorem PS.mono {X:Cx} {st:Stmt} {t t':TS} (h:PS X st t) (m:∀ D σ H,t' D σ H->t D σ H):PS X st t':=fun pins s σ H D I q=>h pins s σ H D I (m _ _ _ q)
theorem Mb {elt tg iter:Expr} {scope:Scope} {loc:List Str} {fr:List Nat} {frn:List Str} {g:Tg} {it:It} {x:E} {y:Str} {k:Nat} {py spos:Pos} (hc:X.calm=true) (S:ScOk X scope loc fr frn) (hi:PI X tg iter (lI p EX tn it)) (hg:∀ i ∈ g.sl,i < loc.length)
  (hb:∀ z:Bk,PG (X.blk scope z.C z.fp (loc ++ frn) z.s z.H) tg (lG X.K g)/\PE (X.blk scope z.C z.fp (loc ++ frn) z.s z.H) elt (lE p EX0 (tnB loc.length fr tn) x)) (hs:∀ y,foldedSetIterable iter X.env y=pure y)
  (hN:X.N.Nodup) (hk:X.N[k]?=some y) (hx:Loc X.env.scope y) (hf:X.fn y=true\/X.env.scope.names.lookup y=some .local) (hsw:swapsWith (.ListComp elt [⟨tg,iter,[],0⟩] scope pos) (some (.Name y py)) spos.line X.env=pure true) :
  PS X (.Assign [.Name y py] (.ListComp elt [⟨tg,iter,[],0⟩] scope pos) spos) (GE (lE p EX tn (.comp0 loc.length fr g it x)) (EG k)) :=
 PS.mono (Ha loc fr frn hc hi S.hfr S.hln S.hcell S.hkind S.hnames S.hfree S.hkin S.hsc (fun _ _ _ _ _ h=>Gi hg h) (fun z=>⟨(hb z).1,KZ,(hb z).2⟩) hs hN hk hx hf hsw) fun D σ H h=>Jv hg h
theorem Mc {elt tg iter cnd:Expr} {scope:Scope} {loc:List Str} {fr:List Nat} {frn:List Str} {g:Tg} {it:It} {c x:E} {y:Str} {k:Nat} {py spos:Pos} (hc:X.calm=true) (S:ScOk X scope loc fr frn) (hi:PI X tg iter (lI p EX tn it)) (hg:∀ i ∈ g.sl,i < loc.length)
  (hb:∀ z:Bk,PG (X.blk scope z.C z.fp (loc ++ frn) z.s z.H) tg (lG X.K g)/\PT (X.blk scope z.C z.fp (loc ++ frn) z.s z.H) cnd (lT p EX0 (tnB loc.length fr tn) c)/\PE (X.blk scope z.C z.fp (loc ++ frn) z.s z.H) elt (lE p EX0 (tnB loc.length fr tn) x)) (hs:∀ y,foldedSetIterable iter X.env y=pure y)
  (hN:X.N.Nodup) (hk:X.N[k]?=some y) (hx:Loc X.env.scope y) (hf:X.fn y=true\/X.env.scope.names.lookup y=some .local) (hsw:swapsWith (.ListComp elt [⟨tg,iter,[cnd],0⟩] scope pos) (some (.Name y py)) spos.line X.env=pure true) :
  PS X (.Assign [.Name y py] (.ListComp elt [⟨tg,iter,[cnd],0⟩] scope pos) spos) (GE (lE p EX tn (.comp1 loc.length fr g it c x)) (EG k)) :=
 PS.mono (Ha loc fr frn hc hi S.hfr S.hln S.hcell S.hkind S.hnames S.hfree S.hkin S.hsc (fun _ _ _ _ _ h=>Gi hg h) (fun z=>⟨(hb z).1,K0 (hb z).2.1,(hb z).2.2⟩) hs hN hk hx hf hsw) fun D σ H h=>Jw hg h
end
structure CkC where
 N:List Str
 sc:Scope
 fn:Bool
 rz:Bool
 cm:Bool
noncomputable def EY (sc:Scope) (x:Str):Bool:=match sc.names.lookup x with
 | some .local=>true
 | some .cell=>true
 | some .free=>true
 | _=>false
noncomputable def Fm (c:CkC) (x:Str):Bool:=match c.sc.names.lookup x with
 | some .local=>true
 | some .cell=>c.fn
 | _=>false
noncomputable def glB (sc:Scope) (x:Str):Bool:=match sc.names.lookup x with
 | some .globalImplicit=>true
 | _=>false
noncomputable def BJ (x:Str):Bool:=!(x==("__debug__" : Str)) && !(x==("__classdict__" : Str))
noncomputable def EK (scope outer:Scope):Scope :=
 { scope with names:=scope.names.map fun (n,k)=>if (k==.free && outer.kind==.function && outer.names.lookup n==some .cell) then (n,.cell) else (n,k) }
theorem Jx (scope:Scope) (env:Env):relabel scope env=EK scope env.scope:=rfl
noncomputable def Eo:List Str:=["len", "min", "max", "abs", "int", "list", "tuple", "all", "any", "sum", "sorted", "isinstance", "str", "range", "enumerate", "zip", "reversed"]
noncomputable def ckG (c:CkC):Tg->Expr->Bool
 | .nm i,.Name x _=>(c.N[i]?==some x) && Fm c x
 | .tp is,.Tuple es _ _=>ckGs c is es && c.cm
 | _,_=>false
where ckGs (c:CkC):List Nat->List Expr->Bool
 | [],[]=>true
 | i :: is,.Name x _ :: es=>(c.N[i]?==some x) && Fm c x && ckGs c is es
 | _,_=>false
noncomputable def scB (c:CkC) (scope:Scope) (loc:List Str) (fr:List Nat) (frn:List Str):Bool :=
 decide (frn.length=fr.length) && ((fr.zip frn).all fun q=>(c.N[q.1]?==some q.2) && (c.sc.names.lookup q.2==some .cell) && scope.names.contains (q.2,NameKind.free)) &&
 (scope.names.all fun y=>(y.2 != .cell) && (y.2 != .local || scope.names.lookup y.1==some .local) && (y.2 != .free || c.sc.names.lookup y.1==some .cell)) && (scope.kind==.function) && (c.sc.kind==.function) &&
 (frn.all fun x=>(EK scope c.sc).names.lookup x==some .cell) && decide (loc ++ frn).Nodup
noncomputable def Fo (c:CkC) (fr:List Nat):List Str:=fr.map fun j=>c.N.getD j ""
noncomputable def DZ:Expr->List Str
 | .Name x _=>[x]
 | .Tuple es _ _=>es.filterMap fun | .Name x _=>some x | _=>none
 | _=>[]
noncomputable def PF:Expr->Bool
 | .Tuple _ _ _=>true
 | _=>false
noncomputable def Nx (d:Bool):Expr->Bool
 | .Constant (.bool c) _ _=>c==d
 | _=>false
noncomputable def DI:Expr->Bool
 | .Set _ _ _=>false
 | _=>true
noncomputable def GL:List Str:=["RoomError", "BadShape", "NoNode", "NoPage", "NotRooms", "NotATree", "BadRoom", "Unlike", "BadScale", "BadStore", "BadName", "BadLength", "Twice", "Full", "NoThing", "NoDeed", "NoLine"]
noncomputable def A4 (n:Nat):Str:=GL.getD n "RoomError"
theorem Me (n:Nat):(A4 n==("__debug__" : Str))=false:=by
 have h:∀ x ∈ GL,(x==("__debug__" : Str))=false:=by decide
 unfold A4
 rw [aas]
 cases q:GL[n]? with
 | none=>decide
 | some x=>exact h x (aae q)
noncomputable def HK:Kd->String
 | .int => "int"
 | .bool => "bool"
 | .str => "str"
 | .list => "list"
 | .tuple => "tuple"
 | .dict => "dict"
 | .verr => "ValueError"
 | .cls _ => ""
noncomputable def E8:Kd->Str
 | .cls n=>A4 n
 | k=>Str.ofString (HK k)
noncomputable def OT (c:CkC) (k:Kd):Expr->Bool
 | .Name x _=>(x==E8 k) && glB c.sc x
 | _=>false
noncomputable def nmB:Expr->Bool
 | .Name _ _=>true
 | _=>false
noncomputable def SM:Expr->Bool
 | .Name _ _=>true
 | .Subscript _ _ _=>true
 | _=>false
noncomputable def Ny:Bi->Str
 | .len => "len"
 | .min => "min"
 | .max => "max"
 | .max3 => "max"
 | .maxL => "max"
 | .int => "int"
 | .list => "list"
 | .listL => "list"
 | .all => "all"
noncomputable def SN:Bi->Bool
 | _=>true
noncomputable def Ep:Bi->Bool
 | .len=>true
 | .int=>true
 | .list=>true
 | .listL=>true
 | _=>false
mutual
noncomputable def E.tst:E->Bool
 | .ifx _ _ _=>false
 | .not a=>a.tst
 | .bo _ es=>es.tsts
 | _=>true
noncomputable def Es.tsts:Es->Bool
 | .nil=>true
 | .cons e r=>e.tst && r.tsts
end
noncomputable def Gj (gens:List Comprehension) (f:Expr->Expr->List Expr->Bool):Bool:=match gens with
 | [⟨tg,iter,ifs,n⟩]=>decide (n=0) && f tg iter ifs
 | _=>false
noncomputable def Mf (es:List Expr) (f:Expr->Bool):Bool:=match es with
 | [e]=>f e
 | _=>false
theorem D0 {gens:List Comprehension} {f:Expr->Expr->List Expr->Bool} (h:Gj gens f=true):∃ tg iter ifs,gens=[⟨tg,iter,ifs,0⟩]/\f tg iter ifs=true:=by
 unfold Gj at h
 split at h
 ·rw [aak] at h
  cases of_decide_eq_true h.1
  exact ⟨_,_,_,rfl,h.2⟩
 ·cases h
theorem Jy {es:List Expr} {f:Expr->Bool} (h:Mf es f=true):∃ e,es=[e]/\f e=true:=by
 unfold Mf at h
 split at h
 ·exact ⟨_,rfl,h⟩
 ·cases h
noncomputable def isNone:Expr->Bool
 | .Constant .none _ _=>true
 | _=>false
noncomputable def Hg (b:Bool) (f:Expr->Bool):Option Expr->Bool
 | none=>b
 | some l=>!b && f l
mutual
noncomputable def ckE (c:CkC):E->Expr->Bool
 | .nm i,.Name x _=>(c.N[i]?==some x) && EY c.sc x && BJ x
 | .cN,.Constant .none _ _=>true
 | .cB b,.Constant (.bool b') _ _=>b==b'
 | .cI i,.Constant (.int i') _ _=>i==i'
 | .cS x,.Constant (.str x') _ _=>x==x'
 | .gl x d,.Name y _=>(x==y) && glB c.sc y && BJ y && D.scal d
 | .tup es,.Tuple xs _ _=>ckEs c es xs && decide (es.len<=1000)
 | .lst es,.List xs _=>ckEs c es xs && decide (es.len<=1000)
 | .bin o a b,.BinOp l op r _=>(op==LY o) && ckE c a l && ckE c b r
 | .neg a,.UnaryOp .USub l _=>ckE c a l
 | .not a,.UnaryOp .Not l _=>ckE c a l
 | .cmp o a b,.Compare l [op] [r] _=>(op==A9 o) && ckE c a l && ckE c b r && DI r
 | .chain o o' a b d,.Compare l [op,op'] [r,r'] _=>(op==A9 o) && (op'==A9 o') && ckE c a l && ckE c b r && ckE c d r' && DI r'
 | .isN n a,.Compare l [op] [r] _=>(op==if n then .IsNot else .Is) && isNone r && ckE c a l
 | .isB n d a,.Compare l [op] [r] _=>(op==if n then .IsNot else .Is) && Nx d r && ckE c a l
 | .bo k es,.BoolOp op xs _=>(op==if k then .And else .Or) && ckEs c es xs
 | .ifx t a b,.IfExp t' a' b' _=>ckE c t t' && t.tst && ckE c a a' && ckE c b b'
 | .ix a i,.Subscript a' i' _=>ckE c a a' && ckE c i i' && Dc i'
 | .ixL a i,.Subscript a' i' _=>ckE c a a' && ckE c i i' && Dc i'
 | .slc a lo hi,.Subscript a' (.Slice lo' hi' none _) _=>ckE c a a' && Hg lo.isCN (ckE c lo) lo' && Hg hi.isCN (ckE c hi) hi'
 | .call f es,.Call (.Name x _) xs [] _=>(x==f.name) && glB c.sc x && BJ x && ckEs c es xs && decide (es.len=f.ar) && decide (0 < es.len) && c.cm
 | .callB f es,.Call (.Name x _) xs [] _=>(x==f.name) && glB c.sc x && BJ x && ckEs c es xs && decide (es.len=f.ar) && decide (0 < es.len) && c.cm
 | .bi b es,.Call (.Name x _) xs [] _=>(x==Ny b) && glB c.sc x && SN b && ckEs c es xs && decide (0 < es.len) && (c.cm || Ep b)
 | .mt .count a es,.Call (.Attribute o name ap) xs [] cp=>(name==("count" : Str)) && ckE c a o && SM o && ckEs c es xs && decide (es.len=1) && (ap.endLine==cp.line)
 | .mt .index a es,.Call (.Attribute o name ap) xs [] cp=>(name==("index" : Str)) && ckE c a o && nmB o && ckEs c es xs && decide (es.len=1) && (ap.endLine==cp.line)
 | .isi a k,.Call (.Name x _) [l,r] [] _=>(x==("isinstance" : Str)) && glB c.sc x && ckE c a l && OT c k r && Ak l
 | .comp0 nl fr g it elt,.ListComp elt' gens scope _=>Gj gens fun tg iter ifs=>c.cm && ifs.isEmpty && scB c scope (DZ tg) fr (Fo c fr) && decide (nl=(DZ tg).length) && (g.sl.all fun i=>decide (i < nl)) && ckI c tg it iter && DI iter &&
   ckG ⟨DZ tg ++ Fo c fr,EK scope c.sc,false,false,c.cm⟩ g tg && ckE ⟨DZ tg ++ Fo c fr,EK scope c.sc,false,false,c.cm⟩ elt elt'
 | .comp1 nl fr g it cond elt,.ListComp elt' gens scope _=>Gj gens fun tg iter ifs=>Mf ifs fun cnd=>c.cm && scB c scope (DZ tg) fr (Fo c fr) && decide (nl=(DZ tg).length) && (g.sl.all fun i=>decide (i < nl)) && ckI c tg it iter && DI iter &&
   ckG ⟨DZ tg ++ Fo c fr,EK scope c.sc,false,false,c.cm⟩ g tg && ckE ⟨DZ tg ++ Fo c fr,EK scope c.sc,false,false,c.cm⟩ cond cnd && cond.tst && ckE ⟨DZ tg ++ Fo c fr,EK scope c.sc,false,false,c.cm⟩ elt elt'
 | _,_=>false
noncomputable def ckEs (c:CkC):Es->List Expr->Bool
 | .nil,[]=>true
 | .cons e r,x :: xs=>ckE c e x && Ak x && ckEs c r xs
 | _,_=>false
noncomputable def ckI (c:CkC) (tg:Expr):It->Expr->Bool
 | .seq e,x=>ckE c e x
 | .seqL e,x=>ckE c e x
 | .r1 a,.Call (.Name x _) [l] [] _=>(x==("range" : Str)) && glB c.sc x && ckE c a l && Ak l
 | .en a,.Call (.Name x _) [l] [] _=>(x==("enumerate" : Str)) && glB c.sc x && ckE c a l && Ak l && PF tg
 | .r3w a b d,.Call (.Name x _) [l,r,o] [] _=>(x==("range" : Str)) && glB c.sc x && ckE c a l && Ak l && ckE c b r && Ak r && ckE c d o && Ak o
 | _,_=>false
end
inductive Nd1 where
 | fn (F:Fn)
 | cl (n:Nat)
 | rs (n:Nat)
 | gl (x:Str) (d:D)
mutual
noncomputable def E.need:E->List Nd1
 | .nm _=>[]
 | .cN=>[]
 | .cB _=>[]
 | .cI _=>[]
 | .cS _=>[]
 | .gl x d=>[.gl x d]
 | .tup es=>es.need
 | .lst es=>es.need
 | .bin _ a b=>a.need ++ b.need
 | .neg a=>a.need
 | .not a=>a.need
 | .cmp _ a b=>a.need ++ b.need
 | .chain _ _ a b c=>a.need ++ (b.need ++ c.need)
 | .isN _ a=>a.need
 | .isB _ _ a=>a.need
 | .bo _ es=>es.need
 | .ifx c a b=>c.need ++ (a.need ++ b.need)
 | .ix a i=>a.need ++ i.need
 | .ixL a i=>a.need ++ i.need
 | .slc a lo hi=>a.need ++ (lo.need ++ hi.need)
 | .call f es=>.fn f :: es.need
 | .callB f es=>.fn f :: es.need
 | .bi _ es=>es.need
 | .isi a k=>(match k with | .cls n=>[.cl n] | _=>[]) ++ a.need
 | .mt _ a es=>a.need ++ es.need
 | .comp0 _ _ _ it elt=>it.need ++ elt.need
 | .comp1 _ _ _ it cond elt=>it.need ++ (cond.need ++ elt.need)
noncomputable def Es.need:Es->List Nd1
 | .nil=>[]
 | .cons e r=>e.need ++ r.need
noncomputable def It.need:It->List Nd1
 | .seq e=>e.need
 | .seqL e=>e.need
 | .r1 a=>a.need
 | .r3w a b c=>a.need ++ (b.need ++ c.need)
 | .en e=>e.need
end
noncomputable def dT:D->T
 | .bl b=>.bl b
 | .int i=>.int i
 | .str x=>.str x
 | _=>.non
theorem SO {d:D} (h:D.scal d=true):(dT d).dat=d/\(dT d).sc=true:=by cases d <;> first | exact ⟨rfl,rfl⟩ | cases h
noncomputable def NeedOk (p:Px) (lv:Nat) (X:Cx):Nd1->Prop
 | .fn F=>F.lv<=lv/\L7 p X F
 | .cl n=>p.has n=true/\X.mg (A4 n)=some (.ref (p.cl n))
 | .rs n=>p.has n=true/\nsIn X.K mainGlobals (A4 n)=some (some (.ref (p.cl n)))/\excIn X.K (p.cl n) GG "ValueError.__new__" = true
 | .gl x d=>∃ u,X.mg x=some u/\RelV (dT d).val u
structure Kx (p:Px):Prop where
 no:p.has 999=false
 x:∀ c,p.has c=true->XCls p.K (p.cl c)
 kb:∀ c,p.has c=true->∀ T ∈ (["int", "bool", "str", "list", "tuple", "dict"]:List String),kitOne p.K (.ref (p.cl c)) (.type T)=some false
 kv:∀ c,p.has c=true->kitOne p.K (.ref (p.cl c)) (.type "ValueError")=some true
 kc:∀ c d,p.has c=true->p.has d=true->kitOne p.K (.ref (p.cl c)) (.ref (p.cl d))=some (isa c d)
structure Ct (p:Px) (c:CkC) (lv:Nat) (X:Cx) (EX:EXT):Prop where
 K:X.K=p.K
 N:X.N=c.N
 sc:X.env.scope=c.sc
 nd:X.N.Nodup
 calm:c.cm=true->X.calm=true
 room:c.cm=true->Room lv X.A
 un:X.A.units + 64 < cLine
 blt:∀ y ∈ Eo,X.mg y=none
 bt:∀ y ∈ (["bool", "dict", "ValueError"]:List Str),X.mg y=none
 pass:FF (CXe X.prog X.w) X EX
 fn:c.fn=true->∀ x,X.fn x=true
 kx:Kx p
section
variable {p:Px} {c:CkC} {lv:Nat} {X:Cx} {EX:EXT} {tn:List Nat} {pos np:Pos}
theorem Ct.gl (C:Ct p c lv X EX) {x:Str} (h:glB c.sc x=true):Gl X x:=by
 unfold glB at h
 show X.env.scope.names.lookup x=_
 rw [C.sc]
 split at h
 ·assumption
 ·cases h
theorem Ct.vis (C:Ct p c lv X EX) {x:Str} (h:EY c.sc x=true):Vis X.env.scope x:=by
 unfold EY at h
 unfold Vis
 rw [C.sc]
 split at h
 ·exact .inl ‹_›
 ·exact .inr (.inl ‹_›)
 ·exact .inr (.inr ‹_›)
 ·cases h
theorem Ct.loc (C:Ct p c lv X EX) {x:Str} (h:Fm c x=true):L2.Loc X.env.scope x/\(X.fn x=true\/X.env.scope.names.lookup x=some .local):=by
 unfold Fm at h
 unfold L2.Loc
 rw [C.sc]
 split at h
 ·rename_i e; exact ⟨.inl e,.inr e⟩
 ·rename_i e; exact ⟨.inr e,.inl (C.fn h x)⟩
 ·cases h
theorem BZ {x:Str} (h:BJ x=true):(x==("__debug__" : Str))=false/\(x==("__classdict__" : Str))=false:=by
 unfold BJ at h
 rw [aak,ab7,ab7] at h
 exact h
theorem Ct.hu (C:Ct p c lv X EX):X.A.units + 64 < cLine:=C.un
theorem PH (C:Ct p c lv X EX):∀ {is:List Nat} {es:List Expr},ckG.ckGs c is es=true->PGs X es (CF is)/\(assignEach es X.env).length=is.length/\(assignEach es X.env).findIdx? (·.1)=none
 | [],[],_=>⟨PX,rfl,rfl⟩
 | [],e :: es,h=>nF h
 | i :: is,[],h=>nF h
 | i :: is,e :: es,h=>by
  cases e with
  | Name x q =>
   have h:((c.N[i]?==some x) && Fm c x && ckG.ckGs c is es)=true:=h
   rw [aak,aak] at h
   obtain ⟨⟨h1,h2⟩,h3⟩:=h
   obtain ⟨a1,a2,a3⟩:=PH C h3
   obtain ⟨l1,l2⟩:=C.loc h2
   refine ⟨Oe (KS C.nd (by rw [C.N]; exact beq_iff_eq.mp h1) l1 l2) a1 rfl,?_,?_⟩
   ·show (assignEach es X.env).length + 1=_; rw [a2]; rfl
   ·show List.findIdx? (·.1) ((false,_) :: assignEach es X.env)=none
    rw [List.findIdx?_cons,a3]; rfl
  | _=>exact nF h
theorem GM (C:Ct p c lv X EX) {g:Tg} {e:Expr} (h:ckG c g e=true):PG X e (lG X.K g):=by
 cases g with
 | nm i =>
  cases e with
  | Name x q =>
   have h:((c.N[i]?==some x) && Fm c x)=true:=h
   rw [aak] at h
   obtain ⟨l1,l2⟩:=C.loc h.2
   exact KS C.nd (by rw [C.N]; exact beq_iff_eq.mp h.1) l1 l2
  | _=>exact nF h
 | tp is =>
  cases e with
  | Tuple es k q =>
   rw [show ckG c (.tp is) (.Tuple es k q)=(ckG.ckGs c is es && c.cm) from rfl,aak] at h
   obtain ⟨a1,a2,a3⟩:=PH C h.1
   intro pins s σ H v u Q I r hw
   rcases hw with hw | hw
   ·exact RS (C.calm h.2) a1 a2 a3 pins s σ H v u Q I r hw
   ·exact Sv (C.calm h.2) a1 a2 a3 pins s σ H v u Q I r hw
  | _=>exact nF h
theorem Lc {α β:Type} {xs:List α} {ys:List β} {j:Nat} {a:α} {b:β} (h1:xs[j]?=some a) (h2:ys[j]?=some b):(a,b) ∈ xs.zip ys:=by
 have:(xs.zip ys)[j]?=some (a,b):=by rw [List.getElem?_zip_eq_some]; exact ⟨h1,h2⟩
 exact aae this
theorem IX (C:Ct p c lv X EX) {scope:Scope} {loc:List Str} {fr:List Nat} {frn:List Str} (h:scB c scope loc fr frn=true):ScOk X scope loc fr frn/\(loc ++ frn).Nodup:=by
 unfold scB at h
 simp only [aak,decide_eq_true_eq,aaF,beq_iff_eq,bne_iff_ne,Bool.or_eq_true] at h
 obtain ⟨⟨⟨⟨⟨⟨h1,h2⟩,h3⟩,h4⟩,h5⟩,h6⟩,h7⟩:=h
 refine ⟨⟨fun j k x e1 e2=>?_,h1,fun y hy=>(h3 y hy).1.1,h4,fun y hy e=>?_,fun y hy e=>?_,fun x hx=>?_,by rw [C.sc]; exact h5⟩,h7⟩
 ·obtain ⟨⟨q1,q2⟩,q3⟩:=h2 (k,x) (Lc e1 e2)
  refine ⟨by rw [C.N]; exact q1,?_,by simpa using q3⟩
  show X.env.scope.names.lookup x=_
  rw [C.sc]; exact q2
 ·rcases (h3 y hy).1.2 with q | q
  ·exact absurd e q
  ·exact q
 ·rcases (h3 y hy).2 with q | q
  ·exact absurd e q
  ·show X.env.scope.names.lookup y.1=_
   rw [C.sc]; exact q
 ·rw [Jx,C.sc]; exact h6 x hx
theorem Ct.blk (C:Ct p c lv X EX) {scope:Scope} {N:List Str} (hN:N.Nodup) (z:Bk):Ct p ⟨N,EK scope c.sc,false,false,c.cm⟩ lv (X.blk scope z.C z.fp N z.s z.H) EX0 where
 K:=C.K
 N:=rfl
 sc:=by show relabel scope X.env=_; rw [Jx,C.sc]
 nd:=hN
 calm:=C.calm
 room:=C.room
 un:=C.un
 blt:=C.blt
 bt:=C.bt
 pass:=fun _ _ _ _ _ _ _ h=>by
  obtain ⟨_,_,_,_,_,_,_,_,_,_,_,_,_,_,_,_,_,_,z⟩:=h
  exact z.elim
 fn:=fun z=>nomatch z
 kx:=C.kx
theorem NeedOk.blk {scope:Scope} {N:List Str} {z:Bk} {n:Nd1} (h:NeedOk p lv X n):NeedOk p lv (X.blk scope z.C z.fp N z.s z.H) n:=by
 cases n <;> exact h
theorem Dw {e:Expr} {env:Env} (h:DI e=true):∀ y,foldedSetIterable e env y=pure y:=by
 intro y
 cases e <;> first | rfl | cases h
theorem D1 {op:CmpOp} {e:Expr} (h:DI e=true):behindInMarks op e=false:=by
 cases e <;> first | rfl | cases h
end
section
variable {p:Px} {c:CkC} {lv:Nat} {X:Cx} {EX:EXT} {tn:List Nat} {pos np:Pos}
theorem AD (C:Ct p c lv X EX) {e:Expr} {x:E} (h:PE X e (lE p EX tn x)) (hp:Jr e=true):PE X e (lE p EX tn x)/\(x.tst=true->PT X e (lT p EX tn x)):=⟨h,fun _=>L5 C.K h hp⟩
noncomputable def kdV (p:Px):Kd->Value
 | .cls n=>.ref (p.cl n)
 | k=>.type (HK k)
noncomputable def Mg (p:Px):Kd->Prop
 | .cls n=>p.has n=true
 | _=>True
theorem SQ (C:Ct p c lv X EX) {H:Hp} {t:T} (ok:t.Ok p H):∃ ty,TyX X.K H t.val ty/\∀ k b,C0 t.dat k=.ok b->Mg p k->kitOne X.K ty (kdV p k)=some b:=by
 cases t with
 | non=>exact ⟨_,.of .non,fun k b h _=>by cases k <;> cases h <;> rfl⟩
 | bl x=>exact ⟨_,.of (.bl x),fun k b h _=>by cases k <;> cases h <;> rfl⟩
 | int x=>exact ⟨_,.of (.int x),fun k b h _=>by cases k <;> cases h <;> rfl⟩
 | str x=>exact ⟨_,.of (.str x),fun k b h _=>by cases k <;> cases h <;> rfl⟩
 | tup a ts=>exact ⟨_,.of (.tup ok.1),fun k b h _=>by cases k <;> cases h <;> rfl⟩
 | lst a ts =>
  rcases ok.1 with e | ⟨o,e⟩
  ·exact ⟨_,.of (.lst e),fun k b h _=>by cases k <;> cases h <;> rfl⟩
  ·exact ⟨_,.of (.frz e),fun k b h _=>by cases k <;> cases h <;> rfl⟩
 | exn a n =>
  by_cases hn:n=999
  ·subst hn
   refine ⟨_,.dct (by rw [ok.1]; rfl),fun k b h _=>?_⟩
   cases k <;> cases h <;> rfl
  ·have hs:=ok.2.resolve_left hn
   have hn':(n==999)=false:=beq_eq_false_iff_ne.mpr hn
   refine ⟨_,.exc (by rw [ok.1]; unfold exO; rw [if_neg hn]) (C.K ▸ C.kx.x n hs),fun k b h hh=>?_⟩
   rw [C.K]
   have kb:=C.kx.kb n hs
   cases k with
   | verr =>
    have h:(if (n==999)=true then Res.bad else Res.ok true)=Res.ok b:=h
    rw [hn',if_neg (by decide)] at h
    cases h; exact C.kx.kv n hs
   | cls m =>
    have h:(if (n==999)=true then Res.bad else Res.ok (isa n m))=Res.ok b:=h
    rw [hn',if_neg (by decide)] at h
    cases h; exact C.kx.kc n m hs hh
   | dict =>
    have h:Res.ok (n==999)=Res.ok b:=h
    rw [hn'] at h
    cases h; exact kb _ (by decide)
   | _=>cases h; exact kb _ (by decide)
theorem QO (C:Ct p c lv X EX) {l r:Expr} {x:E} {k:Kd} {v:V} {cv:Value} (hl:PE X l (lE p EX tn x)) (hr:PE X r (tC v)) (hst:Ak l=true) (hst':Ak r=true) (hgl:Gl X "isinstance") (hcv:clV v=some cv)
  (hk:∀ (H:Hp) (t:T) (b:Bool),t.Ok p H->C0 t.dat k=.ok b->∃ ty,TyX X.K H t.val ty/\kitOne X.K ty cv=some b):PE X (.Call (.Name "isinstance" np) [l,r] [] pos) (lE p EX tn (.isi x k)):=by
 refine PE.mono (CY Ov hgl (C.blt _ (by simp [Eo])) (by decide +kernel) (Ba hl (Ba hr Da (Ae hst')) (Ae hst)) (by decide) (by decide) (Ae hst) (AC (by simp [hst']))) fun σ H Q h=>?_
 obtain ⟨τ,rfl,hF,j,k',hj,h⟩:=h
 simp only [jk] at hj
 obtain ⟨⟨j1,k1⟩,h1,hj⟩:=bS hj
 simp only [ev] at h
 refine l1 hF h1 h fun d t H1 ht R h=>?_
 subst ht
 cases q:C0 t.dat k with
 | ok b =>
  rw [q] at h
  obtain ⟨ty,h2,h3⟩:=hk H1 t b R.ok q
  exact ⟨t.val,v,cv,ty,b,rfl,hcv,h2,h3,h (.bl b) H1 rfl (Rs.scal R.same rfl)⟩
 | exc n =>
  rw [q] at h
  cases t with
  | exn a c =>
   have hx:∀ f,dX (T.exn a c).dat f ≠ .exc n:=fun f e=>by
    unfold T.dat dX at e
    split at e <;> simp_all
    split at e <;> cases e
   cases k with
   | verr=>exact absurd (show dX (T.exn a c).dat (fun _=>true)=.exc n from q) (hx _)
   | cls m=>exact absurd (show dX (T.exn a c).dat (fun c=>isa c m)=.exc n from q) (hx _)
   | _=>cases q
  | _=>cases k <;> cases q
 | bad=>rw [q] at h; exact nE h
theorem SR (C:Ct p c lv X EX) {k:Kd} {r:Expr} (h:OT c k r=true) (hn:∀ n,k=.cls n->NeedOk p lv X (.cl n)):∃ v cv,PE X r (tC v)/\clV v=some cv/\Ak r=true/\∀ (H:Hp) (t:T) (b:Bool),t.Ok p H->C0 t.dat k=.ok b->∃ ty,TyX X.K H t.val ty/\kitOne X.K ty cv=some b:=by
 cases r with
 | Name x q =>
  have h:((x==E8 k) && glB c.sc x)=true:=h
  rw [aak,beq_iff_eq] at h
  obtain ⟨rfl,h⟩:=h
  have fin:Mg p k->∀ (H:Hp) (t:T) (b:Bool),t.Ok p H->C0 t.dat k=.ok b->∃ ty,TyX X.K H t.val ty/\kitOne X.K ty (kdV p k)=some b:=fun hk H t b ok e=>let ⟨ty,a,f⟩:=SQ C ok; ⟨ty,a,f _ _ e hk⟩
  have key:(∃ n,k=.cls n)\/(Mg p k/\kdV p k=.type (HK k)/\X.mg (E8 k)=none/\bootBuiltins (E8 k)=some (.type (HK k))/\E8 k ≠ "__name__" /\ (E8 k==("__debug__" : Str))=false):=by
   cases k with
   | cls n=>exact .inl ⟨n,rfl⟩
   | bool=>exact .inr ⟨trivial,rfl,C.bt _ (by decide),by decide +kernel,by decide,by decide⟩
   | dict=>exact .inr ⟨trivial,rfl,C.bt _ (by decide),by decide +kernel,by decide,by decide⟩
   | verr=>exact .inr ⟨trivial,rfl,C.bt _ (by decide),by decide +kernel,by decide,by decide⟩
   | _=>exact .inr ⟨trivial,rfl,C.blt _ (by decide),by decide +kernel,by decide,by decide⟩
  rcases key with ⟨n,rfl⟩ | ⟨k1,k2,k3,k4,k5,k6⟩
  ·obtain ⟨h1,h2⟩:=hn n rfl
   exact ⟨.ref (p.cl n),.ref (p.cl n),KQ (C.gl h) h2 rfl (Me n),rfl,rfl,fin h1⟩
  ·exact ⟨.ty (HK k),.type (HK k),PR (C.gl h) k3 k4 rfl k5 k6,rfl,rfl,k2 ▸ fin k1⟩
 | _=>exact nF h
theorem Jz:∀ {ts:List T} {bs:List Bool},AA (T.dats ts)=some bs->ts.map T.val=bs.map V.bl
 | [],bs,h=>by cases h; rfl
 | t :: r,bs,h=>by
  cases t with
  | bl b =>
   have h:(AA (T.dats r)).map (b :: ·)=some bs:=h
   obtain ⟨cs,h1,rfl⟩:=aam.mp h
   rw [aaE,aaE,Jz h1]; rfl
  | _=>cases h
theorem Ix {e o:Expr} {x y:E} {ap cp:Pos} (hl:PE X o (lE p EX tn x)) (hb:attributeBase o "count" X.env (eval o X.env)=eval o X.env) (he:PE X e (lE p EX tn y)) (hst:Ak e=true) (h3:(ap.endLine==cp.line)=true):PE X (.Call (.Attribute o "count" ap) [e] [] cp) (lE p EX tn (.mt .count x (.cons y .nil))):=by
 refine PE.mono (Fj PySem.F.plainAttrs_list PySem.F.slot_list_count PySem.F.type_list_count Ow hl (Ba he Da (Ae hst)) hb (by rw [Ae hst]; rfl) h3 (Ae hst) rfl) fun σ H Q h=>?_
 obtain ⟨τ,rfl,hF,j,k',hj,h⟩:=h
 simp only [jk,jks] at hj
 obtain ⟨⟨j1,k1⟩,h1,hj⟩:=bS hj
 obtain ⟨⟨j2,k2⟩,h2,hj⟩:=bS hj
 obtain ⟨⟨j3,k3⟩,h3',_⟩:=bS h2
 simp only [ev,evs] at h
 refine l1 hF h1 h fun d t H1 ht R h=>?_
 subst ht
 cases t with
 | lst a ts =>
  refine ⟨.inl ⟨rfl,_,.inl R.ok.1⟩,?_⟩
  rw [show dL (T.lst a ts).dat=true from rfl,if_pos rfl] at h
  rw [show (((ev y (dτ τ)).bind fun x=>(Res.ok []).bind fun xs=>Res.ok (x :: xs)).bind fun ds=>mtD .count (T.lst a ts).dat ds)=(ev y (dτ τ)).bind fun d2=>mtD .count (T.lst a ts).dat [d2] from by cases ev y (dτ τ) <;> rfl] at h
  refine l2 hF R.same h3' h fun d2 t2 H2 ht2 R2 h=>?_
  subst ht2
  cases t2 with
  | bl k =>
   have h:Lg p EX (vτ τ) ((BG (AA (T.dats ts))).bind fun bs=>Res.ok (D.int ((bs.filter (·==k)).length:Int))) H (KE p (Sh tn τ) H j k' Q):=h
   cases q:AA (T.dats ts) with
   | none=>rw [q] at h; exact nE h
   | some bs =>
    rw [q] at h
    have okl:=(R.ok.same R2.same).1
    rw [Jz q] at okl
    exact ⟨a,bs,k,rfl,rfl,okl,h (.int _) H2 rfl (Rs.scal (R.same.trans R2.same) rfl)⟩
  | _=>exact nE h
 | _=>exact nE h
theorem JA:∀ {ts:List T} {ns:List Int},Bh (T.dats ts)=some ns->ts.map T.val=ns.map V.int
 | [],ns,h=>by cases h; rfl
 | t :: r,ns,h=>by
  cases t with
  | int b =>
   have h:(Bh (T.dats r)).map (b :: ·)=some ns:=h
   obtain ⟨cs,h1,rfl⟩:=aam.mp h
   rw [aaE,aaE,JA h1]; rfl
  | _=>cases h
theorem Ld {v:Int}:∀ {ns:List Int} {j:Nat},GI v ns=some j->ns[j]?=some v/\∀ m,m < j->ns[m]? ≠ some v
 | [],j,h=>nomatch h
 | x :: r,j,h=>by
  rw [GI] at h
  split at h
  ·rename_i c
   cases h
   exact ⟨by rw [c]; rfl,fun m hm=>absurd hm (by omega)⟩
  ·rename_i c
   obtain ⟨i,h1,rfl⟩:=aam.mp h
   obtain ⟨h2,h3⟩:=Ld h1
   refine ⟨by simpa using h2,fun m hm=>?_⟩
   cases m with
   | zero=>intro z; cases z; exact c rfl
   | succ m =>
    have:=h3 m (by omega)
    simpa using this
theorem Nz {e:Expr} {x y:E} {ap cp pz:Pos} {z:Str} (hl:PE X (.Name z pz) (lE p EX tn x)) (he:PE X e (lE p EX tn y)) (hst:Ak e=true) (h3:(ap.endLine==cp.line)=true):PE X (.Call (.Attribute (.Name z pz) "index" ap) [e] [] cp) (lE p EX tn (.mt .index x (.cons y .nil))):=by
 refine PE.mono (Fj PySem.F.plainAttrs_list PySem.F.slot_list_index PySem.F.type_list_index OB hl (Ba he Da (Ae hst)) rfl (by rw [Ae hst]; rfl) h3 (Ae hst) rfl) fun σ H Q h=>?_
 obtain ⟨τ,rfl,hF,j,k',hj,h⟩:=h
 simp only [jk,jks] at hj
 obtain ⟨⟨j1,k1⟩,h1,hj⟩:=bS hj
 obtain ⟨⟨j2,k2⟩,h2,hj⟩:=bS hj
 obtain ⟨⟨j3,k3⟩,h3',_⟩:=bS h2
 simp only [ev,evs] at h
 refine l1 hF h1 h fun d t H1 ht R h=>?_
 subst ht
 cases t with
 | lst a ts =>
  refine ⟨.inl ⟨rfl,_,.inl R.ok.1⟩,?_⟩
  rw [show dL (T.lst a ts).dat=true from rfl,if_pos rfl] at h
  rw [show (((ev y (dτ τ)).bind fun x=>(Res.ok []).bind fun xs=>Res.ok (x :: xs)).bind fun ds=>mtD .index (T.lst a ts).dat ds)=(ev y (dτ τ)).bind fun d2=>mtD .index (T.lst a ts).dat [d2] from by cases ev y (dτ τ) <;> rfl] at h
  refine l2 hF R.same h3' h fun d2 t2 H2 ht2 R2 h=>?_
  subst ht2
  cases t2 with
  | int v =>
   have h:Lg p EX (vτ τ) ((BG (Bh (T.dats ts))).bind fun ns=>(BG (GI v ns)).bind fun j=>Res.ok (D.int (j:Nat))) H (KE p (Sh tn τ) H j k' Q):=h
   cases q:Bh (T.dats ts) with
   | none=>rw [q] at h; exact nE h
   | some ns =>
    rw [q] at h
    have h:Lg p EX (vτ τ) ((BG (GI v ns)).bind fun j=>Res.ok (D.int (j:Nat))) H (KE p (Sh tn τ) H j k' Q):=h
    cases q2:GI v ns with
    | none=>rw [q2] at h; exact nE h
    | some i =>
     rw [q2] at h
     have okl:=(R.ok.same R2.same).1
     rw [JA q] at okl
     exact ⟨a,ns,v,i,rfl,rfl,okl,Ld q2,h (.int _) H2 rfl (Rs.scal (R.same.trans R2.same) rfl)⟩
  | _=>exact nE h
 | _=>exact nE h
end
theorem Aa {a b:Bool} (h:(a && b)=true):a=true/\b=true:=aak _ _ |>.mp h
theorem Au {p:Px} {lv:Nat} {X:Cx} {a b:List Nd1} (h:∀ n ∈ a ++ b,NeedOk p lv X n):(∀ n ∈ a,NeedOk p lv X n)/\∀ n ∈ b,NeedOk p lv X n:=⟨fun n m=>h n (aax _ m),fun n m=>h n (aan _ m)⟩
theorem Ck {c:CkC}:∀ {es:Es} {xs:List Expr},ckEs c es xs=true->xs.all Ak=true/\xs.length=es.len
 | .nil,[],_=>⟨rfl,rfl⟩
 | .nil,x :: xs,h=>nF h
 | .cons e r,[],h=>nF h
 | .cons e r,x :: xs,h=>by
  have h:(ckE c e x && Ak x && ckEs c r xs)=true:=h
  obtain ⟨h,h3⟩:=Aa h
  obtain ⟨h1,h2⟩:=Aa h
  obtain ⟨a,b⟩:=Ck h3
  exact ⟨by rw [aaH,h2,a]; rfl,by rw [aa5,b,Es.len]⟩
mutual
theorem snd {p:Px} {lv:Nat}:∀ (x:E) {c:CkC} {X:Cx} {EX:EXT} {tn:List Nat} (C:Ct p c lv X EX) (e:Expr),(∀ n ∈ x.need,NeedOk p lv X n)->ckE c x e=true->PE X e (lE p EX tn x)/\(x.tst=true->PT X e (lT p EX tn x))
 | .nm i,c,X,EX,tn,C,e,hn,h=>by
  cases e with
  | Name y q =>
   have h:((c.N[i]?==some y) && EY c.sc y && BJ y)=true:=h
   obtain ⟨h,h3⟩:=Aa h
   obtain ⟨h1,h2⟩:=Aa h
   obtain ⟨d1,d2⟩:=BZ h3
   exact AD C (Sz (by rw [C.N]; exact beq_iff_eq.mp h1) (C.vis h2) d1 d2) rfl
  | _=>exact nF h
 | .cN,c,X,EX,tn,C,e,hn,h=>by
  cases e with
  | Constant k j q =>
   cases k with
   | none=>exact AD C (Hb (t:=.non) RE rfl (fun _=>rfl)) rfl
   | _=>exact nF h
  | _=>exact nF h
 | .cB b,c,X,EX,tn,C,e,hn,h=>by
  cases e with
  | Constant k j q =>
   cases k with
   | bool b' =>
    cases beq_iff_eq.mp (show (b==b')=true from h)
    exact AD C (Hb (t:=.bl b) Ty rfl (fun _=>rfl)) rfl
   | _=>exact nF h
  | _=>exact nF h
 | .cI b,c,X,EX,tn,C,e,hn,h=>by
  cases e with
  | Constant k j q =>
   cases k with
   | int b' =>
    cases beq_iff_eq.mp (show (b==b')=true from h)
    exact AD C (Hb (t:=.int b) RC rfl (fun _=>rfl)) rfl
   | _=>exact nF h
  | _=>exact nF h
 | .cS b,c,X,EX,tn,C,e,hn,h=>by
  cases e with
  | Constant k j q =>
   cases k with
   | str b' =>
    cases beq_iff_eq.mp (show (b==b')=true from h)
    exact AD C (Hb (t:=.str b) RF rfl (fun _=>rfl)) rfl
   | _=>exact nF h
  | _=>exact nF h
 | .gl y d,c,X,EX,tn,C,e,hn,h=>by
  cases e with
  | Name y' q =>
   have h:((y==y') && glB c.sc y' && BJ y' && D.scal d)=true:=h
   obtain ⟨h,h4⟩:=Aa h
   obtain ⟨h,h3⟩:=Aa h
   obtain ⟨h1,h2⟩:=Aa h
   cases beq_iff_eq.mp h1
   obtain ⟨u,m,r⟩:=hn (.gl y d) (aaO.mpr rfl)
   obtain ⟨e1,e2⟩:=SO h4
   exact AD C (Hb (t:=dT d) (KQ (C.gl h2) m r (BZ h3).1) e2 (fun _=>by rw [e1]; rfl)) rfl
  | _=>exact nF h
 | .tup es,c,X,EX,tn,C,e,hn,h=>by
  cases e with
  | Tuple xs k q =>
   obtain ⟨h1,h2⟩:=Aa (show (ckEs c es xs && decide (es.len<=1000))=true from h)
   exact AD C (Qh (sndA es C xs hn h1).1 (of_decide_eq_true h2)) rfl
  | _=>exact nF h
 | .lst es,c,X,EX,tn,C,e,hn,h=>by
  cases e with
  | List xs q =>
   obtain ⟨h1,h2⟩:=Aa (show (ckEs c es xs && decide (es.len<=1000))=true from h)
   exact AD C (Qi (sndA es C xs hn h1).1 (of_decide_eq_true h2)) rfl
  | _=>exact nF h
 | .bin o a b,c,X,EX,tn,C,e,hn,h=>by
  cases e with
  | BinOp l op r q =>
   obtain ⟨h,h3⟩:=Aa (show ((op==LY o) && ckE c a l && ckE c b r)=true from h)
   obtain ⟨h1,h2⟩:=Aa h
   cases beq_iff_eq.mp h1
   obtain ⟨n1,n2⟩:=Au hn
   exact AD C (Qp (snd a C l n1 h2).1 (snd b C r n2 h3).1) rfl
  | _=>exact nF h
 | .neg a,c,X,EX,tn,C,e,hn,h=>by
  cases e with
  | UnaryOp o l q =>
   cases o with
   | USub=>exact AD C (Qv (snd a C l hn h).1) rfl
   | _=>exact nF h
  | _=>exact nF h
 | .not a,c,X,EX,tn,C,e,hn,h=>by
  cases e with
  | UnaryOp o l q =>
   cases o with
   | Not =>
    obtain ⟨h1,h2⟩:=snd a C (tn:=tn) l hn h
    exact ⟨Qw h1,fun ht=>OI (h2 ht)⟩
   | _=>exact nF h
  | _=>exact nF h
 | .cmp o a b,c,X,EX,tn,C,e,hn,h=>by
  cases e with
  | Compare l ops rs q =>
   match ops,rs,h with
   | [op],[r],h =>
    obtain ⟨h,h4⟩:=Aa (show ((op==A9 o) && ckE c a l && ckE c b r && DI r)=true from h)
    obtain ⟨h,h3⟩:=Aa h
    obtain ⟨h1,h2⟩:=Aa h
    cases beq_iff_eq.mp h1
    obtain ⟨n1,n2⟩:=Au hn
    have A:=(snd a C (tn:=tn) l n1 h2).1
    have B:=(snd b C (tn:=tn) r n2 h3).1
    exact ⟨Qq C.K C.hu A B (D1 h4),fun _=>OE C.K C.hu A B (D1 h4)⟩
   | [],_,h=>exact nF h
   | [_],[],h=>exact nF h
   | [_],_ :: _ :: _,h=>exact nF h
   | _ :: _ :: _,_,h=>exact nF h
  | _=>exact nF h
 | .chain o o' a b d,c,X,EX,tn,C,e,hn,h=>by
  cases e with
  | Compare l ops rs q =>
   match ops,rs,h with
   | [op,op'],[r,r'],h =>
    obtain ⟨h,h6⟩:=Aa (show ((op==A9 o) && (op'==A9 o') && ckE c a l && ckE c b r && ckE c d r' && DI r')=true from h)
    obtain ⟨h,h5⟩:=Aa h
    obtain ⟨h,h4⟩:=Aa h
    obtain ⟨h,h3⟩:=Aa h
    obtain ⟨h1,h2⟩:=Aa h
    cases beq_iff_eq.mp h1
    cases beq_iff_eq.mp h2
    obtain ⟨n1,n2⟩:=Au hn
    obtain ⟨n2,n3⟩:=Au n2
    have A:=(snd a C (tn:=tn) l n1 h3).1
    have B:=(snd b C (tn:=tn) r n2 h4).1
    have D:=(snd d C (tn:=tn) r' n3 h5).1
    exact ⟨Nm C.K C.hu A B D (D1 h6),fun _=>L4 C.K C.hu A B D (D1 h6)⟩
   | [],_,h=>exact nF h
   | [_],_,h=>exact nF h
   | [_,_],[],h=>exact nF h
   | [_,_],[_],h=>exact nF h
   | [_,_],_ :: _ :: _ :: _,h=>exact nF h
   | _ :: _ :: _ :: _,_,h=>exact nF h
  | _=>exact nF h
 | .isN n a,c,X,EX,tn,C,e,hn,h=>by
  cases e with
  | Compare l ops rs q =>
   match ops,rs,h with
   | [op],[r],h =>
    obtain ⟨h,h3⟩:=Aa (show ((op==if n then .IsNot else .Is) && isNone r && ckE c a l)=true from h)
    obtain ⟨h1,h2⟩:=Aa h
    cases beq_iff_eq.mp h1
    have A:=(snd a C (tn:=tn) l hn h3).1
    cases r with
    | Constant k j q' =>
     cases k with
     | none=>exact ⟨Qs A,fun _=>OF A⟩
     | _=>cases h2
    | _=>cases h2
   | [],_,h=>exact nF h
   | [_],[],h=>exact nF h
   | [_],_ :: _ :: _,h=>exact nF h
   | _ :: _ :: _,_,h=>exact nF h
  | _=>exact nF h
 | .isB n b a,c,X,EX,tn,C,e,hn,h=>by
  cases e with
  | Compare l ops rs q =>
   match ops,rs,h with
   | [op],[r],h =>
    obtain ⟨h,h3⟩:=Aa (show ((op==if n then .IsNot else .Is) && Nx b r && ckE c a l)=true from h)
    obtain ⟨h1,h2⟩:=Aa h
    cases beq_iff_eq.mp h1
    have A:=(snd a C (tn:=tn) l hn h3).1
    cases r with
    | Constant k j q' =>
     cases k with
     | bool d =>
      have h2:(d==b)=true:=h2
      cases beq_iff_eq.mp h2
      exact ⟨Qu A,fun _=>OG A⟩
     | _=>cases h2
    | _=>cases h2
   | [],_,h=>exact nF h
   | [_],[],h=>exact nF h
   | [_],_ :: _ :: _,h=>exact nF h
   | _ :: _ :: _,_,h=>exact nF h
  | _=>exact nF h
 | .bo k es,c,X,EX,tn,C,e,hn,h=>by
  cases e with
  | BoolOp op xs q =>
   obtain ⟨h1,h2⟩:=Aa (show ((op==if k then .And else .Or) && ckEs c es xs)=true from h)
   cases beq_iff_eq.mp h1
   obtain ⟨a1,a2⟩:=(sndA es C (tn:=tn) xs hn h2).2 k q
   exact ⟨a1,fun ht=>(a2 ht).pt⟩
  | _=>exact nF h
 | .ifx t a b,c,X,EX,tn,C,e,hn,h=>by
  cases e with
  | IfExp t' a' b' q =>
   obtain ⟨h,h4⟩:=Aa (show (ckE c t t' && t.tst && ckE c a a' && ckE c b b')=true from h)
   obtain ⟨h,h3⟩:=Aa h
   obtain ⟨h1,h2⟩:=Aa h
   obtain ⟨n1,n2⟩:=Au hn
   obtain ⟨n2,n3⟩:=Au n2
   exact ⟨Qz ((snd t C t' n1 h1).2 h2) (snd a C a' n2 h3).1 (snd b C b' n3 h4).1,fun z=>nomatch z⟩
  | _=>exact nF h
 | .ix a i,c,X,EX,tn,C,e,hn,h=>by
  cases e with
  | Subscript l r q =>
   obtain ⟨h,h3⟩:=Aa (show (ckE c a l && ckE c i r && Dc r)=true from h)
   obtain ⟨h1,h2⟩:=Aa h
   obtain ⟨n1,n2⟩:=Au hn
   exact AD C (SJ C.K (snd a C l n1 h1).1 (snd i C r n2 h2).1 h3) rfl
  | _=>exact nF h
 | .ixL a i,c,X,EX,tn,C,e,hn,h=>by
  cases e with
  | Subscript l r q =>
   obtain ⟨h,h3⟩:=Aa (show (ckE c a l && ckE c i r && Dc r)=true from h)
   obtain ⟨h1,h2⟩:=Aa h
   obtain ⟨n1,n2⟩:=Au hn
   exact AD C (QA (snd a C l n1 h1).1 (snd i C r n2 h2).1 h3) rfl
  | _=>exact nF h
 | .slc a lo hi,c,X,EX,tn,C,e,hn,h=>by
  cases e with
  | Subscript l r q =>
   cases r with
   | Slice lo' hi' st q2 =>
    cases st with
    | none =>
     obtain ⟨h,h3⟩:=Aa (show (ckE c a l && Hg lo.isCN (ckE c lo) lo' && Hg hi.isCN (ckE c hi) hi')=true from h)
     obtain ⟨h1,h2⟩:=Aa h
     obtain ⟨n1,n2⟩:=Au hn
     obtain ⟨n2,n3⟩:=Au n2
     have cn:∀ {y:E},y.isCN=true->y=.cN:=fun {y} z=>by cases y <;> first | rfl | cases z
     have P1:PO X lo' (lO p EX tn lo):=by
      cases lo' with
      | none=>cases cn h2; exact Iv
      | some l' =>
       obtain ⟨g1,g2⟩:=Aa h2
       exact Iw (snd lo C l' n2 g2).1 (by simpa using g1)
     have P2:PO X hi' (lO p EX tn hi):=by
      cases hi' with
      | none=>cases cn h3; exact Iv
      | some l' =>
       obtain ⟨g1,g2⟩:=Aa h3
       exact Iw (snd hi C l' n3 g2).1 (by simpa using g1)
     exact AD C (QC (snd a C l n1 h1).1 P1 P2) rfl
    | some _=>exact nF h
   | _=>exact nF h
  | _=>exact nF h
 | .call f es,c,X,EX,tn,C,e,hn,h=>by
  cases e with
  | Call fn xs ks q =>
   cases fn with
   | Name y q' =>
    cases ks with
    | nil =>
     obtain ⟨h,h7⟩:=Aa (show ((y==f.name) && glB c.sc y && BJ y && ckEs c es xs && decide (es.len=f.ar) && decide (0 < es.len) && c.cm)=true from h)
     obtain ⟨h,h6⟩:=Aa h
     obtain ⟨h,h5⟩:=Aa h
     obtain ⟨h,h4⟩:=Aa h
     obtain ⟨h,h3⟩:=Aa h
     obtain ⟨h1,h2⟩:=Aa h
     cases beq_iff_eq.mp h1
     obtain ⟨s1,s2⟩:=Ck h4
     obtain ⟨f1,f2⟩:=hn (.fn f) (aac ..)
     have A:=(sndA es C (tn:=tn) xs (fun n m=>hn n (aab _ m)) h4).1
     cases es with
     | nil=>cases of_decide_eq_true h6
     | cons e1 r1 =>
      cases xs with
      | nil=>cases s2
      | cons x1 xr=>exact AD C (OL C.pass f2 ((C.room h7).mono f1) (C.gl h2) (BZ h3).1 A s1 (of_decide_eq_true h5)) rfl
    | cons _ _=>exact nF h
   | _=>exact nF h
  | _=>exact nF h
 | .callB f es,c,X,EX,tn,C,e,hn,h=>by
  cases e with
  | Call fn xs ks q =>
   cases fn with
   | Name y q' =>
    cases ks with
    | nil =>
     obtain ⟨h,h7⟩:=Aa (show ((y==f.name) && glB c.sc y && BJ y && ckEs c es xs && decide (es.len=f.ar) && decide (0 < es.len) && c.cm)=true from h)
     obtain ⟨h,h6⟩:=Aa h
     obtain ⟨h,h5⟩:=Aa h
     obtain ⟨h,h4⟩:=Aa h
     obtain ⟨h,h3⟩:=Aa h
     obtain ⟨h1,h2⟩:=Aa h
     cases beq_iff_eq.mp h1
     obtain ⟨s1,s2⟩:=Ck h4
     obtain ⟨f1,f2⟩:=hn (.fn f) (aac ..)
     have A:=(sndA es C (tn:=tn) xs (fun n m=>hn n (aab _ m)) h4).1
     cases es with
     | nil=>cases of_decide_eq_true h6
     | cons e1 r1 =>
      cases xs with
      | nil=>cases s2
      | cons x1 xr=>exact AD C (No C.pass f2 ((C.room h7).mono f1) (C.gl h2) (BZ h3).1 A s1 (of_decide_eq_true h5)) rfl
    | cons _ _=>exact nF h
   | _=>exact nF h
  | _=>exact nF h
 | .bi b es,c,X,EX,tn,C,e,hn,h=>by
  cases e with
  | Call fn xs ks q =>
   cases fn with
   | Name y q' =>
    cases ks with
    | nil =>
     obtain ⟨h,h6⟩:=Aa (show ((y==Ny b) && glB c.sc y && SN b && ckEs c es xs && decide (0 < es.len) && (c.cm || Ep b))=true from h)
     obtain ⟨h,h5⟩:=Aa h
     obtain ⟨h,h4⟩:=Aa h
     obtain ⟨h,h3⟩:=Aa h
     obtain ⟨h1,h2⟩:=Aa h
     cases beq_iff_eq.mp h1
     obtain ⟨s1,s2⟩:=Ck h4
     have A:=(sndA es C (tn:=tn) xs hn h4).1
     cases es with
     | nil=>cases of_decide_eq_true h5
     | cons e1 r1 =>
      cases xs with
      | nil=>cases s2
      | cons x1 xr =>
       refine AD C ?_ rfl
       cases b with
       | len=>exact QD C.blt A s1 (C.gl h2)
       | min=>exact QH C.blt A s1 (C.calm (by rw [show Ep .min=false from rfl,abM] at h6; exact h6)) (C.gl h2)
       | max=>exact QG C.blt A s1 (C.calm (by rw [show Ep .max=false from rfl,abM] at h6; exact h6)) (C.gl h2)
       | max3=>exact OO C.blt A s1 (C.calm (by rw [show Ep .max3=false from rfl,abM] at h6; exact h6)) (C.gl h2)
       | maxL=>exact OP C.blt A s1 (C.calm (by rw [show Ep .maxL=false from rfl,abM] at h6; exact h6)) (C.gl h2)
       | int=>exact QE C.blt A s1 (C.gl h2)
       | list=>exact OM C.blt A s1 (C.gl h2)
       | listL=>exact Np C.blt A s1 (C.gl h2)
       | all=>exact QF C.blt A s1 (C.calm (by rw [show Ep .all=false from rfl,abM] at h6; exact h6)) (C.gl h2)
    | cons _ _=>exact nF h
   | _=>exact nF h
  | _=>exact nF h
 | .isi a k,c,X,EX,tn,C,e,hn,h=>by
  cases e with
  | Call fn xs ks q =>
   cases fn with
   | Name y q' =>
    match xs,ks,h with
    | [l,r],[],h =>
     obtain ⟨h,h5⟩:=Aa (show ((y==("isinstance" : Str)) && glB c.sc y && ckE c a l && OT c k r && Ak l)=true from h)
     obtain ⟨h,h4⟩:=Aa h
     obtain ⟨h,h3⟩:=Aa h
     obtain ⟨h1,h2⟩:=Aa h
     cases beq_iff_eq.mp h1
     obtain ⟨n1,n2⟩:=Au hn
     obtain ⟨v,cv,e1,e2,e3,e4⟩:=SR C h4 (fun n e=>n1 _ (by subst e; exact aaO.mpr rfl))
     exact AD C (QO C (snd a C l n2 h3).1 e1 h5 e3 (C.gl h2) e2 e4) rfl
    | [],_,h=>exact nF h
    | [_],_,h=>exact nF h
    | _ :: _ :: _ :: _,_,h=>exact nF h
    | [_,_],_ :: _,h=>exact nF h
   | _=>exact nF h
  | _=>exact nF h
 | .mt m a es,c,X,EX,tn,C,e,hn,h=>by
  cases m with
  | index =>
   cases e with
   | Call f xs ks cp =>
    cases f with
    | Attribute o name ap =>
     cases ks with
     | nil =>
      obtain ⟨h,h6⟩:=Aa (show ((name==("index" : Str)) && ckE c a o && nmB o && ckEs c es xs && decide (es.len=1) && (ap.endLine==cp.line))=true from h)
      obtain ⟨h,h5⟩:=Aa h
      obtain ⟨h,h4⟩:=Aa h
      obtain ⟨h,h3⟩:=Aa h
      obtain ⟨h1,h2⟩:=Aa h
      cases beq_iff_eq.mp h1
      obtain ⟨n1,n2⟩:=Au hn
      have A:=(snd a C (tn:=tn) o n1 h2).1
      cases o with
      | Name z pz =>
       match es,xs,h4,h5,n2 with
       | .cons y .nil,[e],h4,_,n2 =>
        obtain ⟨g,_⟩:=Aa (show (ckE c y e && Ak e && ckEs c .nil [])=true from h4)
        obtain ⟨g1,g2⟩:=Aa g
        exact AD C (Nz A (snd y C (tn:=tn) e (fun n m=>n2 n (aax _ m)) g1).1 g2 h6) rfl
       | .cons y .nil,[],h4,_,_=>exact nF h4
       | .cons y .nil,_ :: _ :: _,h4,_,_ =>
        obtain ⟨_,g⟩:=Aa h4
        exact nF g
       | .nil,_,_,h5,_=>cases of_decide_eq_true h5
       | .cons _ (.cons _ _),_,_,h5,_=>exact absurd (of_decide_eq_true h5) (by simp [Es.len])
      | _=>exact nF h3
     | cons _ _=>exact nF h
    | _=>exact nF h
   | _=>exact nF h
  | count =>
   cases e with
   | Call f xs ks cp =>
    cases f with
    | Attribute o name ap =>
     cases ks with
     | nil =>
      obtain ⟨h,h6⟩:=Aa (show ((name==("count" : Str)) && ckE c a o && SM o && ckEs c es xs && decide (es.len=1) && (ap.endLine==cp.line))=true from h)
      obtain ⟨h,h5⟩:=Aa h
      obtain ⟨h,h4⟩:=Aa h
      obtain ⟨h,h3⟩:=Aa h
      obtain ⟨h1,h2⟩:=Aa h
      cases beq_iff_eq.mp h1
      obtain ⟨n1,n2⟩:=Au hn
      have A:=(snd a C (tn:=tn) o n1 h2).1
      cases o with
      | Name z pz =>
       match es,xs,h4,h5,n2 with
       | .cons y .nil,[e],h4,_,n2 =>
        obtain ⟨g,_⟩:=Aa (show (ckE c y e && Ak e && ckEs c .nil [])=true from h4)
        obtain ⟨g1,g2⟩:=Aa g
        exact AD C (Ix A rfl (snd y C (tn:=tn) e (fun n m=>n2 n (aax _ m)) g1).1 g2 h6) rfl
       | .cons y .nil,[],h4,_,_=>exact nF h4
       | .cons y .nil,_ :: _ :: _,h4,_,_ =>
        obtain ⟨_,g⟩:=Aa h4
        exact nF g
       | .nil,_,_,h5,_=>cases of_decide_eq_true h5
       | .cons _ (.cons _ _),_,_,h5,_=>exact absurd (of_decide_eq_true h5) (by simp [Es.len])
      | Subscript z1 z2 z3 =>
       match es,xs,h4,h5,n2 with
       | .cons y .nil,[e],h4,_,n2 =>
        obtain ⟨g,_⟩:=Aa (show (ckE c y e && Ak e && ckEs c .nil [])=true from h4)
        obtain ⟨g1,g2⟩:=Aa g
        exact AD C (Ix A rfl (snd y C (tn:=tn) e (fun n m=>n2 n (aax _ m)) g1).1 g2 h6) rfl
       | .cons y .nil,[],h4,_,_=>exact nF h4
       | .cons y .nil,_ :: _ :: _,h4,_,_ =>
        obtain ⟨_,g⟩:=Aa h4
        exact nF g
       | .nil,_,_,h5,_=>cases of_decide_eq_true h5
       | .cons _ (.cons _ _),_,_,h5,_=>exact absurd (of_decide_eq_true h5) (by simp [Es.len])
      | _=>exact nF h3
     | cons _ _=>exact nF h
    | _=>exact nF h
   | _=>exact nF h
 | .comp0 nl fr g it elt,c,X,EX,tn,C,e,hn,h=>by
  cases e with
  | ListComp elt' gens scope q =>
   obtain ⟨tg,iter,ifs,rfl,h⟩:=D0 h
   obtain ⟨h,h7⟩:=Aa h
   obtain ⟨h,h6⟩:=Aa h
   obtain ⟨h,h5⟩:=Aa h
   obtain ⟨h,h4⟩:=Aa h
   obtain ⟨h,h3⟩:=Aa h
   obtain ⟨h,h2⟩:=Aa h
   obtain ⟨h,h1⟩:=Aa h
   obtain ⟨hcm,h0⟩:=Aa h
   cases ifs with
   | cons _ _=>cases h0
   | nil =>
   have h2:=of_decide_eq_true h2
   subst h2
   obtain ⟨S,nd⟩:=IX C h1
   obtain ⟨n1,n2⟩:=Au hn
   refine AD C (Nv (C.calm hcm) S (sndI it C iter n1 h4) (fun i hi=>of_decide_eq_true (aaF.mp h3 i hi)) (fun z=>⟨?_,?_⟩) (Dw h5)) rfl
   ·exact GM (C.blk nd z) h6
   ·exact (snd elt (C.blk nd z) elt' (fun n m=>(n2 n m).blk) h7).1
  | _=>exact nF h
 | .comp1 nl fr g it cond elt,c,X,EX,tn,C,e,hn,h=>by
  cases e with
  | ListComp elt' gens scope q =>
   obtain ⟨tg,iter,ifs,rfl,h⟩:=D0 h
   obtain ⟨cnd,rfl,h⟩:=Jy h
   obtain ⟨h,h9⟩:=Aa h
   obtain ⟨h,h8⟩:=Aa h
   obtain ⟨h,h7⟩:=Aa h
   obtain ⟨h,h6⟩:=Aa h
   obtain ⟨h,h5⟩:=Aa h
   obtain ⟨h,h4⟩:=Aa h
   obtain ⟨h,h3⟩:=Aa h
   obtain ⟨h,h2⟩:=Aa h
   obtain ⟨hcm,h1⟩:=Aa h
   have h2:=of_decide_eq_true h2
   subst h2
   obtain ⟨S,nd⟩:=IX C h1
   obtain ⟨n1,n2⟩:=Au hn
   obtain ⟨n2,n3⟩:=Au n2
   refine AD C (Nw (C.calm hcm) S (sndI it C iter n1 h4) (fun i hi=>of_decide_eq_true (aaF.mp h3 i hi)) (fun z=>⟨?_,?_,?_⟩) (Dw h5)) rfl
   ·exact GM (C.blk nd z) h6
   ·exact (snd cond (C.blk nd z) cnd (fun n m=>(n2 n m).blk) h7).2 h8
   ·exact (snd elt (C.blk nd z) elt' (fun n m=>(n3 n m).blk) h9).1
  | _=>exact nF h
theorem sndA {p:Px} {lv:Nat}:∀ (es:Es) {c:CkC} {X:Cx} {EX:EXT} {tn:List Nat} (C:Ct p c lv X EX) (xs:List Expr),(∀ n ∈ es.need,NeedOk p lv X n)->ckEs c es xs=true ->
  PA X xs (lEs p EX tn es)/\∀ (k:Bool) (q:Pos),PE X (.BoolOp (if k then .And else .Or) xs q) (lE p EX tn (.bo k es))/\(es.tsts=true->PW X (.BoolOp (if k then .And else .Or) xs q) (lT p EX tn (.bo k es)))
 | .nil,c,X,EX,tn,C,xs,hn,h=>by
  cases xs with
  | nil =>
   refine ⟨OC,fun k q=>⟨fun pins s σ H Q I h=>?_,fun _ wh pins s σ H Q I h=>?_⟩⟩
   ·obtain ⟨τ,rfl,hF,j,k',hj,h⟩:=h
    simp only [ev,evBo] at h
    exact nE h
   ·obtain ⟨τ,rfl,hF,hj,h⟩:=h
    simp only [tv,ev,evBo] at h
    exact nE h
  | cons _ _=>exact nF h
 | .cons e r,c,X,EX,tn,C,xs,hn,h=>by
  cases xs with
  | nil=>exact nF h
  | cons x xs =>
   obtain ⟨h,h3⟩:=Aa (show (ckE c e x && Ak x && ckEs c r xs)=true from h)
   obtain ⟨h1,h2⟩:=Aa h
   obtain ⟨n1,n2⟩:=Au hn
   obtain ⟨A1,A2⟩:=snd e C (tn:=tn) x n1 h1
   obtain ⟨B1,B2⟩:=sndA r C (tn:=tn) xs n2 h3
   refine ⟨Ni A1 B1 (Ae h2),fun k q=>?_⟩
   cases r with
   | nil =>
    cases xs with
    | nil=>exact ⟨SH A1,fun z=>Qy (A2 (Aa (show (e.tst && true)=true from z)).1)⟩
    | cons _ _=>exact nF h3
   | cons e' r' =>
    cases xs with
    | nil=>exact nF h3
    | cons x' xs' =>
     obtain ⟨C1,C2⟩:=B2 k q
     exact ⟨Qx A1 C1,fun z=>let ⟨z1,z2⟩:=Aa (show (e.tst && (Es.cons e' r').tsts)=true from z); OJ (A2 z1) (C2 z2)⟩
theorem sndI {p:Px} {lv:Nat}:∀ (it:It) {c:CkC} {X:Cx} {EX:EXT} {tn:List Nat} {tg:Expr} (C:Ct p c lv X EX) (e:Expr),(∀ n ∈ it.need,NeedOk p lv X n)->ckI c tg it e=true->PI X tg e (lI p EX tn it)
 | .seq a,c,X,EX,tn,tg,C,e,hn,h=>OR C.K (snd a C e hn h).1
 | .seqL a,c,X,EX,tn,tg,C,e,hn,h=>Nt C.K (snd a C e hn h).1
 | .r1 a,c,X,EX,tn,tg,C,e,hn,h=>by
  cases e with
  | Call fn xs ks q =>
   cases fn with
   | Name y q' =>
    match xs,ks,h with
    | [l],[],h =>
     obtain ⟨h,h4⟩:=Aa (show ((y==("range" : Str)) && glB c.sc y && ckE c a l && Ak l)=true from h)
     obtain ⟨h,h3⟩:=Aa h
     obtain ⟨h1,h2⟩:=Aa h
     cases beq_iff_eq.mp h1
     exact QI (snd a C l hn h3).1 h4 (C.gl h2) (C.blt _ (by simp [Eo]))
    | [],_,h=>exact nF h
    | _ :: _ :: _,_,h=>exact nF h
    | [_],_ :: _,h=>exact nF h
   | _=>exact nF h
  | _=>exact nF h
 | .r3w a b d,c,X,EX,tn,tg,C,e,hn,h=>by
  cases e with
  | Call fn xs ks q =>
   cases fn with
   | Name y q' =>
    match xs,ks,h with
    | [l,r,o],[],h =>
     obtain ⟨h,h8⟩:=Aa (show ((y==("range" : Str)) && glB c.sc y && ckE c a l && Ak l && ckE c b r && Ak r && ckE c d o && Ak o)=true from h)
     obtain ⟨h,h7⟩:=Aa h
     obtain ⟨h,h6⟩:=Aa h
     obtain ⟨h,h5⟩:=Aa h
     obtain ⟨h,h4⟩:=Aa h
     obtain ⟨h,h3⟩:=Aa h
     obtain ⟨h1,h2⟩:=Aa h
     cases beq_iff_eq.mp h1
     obtain ⟨n1,n23⟩:=Au hn
     obtain ⟨n2,n3⟩:=Au n23
     exact OS (snd a C l n1 h3).1 (snd b C r n2 h5).1 (snd d C o n3 h7).1 h4 h6 h8 (C.gl h2) (C.blt _ (by simp [Eo]))
    | [],_,h=>exact nF h
    | [_],_,h=>exact nF h
    | [_,_],_,h=>exact nF h
    | _ :: _ :: _ :: _ :: _,_,h=>exact nF h
    | [_,_,_],_ :: _,h=>exact nF h
   | _=>exact nF h
  | _=>exact nF h
 | .en a,c,X,EX,tn,tg,C,e,hn,h=>by
  cases e with
  | Call fn xs ks q =>
   cases fn with
   | Name y q' =>
    match xs,ks,h with
    | [l],[],h =>
     obtain ⟨h,h5⟩:=Aa (show ((y==("enumerate" : Str)) && glB c.sc y && ckE c a l && Ak l && PF tg)=true from h)
     obtain ⟨h,h4⟩:=Aa h
     obtain ⟨h,h3⟩:=Aa h
     obtain ⟨h1,h2⟩:=Aa h
     cases beq_iff_eq.mp h1
     cases tg with
     | Tuple es k q2=>exact QL C.K (snd a C l hn h3).1 h4 (C.gl h2) (C.blt _ (by simp [Eo]))
     | _=>exact nF h5
    | [],_,h=>exact nF h
    | _ :: _ :: _,_,h=>exact nF h
    | [_],_ :: _,h=>exact nF h
   | _=>exact nF h
  | _=>exact nF h
end
inductive Md where
 | sh
 | ow (k:Nat)
 | br (k:Nat)
 | dead
 deriving DecidableEq
noncomputable abbrev Ms:=List Md
noncomputable def Md.tn:Md->Nat
 | .sh=>0
 | .ow k=>k
 | .br k=>k
 | .dead=>99
noncomputable def Md.le:Md->Md->Bool
 | _,.dead=>true
 | .sh,.sh=>true
 | .ow _,.sh=>true
 | .ow k,.ow k'=>decide (0 < k'/\k'<=k)
 | .br k,.br k'=>decide (k=k')
 | _,_=>false
noncomputable def Md.small:Md->Bool
 | .ow k=>decide (0 < k/\k < 90)
 | .br k=>decide (k < 90)
 | _=>true
noncomputable def Md.meet (a b:Md):Md:=if a=b then a else match a,b with
 | .ow k,.ow k'=>if 0 < min k k' then .ow (min k k') else .sh
 | .ow _,.sh=>.sh
 | .sh,.ow _=>.sh
 | _,_=>.dead
noncomputable def tnM (m:Ms):List Nat:=m.map Md.tn
theorem Bb {m:Ms} {i j:Nat} (h:(tnM m)[i]?=some j):∃ d,m[i]?=some d/\d.tn=j:=by
 unfold tnM at h
 rw [aaj] at h
 exact aam.mp h
theorem AQ {m:Ms} {i:Nat} {d:Md} (h:m[i]?=some d):(tnM m)[i]?=some d.tn:=by
 unfold tnM; rw [aaj,h]; rfl
noncomputable def Own (m:Ms) (τ:Ft) (a:Addr):Prop:=∃ (i:Nat) (t:T) (k:Nat),τ[i]?=some (some t)/\m[i]?=some (.ow k)/\a ∈ t.adr k
noncomputable def Md.low:Md->Nat
 | .sh=>0
 | .ow _=>0
 | .br k=>k
 | .dead=>99
structure Sf (p:Px) (H0:Hp) (A0:Addr->Prop) (m:Ms) (τ:Ft) (H:Hp):Prop where
 len:τ.length=m.length
 small:∀ d ∈ m,d.small=true
 same:Same H0 H
 ok:Fok p (tnM m) τ H
 own:∀ (i:Nat) (t:T) (k:Nat) (a:Addr),τ[i]?=some (some t)->m[i]?=some (.ow k)->a ∈ t.adr k->H0 a=none/\∃ vs,H a=some (.lst vs)
 src:∀ a,Sh (tnM m) τ a->H0 a=none\/A0 a
 nd:∀ (i:Nat) (t:T) (k:Nat),τ[i]?=some (some t)->m[i]?=some (.ow k)->t.Nd k
 sep:∀ (i j:Nat) (t u:T) (k:Nat) (d:Md),i ≠ j->τ[i]?=some (some t)->m[i]?=some (.ow k)->τ[j]?=some (some u)->m[j]?=some d->d ≠ .dead->∀ a ∈ t.adr k,a ∉ u.rest d.low
 top:∀ (i j:Nat) (t u:T) (k k2:Nat),τ[i]?=some (some t)->m[i]?=some (.ow k)->τ[j]?=some (some u)->m[j]?=some (.br k2)->∀ a ts,t=.lst a ts->a ∉ u.rest 0
section
variable {p:Px} {H0:Hp} {A0:Addr->Prop} {m m':Ms} {τ:Ft} {H H':Hp}
theorem Sf.at (S:Sf p H0 A0 m τ H) {i:Nat} {t:T} {d:Md} (e:τ[i]?=some (some t)) (h:m[i]?=some d) (hd:d ≠ .dead):t.Ok p H:=by
 refine S.ok i t d.tn e (AQ h) ?_
 have:=S.small d (aae h)
 cases d with
 | sh=>exact (by decide:(0:Nat) < 90)
 | ow k=>exact (of_decide_eq_true this).2
 | br k=>exact of_decide_eq_true this
 | dead=>exact absurd rfl hd
theorem Sf.ownOk (S:Sf p H0 A0 m τ H) {a:Addr} (o:Own m τ a):H0 a=none/\∃ vs,H a=some (.lst vs):=by
 obtain ⟨i,t,k,e,h,q⟩:=o
 exact S.own i t k a e h q
theorem Sf.disj (S:Sf p H0 A0 m τ H) {a:Addr} (o:Own m τ a):¬ Sh (tnM m) τ a:=by
 rintro ⟨j,u,jj,e',h',l,q'⟩
 obtain ⟨i,t,k,e,h,q⟩:=o
 obtain ⟨d,hd,rfl⟩:=Bb h'
 have hdd:d ≠ .dead:=fun z=>by subst z; exact absurd l (by decide)
 by_cases z:i=j
 ·subst z
  rw [h] at hd; cases hd
  rw [e] at e'
  cases e'
  exact (S.nd i _ k e h).2 a q' q
 ·refine S.sep i j t u k d z e h e' hd hdd a q (T.rest_le u ?_ q')
  cases d <;> simp [Md.low,Md.tn]
theorem Sf.grow (S:Sf p H0 A0 m τ H) (s:Same H H'):Sf p H0 A0 m τ H' :=
 ⟨S.len,S.small,S.same.trans s,S.ok.same s,fun i t k a e h q=>⟨(S.own i t k a e h q).1,let ⟨vs,z⟩:=(S.own i t k a e h q).2; ⟨vs,s _ _ z⟩⟩,S.src,S.nd,S.sep,S.top⟩
noncomputable def leM (m m':Ms):Bool:=decide (m.length=m'.length) && (m.zip m').all fun q=>q.1.le q.2
theorem Dx (h:leM m m'=true) {i:Nat} {d':Md} (e:m'[i]?=some d'):∃ d,m[i]?=some d/\d.le d'=true:=by
 unfold leM at h
 obtain ⟨h1,h2⟩:=Aa h
 have h1:=of_decide_eq_true h1
 have hi:i < m.length:=by
  rw [h1]; exact (aaq.mp e).1
 refine ⟨m[i],aah hi,aaF.mp h2 (m[i],d') (Lc (aah hi) e)⟩
theorem GN {m:Ms} (h:∀ d ∈ m,d.small=true):leM m m=true:=by
 unfold leM
 simp only [decide_true,abm]
 refine aaF.mpr fun q hq=>?_
 obtain ⟨i,hi,e⟩:=abj hq
 have hi':i < m.length:=by simpa using hi
 have hs:=h m[i] (List.getElem_mem hi')
 have:q=(m[i],m[i]):=by rw [<- e]; simp
 rw [this]
 generalize m[i]=d at hs
 cases d <;> simp_all [Md.le,Md.small]
theorem Sf.weak (S:Sf p H0 A0 m τ H) (h:leM m m'=true):Sf p H0 A0 m' τ H:=by
 have hl:m.length=m'.length:=of_decide_eq_true (Aa (show (decide (m.length=m'.length) && _)=true from h)).1
 have shd:∀ a,Sh (tnM m') τ a->Sh (tnM m) τ a\/Own m τ a:=by
  rintro a ⟨i,t,j,e,ej,l,q⟩
  obtain ⟨d',hd',rfl⟩:=Bb ej
  obtain ⟨d,hd,le⟩:=Dx h hd'
  have sm:=S.small d (aae hd)
  cases d' with
  | dead=>exact absurd l (by decide)
  | sh =>
   cases d with
   | sh=>exact .inl ⟨i,t,0,e,AQ hd,by decide,q⟩
   | ow k =>
    rcases (T.all_iff t k).mp q with z | z
    ·exact .inr ⟨i,t,k,e,hd,z⟩
    ·exact .inl ⟨i,t,k,e,AQ hd,(of_decide_eq_true sm).2,z⟩
   | _=>cases le
  | ow k' =>
   cases d with
   | ow k =>
    rcases (T.all_iff t k).mp (T.rest_le t (aaw _) q) with z | z
    ·exact .inr ⟨i,t,k,e,hd,z⟩
    ·exact .inl ⟨i,t,k,e,AQ hd,(of_decide_eq_true sm).2,z⟩
   | _=>cases le
  | br k' =>
   cases d with
   | br k =>
    have:k=k':=of_decide_eq_true le
    subst this
    exact .inl ⟨i,t,k,e,AQ hd,of_decide_eq_true sm,q⟩
   | _=>cases le
 have ownd:∀ {i:Nat} {k':Nat},m'[i]?=some (.ow k')->∃ k,m[i]?=some (.ow k)/\k'<=k:=by
  intro i k' hd'
  obtain ⟨d,hd,le⟩:=Dx h hd'
  cases d with
  | ow k=>exact ⟨k,hd,(of_decide_eq_true le).2⟩
  | _=>cases le
 refine ⟨S.len.trans hl,fun d' hd'=>?_,S.same,fun i t j e ej l=>?_,fun i t k' a e hk q=>?_,fun a sh=>?_,fun i t k' e hk=>?_,fun i j t u k' d' ne e hk e' hd' nd a q=>?_,fun i j t u k' k2 e hk e' hd' a ts z=>?_⟩
 ·obtain ⟨i,hi,rfl⟩:=abj hd'
  obtain ⟨d,hd,le⟩:=Dx h (aah hi)
  have sm:=S.small d (aae hd)
  generalize m'[i]=d' at le
  cases d' <;> cases d <;> simp_all [Md.le,Md.small] <;> omega
 ·obtain ⟨d',hd',rfl⟩:=Bb ej
  obtain ⟨d,hd,le⟩:=Dx h hd'
  refine S.at e hd fun z=>?_
  subst z
  cases d' <;> first | exact absurd l (by decide) | cases le
 ·obtain ⟨k,hd,le⟩:=ownd hk
  exact S.own i t k a e hd (T.adr_le t le q)
 ·rcases shd a sh with z | z
  ·exact S.src a z
  ·exact .inl (S.ownOk z).1
 ·obtain ⟨k,hd,le⟩:=ownd hk
  exact T.nd_le t le (S.nd i t k e hd)
 ·obtain ⟨k,hd,le⟩:=ownd hk
  obtain ⟨d,hdj,lj⟩:=Dx h hd'
  have hdd:d ≠ .dead:=fun z=>by subst z; cases d' <;> first | exact nd rfl | cases lj
  refine fun q'=>S.sep i j t u k d ne e hd e' hdj hdd a (T.adr_le t le q) (T.rest_le u ?_ q')
  cases d' <;> cases d <;> first | exact aaw _ | (cases lj; done) | exact absurd rfl nd | skip
  exact Nat.le_of_eq (of_decide_eq_true lj)
 ·obtain ⟨k,hd,le⟩:=ownd hk
  obtain ⟨d,hdj,lj⟩:=Dx h hd'
  cases d with
  | br k3=>exact S.top i j t u k k3 e hd e' hdj a ts z
  | _=>cases lj
structure Stp (m m':Ms) (wr:List Nat) (τ τ':Ft) (H H':Hp):Prop where
 keep:∀ a u,H a=some u->¬ Own m τ a->H' a=some u
 grow:∀ a,Own m' τ' a->Own m τ a\/H a=none
 wr:∀ i,i ∉ wr->τ'[i]?=τ[i]?
theorem Own.weak (h:leM m m'=true) {a:Addr} (o:Own m' τ a):Own m τ a:=by
 obtain ⟨i,t,k,e,hk,q⟩:=o
 obtain ⟨d,hd,le⟩:=Dx h hk
 cases d with
 | ow k2=>exact ⟨i,t,k2,e,hd,T.adr_le t (of_decide_eq_true le).2 q⟩
 | _=>cases le
theorem Stp.refl (wr:List Nat) (h:leM m m'=true) (s:Same H H'):Stp m m' wr τ τ H H':=⟨fun a u e _=>s a u e,fun a o=>.inl (o.weak h),fun _ _=>rfl⟩
theorem Stp.trans {m1 m2 m3:Ms} {w1 w2:List Nat} {τ1 τ2 τ3:Ft} {H1 H2 H3:Hp} (a:Stp m1 m2 w1 τ1 τ2 H1 H2) (b:Stp m2 m3 w2 τ2 τ3 H2 H3):Stp m1 m3 (w1 ++ w2) τ1 τ3 H1 H3:=by
 refine ⟨fun x u e n=>b.keep x u (a.keep x u e n) fun o=>?_,fun x o=>?_,fun i hi=>?_⟩
 ·rcases a.grow x o with z | z
  ·exact n z
  ·rw [e] at z; cases z
 ·rcases b.grow x o with z | z
  ·exact a.grow x z
  ·cases q:H1 x with
   | none=>exact .inr rfl
   | some u =>
    refine .inl (Classical.byContradiction fun n=>?_)
    rw [a.keep x u q n] at z; cases z
 ·rw [b.wr i (fun h=>hi (aan _ h)),a.wr i (fun h=>hi (aax _ h))]
theorem Stp.mono {w1 w2:List Nat} {τ':Ft} (a:Stp m m' w1 τ τ' H H') (h:∀ i ∈ w1,i ∈ w2):Stp m m' w2 τ τ' H H':=⟨a.keep,a.grow,fun i hi=>a.wr i fun q=>hi (h i q)⟩
end
noncomputable def mdK (k:Nat):Md:=if k=0 then .sh else .ow k
theorem FR {k k':Nat} (h:mdK k=.ow k'):k'=k/\k ≠ 0:=by unfold mdK at h; split at h <;> simp_all
theorem SS {k k':Nat} (h:mdK k=.br k'):False:=by unfold mdK at h; split at h <;> simp_all
section
variable {p:Px} {H0:Hp} {A0:Addr->Prop} {m m':Ms} {τ:Ft} {H H1:Hp}
theorem Ad {α:Type} {l:List α} {x i:Nat} {v w:α} (h:(l.set x v)[i]?=some w):(i=x/\w=v)\/(i ≠ x/\l[i]?=some w):=by
 by_cases z:x=i
 ·subst z
  rw [abk] at h
  cases q:l[x]? with
  | none=>rw [q] at h; cases h
  | some y =>
   rw [q] at h
   exact .inl ⟨rfl,by simpa using h.symm⟩
 ·rw [aaB z] at h
  exact .inr ⟨fun e=>z e.symm,h⟩
theorem ST {x k ke:Nat} {t:T} (S:Sf p H0 A0 m τ H) (R:Rs p (Sh (tnM m) τ) H H1 0 ke t) (hk:k<=ke) (hx:x < m.length) (h90:k < 90):Sf p H0 A0 (m.set x (mdK k)) (τ.set x (some t)) H1/\Stp m (m.set x (mdK k)) [x] τ (τ.set x (some t)) H H1:=by
 have S1:=S.grow R.same
 have dom:∀ {i:Nat} {u:T} {d:Md},τ[i]?=some (some u)->m[i]?=some d->d ≠ .dead->∀ a ∈ u.rest 0,H a ≠ none:=fun e hd nd a q=>(S.at e hd nd).dom q
 have tnew:∀ a ∈ t.adr k,H a=none:=fun a q=>(R.new a (T.adr_le t hk q)).1
 have town:∀ a,Own m τ a->a ∉ t.rest 0:=fun a o q=>by
  rcases R.src a q with z | z
  ·obtain ⟨_,vs,e⟩:=S.ownOk o
   rw [e] at z; cases z
  ·exact S.disj o z
 have owns:∀ a,Own (m.set x (mdK k)) (τ.set x (some t)) a->a ∈ t.adr k\/Own m τ a:=by
  rintro a ⟨i,u,k',e,hk',q⟩
  rcases Ad e with ⟨rfl,e2⟩ | ⟨ne,e⟩
  ·cases e2
   rcases Ad hk' with ⟨_,z⟩ | ⟨z,_⟩
   ·obtain ⟨rfl,_⟩:=FR z.symm
    exact .inl q
   ·exact absurd rfl z
  ·rcases Ad hk' with ⟨z,_⟩ | ⟨_,z⟩
   ·exact absurd z ne
   ·exact .inr ⟨i,u,k',e,z,q⟩
 refine ⟨⟨by rw [aa1,aa1]; exact S.len,fun d hd=>?_,S1.same,fun i u j e ej l=>?_,fun i u k' a e hk' q=>?_,fun a sh=>?_,fun i u k' e hk'=>?_,fun i j u w k' d ne e hk' e' hd nd a q=>?_,fun i j u w k' k2 e hk' e' hd a ts z=>?_⟩,
  fun a u e _=>R.same a u e,fun a o=>?_,fun i hi=>?_⟩
 ·rcases List.mem_or_eq_of_mem_set hd with z | z
  ·exact S.small d z
  ·subst z
   unfold mdK
   split
   ·rfl
   ·exact decide_eq_true ⟨by omega,h90⟩
 ·obtain ⟨d,hd,rfl⟩:=Bb ej
  rcases Ad e with ⟨rfl,e2⟩ | ⟨ne,e⟩
  ·cases e2; exact R.ok
  ·rcases Ad hd with ⟨z,_⟩ | ⟨_,z⟩
   ·exact absurd z ne
   ·exact S1.ok i u _ e (AQ z) l
 ·rcases Ad e with ⟨rfl,e2⟩ | ⟨ne,e⟩
  ·cases e2
   rcases Ad hk' with ⟨_,z⟩ | ⟨z,_⟩
   ·obtain ⟨rfl,_⟩:=FR z.symm
    have:=R.new a (T.adr_le _ hk q)
    exact ⟨S.same.free this.1,this.2⟩
   ·exact absurd rfl z
  ·rcases Ad hk' with ⟨z,_⟩ | ⟨_,z⟩
   ·exact absurd z ne
   ·exact S1.own i u k' a e z q
 ·obtain ⟨i,u,j,e,ej,l,q⟩:=sh
  obtain ⟨d,hd,rfl⟩:=Bb ej
  rcases Ad e with ⟨rfl,e2⟩ | ⟨ne,e⟩
  ·cases e2
   rcases R.src a (T.rest_le _ (aaw _) q) with z | z
   ·exact .inl (S.same.free z)
   ·exact S.src a z
  ·rcases Ad hd with ⟨z,_⟩ | ⟨_,z⟩
   ·exact absurd z ne
   ·exact S.src a ⟨i,u,_,e,AQ z,l,q⟩
 ·rcases Ad e with ⟨rfl,e2⟩ | ⟨ne,e⟩
  ·cases e2
   rcases Ad hk' with ⟨_,z⟩ | ⟨z,_⟩
   ·obtain ⟨rfl,_⟩:=FR z.symm
    exact T.nd_le _ hk R.nd
   ·exact absurd rfl z
  ·rcases Ad hk' with ⟨z,_⟩ | ⟨_,z⟩
   ·exact absurd z ne
   ·exact S.nd i u k' e z
 ·rcases Ad e with ⟨rfl,e2⟩ | ⟨n1,e1⟩
  ·cases e2
   rcases Ad hk' with ⟨_,z⟩ | ⟨z,_⟩
   ·obtain ⟨rfl,_⟩:=FR z.symm
    rcases Ad e' with ⟨z',_⟩ | ⟨n2,e3⟩
    ·exact absurd z'.symm ne
    ·rcases Ad hd with ⟨z',_⟩ | ⟨_,hd3⟩
     ·exact absurd z' n2
     ·exact fun q'=>dom e3 hd3 nd a (T.rest_le w (aaw _) q') (tnew a q)
   ·exact absurd rfl z
  ·rcases Ad hk' with ⟨z,_⟩ | ⟨_,hk3⟩
   ·exact absurd z n1
   ·rcases Ad e' with ⟨z4,e2⟩ | ⟨n2,e3⟩
    ·cases e2
     exact fun q'=>town a ⟨i,u,k',e1,hk3,q⟩ (T.rest_le _ (aaw _) q')
    ·rcases Ad hd with ⟨z,_⟩ | ⟨_,hd3⟩
     ·exact absurd z n2
     ·exact S.sep i j u w k' d ne e1 hk3 e3 hd3 nd a q
 ·rcases Ad hd with ⟨_,z'⟩ | ⟨n2,hd3⟩
  ·exact (SS z'.symm).elim
  ·rcases Ad e' with ⟨z',_⟩ | ⟨_,e3⟩
   ·exact absurd z' n2
   ·rcases Ad e with ⟨z4,e2⟩ | ⟨n1,e1⟩
    ·cases e2
     rcases Ad hk' with ⟨_,z'⟩ | ⟨z',_⟩
     ·obtain ⟨z5,hk0⟩:=FR z'.symm
      subst z
      have mem:a ∈ (T.lst a ts).adr k:=by
       cases k with
       | zero=>exact absurd rfl hk0
       | succ n=>exact aac ..
      exact fun q'=>dom e3 hd3 (by intro c; cases c) a q' (tnew a mem)
     ·exact absurd z4 z'
    ·rcases Ad hk' with ⟨z',_⟩ | ⟨_,hk3⟩
     ·exact absurd z' n1
     ·exact S.top i j u w k' k2 e1 hk3 e3 hd3 a ts z
 ·rcases owns a o with z | z
  ·exact .inr (tnew a z)
  ·exact .inl z
 ·rw [aaB (fun z=>hi (by simp [z]))]
noncomputable def Ao (m:Ms) (is:List Nat) (d:Md):Ms:=is.foldl (fun m i=>m.set i d) m
theorem DV (d:Md):∀ (is:List Nat) (m:Ms),(Ao m is d).length=m.length
 | [],m=>rfl
 | i :: is,m=>by show (Ao (m.set i d) is d).length=_; rw [DV d is,aa1]
theorem D2 {d d':Md}:∀ {is:List Nat} {m:Ms} {i:Nat},(Ao m is d)[i]?=some d'->(i ∈ is/\d'=d)\/(i ∉ is/\m[i]?=some d')
 | [],m,i,h=>.inr ⟨by simp,h⟩
 | j :: is,m,i,h=>by
  rcases D2 (is:=is) (m:=m.set j d) h with ⟨z1,z2⟩ | ⟨z1,z2⟩
  ·exact .inl ⟨aab _ z1,z2⟩
  ·rcases Ad z2 with ⟨rfl,e⟩ | ⟨ne,e⟩
   ·exact .inl ⟨aac ..,e⟩
   ·exact .inr ⟨fun q=>by rcases aal.mp q with q | q; exact ne q; exact z1 q,e⟩
theorem FS:∀ {is:List Nat} {ts:List T} {τ τ':Ft} {i:Nat},BY is ts τ=some τ'->i ∉ is->τ'[i]?=τ[i]?
 | [],[],τ,τ',i,h,_=>by cases h; rfl
 | [],t :: ts,τ,τ',i,h,_=>by cases h
 | j :: is,[],τ,τ',i,h,_=>by cases h
 | j :: is,t :: ts,τ,τ',i,h,hi=>by
  rw [FS (is:=is) (ts:=ts) (τ:=τ.set j (some t)) h (fun q=>hi (aab _ q)),aaB (fun z=>hi (by simp [z]))]
theorem Ky {g:Tg} {t:T} {τ τ':Ft} {i:Nat} (h:CD g t τ=some τ') (hi:i ∉ g.sl):τ'[i]?=τ[i]?:=by
 cases g with
 | nm k=>cases h; rw [aaB (fun z=>hi (by simp [Tg.sl,z]))]
 | tp is=>cases t <;> first | cases h | exact FS h hi
theorem QP {is:List Nat} {τ':Ft} (S:Sf p H0 A0 m τ H) (s:Same H H1) (hlen:τ'.length=τ.length) (hin:∀ (i:Nat) (u:T),i ∈ is->τ'[i]?=some (some u)->u.Ok p H1/\∀ a ∈ u.rest 0,(H0 a=none\/A0 a)/\¬ Own m τ a) (hout:∀ i,i ∉ is->τ'[i]?=τ[i]?) :
  Sf p H0 A0 (Ao m is .sh) τ' H1/\Stp m (Ao m is .sh) is τ τ' H H1:=by
 have S1:=S.grow s
 have AD:∀ {i:Nat} {u:T} {d:Md},τ'[i]?=some (some u)->(Ao m is .sh)[i]?=some d->(d=.sh/\u.Ok p H1/\∀ a ∈ u.rest 0,(H0 a=none\/A0 a)/\¬ Own m τ a)\/(τ[i]?=some (some u)/\m[i]?=some d):=by
  intro i u d e hd
  rcases D2 hd with ⟨z1,z2⟩ | ⟨z1,z2⟩
  ·exact .inl ⟨z2,hin i u z1 e⟩
  ·exact .inr ⟨(hout i z1) ▸ e,z2⟩
 have town:∀ {u:T},(∀ a ∈ u.rest 0,(H0 a=none\/A0 a)/\¬ Own m τ a)->∀ a,Own m τ a->a ∉ u.rest 0:=fun src a o q=>(src a q).2 o
 refine ⟨⟨by rw [hlen,DV]; exact S.len,fun d hd=>?_,S1.same,fun i u j e ej l=>?_,fun i u k' a e hk' q=>?_,fun a sh=>?_,fun i u k' e hk'=>?_,fun i j u w k' d ne e hk' e' hd nd a q=>?_,fun i j u w k' k2 e hk' e' hd a ts z=>?_⟩,
  fun a u e _=>s a u e,fun a o=>?_,fun i hi=>hout i hi⟩
 ·obtain ⟨i,hi,rfl⟩:=abj hd
  rcases D2 (aah hi) with ⟨_,z⟩ | ⟨_,z⟩
  ·rw [z]; rfl
  ·exact S.small _ (aae z)
 ·obtain ⟨d,hd,rfl⟩:=Bb ej
  rcases AD e hd with ⟨_,q,_⟩ | ⟨q1,q2⟩
  ·exact q
  ·exact S1.ok i u _ q1 (AQ q2) l
 ·rcases AD e hk' with ⟨z,_⟩ | ⟨q1,q2⟩
  ·cases z
  ·exact S1.own i u k' a q1 q2 q
 ·obtain ⟨i,u,j,e,ej,l,q⟩:=sh
  obtain ⟨d,hd,rfl⟩:=Bb ej
  rcases AD e hd with ⟨_,_,q'⟩ | ⟨q1,q2⟩
  ·exact (q' a (T.rest_le u (aaw _) q)).1
  ·exact S.src a ⟨i,u,_,q1,AQ q2,l,q⟩
 ·rcases AD e hk' with ⟨z,_⟩ | ⟨q1,q2⟩
  ·cases z
  ·exact S.nd i u k' q1 q2
 ·rcases AD e hk' with ⟨z,_⟩ | ⟨q1,q2⟩
  ·cases z
  ·rcases AD e' hd with ⟨_,_,q'⟩ | ⟨q3,q4⟩
   ·exact fun q5=>town q' a ⟨i,u,k',q1,q2,q⟩ (T.rest_le w (aaw _) q5)
   ·exact S.sep i j u w k' d ne q1 q2 q3 q4 nd a q
 ·rcases AD e hk' with ⟨z,_⟩ | ⟨q1,q2⟩
  ·cases z
  ·rcases AD e' hd with ⟨z',_⟩ | ⟨q3,q4⟩
   ·cases z'
   ·exact S.top i j u w k' k2 q1 q2 q3 q4 a ts z
 ·obtain ⟨i,u,k',e,hk',q⟩:=o
  rcases AD e hk' with ⟨z,_⟩ | ⟨q1,q2⟩
  ·cases z
  ·exact .inl ⟨i,u,k',q1,q2,q⟩
theorem Sf.fine (S:Sf p H0 A0 m τ H) {a:Addr} (h:H a=none\/Sh (tnM m) τ a):(H0 a=none\/A0 a)/\¬ Own m τ a:=by
 rcases h with z | z
 ·refine ⟨.inl (S.same.free z),fun o=>?_⟩
  obtain ⟨_,vs,e⟩:=S.ownOk o
  rw [e] at z; cases z
 ·exact ⟨S.src a z,fun o=>S.disj o z⟩
theorem NA {g:Tg} {t:T} {τ':Ft} (S:Sf p H0 A0 m τ H) (s:Same H H1) (ok:t.Ok p H1) (src:∀ a ∈ t.rest 0,(H0 a=none\/A0 a)/\¬ Own m τ a) (h:CD g t τ=some τ'):Sf p H0 A0 (Ao m g.sl .sh) τ' H1/\Stp m (Ao m g.sl .sh) g.sl τ τ' H H1:=by
 refine QP S s (IH h) (fun i u hi e=>?_) (fun i hi=>Ky h hi)
 rcases Hf (P:=fun o=>∀ w,o=some w->w.Ok p H1/\∀ a ∈ w.rest 0,(H0 a=none\/A0 a)/\¬ Own m τ a) h (fun w e=>by cases e; exact ⟨ok,src⟩)
   (fun a ts e u hu w e'=>by
    cases e'
    rcases e with e | e
    ·subst e
     exact ⟨T.oks_iff.mp ok.2 u hu,fun b q=>src b (T.mem_rests.mpr ⟨u,hu,q⟩)⟩
    ·subst e
     exact ⟨T.oks_iff.mp ok.2 u hu,fun b q=>src b (aab _ (T.mem_rests.mpr ⟨u,hu,q⟩))⟩) i (some u) e with q | ⟨q,_⟩
 ·exact q u rfl
 ·exact absurd hi q
theorem T6 {g:Tg} {t:T} {τ':Ft} (S:Sf p H0 A0 m τ H) (s:Same H H1) (ok:t.Ok p H1) (src:∀ a ∈ t.rest 0,H a=none\/Sh (tnM m) τ a) (h:CD g t τ=some τ'):Sf p H0 A0 (Ao m g.sl .sh) τ' H1/\Stp m (Ao m g.sl .sh) g.sl τ τ' H H1 :=
 NA S s ok (fun a q=>S.fine (src a q)) h
end
noncomputable def AK:List (Bool × Int)->T->Option T
 | [],t=>some t
 | (false,i) :: r,.lst _ ts=>(ixN ts.length i).bind fun j=>(ts[j]?).bind fun t=>AK r t
 | (true,i) :: r,.tup _ ts=>(ixN ts.length i).bind fun j=>(ts[j]?).bind fun t=>AK r t
 | _,_=>none
noncomputable def Er (s:T):List (Bool × Int)->T->Option T
 | [],_=>some s
 | (false,i) :: r,.lst a ts=>(ixN ts.length i).bind fun j=>(ts[j]?).bind fun t=>(Er s r t).map fun t'=>.lst a (ts.set j t')
 | (true,i) :: r,.tup a ts=>(ixN ts.length i).bind fun j=>(ts[j]?).bind fun t=>(Er s r t).map fun t'=>.tup a (ts.set j t')
 | _,_=>none
noncomputable def lnP:List (Bool × Int)->Nat
 | []=>0
 | (false,_) :: r=>lnP r + 1
 | (true,_) :: r=>lnP r
theorem EL {α:Type} {l:List α} {j:Nat} {x:α} (h:l[j]?=some x):∃ l1 l2,l=l1 ++ x :: l2/\∀ y,l.set j y=l1 ++ y :: l2:=by
 obtain ⟨hj,e⟩:=aaq.mp h
 refine ⟨l.take j,l.drop (j + 1),?_,fun y=>?_⟩
 ·rw [<- e,List.getElem_cons_drop,List.take_append_drop]
 ·rw [List.set_eq_take_append_cons_drop,if_pos hj]
theorem Eg {l1 l2:List T} {c:T} {k:Nat}:T.Nds (l1 ++ c :: l2) k ↔ T.Nds (l1 ++ l2) k/\c.Nd k/\(∀ a ∈ c.adr k,a ∉ T.rests (l1 ++ l2) 0)/\(∀ a ∈ T.adrs (l1 ++ l2) k,a ∉ c.rest 0):=by
 induction l1 with
 | nil =>
  rw [aa0,aa0,T.nds_cons]
  exact ⟨fun ⟨a,b,c,d⟩=>⟨b,a,c,d⟩,fun ⟨b,a,c,d⟩=>⟨a,b,c,d⟩⟩
 | cons x l1 ih =>
  rw [aa7,aa7,T.nds_cons,T.nds_cons,ih]
  simp only [T.rests_append,T.adrs_append,T.rests,T.adrs,aaf,not_or]
  constructor
  ·rintro ⟨h1,⟨h2,h3,h4,h5⟩,h6,h7⟩
   refine ⟨⟨h1,h2,fun a q=>⟨(h6 a q).1,(h6 a q).2.2⟩,fun a q=>h7 a ?_⟩,h3,fun a q=>⟨fun z=>h7 a (.inr (.inl q)) z,h4 a q⟩,fun a q=>?_⟩
   ·rcases q with q | q
    ·exact .inl q
    ·exact .inr (.inr q)
   ·rcases q with q | q
    ·exact (h6 a q).2.1
    ·exact h5 a q
  ·rintro ⟨⟨h1,h2,h6,h7⟩,h3,h4,h5⟩
   refine ⟨h1,⟨h2,h3,fun a q=>(h4 a q).2,fun a q=>h5 a (.inr q)⟩,fun a q=>⟨(h6 a q).1,h5 a (.inl q),(h6 a q).2⟩,fun a q=>?_⟩
   rcases q with q | q | q
   ·exact h7 a (.inl q)
   ·exact (h4 a q).1
   ·exact h7 a (.inr q)
section
variable {p:Px}
theorem Et:∀ (q:List (Bool × Int)) {t s:T} {k:Nat},AK q t=some s->lnP q<=k->(∀ b ∈ s.rest 0,b ∈ t.rest 0)/\(∀ b ∈ s.adr (k - lnP q),b ∈ t.adr k)
 | [],t,s,k,h,_=>by cases h; exact ⟨fun b q=>q,fun b q=>q⟩
 | (false,i) :: r,.lst a ts,s,k,h,hl=>by
  simp only [AK] at h
  obtain ⟨j,_,h⟩:=bS h
  obtain ⟨c,hc,h⟩:=bS h
  cases k with
  | zero=>simp [lnP] at hl
  | succ k =>
   obtain ⟨h1,h2⟩:=Et r (k:=k) h (by simp [lnP] at hl; exact hl)
   refine ⟨fun b q=>aab _ (T.mem_rests.mpr ⟨c,aae hc,h1 b q⟩),fun b q=>aab _ (T.mem_adrs.mpr ⟨c,aae hc,h2 b ?_⟩)⟩
   have:k + 1 - lnP ((false,i) :: r)=k - lnP r:=by simp only [lnP]; omega
   rw [this] at q; exact q
 | (true,i) :: r,.tup a ts,s,k,h,hl=>by
  simp only [AK] at h
  obtain ⟨j,_,h⟩:=bS h
  obtain ⟨c,hc,h⟩:=bS h
  obtain ⟨h1,h2⟩:=Et r (k:=k) h hl
  exact ⟨fun b q=>T.mem_rests.mpr ⟨c,aae hc,h1 b q⟩,fun b q=>T.mem_adrs.mpr ⟨c,aae hc,h2 b q⟩⟩
 | (false,i) :: r,.tup a ts,s,k,h,_=>by cases h
 | (true,i) :: r,.lst a ts,s,k,h,_=>by cases h
 | (b,i) :: r,.non,s,k,h,_=>by cases b <;> cases h
 | (b,i) :: r,.bl _,s,k,h,_=>by cases b <;> cases h
 | (b,i) :: r,.int _,s,k,h,_=>by cases b <;> cases h
 | (b,i) :: r,.str _,s,k,h,_=>by cases b <;> cases h
 | (b,i) :: r,.exn _ _,s,k,h,_=>by cases b <;> cases h
theorem NB {l1 l2:List T} {c c':T} {k:Nat} {F N:Addr->Prop} (hFN:∀ b,F b->N b) (nds:T.Nds (l1 ++ c :: l2) k) (nd':c'.Nd k) (hA:∀ b ∈ c'.adr k,b ∈ c.adr k\/F b) (hB:∀ b ∈ c'.rest k,b ∈ c.rest k\/N b) (hF:∀ b,F b->b ∉ T.rests (l1 ++ c :: l2) 0) (hN:∀ b,N b->b ∉ T.adrs (l1 ++ c :: l2) k) :
  T.Nds (l1 ++ c' :: l2) k/\(∀ b ∈ T.adrs (l1 ++ c' :: l2) k,b ∈ T.adrs (l1 ++ c :: l2) k\/F b)/\(∀ b ∈ T.rests (l1 ++ c' :: l2) k,b ∈ T.rests (l1 ++ c :: l2) k\/N b):=by
 obtain ⟨m1,m2,m3,m4⟩:=Eg.mp nds
 have inm:∀ b,b ∈ T.rests (l1 ++ l2) 0->b ∈ T.rests (l1 ++ c :: l2) 0:=fun b q=>by
  simp only [T.rests_append,T.rests,aaf] at q ⊢
  rcases q with q | q
  ·exact .inl q
  ·exact .inr (.inr q)
 have ina:∀ b,b ∈ T.adrs (l1 ++ l2) k->b ∈ T.adrs (l1 ++ c :: l2) k:=fun b q=>by
  simp only [T.adrs_append,T.adrs,aaf] at q ⊢
  rcases q with q | q
  ·exact .inl q
  ·exact .inr (.inr q)
 have cm:∀ b,b ∈ c.adr k->b ∈ T.adrs (l1 ++ c :: l2) k:=fun b q=>by
  simp only [T.adrs_append,T.adrs,aaf]
  exact .inr (.inl q)
 refine ⟨Eg.mpr ⟨m1,nd',fun b q q'=>?_,fun b q q'=>?_⟩,fun b q=>?_,fun b q=>?_⟩
 ·rcases hA b q with z | z
  ·exact m3 b z q'
  ·exact hF b z (inm b q')
 ·rcases (T.all_iff c' k).mp q' with z | z
  ·rcases hA b z with y | y
   ·exact m4 b q ((T.all_iff c k).mpr (.inl y))
   ·exact hN b (hFN b y) (ina b q)
  ·rcases hB b z with y | y
   ·exact m4 b q ((T.all_iff c k).mpr (.inr y))
   ·exact hN b y (ina b q)
 ·simp only [T.adrs_append,T.adrs,aaf] at q ⊢
  rcases q with q | q | q
  ·exact .inl (.inl q)
  ·exact (hA b q).imp (fun z=>.inr (.inl z)) id
  ·exact .inl (.inr (.inr q))
 ·simp only [T.rests_append,T.rests,aaf] at q ⊢
  rcases q with q | q | q
  ·exact .inl (.inl q)
  ·exact (hB b q).imp (fun z=>.inr (.inl z)) id
  ·exact .inl (.inr (.inr q))
theorem Dy {H H':Hp} {a:Addr} {t:T} (hkeep:∀ b w,H b=some w->b ≠ a->H' b=some w) (hpl:∃ vs,H a=some (.lst vs)) (ok:t.Ok p H) (hn:a ∉ t.rest 0):t.Ok p H':=by
 refine ok.keep fun b w e q=>hkeep b w e fun z=>?_
 subst z
 rcases q with q | q
 ·exact hn q
 ·obtain ⟨vs,z⟩:=hpl
  rw [z] at e
  exact q vs (Option.some.inj e).symm
theorem JB {H H':Hp} {a:Addr} {ts us:List T} {F N:Addr->Prop} (hkeep:∀ b w,H b=some w->b ≠ a->H' b=some w) (hpl:∃ vs,H a=some (.lst vs)) (hs:(T.lst a us).Ok p H') (hFN:∀ b,F b->N b) :
  ∀ (q:List (Bool × Int)) {t:T} {k:Nat},AK q t=some (.lst a ts)->lnP q < k->t.Nd k->t.Ok p H->(∀ b,F b->b ∉ t.rest 0)->(∀ b,N b->b ∉ t.adr k)->(∀ b ∈ T.adrs us (k - 1 - lnP q),b ∈ T.adrs ts (k - 1 - lnP q)\/F b) ->
   (∀ b ∈ T.rests us (k - 1 - lnP q),b ∈ T.rests ts (k - 1 - lnP q)\/N b)->T.Nds us (k - 1 - lnP q) ->
   ∃ t',Er (.lst a us) q t=some t'/\t'.val=t.val/\t'.Ok p H'/\t'.Nd k/\(∀ b ∈ t'.adr k,b ∈ t.adr k\/F b)/\(∀ b ∈ t'.rest k,b ∈ t.rest k\/N b)
 | [],t,k,h,hl,nd,ok,hF,hN,hA,hB,hnd=>by
  cases h
  cases k with
  | zero=>cases hl
  | succ k =>
   have e:k + 1 - 1 - lnP []=k:=by simp [lnP]
   rw [e] at hA hB hnd
   obtain ⟨n1,n2⟩:=nd
   simp only [T.adr,aaG] at n1
   refine ⟨_,rfl,rfl,hs,⟨?_,fun b m m'=>?_⟩,fun b m=>?_,fun b m=>hB b m⟩
   ·simp only [T.adr,aaG]
    refine ⟨fun m=>?_,hnd.1⟩
    rcases hA a m with z | z
    ·exact n1.1 z
    ·exact hF a z (aac ..)
   ·simp only [T.adr,T.rest,aal] at m m'
    rcases m' with rfl | m'
    ·rcases hB b m with z | z
     ·exact n2 b z (aac ..)
     ·exact hN b z (aac ..)
    ·exact hnd.2 b m m'
   ·simp only [T.adr,aal] at m ⊢
    rcases m with m | m
    ·exact .inl (.inl m)
    ·exact (hA b m).imp .inr id
 | (false,i) :: r,.lst b0 cs,k,h,hl,nd,ok,hF,hN,hA,hB,hnd=>by
  simp only [AK] at h
  obtain ⟨j,hj,h⟩:=bS h
  obtain ⟨c,hc,h⟩:=bS h
  cases k with
  | zero=>cases hl
  | succ k =>
   have hl':lnP r < k:=by simp only [lnP] at hl; omega
   have e:k + 1 - 1 - lnP ((false,i) :: r)=k - 1 - lnP r:=by simp only [lnP]; omega
   rw [e] at hA hB hnd
   obtain ⟨n1,n2⟩:=nd
   simp only [T.adr,T.rest,aaG] at n1 n2
   have nds:T.Nds cs k:=⟨n1.2,fun x hx hy=>n2 x hx (aab _ hy)⟩
   have hcm:=aae hc
   obtain ⟨l1,l2,e1,e2⟩:=EL hc
   rw [e1] at nds
   obtain ⟨m1,m2,m3,m4⟩:=Eg.mp nds
   obtain ⟨ain,aad⟩:=Et r (k:=k) h (by omega)
   have aadr:a ∈ c.adr k:=aad a (by
    have:k - lnP r=(k - lnP r - 1) + 1:=by omega
    rw [this]; exact aac ..)
   obtain ⟨c',p1,p2,p3,p4,p5,p6⟩:=JB hkeep hpl hs hFN r h hl' m2 (T.oks_iff.mp ok.2 c hcm) (fun b f q=>hF b f (aab _ (T.mem_rests.mpr ⟨c,hcm,q⟩))) (fun b n q=>hN b n (aab _ (T.mem_adrs.mpr ⟨c,hcm,q⟩))) hA hB hnd
   obtain ⟨q1,q2,q3⟩:=NB hFN nds p4 p5 p6 (fun b f q=>hF b f (aab _ (by rw [e1]; exact q))) (fun b n q=>hN b n (aab _ (by rw [e1]; exact q)))
   have ab:b0 ≠ a:=fun z=>n1.1 (by rw [z,T.mem_adrs]; exact ⟨c,hcm,aadr⟩)
   have hv:(l1 ++ c' :: l2).map T.val=cs.map T.val:=by rw [e1]; simp [p2]
   refine ⟨.lst b0 (l1 ++ c' :: l2),by simp only [Er,hj,aa6,hc,p1,aaV,e2],rfl,⟨?_,T.oks_iff.mpr fun w hw=>?_⟩,⟨?_,fun b m m'=>?_⟩,fun b m=>?_,fun b m=>?_⟩
   ·rw [hv]
    rcases ok.1 with z | ⟨o,z⟩
    ·exact .inl (hkeep _ _ z ab)
    ·exact .inr ⟨o,hkeep _ _ z ab⟩
   ·rcases aaf.mp hw with hw | hw
    ·refine Dy hkeep hpl (T.oks_iff.mp ok.2 w (by rw [e1]; exact aax _ hw)) fun q=>m3 a aadr ?_
     rw [T.rests_append]; exact aax _ (T.mem_rests.mpr ⟨w,hw,q⟩)
    ·rcases aal.mp hw with rfl | hw
     ·exact p3
     ·refine Dy hkeep hpl (T.oks_iff.mp ok.2 w (by rw [e1]; exact aan _ (aab _ hw))) fun q=>m3 a aadr ?_
      rw [T.rests_append]; exact aan _ (T.mem_rests.mpr ⟨w,hw,q⟩)
   ·simp only [T.adr,aaG]
    refine ⟨fun m=>?_,q1.1⟩
    rcases q2 b0 m with z | z
    ·exact n1.1 (by rw [e1]; exact z)
    ·exact hF b0 z (aac ..)
   ·simp only [T.adr,T.rest,aal] at m m'
    rcases m' with rfl | m'
    ·rcases q3 b m with z | z
     ·exact n2 b (by rw [e1]; exact z) (aac ..)
     ·exact hN b z (aac ..)
    ·exact q1.2 b m m'
   ·simp only [T.adr,aal] at m ⊢
    rcases m with m | m
    ·exact .inl (.inl m)
    ·rw [e1]; exact (q2 b m).imp .inr id
   ·simp only [T.rest] at m ⊢
    rw [e1]; exact q3 b m
 | (true,i) :: r,.tup b0 cs,k,h,hl,nd,ok,hF,hN,hA,hB,hnd=>by
  simp only [AK] at h
  obtain ⟨j,hj,h⟩:=bS h
  obtain ⟨c,hc,h⟩:=bS h
  have hl':lnP r < k:=hl
  have nds:T.Nds cs k:=nd
  have hcm:=aae hc
  obtain ⟨l1,l2,e1,e2⟩:=EL hc
  rw [e1] at nds
  obtain ⟨m1,m2,m3,m4⟩:=Eg.mp nds
  obtain ⟨ain,aad⟩:=Et r (k:=k) h (by omega)
  have aadr:a ∈ c.adr k:=aad a (by
   have:k - lnP r=(k - lnP r - 1) + 1:=by omega
   rw [this]; exact aac ..)
  obtain ⟨c',p1,p2,p3,p4,p5,p6⟩:=JB hkeep hpl hs hFN r h hl' m2 (T.oks_iff.mp ok.2 c hcm) (fun b f q=>hF b f (T.mem_rests.mpr ⟨c,hcm,q⟩)) (fun b n q=>hN b n (T.mem_adrs.mpr ⟨c,hcm,q⟩)) hA hB hnd
  obtain ⟨q1,q2,q3⟩:=NB hFN nds p4 p5 p6 (fun b f q=>hF b f (by rw [T.rest,e1]; exact q)) (fun b n q=>hN b n (by rw [T.adr,e1]; exact q))
  have ab:b0 ≠ a:=fun z=>by
   obtain ⟨vs,y⟩:=hpl
   have:=ok.1
   rw [z,y] at this; cases this
  have hv:(l1 ++ c' :: l2).map T.val=cs.map T.val:=by rw [e1]; simp [p2]
  refine ⟨.tup b0 (l1 ++ c' :: l2),by simp only [Er,hj,aa6,hc,p1,aaV,e2],rfl,⟨?_,T.oks_iff.mpr fun w hw=>?_⟩,q1,fun b m=>?_,fun b m=>?_⟩
  ·rw [hv]; exact hkeep _ _ ok.1 ab
  ·rcases aaf.mp hw with hw | hw
   ·refine Dy hkeep hpl (T.oks_iff.mp ok.2 w (by rw [e1]; exact aax _ hw)) fun q=>m3 a aadr ?_
    rw [T.rests_append]; exact aax _ (T.mem_rests.mpr ⟨w,hw,q⟩)
   ·rcases aal.mp hw with rfl | hw
    ·exact p3
    ·refine Dy hkeep hpl (T.oks_iff.mp ok.2 w (by rw [e1]; exact aan _ (aab _ hw))) fun q=>m3 a aadr ?_
     rw [T.rests_append]; exact aan _ (T.mem_rests.mpr ⟨w,hw,q⟩)
  ·simp only [T.adr] at m ⊢
   rw [e1]; exact q2 b m
  ·simp only [T.rest] at m ⊢
   rw [e1]; exact q3 b m
 | (false,i) :: r,.tup a ts,k,h,_,_,_,_,_,_,_,_=>by cases h
 | (true,i) :: r,.lst a ts,k,h,_,_,_,_,_,_,_,_=>by cases h
 | (b,i) :: r,.non,k,h,_,_,_,_,_,_,_,_=>by cases b <;> cases h
 | (b,i) :: r,.bl _,k,h,_,_,_,_,_,_,_,_=>by cases b <;> cases h
 | (b,i) :: r,.int _,k,h,_,_,_,_,_,_,_,_=>by cases b <;> cases h
 | (b,i) :: r,.str _,k,h,_,_,_,_,_,_,_,_=>by cases b <;> cases h
 | (b,i) :: r,.exn _ _,k,h,_,_,_,_,_,_,_,_=>by cases b <;> cases h
end
theorem Hh:∀ (q:List (Bool × Int)) {t s:T} {k:Nat},AK q t=some s->lnP q<=k->t.Nd k->s.Nd (k - lnP q)
 | [],t,s,k,h,_,n=>by cases h; exact n
 | (false,i) :: r,.lst a ts,s,k,h,hl,n=>by
  simp only [AK] at h
  obtain ⟨j,_,h⟩:=bS h
  obtain ⟨c,hc,h⟩:=bS h
  cases k with
  | zero=>simp [lnP] at hl
  | succ k =>
   obtain ⟨n1,n2⟩:=n
   simp only [T.adr,T.rest,aaG] at n1 n2
   have nds:T.Nds ts k:=⟨n1.2,fun x hx hy=>n2 x hx (aab _ hy)⟩
   obtain ⟨l1,l2,e1,_⟩:=EL hc
   rw [e1] at nds
   have:=Hh r (k:=k) h (by simp [lnP] at hl; exact hl) (Eg.mp nds).2.1
   have e:k + 1 - lnP ((false,i) :: r)=k - lnP r:=by simp only [lnP]; omega
   rw [e]; exact this
 | (true,i) :: r,.tup a ts,s,k,h,hl,n=>by
  simp only [AK] at h
  obtain ⟨j,_,h⟩:=bS h
  obtain ⟨c,hc,h⟩:=bS h
  have nds:T.Nds ts k:=n
  obtain ⟨l1,l2,e1,_⟩:=EL hc
  rw [e1] at nds
  exact Hh r (k:=k) h hl (Eg.mp nds).2.1
 | (false,i) :: r,.tup a ts,s,k,h,_,_=>by cases h
 | (true,i) :: r,.lst a ts,s,k,h,_,_=>by cases h
 | (b,i) :: r,.non,s,k,h,_,_=>by cases b <;> cases h
 | (b,i) :: r,.bl _,s,k,h,_,_=>by cases b <;> cases h
 | (b,i) :: r,.int _,s,k,h,_,_=>by cases b <;> cases h
 | (b,i) :: r,.str _,s,k,h,_,_=>by cases b <;> cases h
 | (b,i) :: r,.exn _ _,s,k,h,_,_=>by cases b <;> cases h
theorem JC (ts:List T) (j:Nat) (t:T):T.dats (ts.set j t)=(T.dats ts).set j t.dat:=by rw [T.dats_map,T.dats_map,acz]
theorem HL {f:List D->Option (List D)}:∀ (q:List (Bool × Int)) {t:T} {d':D},Cw f q t.dat=some d'->∃ a ts ds',AK q t=some (.lst a ts)/\f (T.dats ts)=some ds'/\∀ us t',T.dats us=ds'->Er (.lst a us) q t=some t'->t'.dat=d'
 | [],t,d',h=>by
  cases t with
  | lst a ts =>
   simp only [T.dat,Cw] at h
   obtain ⟨ds',h1,rfl⟩:=aam.mp h
   exact ⟨a,ts,ds',rfl,h1,fun us t' e1 e2=>by cases e2; simp [T.dat,e1]⟩
  | _=>cases h
 | (b,i) :: r,t,d',h=>by
  cases b with
  | false =>
   cases t with
   | lst a ts =>
    simp only [T.dat,Cw,Ac] at h
    obtain ⟨j,hj,h⟩:=bS h
    obtain ⟨d,hd,h⟩:=bS h
    obtain ⟨d2,h1,rfl⟩:=aam.mp h
    obtain ⟨c,hc,rfl⟩:=Em hd
    obtain ⟨a',ts',ds',s1,s2,s3⟩:=HL r h1
    refine ⟨a',ts',ds',by simp only [AK,hj,aa6,hc,s1],s2,fun us t' e1 e2=>?_⟩
    simp only [Er,hj,aa6,hc] at e2
    obtain ⟨c',e3,rfl⟩:=aam.mp e2
    simp only [T.dat,JC,s3 us c' e1 e3]
   | _=>cases h
  | true =>
   cases t with
   | tup a ts =>
    simp only [T.dat,Cw,Ac] at h
    obtain ⟨j,hj,h⟩:=bS h
    obtain ⟨d,hd,h⟩:=bS h
    obtain ⟨d2,h1,rfl⟩:=aam.mp h
    obtain ⟨c,hc,rfl⟩:=Em hd
    obtain ⟨a',ts',ds',s1,s2,s3⟩:=HL r h1
    refine ⟨a',ts',ds',by simp only [AK,hj,aa6,hc,s1],s2,fun us t' e1 e2=>?_⟩
    simp only [Er,hj,aa6,hc] at e2
    obtain ⟨c',e3,rfl⟩:=aam.mp e2
    simp only [T.dat,JC,s3 us c' e1 e3]
   | _=>cases h
section
variable {p:Px} {H0:Hp} {A0:Addr->Prop} {m m1:Ms} {τ:Ft} {H H1:Hp}
theorem NC {x k:Nat} {t:T} {q:List (Bool × Int)} {a:Addr} {ts us:List T} {F N:Addr->Prop} (S:Sf p H0 A0 m τ H) (s:Same H H1) (hx:τ[x]?=some (some t)) (hm:m[x]?=some (.ow k)) (hq:AK q t=some (.lst a ts)) (hl:lnP q < k) (hus:T.Oks p H1 us) (hFN:∀ b,F b->N b)
  (hA:∀ b ∈ T.adrs us (k - 1 - lnP q),b ∈ T.adrs ts (k - 1 - lnP q)\/F b) (hB:∀ b ∈ T.rests us (k - 1 - lnP q),b ∈ T.rests ts (k - 1 - lnP q)\/N b) (hnd:T.Nds us (k - 1 - lnP q))
  (f0:∀ b,F b->b ∉ t.rest 0) (f1:∀ b,F b->H0 b=none/\∃ vs,H1 b=some (.lst vs)) (f4:∀ b,F b->Own m τ b\/H b=none) (n0:∀ b,N b->b ∉ t.adr k) (n1:∀ b,N b->H0 b=none\/A0 b)
  (hlen:m1.length=m.length) (hmx:m1[x]?=some (.ow k)) (hmo:∀ (j:Nat) (d:Md),j ≠ x->m1[j]?=some d->d ≠ .dead->m[j]?=some d/\(q ≠ []->∀ k2,d ≠ .br k2))
  (f2:∀ (j:Nat) (u:T) (d:Md),j ≠ x->τ[j]?=some (some u)->m1[j]?=some d->d ≠ .dead->∀ b,F b->b ∉ u.rest d.low) (n2:∀ (i:Nat) (u:T) (k':Nat),i ≠ x->τ[i]?=some (some u)->m1[i]?=some (.ow k')->∀ b,N b->b ∉ u.adr k') :
  ∃ t',Er (.lst a us) q t=some t'/\t'.val=t.val/\Sf p H0 A0 m1 (τ.set x (some t')) (L2.upd H1 a (.lst (us.map T.val)))/\Stp m m1 [x] τ (τ.set x (some t')) H (L2.upd H1 a (.lst (us.map T.val))):=by
 have S1:=S.grow s
 obtain ⟨ain,aad⟩:=Et q (k:=k) hq (by omega)
 have ek:k - lnP q=(k - 1 - lnP q) + 1:=by omega
 have aadr:a ∈ t.adr k:=aad a (by rw [ek]; exact aac ..)
 have arest:a ∈ t.rest 0:=(T.all_iff t k).mpr (.inl aadr)
 have nds:=Hh q hq (by omega:lnP q<=k) (S.nd x t k hx hm)
 rw [ek] at nds
 obtain ⟨nd1,nd2⟩:=nds
 simp only [T.adr,T.rest,aaG] at nd1 nd2
 have hpl:∃ vs,H1 a=some (.lst vs):=(S1.own x t k a hx hm aadr).2
 have hkeep:∀ b w,H1 b=some w->b ≠ a->L2.upd H1 a (.lst (us.map T.val)) b=some w:=fun b w e n=>by rw [Ap n]; exact e
 have aus:a ∉ T.rests us 0:=fun z=>by
  rcases (T.alls_iff us (k - 1 - lnP q)).mp z with z | z
  ·rcases hA a z with y | y
   ·exact nd1.1 y
   ·exact f0 a y arest
  ·rcases hB a z with y | y
   ·exact nd2 a y (aac ..)
   ·exact n0 a y aadr
 have hs:(T.lst a us).Ok p (L2.upd H1 a (.lst (us.map T.val))):=⟨.inl AS,T.oks_iff.mpr fun u hu=>Dy hkeep hpl (T.oks_iff.mp hus u hu) fun z=>aus (T.mem_rests.mpr ⟨u,hu,z⟩)⟩
 obtain ⟨t',p1,p2,p3,p4,p5,p6⟩:=JB hkeep hpl hs hFN q hq hl (S.nd x t k hx hm) (S1.at hx hm (by intro c; cases c)) f0 n0 hA hB hnd
 have all':∀ b ∈ t'.rest 0,b ∈ t.rest 0\/N b:=fun b z=>by
  rcases (T.all_iff t' k).mp z with z | z
  ·exact (p5 b z).imp (fun y=>(T.all_iff t k).mpr (.inl y)) (hFN b)
  ·exact (p6 b z).imp (fun y=>(T.all_iff t k).mpr (.inr y)) id
 have sm0:0 < k/\k < 90:=of_decide_eq_true (S.small _ (aae hm))
 have sm:=sm0.2
 have other:∀ {j:Nat} {u:T} {d:Md},j ≠ x->τ[j]?=some (some u)->m1[j]?=some d->d ≠ .dead->u.Ok p (L2.upd H1 a (.lst (us.map T.val))):=by
  intro j u d ne e hd nd
  obtain ⟨h1,h2⟩:=hmo j d ne hd nd
  refine Dy hkeep hpl (S1.at e h1 nd) ?_
  cases d with
  | sh=>exact S.sep x j t u k _ (Ne.symm ne) hx hm e h1 nd a aadr
  | ow k2=>exact S.sep x j t u k _ (Ne.symm ne) hx hm e h1 nd a aadr
  | br k2 =>
   cases q with
   | nil =>
    cases hq
    exact S.top x j _ u k k2 hx hm e h1 a ts rfl
   | cons _ _=>exact absurd rfl (h2 (by simp) k2)
  | dead=>exact absurd rfl nd
 refine ⟨t',p1,p2,⟨by rw [aa1,hlen]; exact S.len,fun d hd=>?_,fun b u e=>?_,fun i u j e ej l=>?_,fun i u k' b e hk' z=>?_,fun b sh=>?_,fun i u k' e hk'=>?_,fun i j u w k' d ne e hk' e' hd nd b z=>?_,fun i j u w k' k2 e hk' e' hd b cs z=>?_⟩,
  fun b u e n=>?_,fun b o=>?_,fun i hi=>?_⟩
 ·obtain ⟨i,hi,rfl⟩:=abj hd
  by_cases z:i=x
  ·subst z
   rw [aah hi] at hmx
   rw [Option.some.inj hmx]
   exact decide_eq_true sm0
  ·by_cases y:m1[i]=.dead
   ·rw [y]; rfl
   ·exact S.small _ (aae (hmo i _ z (aah hi) y).1)
 ·rw [Ap (fun z=>by
   have:=(S.own x t k a hx hm aadr).1
   rw [z] at e
   rw [this] at e; cases e)]
  exact S1.same b u e
 ·obtain ⟨d,hd,rfl⟩:=Bb ej
  rcases Ad e with ⟨rfl,e2⟩ | ⟨ne,e1⟩
  ·cases e2; exact p3
  ·exact other ne e1 hd (fun z=>by subst z; exact absurd l (by decide))
 ·rcases Ad e with ⟨rfl,e2⟩ | ⟨ne,e1⟩
  ·cases e2
   rw [hmx] at hk'
   cases hk'
   rcases p5 b z with y | y
   ·obtain ⟨y1,vs,y2⟩:=S1.own i t k b hx hm y
    by_cases w:b=a
    ·subst w; exact ⟨y1,_,AS⟩
    ·exact ⟨y1,vs,hkeep _ _ y2 w⟩
   ·obtain ⟨y1,vs,y2⟩:=f1 b y
    exact ⟨y1,vs,hkeep _ _ y2 fun w=>f0 b y (w ▸ arest)⟩
  ·obtain ⟨h1,_⟩:=hmo i _ ne hk' (by intro c; cases c)
   obtain ⟨y1,vs,y2⟩:=S1.own i u k' b e1 h1 z
   exact ⟨y1,vs,hkeep _ _ y2 fun w=>S.sep x i t u k _ (Ne.symm ne) hx hm e1 h1 (by intro c; cases c) a aadr (w ▸ (T.all_iff u k').mpr (.inl z))⟩
 ·obtain ⟨i,u,j,e,ej,l,z⟩:=sh
  obtain ⟨d,hd,rfl⟩:=Bb ej
  rcases Ad e with ⟨rfl,e2⟩ | ⟨ne,e1⟩
  ·cases e2
   rw [hmx] at hd
   cases hd
   rcases p6 b z with y | y
   ·exact S.src b ⟨i,t,k,hx,AQ hm,sm,y⟩
   ·exact n1 b y
  ·obtain ⟨h1,_⟩:=hmo i _ ne hd (fun z=>by subst z; exact absurd l (by decide))
   exact S.src b ⟨i,u,_,e1,AQ h1,l,z⟩
 ·rcases Ad e with ⟨rfl,e2⟩ | ⟨ne,e1⟩
  ·cases e2
   rw [hmx] at hk'
   cases hk'
   exact p4
  ·exact S.nd i u k' e1 (hmo i _ ne hk' (by intro c; cases c)).1
 ·rcases Ad e with ⟨rfl,e2⟩ | ⟨ne1,e1⟩
  ·cases e2
   rw [hmx] at hk'
   cases hk'
   rcases Ad e' with ⟨z',_⟩ | ⟨ne2,e3⟩
   ·exact absurd z'.symm ne
   ·rcases p5 b z with y | y
    ·exact S.sep i j t w k d ne hx hm e3 (hmo j d ne2 hd nd).1 nd b y
    ·exact f2 j w d ne2 e3 hd nd b y
  ·obtain ⟨h1,_⟩:=hmo i _ ne1 hk' (by intro c; cases c)
   rcases Ad e' with ⟨z',e2⟩ | ⟨ne2,e3⟩
   ·cases e2
    subst z'
    rw [hmx] at hd
    cases hd
    intro y
    rcases all' b y with y | y
    ·exact S.sep i j u t k' _ ne e1 h1 hx hm (by intro c; cases c) b z y
    ·exact n2 i u k' ne1 e1 hk' b y z
   ·exact S.sep i j u w k' d ne e1 h1 e3 (hmo j d ne2 hd nd).1 nd b z
 ·have ne2:j ≠ x:=fun y=>by subst y; rw [hmx] at hd; cases hd
  rcases Ad e' with ⟨y,_⟩ | ⟨_,e3⟩
  ·exact absurd y ne2
  obtain ⟨h3,h4⟩:=hmo j _ ne2 hd (by intro c; cases c)
  rcases Ad e with ⟨rfl,e2⟩ | ⟨ne1,e1⟩
  ·cases e2
   rw [hmx] at hk'
   cases hk'
   cases q with
   | nil =>
    cases hq
    cases p1
    cases z
    exact S.top i j _ w k k2 hx hm e3 h3 _ ts rfl
   | cons _ _=>exact absurd rfl (h4 (by simp) k2)
  ·exact S.top i j u w k' k2 e1 (hmo i _ ne1 hk' (by intro c; cases c)).1 e3 h3 b cs z
 ·rw [Ap (show b ≠ a from fun z=>n ⟨x,t,k,hx,hm,by rw [z]; exact aadr⟩)]
  exact s b u e
 ·obtain ⟨i,u,k',e,hk',z⟩:=o
  rcases Ad e with ⟨rfl,e2⟩ | ⟨ne,e1⟩
  ·cases e2
   rw [hmx] at hk'
   cases hk'
   rcases p5 b z with y | y
   ·exact .inl ⟨i,t,k,hx,hm,y⟩
   ·exact f4 b y
  ·exact .inl ⟨i,u,k',e1,(hmo i _ ne hk' (by intro c; cases c)).1,z⟩
 ·rw [aaB (fun z=>hi (by simp [z]))]
end
structure Zx where
 p:Px
 H0:Hp
 A0:Addr->Prop
 EX:EXT
 mx:Ms
 dep:Nat
noncomputable def Um.kind:Um->Nat
 | .append=>1
 | .insert=>3
 | .extend=>2
 | _=>0
mutual
noncomputable def wrS:S->List Nat
 | .asg x _ _=>[x]
 | .dem _ _=>[]
 | .dead _=>[]
 | .asgT xs _=>xs
 | .mut x _ _ _=>[x]
 | .expr _=>[]
 | .iff _ a b=>wrSs a ++ wrSs b
 | .wh _ b=>wrSs b
 | .for_ g _ b=>g.sl ++ wrSs b
 | .ret _=>[]
 | .retT _=>[]
 | .raise _ _=>[]
noncomputable def wrSs:Ss->List Nat
 | .nil=>[]
 | .cons s r=>wrS s ++ wrSs r
end
noncomputable def T7 (a b:Ms):Ms:=List.zipWith Md.meet a b
noncomputable def Mh:Option Ms->Option Ms->Option Ms
 | none,b=>b
 | a,none=>a
 | some a,some b=>some (T7 a b)
noncomputable def okJ:Option Ms->Option Ms->Bool
 | some a,some r=>leM a r
 | none,_=>true
 | some _,none=>false
noncomputable def It.nmOf:It->Option Nat
 | .seqL (.nm x)=>some x
 | _=>none
noncomputable def rk (m:Ms) (e:E):Option Nat:=match e with
 | .nm i=>match m[i]? with
  | some (.ow k)=>some k
  | some .sh=>some 0
  | _=>none
 | e=>(jk (tnM m) e).bind fun x=>if x.1=0 then some x.2 else none
noncomputable def IY (m:Ms):E->Option (Nat × Nat)
 | .nm i=>match m[i]? with
  | some (.ow k)=>some (i,k)
  | _=>none
 | _=>none
theorem OU {m:Ms} {e:E} {i k:Nat} (h:IY m e=some (i,k)):e=.nm i/\m[i]?=some (.ow k):=by
 unfold IY at h
 split at h
 ·split at h
  ·cases h; exact ⟨rfl,‹_›⟩
  ·cases h
 ·cases h
noncomputable def rkT (m:Ms):List Nat->Es->Option Nat
 | _,.nil=>some 9
 | I,.cons e r=>match IY m e with
  | some (i,k)=>if i ∈ I then none else (rkT m (i :: I) r).bind fun k2=>some (min k k2)
  | none=>(jk (tnM m) e).bind fun c=>if c.1=0 then (rkT m I r).bind fun k2=>some (min c.2 k2) else none
noncomputable def CG (m:Ms):Ms:=m.map fun d=>match d with
 | .br _=>.dead
 | d=>d
noncomputable def E9 (m:Ms):List (Bool × E)->Bool
 | []=>true
 | (_,e) :: r=>(jk (tnM m) e).isSome && E9 m r
noncomputable def lnE:List (Bool × E)->Nat
 | []=>0
 | (false,_) :: r=>lnE r + 1
 | (true,_) :: r=>lnE r
noncomputable def Es.mvOf (m:Ms):Es->Option (Nat × Nat)
 | .cons (.nm y) .nil=>match m[y]? with
  | some (.ow k)=>some (y,k)
  | _=>none
 | _=>none
mutual
noncomputable def msS (mx:Ms) (dep:Nat):S->Ms->Option (Option Ms)
 | .asg x k e,m=>(jk (tnM m) e).bind fun c=>if c.1=0/\k<=c.2/\x < m.length/\k < 90/\leM m mx=true then some (some (m.set x (mdK k))) else none
 | .dem x k,m=>if leM m (m.set x (mdK k))=true then some (some (m.set x (mdK k))) else none
 | .dead x,m=>if leM m (m.set x .dead)=true then some (some (m.set x .dead)) else none
 | .asgT xs e,m=>(jk (tnM m) e).bind fun c=>if c.1=0/\leM m mx=true then some (some (Ao m xs .sh)) else none
 | .mut x p u es,m=>match m[x]? with
  | some (.ow k)=>if lnE p < k/\E9 m p=true/\leM m mx=true then (match es.mvOf m with
    | some (y,ky)=>if u=.append/\y ≠ x/\k - 1 - lnE p<=ky/\p.isEmpty=true then some (some (m.set y (.br ky))) else none
    | none=>(jks (tnM m) es).bind fun c=>if (c.1=0\/(u=.extend/\c.1<=1))/\(k - 1 - lnE p=0\/(u.kind=1/\k - 1 - lnE p<=c.2)\/(u.kind=2/\k - lnE p<=c.2)\/u.kind=0) then some (some (if p.isEmpty then m else CG m)) else none) else none
  | _=>none
 | .expr e,m=>(jk (tnM m) e).bind fun _=>if leM m mx=true then some (some m) else none
 | .iff c a b,m=>(jk (tnM m) c).bind fun _=>if leM m mx=true then (msSs mx dep a m).bind fun ra=>(msSs mx dep b m).bind fun rb=>if okJ ra (Mh ra rb)=true/\okJ rb (Mh ra rb)=true then some (Mh ra rb) else none
  else none
 | .wh c b,m=>(jk (tnM m) c).bind fun _=>if leM m mx=true then (msSs mx dep b m).bind fun r=>match r with
   | none=>some (some m)
   | some mb=>if leM mb m=true then some (some m) else none
  else none
 | .for_ g it b,m=>(jkI (tnM m) it).bind fun j=>if leM m mx=true/\leM m (Ao m g.sl .dead)=true/\(j=0\/∃ x,it.nmOf=some x/\x ∉ wrSs b/\x ∉ g.sl) then (msSs mx dep b (Ao (Ao m g.sl .dead) g.sl .sh)).bind fun r=>match r with
   | none=>some (some (Ao m g.sl .dead))
   | some mb=>if leM mb (Ao m g.sl .dead)=true then some (some (Ao m g.sl .dead)) else none
  else none
 | .ret e,m=>(rk m e).bind fun k=>if dep<=k/\leM m mx=true then some none else none
 | .retT es,m=>(rkT m [] es).bind fun k=>if dep<=k/\leM m mx=true then some none else none
 | .raise _ es,m=>(jks (tnM m) es).bind fun _=>if leM m mx=true then some none else none
noncomputable def msSs (mx:Ms) (dep:Nat):Ss->Ms->Option (Option Ms)
 | .nil,m=>some (some m)
 | .cons s r,m=>(msS mx dep s m).bind fun o=>match o with
  | none=>some none
  | some m1=>msSs mx dep r m1
end
noncomputable def lOut (Z:Zx) (m:Ms) (r:Option Ms) (w:List Nat) (o:Out) (τ:Ft) (H:Hp) (D:Ends):Prop:=match o with
 | .nxt δ'=>∀ (m':Ms) (τ':Ft) (H':Hp),r=some m'->dτ τ'=δ'->Sf Z.p Z.H0 Z.A0 m' τ' H'->Stp m m' w τ τ' H H'->D.nx (vτ τ') H'
 | .ret d=>∀ (t:T) (H':Hp),t.dat=d->Rs Z.p Z.A0 Z.H0 H' 0 Z.dep t->D.rt t.val H'
 | .exc c δ'=>Z.p.has c=true->∀ (τ':Ft) (H':Hp),dτ τ'=δ'->Sf Z.p Z.H0 Z.A0 Z.mx τ' H'->Stp m Z.mx w τ τ' H H'->Z.EX (vτ τ') (.ref (Z.p.cl c)) none H'
 | .bad=>False
noncomputable def lS (Z:Zx) (s:S):TS:=fun D σ H=>∃ τ m r,σ=vτ τ/\Sf Z.p Z.H0 Z.A0 m τ H/\msS Z.mx Z.dep s m=some r/\lOut Z m r (wrS s) (ex s (dτ τ)) τ H D
noncomputable def lSs (Z:Zx) (s:Ss):TS:=fun D σ H=>∃ τ m r,σ=vτ τ/\Sf Z.p Z.H0 Z.A0 m τ H/\msSs Z.mx Z.dep s m=some r/\lOut Z m r (wrSs s) (exs s (dτ τ)) τ H D
theorem PSs.mono {X:Cx} {st:List Stmt} {t t':TS} (h:PSs X st t) (m:∀ D σ H,t' D σ H->t D σ H):PSs X st t':=fun pins s σ H D I q=>h pins s σ H D I (m _ _ _ q)
section
variable {Z:Zx} {m:Ms} {r:Option Ms} {w:List Nat} {τ:Ft} {H:Hp} {D:Ends} {X:Cx} {pos:Pos}
theorem lOut.lg {α:Type} {q:Res α} {f:α->Out} (S:Sf Z.p Z.H0 Z.A0 m τ H) (hm:leM m Z.mx=true) (h:lOut Z m r w (q.out (dτ τ) f) τ H D):Lg Z.p Z.EX (vτ τ) q H fun a=>lOut Z m r w (f a) τ H D:=by
 cases q with
 | ok a=>exact h
 | exc c=>exact fun hc H' s=>h hc τ H' rfl ((S.weak hm).grow s) (Stp.refl w hm s)
 | bad=>exact h
theorem AB {c:Prop} [Decidable c] {α:Type} {x y:α} (h:(if c then some x else none)=some y):c/\x=y:=by
 split at h
 ·exact ⟨‹_›,Option.some.inj h⟩
 ·cases h
theorem SU {x k:Nat} {e:E} {σ:L2.St} (h:lS Z (.asg x k e) D σ H):∃ τ m,σ=vτ τ/\Sf Z.p Z.H0 Z.A0 m τ H/\GE (lE Z.p Z.EX (tnM m) e) (EG x) D σ H:=by
 obtain ⟨τ,m,r,rfl,S,hr,h⟩:=h
 simp only [msS] at hr
 obtain ⟨⟨j1,k1⟩,h1,hr⟩:=bS hr
 obtain ⟨⟨c1,c2,c3,c4,c5⟩,rfl⟩:=AB hr
 have c1:j1=0:=c1
 subst c1
 refine ⟨τ,m,rfl,S,τ,rfl,S.ok,0,k1,h1,?_⟩
 simp only [ex] at h
 refine (h.lg S c5).mono (Same.refl _) fun d _ h t H1 ht R=>?_
 subst ht
 obtain ⟨S2,P2⟩:=ST S R c2 c3 c4
 show D.nx ((vτ τ).set x (some t.val)) H1
 rw [<- Gh]
 exact h _ _ H1 rfl (Gg τ x t) S2 P2
end
theorem Mi {m:Ms} {i:Nat} {d:Md} (h:(CG m)[i]?=some d):(d=.dead)\/(m[i]?=some d/\∀ k2,d ≠ .br k2):=by
 unfold CG at h
 rw [aaj] at h
 obtain ⟨d',h1,h2⟩:=aam.mp h
 cases d' with
 | br k=>exact .inl h2.symm
 | sh=>cases h2; exact .inr ⟨h1,by simp⟩
 | ow k=>cases h2; exact .inr ⟨h1,by simp⟩
 | dead=>exact .inl h2.symm
theorem ND {m:Ms} {i k:Nat} (h:m[i]?=some (.ow k)):(CG m)[i]?=some (.ow k):=by
 unfold CG; rw [aaj,h]; rfl
section
variable {p:Px} {H0:Hp} {A0:Addr->Prop} {m:Ms} {τ:Ft} {H H1:Hp}
theorem SV {x k:Nat} {t:T} {q:List (Bool × Int)} {a:Addr} {ts us es:List T} (S:Sf p H0 A0 m τ H) (s:Same H H1) (hx:τ[x]?=some (some t)) (hm:m[x]?=some (.ow k)) (hq:AK q t=some (.lst a ts)) (hl:lnP q < k) (hus:T.Oks p H1 us)
  (hA:∀ b ∈ T.adrs us (k - 1 - lnP q),b ∈ T.adrs ts (k - 1 - lnP q)\/b ∈ T.adrs es (k - 1 - lnP q)) (hB:∀ b ∈ T.rests us (k - 1 - lnP q),b ∈ T.rests ts (k - 1 - lnP q)\/b ∈ T.rests es 0)
  (hnd:T.Nds ts (k - 1 - lnP q)->(∀ b ∈ T.adrs es (k - 1 - lnP q),b ∉ T.rests ts 0)->(∀ b ∈ T.adrs ts (k - 1 - lnP q),b ∉ T.rests es 0)->T.Nds us (k - 1 - lnP q))
  (src:∀ b ∈ T.rests es 0,H b=none\/Sh (tnM m) τ b) (new:∀ b ∈ T.adrs es (k - 1 - lnP q),H b=none/\∃ vs,H1 b=some (.lst vs)) :
  ∃ t',Er (.lst a us) q t=some t'/\t'.val=t.val/\Sf p H0 A0 (if q.isEmpty then m else CG m) (τ.set x (some t')) (L2.upd H1 a (.lst (us.map T.val)))/\Stp m (if q.isEmpty then m else CG m) [x] τ (τ.set x (some t')) H (L2.upd H1 a (.lst (us.map T.val))):=by
 have dom:∀ {j:Nat} {u:T} {d:Md},τ[j]?=some (some u)->m[j]?=some d->d ≠ .dead->∀ b ∈ u.rest 0,H b ≠ none:=fun e hd nd b z=>(S.at e hd nd).dom z
 obtain ⟨ain,aad⟩:=Et q (k:=k) hq (by omega)
 have ek:k - lnP q=(k - 1 - lnP q) + 1:=by omega
 have nds:=Hh q hq (by omega:lnP q<=k) (S.nd x t k hx hm)
 rw [ek] at nds aad
 have ndt:T.Nds ts (k - 1 - lnP q):=by
  obtain ⟨n1,n2⟩:=nds
  simp only [T.adr,T.rest,aaG] at n1 n2
  exact ⟨n1.2,fun b z y=>n2 b z (aab _ y)⟩
 have hxd:∀ b ∈ t.rest 0,H b ≠ none:=dom hx hm (by intro c; cases c)
 have notOwn:∀ b ∈ T.rests es 0,¬ Own m τ b:=fun b z o=>by
  rcases src b z with y | y
  ·obtain ⟨_,vs,e⟩:=S.ownOk o
   rw [e] at y; cases y
  ·exact S.disj o y
 have hm1:∀ (j:Nat) (d:Md),(if q.isEmpty then m else CG m)[j]?=some d->d ≠ .dead->m[j]?=some d/\(q ≠ []->∀ k2,d ≠ .br k2):=by
  intro j d hd nd
  cases q with
  | nil=>exact ⟨hd,fun z=>absurd rfl z⟩
  | cons z r =>
   rcases Mi hd with y | ⟨y1,y2⟩
   ·exact absurd y nd
   ·exact ⟨y1,fun _=>y2⟩
 refine NC (F:=fun b=>b ∈ T.adrs es (k - 1 - lnP q)) (N:=fun b=>b ∈ T.rests es 0) S s hx hm hq hl hus (fun b z=>(T.alls_iff es _).mpr (.inl z)) hA hB ?_ (fun b z y=>hxd b y (new b z).1) (fun b z=>⟨S.same.free (new b z).1,(new b z).2⟩) (fun b z=>.inr (new b z).1)
  (fun b z y=>notOwn b z ⟨x,t,k,hx,hm,y⟩) (fun b z=>?_) ?_ ?_ (fun j d _ hd nd=>hm1 j d hd nd) (fun j u d ne e hd nd b z y=>?_) (fun i u k' ne e hk b z y=>?_)
 ·refine hnd ndt (fun b z y=>?_) (fun b z y=>?_)
  ·exact hxd b (ain b (aab _ y)) (new b z).1
  ·exact notOwn b y ⟨x,t,k,hx,hm,aad b (aab _ z)⟩
 ·rcases src b z with y | y
  ·exact .inl (S.same.free y)
  ·exact S.src b y
 ·split
  ·rfl
  ·unfold CG; rw [aaa]
 ·split
  ·exact hm
  ·exact ND hm
 ·exact dom e (hm1 j d hd nd).1 nd b (T.rest_le u (aaw _) y) (new b z).1
 ·exact notOwn b z ⟨i,u,k',e,(hm1 i _ hk (by intro c; cases c)).1,y⟩
theorem JD {ts:List T} {e:T} {k:Nat} (ne:e.Nd k) (h1:T.Nds ts k) (h2:∀ b ∈ T.adrs [e] k,b ∉ T.rests ts 0) (h3:∀ b ∈ T.adrs ts k,b ∉ T.rests [e] 0):T.Nds (ts ++ [e]) k :=
 T.nds_append h1 (T.nds_cons.mpr ⟨ne,by simp [T.Nds,T.adrs],by simp [T.rests],by simp [T.adrs]⟩) h3 h2
theorem OV {ts us:List T} {k:Nat} (h:us.Perm ts) (n:T.Nds ts k):T.Nds us k:=by
 induction h with
 | nil=>exact n
 | cons x _ ih =>
  rename_i l1 l2 hp
  obtain ⟨a,b,c,d⟩:=T.nds_cons.mp n
  refine T.nds_cons.mpr ⟨a,ih b,fun z hz y=>c z hz ?_,fun z hz=>d z ?_⟩
  ·obtain ⟨w,hw,q⟩:=T.mem_rests.mp y
   exact T.mem_rests.mpr ⟨w,hp.mem_iff.mp hw,q⟩
  ·obtain ⟨w,hw,q⟩:=T.mem_adrs.mp hz
   exact T.mem_adrs.mpr ⟨w,hp.mem_iff.mp hw,q⟩
 | swap x y l =>
  obtain ⟨a,b,c,d⟩:=T.nds_cons.mp n
  obtain ⟨a2,b2,c2,d2⟩:=T.nds_cons.mp b
  simp only [T.rests,T.adrs,aaf,not_or] at c d
  refine T.nds_cons.mpr ⟨a2,T.nds_cons.mpr ⟨a,b2,fun z hz=>(c z hz).2,fun z hz=>d z (.inr hz)⟩,fun z hz=>?_,fun z hz=>?_⟩
  ·simp only [T.rests,aaf,not_or]
   exact ⟨d z (.inl hz),c2 z hz⟩
  ·simp only [T.adrs,aaf] at hz
   rcases hz with hz | hz
   ·exact (c z hz).1
   ·exact d2 z hz
 | trans _ _ i1 i2=>exact i1 (i2 n)
theorem Le {ts us:List T} {k:Nat} (h:us.Sublist ts) (n:T.Nds ts k):T.Nds us k:=by
 induction h with
 | slnil=>exact n
 | cons x _ ih=>exact ih (T.nds_cons.mp n).2.1
 | cons_cons x hs ih =>
  rename_i l1 l2
  obtain ⟨a,b,c,d⟩:=T.nds_cons.mp n
  refine T.nds_cons.mpr ⟨a,ih b,fun z hz y=>c z hz ?_,fun z hz=>d z ?_⟩
  ·obtain ⟨w,hw,q⟩:=T.mem_rests.mp y
   exact T.mem_rests.mpr ⟨w,hs.subset hw,q⟩
  ·obtain ⟨w,hw,q⟩:=T.mem_adrs.mp hz
   exact T.mem_adrs.mpr ⟨w,hs.subset hw,q⟩
end
theorem Iy:∀ (q:List (Bool × E)) (δ:Fr) (c:Nat),evP q δ ≠ .exc c
 | [],δ,c=>by simp [evP]
 | (t,e) :: r,δ,c=>by
  simp only [evP]
  split
  ·cases h:evP r δ with
   | ok is=>simp
   | exc c'=>exact absurd h (Iy r δ c')
   | bad=>simp
  ·simp
theorem JE:∀ (q:List (Bool × E)) {δ:Fr} {b:Bool} {e:E} {is:List (Bool × Int)},evP (q ++ [(b,e)]) δ=.ok is->∃ js i,evP q δ=.ok js/\ev e δ=.ok (.int i)/\is=js ++ [(b,i)]
 | [],δ,b,e,is,h=>by
  simp only [aa0,evP] at h
  split at h
  ·rename_i i he
   simp only [Res.bind_ok] at h
   cases h
   exact ⟨[],i,rfl,he,rfl⟩
  ·cases h
 | (t,e') :: r,δ,b,e,is,h=>by
  simp only [aa7,evP] at h
  split at h
  ·rename_i i' he'
   obtain ⟨js',h1,h2⟩:=Res.bind_eq_ok h
   cases h2
   obtain ⟨js,i,h3,h4,rfl⟩:=JE r h1
   exact ⟨(t,i') :: js,i,by simp only [evP,he',h3,Res.bind_ok],h4,rfl⟩
  ·cases h
theorem FT:∀ (q:List (Bool × Int)) {t s':T} {b:Bool} {i:Int},AK (q ++ [(b,i)]) t=some s'->∃ s,AK q t=some s/\AK [(b,i)] s=some s'
 | [],t,s',b,i,h=>⟨t,rfl,h⟩
 | (c,j) :: r,t,s',b,i,h=>by
  cases c with
  | false =>
   cases t with
   | lst a ts =>
    simp only [aa7,AK] at h ⊢
    obtain ⟨n,h1,h⟩:=bS h
    obtain ⟨u,h2,h⟩:=bS h
    obtain ⟨s,h3,h4⟩:=FT r h
    exact ⟨s,by rw [h1]; simp only [aa6]; rw [h2]; exact h3,h4⟩
   | _=>cases h
  | true =>
   cases t with
   | tup a ts =>
    simp only [aa7,AK] at h ⊢
    obtain ⟨n,h1,h⟩:=bS h
    obtain ⟨u,h2,h⟩:=bS h
    obtain ⟨s,h3,h4⟩:=FT r h
    exact ⟨s,by rw [h1]; simp only [aa6]; rw [h2]; exact h3,h4⟩
   | _=>cases h
theorem Gk {p:Px} {H:Hp}:∀ (q:List (Bool × Int)) {t s:T},t.Ok p H->AK q t=some s->s.Ok p H
 | [],t,s,ok,h=>by cases h; exact ok
 | (c,j) :: r,t,s,ok,h=>by
  cases c with
  | false =>
   cases t with
   | lst a ts =>
    simp only [AK] at h
    obtain ⟨n,h1,h⟩:=bS h
    obtain ⟨u,h2,h⟩:=bS h
    exact Gk r (T.oks_iff.mp ok.2 u (aae h2)) h
   | _=>cases h
  | true =>
   cases t with
   | tup a ts =>
    simp only [AK] at h
    obtain ⟨n,h1,h⟩:=bS h
    obtain ⟨u,h2,h⟩:=bS h
    exact Gk r (T.oks_iff.mp ok.2 u (aae h2)) h
   | _=>cases h
theorem QQ {b:Bool} {i:Int} {s s':T} (h:AK [(b,i)] s=some s'):(∃ a ts,s=.lst a ts/\atI (ts.map T.val) i=some s'.val)\/(∃ a ts,s=.tup a ts/\atI (ts.map T.val) i=some s'.val):=by
 cases b with
 | false =>
  cases s with
  | lst a ts =>
   simp only [AK] at h
   obtain ⟨n,h1,h⟩:=bS h
   obtain ⟨u,h2,h⟩:=bS h
   cases h
   refine .inl ⟨a,ts,rfl,?_⟩
   unfold atI
   rw [aaa,Js,h1]
   show (ts.map T.val)[n]?=_
   rw [aaj,h2]; rfl
  | _=>cases h
 | true =>
  cases s with
  | tup a ts =>
   simp only [AK] at h
   obtain ⟨n,h1,h⟩:=bS h
   obtain ⟨u,h2,h⟩:=bS h
   cases h
   refine .inr ⟨a,ts,rfl,?_⟩
   unfold atI
   rw [aaa,Js,h1]
   show (ts.map T.val)[n]?=_
   rw [aaj,h2]; rfl
  | _=>cases h
noncomputable def PJ (tn:List Nat) (q:List (Bool × E)):Prop:=∀ e ∈ q,(jk tn e.2).isSome=true
noncomputable def lPl (p:Px) (EX:EXT) (tn:List Nat) (x:Nat) (q:List (Bool × E)):TE:=fun σ H Q=>∃ τ t is s,σ=vτ τ/\Fok p tn τ H/\PJ tn q/\τ[x]?=some (some t)/\t.Ok p H/\evP q (dτ τ)=.ok is/\AK is t=some s/\∀ H',Same H H'->Q s.val H'
noncomputable def GO (c:CkC) (x:Nat):List (Bool × E)->Expr->Bool
 | [],.Name y _=>(c.N[x]?==some y) && EY c.sc y && BJ y
 | (_,e) :: r,.Subscript o i _=>GO c x r o && ckE c e i && Dc i
 | _,_=>false
section
variable {p:Px} {c:CkC} {lv:Nat} {X:Cx} {EX:EXT} {tn:List Nat} {pos np:Pos}
theorem PK (C:Ct p c lv X EX) {x:Nat}:∀ {rp:List (Bool × E)} {o:Expr},(∀ e ∈ rp,∀ n ∈ e.2.need,NeedOk p lv X n)->GO c x rp o=true->PE X o (lPl p EX tn x rp.reverse)
 | [],o,hn,h=>by
  cases o with
  | Name y q =>
   obtain ⟨h,h3⟩:=Aa (show ((c.N[x]?==some y) && EY c.sc y && BJ y)=true from h)
   obtain ⟨h1,h2⟩:=Aa h
   obtain ⟨d1,d2⟩:=BZ h3
   refine PE.mono (E2 (by rw [C.N]; exact beq_iff_eq.mp h1) (C.vis h2) d1 d2) fun σ H Q h=>?_
   obtain ⟨τ,t,is,s,rfl,hF,_,ht,ok,e,hs,hq⟩:=h
   simp only [List.reverse_nil,evP] at e
   cases e
   cases hs
   exact ⟨_,Dv ht,hq H (Same.refl _)⟩
  | _=>exact nF h
 | (b,e) :: rp,o,hn,h=>by
  cases o with
  | Subscript o' i q =>
   obtain ⟨h,h3⟩:=Aa (show (GO c x rp o' && ckE c e i && Dc i)=true from h)
   obtain ⟨h1,h2⟩:=Aa h
   have A:=PK C (rp:=rp) (o:=o') (fun e he=>hn e (aab _ he)) h1
   have B:=(snd e C (tn:=tn) i (hn (b,e) (aac ..)) h2).1
   refine PE.mono (LM (HF.or M2) A B (FK h3)) fun σ H Q h=>?_
   rw [abH] at h
   obtain ⟨τ,t,is,s,rfl,hF,hj,ht,ok,ev1,hs,hq⟩:=h
   obtain ⟨js,n,e1,e2,rfl⟩:=JE _ ev1
   obtain ⟨s1,hs1,hs2⟩:=FT _ hs
   refine ⟨τ,t,js,s1,rfl,hF,fun e he=>hj e (aax _ he),ht,ok,e1,hs1,fun H1 sm=>?_⟩
   obtain ⟨⟨j,k⟩,hj'⟩:=aaz.mp (hj (b,e) (aan _ (aaO.mpr rfl)))
   refine ⟨τ,rfl,hF.same sm,j,k,hj',?_⟩
   rw [e2]
   intro t2 H2 ht2 R
   have hv:t2.val=.int n:=by cases t2 <;> simp [T.dat] at ht2 <;> simp [T.val,ht2]
   rw [hv]
   have ok1:=(Gk _ ok hs1).same (sm.trans R.same)
   rcases QQ hs2 with ⟨a,ts,rfl,at1⟩ | ⟨a,ts,rfl,at1⟩
   ·exact .inl ⟨a,_,n,_,rfl,rfl,.inl ok1.1,at1,hq H2 (sm.trans R.same)⟩
   ·exact .inr ⟨a,_,n,_,rfl,rfl,SqT.of ok1.1,at1,hq H2 (sm.trans R.same)⟩
  | _=>exact nF h
theorem FV {m:Ms}:∀ {q:List (Bool × E)},E9 m q=true->PJ (tnM m) q
 | [],_=>fun e he=>nomatch he
 | (b,e) :: r,h=>by
  obtain ⟨h1,h2⟩:=Aa (show ((jk (tnM m) e).isSome && E9 m r)=true from h)
  intro e' he
  rcases aal.mp he with rfl | he
  ·exact h1
  ·exact FV h2 e' he
theorem NE:∀ {q:List (Bool × E)} {δ:Fr} {is:List (Bool × Int)},evP q δ=.ok is->lnP is=lnE q/\is.isEmpty=q.isEmpty
 | [],δ,is,h=>by simp only [evP] at h; cases h; exact ⟨rfl,rfl⟩
 | (b,e) :: r,δ,is,h=>by
  simp only [evP] at h
  split at h
  ·obtain ⟨js,h1,h2⟩:=Res.bind_eq_ok h
   cases h2
   have:=(NE h1).1
   cases b <;> simp [lnP,lnE,this]
  ·cases h
theorem QR {δ:Fr} {x:Nat} {f:D->Option D} {Z:Zx} {m:Ms} {r:Option Ms} {w:List Nat} {τ:Ft} {H:Hp} {En:Ends} (h:lOut Z m r w (upd (dτ τ) x f) τ H En):∃ t d',τ[x]?=some (some t)/\f t.dat=some d'/\lOut Z m r w (.nxt ((dτ τ).set x (some d'))) τ H En:=by
 unfold upd at h
 cases q:(dτ τ)[x]? with
 | none=>rw [q] at h; exact nE h
 | some o =>
  rw [q] at h
  cases o with
  | none=>exact nE h
  | some d =>
   have:get (dτ τ) x=.ok d:=by unfold get; rw [q]
   obtain ⟨t,ht,rfl⟩:=Ec this
   simp only at h
   cases q2:f t.dat with
   | none=>rw [q2] at h; exact nE h
   | some d'=>rw [q2] at h; exact ⟨t,d',ht,q2,h⟩
end
theorem FW {α β:Type} (f:α->β):∀ (l:List α) (i:Nat),(l.eraseIdx i).map f=(l.map f).eraseIdx i
 | [],_=>rfl
 | _ :: _,0=>rfl
 | a :: l,i + 1=>by simp [FW f l i]
theorem OW {τ:Ft} {x:Nat} {t t':T} (h:τ[x]?=some (some t)) (e:t'.val=t.val):vτ (τ.set x (some t'))=vτ τ:=by
 rw [Gh,e]
 refine ab8 fun i=>?_
 by_cases z:x=i
 ·subst z
  rw [abk,Dv h]; rfl
 ·rw [aaB z]
theorem OX {H:Hp} {a:Addr} {vs:List V} (h:Rd H a (.lst vs)) (hp:∃ ws,H a=some (.lst ws)):H a=some (.lst vs):=by
 obtain ⟨ws,e⟩:=hp
 rw [e,Hc h (.inl e)]
section
variable {Z:Zx} {m:Ms} {r:Option Ms} {w:List Nat} {τ:Ft} {H:Hp} {D:Ends} {X:Cx} {pos:Pos} {σ:L2.St}
theorem Lf {K:Frag} {H:Hp} {a:Addr} {vs:List V} (h:H a=some (.lst vs)):tyV K "list" (.ref a) H:=.inl ⟨rfl,_,SqL.of h⟩
theorem JF {x:Nat} {q:List (Bool × E)} {u:Um} {es:Es} {k:Nat} (S:Sf Z.p Z.H0 Z.A0 m τ H) (hmx:m[x]?=some (.ow k)) (c2:lnE q < k) (c4:E9 m q=true) (h:lOut Z m r [x] (ex (.mut x q u es) (dτ τ)) τ H D) :
  ∃ t is ds a ts ds',τ[x]?=some (some t)/\evP q (dτ τ)=.ok is/\evs es (dτ τ)=.ok ds/\AK is t=some (.lst a ts)/\lnP is=lnE q/\is.isEmpty=q.isEmpty/\umD u ds (T.dats ts)=some ds' /\
   (∀ H3,Same H H3->H3 a=some (.lst (ts.map T.val))/\T.Oks Z.p H3 ts/\a ∈ t.adr k) /\
   (∀ us m' H3 t',T.dats us=ds'->r=some m'->Er (.lst a us) is t=some t'->t'.val=t.val->Sf Z.p Z.H0 Z.A0 m' (τ.set x (some t')) (L2.upd H3 a (.lst (us.map T.val)))->Stp m m' [x] τ (τ.set x (some t')) H (L2.upd H3 a (.lst (us.map T.val)))->D.nx (vτ τ) (L2.upd H3 a (.lst (us.map T.val)))):=by
 simp only [ex] at h
 cases ep:evP q (dτ τ) with
 | exc c=>exact absurd ep (Iy _ _ _)
 | bad=>rw [ep] at h; exact nE h
 | ok is =>
 rw [ep] at h
 cases ee:evs es (dτ τ) with
 | exc c=>rw [ee] at h; exact nE h
 | bad=>rw [ee] at h; exact nE h
 | ok ds =>
 rw [ee] at h
 simp only at h
 obtain ⟨t,d',ht,hu,h⟩:=QR (δ:=dτ τ) h
 obtain ⟨a,ts,ds',hs,hf,hd'⟩:=HL is hu
 obtain ⟨l1,l2⟩:=NE ep
 refine ⟨t,is,ds,a,ts,ds',ht,rfl,rfl,hs,l1,l2,hf,fun H3 sH3=>?_,fun us m' H3 t' e1 e2 p1 p2 S4 P4=>?_⟩
 ·have S3:=S.grow sH3
  have hl:lnP is < k:=by rw [l1]; exact c2
  have aadr:a ∈ t.adr k:=(Et is (k:=k) hs (by omega)).2 a (by
   have:k - lnP is=(k - lnP is - 1) + 1:=by omega
   rw [this]; exact aac ..)
  have okt:=Gk _ (S3.at ht hmx (by intro c; cases c)) hs
  exact ⟨OX okt.1 (S3.own x t k a ht hmx aadr).2,okt.2,aadr⟩
 ·have:=h m' _ _ e2 (by rw [Gg,hd' us t' e1 p1]) S4 P4
  rw [OW ht p2] at this
  exact this
noncomputable def rUm:Um->V->List V->Hp->VK->Prop
 | .append=>Gb
 | .extend=>fun x vs H Q=>∃ l b xs zs,x=.ref l/\vs=[.ref b]/\H l=some (.lst xs)/\Rd H b (.lst zs)/\xs.length + zs.length<=sizeLine/\Q .non (L2.upd H l (.lst (xs ++ zs)))
 | .pop=>Sg
 | .popAt=>M4
 | .clear=>M5
 | .reverse=>Jl
 | .insert=>K3
noncomputable def OY:V->List V->Hp->VK->Prop:=fun x vs H Q=>∃ l b xs zs,x=.ref l/\vs=[.ref b]/\H l=some (.lst xs)/\Rd H b (.lst zs)/\xs.length + zs.length<=sizeLine/\Q .non (L2.upd H l (.lst (xs ++ zs)))
end
section
variable {X:Cx}
theorem Mj:MtM X "list.extend" OY:=by
 intro pins s σ H x vs v us Q I rx rv h
 obtain ⟨l,b,xs,zs,rfl,rfl,hH,hB,hz,q⟩:=h
 cases rx
 obtain ⟨u,rfl,ru⟩:=rv.one
 cases ru
 obtain ⟨z,its,n,r,hl,e⟩:=I.lstM hH
 obtain ⟨z2,its2,n2,r2,hl2,e2⟩:=Inv.lstR I hB
 have hsz:its.toArray.size + its2.toArray.size<=sizeLine:=by rw [aap,aap]; omega
 have hlong:¬ (!its.toArray.isEmpty && Builtin.List.listTooLong (its.toArray.size + its2.toArray.size))=true:=by
  rw [Jk hsz,ab3]
  exact aaW
 refine call_meets F.slot_list_extend ⟨_,e,rfl⟩ F.entry_list_extend (F.args_list_extend_2 _ _)
  (AutoSeq1.list_extend_list_list_0 l its.toArray n b its2.toArray n2 hlong (by rw [aap]; omega) (by omega)) ⟨e,e2,?_⟩
 refine ⟨.non,_,I.lset (its':=its ++ its2) hH e (by simp) (r.append r2) ?_,rfl,q⟩
 rw [aav]
 omega
end
section
variable {Z:Zx} {m:Ms} {r:Option Ms} {w:List Nat} {τ:Ft} {H:Hp} {D:Ends} {X:Cx} {pos:Pos} {σ:L2.St}
theorem QS {x:Nat} {q:List (Bool × E)} {u:Um} {es:Es} {k:Nat} (hK:X.K=Z.p.K) (S:Sf Z.p Z.H0 Z.A0 m τ H) (hmx:m[x]?=some (.ow k)) (c2:lnE q < k) (c4:E9 m q=true) {j1 k1:Nat} (h1:jks (tnM m) es=some (j1,k1))
  (hc:(j1=0\/(u=.extend/\j1<=1))/\(k - 1 - lnE q=0\/(u.kind=1/\k - 1 - lnE q<=k1)\/(u.kind=2/\k - lnE q<=k1)\/u.kind=0)) (hr:r=some (if q.isEmpty then m else CG m)) (h:lOut Z m r [x] (ex (.mut x q u es) (dτ τ)) τ H D) :
  lPl Z.p Z.EX (tnM m) x q (vτ τ) H fun v H1=>tyV X.K "list" v H1/\lEs Z.p Z.EX (tnM m) es (vτ τ) H1 fun vs H2=>rUm u v vs H2 fun _ H3=>D.nx (vτ τ) H3:=by
 obtain ⟨t,is,ds,a,ts,ds',ht,ep,ee,hs,l1,l2,hf,hpl,hnx⟩:=JF S hmx c2 c4 h
 subst hr
 refine ⟨τ,t,is,.lst a ts,rfl,S.ok,FV c4,ht,S.at ht hmx (by intro c; cases c),ep,hs,fun H1 s1=>⟨Lf (hpl H1 s1).1,?_⟩⟩
 refine ⟨τ,rfl,S.ok.same s1,j1,k1,h1,?_⟩
 rw [ee]
 intro tes H2 hte R
 subst hte
 have s2:Same H H2:=s1.trans R.same
 obtain ⟨p0,okt,aadr⟩:=hpl H2 s2
 have hl:lnP is < k:=by rw [l1]; exact c2
 have fin:∀ us es',T.dats us=ds'->T.Oks Z.p H2 us->(∀ b ∈ T.adrs us (k - 1 - lnP is),b ∈ T.adrs ts (k - 1 - lnP is)\/b ∈ T.adrs es' (k - 1 - lnP is))->(∀ b ∈ T.rests us (k - 1 - lnP is),b ∈ T.rests ts (k - 1 - lnP is)\/b ∈ T.rests es' 0) ->
   (T.Nds ts (k - 1 - lnP is)->(∀ b ∈ T.adrs es' (k - 1 - lnP is),b ∉ T.rests ts 0)->(∀ b ∈ T.adrs ts (k - 1 - lnP is),b ∉ T.rests es' 0)->T.Nds us (k - 1 - lnP is))->(∀ b ∈ T.rests es' 0,H b=none\/Sh (tnM m) τ b)->(∀ b ∈ T.adrs es' (k - 1 - lnP is),H b=none/\∃ vs,H2 b=some (.lst vs)) ->
   D.nx (vτ τ) (L2.upd H2 a (.lst (us.map T.val))):=by
  intro us es' e1 e2 e3 e4 e5 e6 e7
  obtain ⟨t',p1,p2,S4,P4⟩:=SV (us:=us) (es:=es') S s2 ht hmx hs hl e2 e3 e4 e5 e6 e7
  rw [l2] at S4 P4
  exact hnx us _ H2 t' e1 rfl p1 p2 S4 P4
 have hz:ts.length<=sizeLine\/True:=.inr trivial
 cases u with
 | append =>
  rcases tes with _ | ⟨te,_ | ⟨te2,ter⟩⟩
  ·cases hf
  ·simp only [T.dats,umD] at hf
   obtain ⟨hlt,rfl⟩:=AB hf
   have hj:j1=0:=by
    rcases hc.1 with z | ⟨z,_⟩
    ·exact z
    ·cases z
   subst hj
   have hk1:k - 1 - lnP is<=k1\/k - 1 - lnP is=0:=by
    rw [l1]
    rcases hc.2 with z | ⟨_,z⟩ | ⟨z,_⟩ | z
    ·exact .inr z
    ·exact .inl z
    ·cases z
    ·cases z
   refine ⟨a,_,te.val,rfl,rfl,p0,by rw [aaa,<- Ac]; exact hlt,?_⟩
   have:=fin (ts ++ [te]) [te] (by rw [T.dats_map,aao,<- T.dats_map]; rfl) (T.oks_iff.mpr fun w hw=>by
     rcases aaf.mp hw with z | z
     ·exact T.oks_iff.mp okt w z
     ·exact T.oks_iff.mp R.ok w z)
    (fun b z=>by rw [T.adrs_append,aaf] at z; exact z) (fun b z=>by
     rw [T.rests_append,aaf] at z
     refine z.imp id fun z=>?_
     simp only [T.rests,aaJ] at z ⊢
     exact T.rest_le te (aaw _) z)
    (fun n1 n2 n3=>JD (by
     rcases hk1 with z | z
     ·exact (T.nds_le z R.nd:T.Nds [te] _) |> fun w=>(T.nds_cons.mp w).1
     ·rw [z]; exact T.nd_zero te) n1 n2 n3)
    (fun b z=>(R.src b z).imp s1.free id) (fun b z=>by
     rcases hk1 with y | y
     ·obtain ⟨w,hw,z⟩:=T.mem_adrs.mp z
      have:=R.new b (T.mem_adrs.mpr ⟨w,hw,T.adr_le w y z⟩)
      exact ⟨s1.free this.1,this.2⟩
     ·rw [y,T.adrs_zero] at z; cases z)
   rw [aao] at this
   exact this
  ·have:umD .append (T.dats (te :: te2 :: ter)) (T.dats ts)=none:=rfl
   rw [this] at hf; cases hf
 | extend =>
  rcases tes with _ | ⟨te,_ | ⟨te2,ter⟩⟩
  ·cases hf
  ·cases te with
   | lst b0 es' =>
    simp only [T.dats,T.dat,umD] at hf
    obtain ⟨hlt,rfl⟩:=AB hf
    have hj:j1<=1:=by
     rcases hc.1 with z | ⟨_,z⟩
     ·omega
     ·exact z
    have hk1:k - 1 - lnP is + 1<=k1\/k - 1 - lnP is=0:=by
     rw [l1]
     rcases hc.2 with z | ⟨z,_⟩ | ⟨_,z⟩ | z
     ·exact .inr z
     ·cases z
     ·exact .inl (by omega)
     ·cases z
    refine ⟨a,b0,_,_,rfl,rfl,p0,R.ok.1.1,by rw [aaa,aaa,<- Ac,<- Ac]; exact hlt,?_⟩
    have nde:T.Nds es' (k - 1 - lnP is):=by
     rcases hk1 with z | z
     ·obtain ⟨n1,n2⟩:=(T.nds_cons.mp (T.nds_le z R.nd)).1
      simp only [T.adr,T.rest,aaG] at n1 n2
      exact ⟨n1.2,fun b y w=>n2 b y (aab _ w)⟩
     ·rw [z]; exact T.nds_zero _
    have:=fin (ts ++ es') es' (by rw [T.dats_map,aao,<- T.dats_map,<- T.dats_map]) (T.oks_iff.mpr fun w hw=>by
      rcases aaf.mp hw with z | z
      ·exact T.oks_iff.mp okt w z
      ·exact T.oks_iff.mp R.ok.1.2 w z)
     (fun b z=>by rw [T.adrs_append,aaf] at z; exact z) (fun b z=>by
      rw [T.rests_append,aaf] at z
      refine z.imp id fun z=>?_
      obtain ⟨w,hw,z2⟩:=T.mem_rests.mp z
      exact T.mem_rests.mpr ⟨w,hw,T.rest_le w (aaw _) z2⟩)
     (fun n1 n2 n3=>T.nds_append n1 nde n3 n2)
     (fun b z=>(R.src b (by
      simp only [T.rests,aaJ]
      exact T.rest_le (.lst b0 es') hj (j':=1) z)).imp s1.free id) (fun b z=>by
      rcases hk1 with y | y
      ·have:=R.new b (T.mem_adrs.mpr ⟨.lst b0 es',aaO.mpr rfl,T.adr_le (.lst b0 es') y (aab _ z)⟩)
       exact ⟨s1.free this.1,this.2⟩
      ·rw [y,T.adrs_zero] at z; cases z)
    rw [aao] at this
    exact this
   | _=>cases hf
  ·have:umD .extend (T.dats (te :: te2 :: ter)) (T.dats ts)=none:=rfl
   rw [this] at hf; cases hf
 | insert =>
  rcases tes with _ | ⟨te1,_ | ⟨te,_ | ⟨te3,ter⟩⟩⟩
  ·cases hf
  ·cases te1 <;> cases hf
  ·cases te1 with
   | int i =>
    simp only [T.dats,T.dat,umD,Py] at hf
    obtain ⟨hlt,rfl⟩:=AB hf
    have hj:j1=0:=by
     rcases hc.1 with z | ⟨z,_⟩
     ·exact z
     ·cases z
    subst hj
    have hk0:k - 1 - lnP is=0:=by
     rw [l1]
     rcases hc.2 with z | ⟨z,_⟩ | ⟨z,_⟩ | z
     ·exact z
     ·cases z
     ·cases z
     ·cases z
    have hlen:(T.dats ts).length=(ts.map T.val).length:=by rw [Ac,aaa]
    have hpos:FI (T.dats ts).length i=L2.GH (ts.map T.val).length i:=by
     rw [hlen]
     unfold FI L2.GH
     split <;> omega
    refine ⟨a,_,i,te.val,rfl,rfl,p0,hlt.2.1,hlt.2.2,by rw [<- hlen]; exact hlt.1,?_⟩
    rw [<- hpos]
    generalize FI (T.dats ts).length i=n at *
    have:=fin (ts.take n ++ te :: ts.drop n) [te] (by rw [T.dats_map,T.dats_map,aao,aaE,abB,abC]) (T.oks_iff.mpr fun w hw=>by
      rcases aaf.mp hw with z | z
      ·exact T.oks_iff.mp okt w (abz z)
      ·rcases aal.mp z with rfl | z
       ·exact T.oks_iff.mp R.ok w (by simp)
       ·exact T.oks_iff.mp okt w (aby z))
     (fun b z=>by rw [hk0,T.adrs_zero] at z; cases z) (fun b z=>by
      rw [hk0] at z ⊢
      obtain ⟨w,hw,z2⟩:=T.mem_rests.mp z
      rcases aaf.mp hw with y | y
      ·exact .inl (T.mem_rests.mpr ⟨w,abz y,z2⟩)
      ·rcases aal.mp y with rfl | y
       ·exact .inr (T.mem_rests.mpr ⟨w,aaO.mpr rfl,z2⟩)
       ·exact .inl (T.mem_rests.mpr ⟨w,aby y,z2⟩))
     (fun _ _ _=>by rw [hk0]; exact T.nds_zero _)
     (fun b z=>(R.src b (by
      obtain ⟨w,hw,z2⟩:=T.mem_rests.mp z
      exact T.mem_rests.mpr ⟨w,aab _ hw,z2⟩)).imp s1.free id) (fun b z=>by rw [hk0,T.adrs_zero] at z; cases z)
    rw [aao,aaE,abB,abC] at this
    exact this
   | _=>cases hf
  ·have:umD .insert (T.dats (te1 :: te :: te3 :: ter)) (T.dats ts)=none:=by cases te1 <;> rfl
   rw [this] at hf; cases hf
 | pop =>
  rcases tes with _ | ⟨te,ter⟩
  ·simp only [T.dats,umD] at hf
   split at hf
   ·cases hf
   ·rename_i hne
    cases hf
    have hlen:0 < ts.length:=by
     rcases ab4 ts.length with z | z
     ·exact absurd (by rw [ab0 z]; rfl) hne
     ·exact z
    refine ⟨a,_,(ts.map T.val)[(ts.map T.val).length - 1]'(by simp; omega),rfl,rfl,p0,aah (by simp; omega),?_⟩
    have:=fin ts.dropLast [] (by rw [T.dats_map,T.dats_map,acD]) (T.oks_iff.mpr fun w hw=>T.oks_iff.mp okt w (abU _ hw))
     (fun b z=>by
      obtain ⟨w,hw,z2⟩:=T.mem_adrs.mp z
      exact .inl (T.mem_adrs.mpr ⟨w,abU _ hw,z2⟩)) (fun b z=>by
      obtain ⟨w,hw,z2⟩:=T.mem_rests.mp z
      exact .inl (T.mem_rests.mpr ⟨w,abU _ hw,z2⟩))
     (fun n1 _ _=>Le (List.dropLast_sublist ts) n1) (fun b z=>nomatch z) (fun b z=>nomatch z)
    rw [acD] at this
    exact this
  ·have:umD .pop (T.dats (te :: ter)) (T.dats ts)=none:=rfl
   rw [this] at hf; cases hf
 | popAt =>
  rcases tes with _ | ⟨te,_ | ⟨te2,ter⟩⟩
  ·cases hf
  ·cases te with
   | int i =>
    simp only [T.dats,T.dat,umD,un1,K4] at hf
    split at hf
    ·rename_i hb
     obtain ⟨j,hj,rfl⟩:=aam.mp hf
     rw [Ac] at hj
     obtain ⟨q1,q2,_,_⟩:=L2.KT (n:=ts.length) (i:=i) (j:=j) hj
     refine ⟨a,_,i,j,(ts.map T.val)[j]'(by simpa using q2),rfl,rfl,p0,hb.1,hb.2,by rw [aaa]; exact q1,aah (by simpa using q2),?_⟩
     have sub:∀ w ∈ ts.eraseIdx j,w ∈ ts:=fun w hw=>(acn ts j).subset hw
     have:=fin (ts.eraseIdx j) [] (by rw [T.dats_map,T.dats_map,FW]) (T.oks_iff.mpr fun w hw=>T.oks_iff.mp okt w (sub w hw))
      (fun b z=>by
       obtain ⟨w,hw,z2⟩:=T.mem_adrs.mp z
       exact .inl (T.mem_adrs.mpr ⟨w,sub w hw,z2⟩)) (fun b z=>by
       obtain ⟨w,hw,z2⟩:=T.mem_rests.mp z
       exact .inl (T.mem_rests.mpr ⟨w,sub w hw,z2⟩))
      (fun n1 _ _=>Le (acn ts j) n1) (fun b z=>nomatch z) (fun b z=>nomatch z)
     rw [FW] at this
     exact this
    ·cases hf
   | _=>cases hf
  ·have:umD .popAt (T.dats (te :: te2 :: ter)) (T.dats ts)=none:=rfl
   rw [this] at hf; cases hf
 | clear =>
  rcases tes with _ | ⟨te,ter⟩
  ·cases hf
   refine ⟨a,_,rfl,rfl,p0,?_⟩
   exact fin [] [] rfl trivial (fun b z=>nomatch z) (fun b z=>nomatch z) (fun n1 _ _=>by simp [T.Nds,T.adrs]) (fun b z=>nomatch z) (fun b z=>nomatch z)
  ·have:umD .clear (T.dats (te :: ter)) (T.dats ts)=none:=rfl
   rw [this] at hf; cases hf
 | reverse =>
  rcases tes with _ | ⟨te,ter⟩
  ·cases hf
   refine ⟨a,_,rfl,rfl,p0,?_⟩
   have:=fin ts.reverse [] (by rw [T.dats_map,T.dats_map,List.map_reverse]) (T.oks_iff.mpr fun w hw=>T.oks_iff.mp okt w (abN.mp hw))
    (fun b z=>by
     obtain ⟨w,hw,z2⟩:=T.mem_adrs.mp z
     exact .inl (T.mem_adrs.mpr ⟨w,abN.mp hw,z2⟩)) (fun b z=>by
     obtain ⟨w,hw,z2⟩:=T.mem_rests.mp z
     exact .inl (T.mem_rests.mpr ⟨w,abN.mp hw,z2⟩))
    (fun n1 _ _=>OV (List.reverse_perm ts) n1) (fun b z=>nomatch z) (fun b z=>nomatch z)
   rw [List.map_reverse] at this
   exact this
  ·have:umD .reverse (T.dats (te :: ter)) (T.dats ts)=none:=rfl
   rw [this] at hf; cases hf
end
section
variable {p:Px} {H0:Hp} {A0:Addr->Prop} {m:Ms} {τ:Ft} {H H1:Hp}
theorem T8 {y ky:Nat} {ty:T} (S:Sf p H0 A0 (m.set y .dead) τ H) (hy:τ[y]?=some (some ty)) (hm:y < m.length) (h90:ky < 90) (ok:ty.Ok p H) (src:∀ a ∈ ty.rest ky,H0 a=none\/A0 a)
  (sep:∀ (i:Nat) (t:T) (k:Nat),τ[i]?=some (some t)->(m.set y .dead)[i]?=some (.ow k)->∀ a ∈ t.adr k,a ∉ ty.rest ky) (top:∀ (i:Nat) (t:T) (k:Nat),τ[i]?=some (some t)->(m.set y .dead)[i]?=some (.ow k)->∀ a ts,t=.lst a ts->a ∉ ty.rest 0):Sf p H0 A0 (m.set y (.br ky)) τ H:=by
 have back:∀ {i:Nat} {d:Md},(m.set y (.br ky))[i]?=some d->(i=y/\d=.br ky)\/(i ≠ y/\(m.set y .dead)[i]?=some d):=by
  intro i d h
  rcases Ad h with z | ⟨z1,z2⟩
  ·exact .inl z
  ·exact .inr ⟨z1,by rw [aaB (Ne.symm z1)]; exact z2⟩
 have ow':∀ {i k:Nat},(m.set y (.br ky))[i]?=some (.ow k)->(m.set y .dead)[i]?=some (.ow k):=by
  intro i k h
  rcases back h with ⟨_,z⟩ | ⟨_,z⟩
  ·cases z
  ·exact z
 refine ⟨by have:=S.len; rw [aa1] at this ⊢; exact this,fun d hd=>?_,S.same,fun i t j e ej l=>?_,fun i t k a e hk q=>S.own i t k a e (ow' hk) q,fun a sh=>?_,fun i t k e hk=>S.nd i t k e (ow' hk),fun i j t u k d ne e hk e' hd nd a q=>?_,fun i j t u k k2 e hk e' hd a ts z=>?_⟩
 ·obtain ⟨i,hi,rfl⟩:=abj hd
  rcases back (aah hi) with ⟨_,z⟩ | ⟨_,z⟩
  ·rw [z]; exact decide_eq_true h90
  ·exact S.small _ (aae z)
 ·obtain ⟨d,hd,rfl⟩:=Bb ej
  rcases back hd with ⟨rfl,z⟩ | ⟨_,z⟩
  ·rw [hy] at e; cases e; exact ok
  ·exact S.ok i t _ e (AQ z) l
 ·obtain ⟨i,t,j,e,ej,l,q⟩:=sh
  obtain ⟨d,hd,rfl⟩:=Bb ej
  rcases back hd with ⟨rfl,z⟩ | ⟨_,z⟩
  ·rw [hy] at e; cases e; subst z; exact src a q
  ·exact S.src a ⟨i,t,_,e,AQ z,l,q⟩
 ·rcases back hd with ⟨rfl,z⟩ | ⟨_,z⟩
  ·rw [hy] at e'; cases e'; subst z; exact sep i t k e (ow' hk) a q
  ·exact S.sep i j t u k d ne e (ow' hk) e' z nd a q
 ·rcases back hd with ⟨rfl,z'⟩ | ⟨_,z'⟩
  ·rw [hy] at e'; cases e'; exact top i t k e (ow' hk) a ts z
  ·exact S.top i j t u k k2 e (ow' hk) e' z' a ts z
theorem QT {x y k ky:Nat} {ty:T} {a:Addr} {ts:List T} (S:Sf p H0 A0 m τ H) (s:Same H H1) (hx:τ[x]?=some (some (.lst a ts))) (hm:m[x]?=some (.ow k)) (hy:τ[y]?=some (some ty)) (hmy:m[y]?=some (.ow ky)) (hne:y ≠ x) (hk:k - 1<=ky) :
  Sf p H0 A0 (m.set y (.br ky)) (τ.set x (some (.lst a (ts ++ [ty])))) (L2.upd H1 a (.lst ((ts ++ [ty]).map T.val)))/\Stp m (m.set y (.br ky)) [x] τ (τ.set x (some (.lst a (ts ++ [ty])))) H (L2.upd H1 a (.lst ((ts ++ [ty]).map T.val))):=by
 have S1:=S.grow s
 have sm:0 < k/\k < 90:=of_decide_eq_true (S.small _ (aae hm))
 have smy:0 < ky/\ky < 90:=of_decide_eq_true (S.small _ (aae hmy))
 have no:∀ {k0:Nat},Md.ow k0 ≠ .dead:=by intro k0 c; cases c
 have hyl:y < m.length:=(aaq.mp hmy).1
 have sxy:∀ b ∈ (T.lst a ts).adr k,b ∉ ty.rest 0:=S.sep x y _ ty k _ (Ne.symm hne) hx hm hy hmy no
 have syx:∀ b ∈ ty.adr ky,b ∉ (T.lst a ts).rest 0:=S.sep y x ty _ ky _ hne hy hmy hx hm no
 obtain ⟨k',rfl⟩:∃ k',k=k' + 1:=⟨k - 1,by omega⟩
 have aadr:a ∈ (T.lst a ts).adr (k' + 1):=aac ..
 have ndx:=S.nd x _ _ hx hm
 have ndt:T.Nds ts k':=by
  obtain ⟨n1,n2⟩:=ndx
  simp only [T.adr,T.rest,aaG] at n1 n2
  exact ⟨n1.2,fun b z y=>n2 b z (aab _ y)⟩
 have hk':k'<=ky:=by omega
 have okx:=S1.at hx hm no
 have oky:=S1.at hy hmy no
 have e0:k' + 1 - 1 - lnP []=k':=by simp [lnP]
 obtain ⟨t',p1,p2,S2,P2⟩:=NC (F:=fun b=>b ∈ ty.adr k') (N:=fun b=>b ∈ ty.rest 0) (m1:=m.set y .dead) (us:=ts ++ [ty]) (q:=[]) S s hx hm rfl (by simp [lnP])
  (T.oks_iff.mpr fun w hw=>by
   rcases aaf.mp hw with z | z
   ·exact T.oks_iff.mp okx.2 w z
   ·cases aaO.mp z; exact oky)
  (fun b z=>(T.all_iff ty k').mpr (.inl z))
  (by
   rw [e0]
   intro b z
   rw [T.adrs_append,aaf] at z
   exact z.imp id fun z=>by simpa [T.adrs] using z)
  (by
   rw [e0]
   intro b z
   rw [T.rests_append,aaf] at z
   exact z.imp id fun z=>T.rest_le ty (aaw k') (by simpa [T.rests] using z))
  (by
   rw [e0]
   exact JD (T.nd_le ty hk' (S.nd y ty ky hy hmy)) ndt (fun b z w=>syx b (T.adr_le ty hk' (by simpa [T.adrs] using z)) (aab _ w)) (fun b z w=>sxy b (aab _ z) (by simpa [T.rests] using w)))
  (fun b z=>syx b (T.adr_le ty hk' z)) (fun b z=>S1.own y ty ky b hy hmy (T.adr_le ty hk' z)) (fun b z=>.inl ⟨y,ty,ky,hy,hmy,T.adr_le ty hk' z⟩) (fun b z w=>sxy b w z)
  (fun b z=>by
   rcases (T.all_iff ty ky).mp z with w | w
   ·exact .inl (S.own y ty ky b hy hmy w).1
   ·exact S.src b ⟨y,ty,ky,hy,AQ hmy,smy.2,w⟩)
  (by rw [aa1]) (by rw [aaB hne]; exact hm)
  (fun j d ne hd nd=>by
   rcases Ad hd with ⟨_,z⟩ | ⟨_,z⟩
   ·exact absurd z nd
   ·exact ⟨z,fun w=>absurd rfl w⟩)
  (fun j u d ne e hd nd b z=>by
   rcases Ad hd with ⟨_,w⟩ | ⟨w,hd⟩
   ·exact absurd w nd
   ·exact S.sep y j ty u ky d (Ne.symm w) hy hmy e hd nd b (T.adr_le ty hk' z))
  (fun i u k2 ne e hk2 b z w=>by
   rcases Ad hk2 with ⟨_,w'⟩ | ⟨w',hk2⟩
   ·cases w'
   ·exact S.sep i y u ty k2 _ w' e hk2 hy hmy no b w z)
 cases p1
 have hy':(τ.set x (some (.lst a (ts ++ [ty]))))[y]?=some (some ty):=by rw [aaB (Ne.symm hne)]; exact hy
 have atop:a ∉ ty.rest 0:=sxy a aadr
 refine ⟨T8 S2 hy' hyl smy.2 ?_ (fun b z=>S.src b ⟨y,ty,ky,hy,AQ hmy,smy.2,z⟩) (fun i t k2 e hk2 b z w=>?_) (fun i t k2 e hk2 b cs z=>?_),P2.keep,fun b o=>P2.grow b ?_,P2.wr⟩
 ·refine Dy (H:=H1) (fun b w e n=>by rw [Ap n]; exact e) (S1.own x _ _ a hx hm aadr).2 oky atop
 ·rcases Ad e with ⟨rfl,e2⟩ | ⟨n1,e1⟩
  ·cases e2
   rcases Ad hk2 with ⟨w',_⟩ | ⟨_,hk2⟩
   ·exact hne w'.symm
   ·rw [hm] at hk2
    cases hk2
    simp only [T.adr,T.adrs_append,T.adrs,aal,aaf,aaJ] at z
    rcases z with rfl | z | z
    ·exact atop (T.rest_le ty (aaw _) w)
    ·exact sxy b (aab _ z) (T.rest_le ty (aaw _) w)
    ·exact (S.nd y ty ky hy hmy).2 b w (T.adr_le ty hk' z)
  ·rcases Ad hk2 with ⟨_,w'⟩ | ⟨w',hk2⟩
   ·cases w'
   ·exact S.sep i y t ty k2 _ w' e1 hk2 hy hmy no b z (T.rest_le ty (aaw _) w)
 ·rcases Ad e with ⟨rfl,e2⟩ | ⟨n1,e1⟩
  ·cases e2
   cases z
   exact atop
  ·rcases Ad hk2 with ⟨_,w'⟩ | ⟨w',hk2⟩
   ·cases w'
   ·subst z
    have:=of_decide_eq_true (S.small _ (aae hk2))
    refine S.sep i y _ ty k2 _ w' e1 hk2 hy hmy no b ?_
    obtain ⟨k3,rfl⟩:∃ k3,k2=k3 + 1:=⟨k2 - 1,by omega⟩
    exact aac ..
 ·obtain ⟨i,t,k2,e,hk2,z⟩:=o
  refine ⟨i,t,k2,e,?_,z⟩
  rcases Ad hk2 with ⟨_,w'⟩ | ⟨w',hk2⟩
  ·cases w'
  ·rw [aaB (Ne.symm w')]; exact hk2
end
section
variable {Z:Zx} {m:Ms} {r:Option Ms} {τ:Ft} {H:Hp} {D:Ends} {X:Cx}
theorem SW {x y k ky:Nat} (S:Sf Z.p Z.H0 Z.A0 m τ H) (hmx:m[x]?=some (.ow k)) (hmy:m[y]?=some (.ow ky)) (hne:y ≠ x) (hk:k - 1<=ky) (hr:r=some (m.set y (.br ky))) (h:lOut Z m r [x] (ex (.mut x [] .append (.cons (.nm y) .nil)) (dτ τ)) τ H D) :
  lPl Z.p Z.EX (tnM m) x [] (vτ τ) H fun v H1=>tyV X.K "list" v H1/\(Pt (Ob y) R6) (vτ τ) H1 fun vs H2=>Gb v vs H2 fun _ H3=>D.nx (vτ τ) H3:=by
 have sm:0 < k/\k < 90:=of_decide_eq_true (S.small _ (aae hmx))
 obtain ⟨t,is,ds,a,ts,ds',ht,ep,ee,hs,l1,l2,hf,hpl,hnx⟩:=JF S hmx (by simp [lnE]; omega) rfl h
 cases ep
 cases hs
 subst hr
 simp only [evs,ev] at ee
 obtain ⟨d,e1,ee⟩:=Res.bind_eq_ok ee
 cases ee
 obtain ⟨ty,hy,rfl⟩:=Ec e1
 simp only [umD] at hf
 obtain ⟨hlt,rfl⟩:=AB hf
 refine ⟨τ,_,[],.lst a ts,rfl,S.ok,FV rfl,ht,S.at ht hmx (by intro c; cases c),rfl,rfl,fun H1 s1=>⟨Lf (hpl H1 s1).1,?_⟩⟩
 refine ⟨ty.val,Dv hy,?_⟩
 show Gb (.ref a) [ty.val] H1 (fun _ H3=>D.nx (vτ τ) H3)
 refine ⟨a,_,ty.val,rfl,rfl,(hpl H1 s1).1,by rw [aaa,<- Ac]; exact hlt,?_⟩
 obtain ⟨S2,P2⟩:=QT S s1 ht hmx hy hmy hne hk
 have:=hnx (ts ++ [ty]) _ H1 _ (by rw [T.dats_map,aao,<- T.dats_map]; rfl) rfl rfl rfl S2 P2
 rw [aao] at this
 exact this
end
section
variable {Z:Zx} {m:Ms} {r:Option Ms} {w:List Nat} {τ:Ft} {H:Hp} {D:Ends} {X:Cx} {pos:Pos} {σ:L2.St}
theorem QU {K:Frag} {xs:List Nat} {e:E} (h:lS Z (.asgT xs e) D σ H):∃ m,GE (lE Z.p Z.EX (tnM m) e) (lG K (.tp xs)) D σ H:=by
 obtain ⟨τ,m,r,rfl,S,hr,h⟩:=h
 refine ⟨m,?_⟩
 simp only [msS] at hr
 obtain ⟨⟨j1,k1⟩,h1,hr⟩:=bS hr
 obtain ⟨⟨c1,c2⟩,rfl⟩:=AB hr
 have c1:j1=0:=c1
 subst c1
 simp only [ex] at h
 refine ⟨τ,rfl,S.ok,0,k1,h1,(h.lg S c2).mono (Same.refl _) fun d _ h t H1 ht R=>?_⟩
 subst ht
 rw [FO] at h
 cases q:CD (.tp xs) t τ with
 | none=>rw [q] at h; exact nE h
 | some τ' =>
  rw [q] at h
  obtain ⟨S2,P2⟩:=T6 S R.same R.ok R.src q
  exact Ma R.ok q (h _ τ' H1 rfl rfl S2 P2)
theorem QV {e:E} (h:lS Z (.expr e) D σ H):∃ m,Pq (lE Z.p Z.EX (tnM m) e) D σ H:=by
 obtain ⟨τ,m,r,rfl,S,hr,h⟩:=h
 refine ⟨m,?_⟩
 simp only [msS] at hr
 obtain ⟨⟨j1,k1⟩,h1,hr⟩:=bS hr
 obtain ⟨c2,rfl⟩:=AB hr
 simp only [ex] at h
 exact ⟨τ,rfl,S.ok,j1,k1,h1,(h.lg S c2).mono (Same.refl _) fun d _ h t H1 ht R=>h m τ H1 rfl rfl (S.grow R.same) (Stp.refl _ (GN S.small) R.same)⟩
theorem OZ {c:Nat} {es:Es} (h:lS Z (.raise c es) D σ H):∃ m,lEs Z.p Z.EX (tnM m) es σ H fun vs H1=>vs.length=es.len/\(Z.p.has c=true->Z.EX σ (.ref (Z.p.cl c)) none H1):=by
 obtain ⟨τ,m,r,rfl,S,hr,h⟩:=h
 refine ⟨m,?_⟩
 simp only [msS] at hr
 obtain ⟨⟨j1,k1⟩,h1,hr⟩:=bS hr
 obtain ⟨c2,rfl⟩:=AB hr
 simp only [ex] at h
 refine ⟨τ,rfl,S.ok,j1,k1,h1,(h.lg S c2).mono (Same.refl _) fun ds e h ts H1 hts R=>⟨?_,fun hc=>h hc τ H1 rfl ((S.weak c2).grow R.same) (Stp.refl _ c2 R.same)⟩⟩
 rw [aaa,<- Ac,hts,BI _ _ _ e]
theorem SX {e:E} (h:lS Z (.ret e) D σ H):(∃ (i:Nat) (t:T),e=.nm i/\σ[i]?=some (some t.val)/\D.rt t.val H)\/∃ m,lE Z.p Z.EX (tnM m) e σ H D.rt:=by
 obtain ⟨τ,m,r,rfl,S,hr,h⟩:=h
 simp only [msS] at hr
 obtain ⟨k,hk,hr⟩:=bS hr
 obtain ⟨⟨c1,c2⟩,rfl⟩:=AB hr
 simp only [ex] at h
 have gen:∀ j,(jk (tnM m) e=some (j,k))->j=0->∃ m,lE Z.p Z.EX (tnM m) e (vτ τ) H D.rt:=by
  intro j hj hz
  subst hz
  refine ⟨m,τ,rfl,S.ok,0,k,hj,(h.lg S c2).mono (Same.refl _) fun d _ h t H1 ht R=>h t H1 ht ⟨S.same.trans R.same,R.ok,fun a q=>?_,fun a q=>?_,T.nd_le t c1 R.nd⟩⟩
  ·rcases R.src a q with z | z
   ·exact .inl (S.same.free z)
   ·exact S.src a z
  ·have:=R.new a (T.adr_le t c1 q)
   exact ⟨S.same.free this.1,this.2⟩
 by_cases hnm:∃ i,e=.nm i
 ·obtain ⟨i,rfl⟩:=hnm
  simp only [rk] at hk
  cases q:get (dτ τ) i with
  | exc c=>unfold get at q; split at q <;> cases q
  | bad=>simp only [ev,q] at h; exact nE h
  | ok d =>
   obtain ⟨t,ht,rfl⟩:=Ec q
   simp only [ev,q] at h
   refine .inl ⟨i,t,rfl,Dv ht,h t H rfl ?_⟩
   split at hk
   ·rename_i k0 hm
    cases hk
    have sm:0 < k/\k < 90:=of_decide_eq_true (S.small _ (aae hm))
    refine ⟨S.same,S.at ht hm (by intro c; cases c),fun a z=>?_,fun a z=>S.own i t k a ht hm (T.adr_le t c1 z),T.nd_le t c1 (S.nd i t k ht hm)⟩
    rcases (T.all_iff t k).mp z with y | y
    ·exact .inl (S.own i t k a ht hm y).1
    ·exact S.src a ⟨i,t,k,ht,AQ hm,sm.2,y⟩
   ·rename_i hm
    cases hk
    have c1:Z.dep=0:=by omega
    rw [c1]
    exact ⟨S.same,S.at ht hm (by intro c; cases c),fun a z=>S.src a ⟨i,t,0,ht,AQ hm,by decide,z⟩,by rw [T.adr_zero]; simp,T.nd_zero t⟩
   ·cases hk
 ·refine .inr ?_
  have:rk m e=(jk (tnM m) e).bind fun x=>if x.1=0 then some x.2 else none:=by
   cases e <;> first | rfl | exact absurd ⟨_,rfl⟩ hnm
  rw [this] at hk
  obtain ⟨⟨j1,k1⟩,h1,hk⟩:=bS hk
  obtain ⟨z,rfl⟩:=AB hk
  exact gen j1 h1 z
theorem lOut.weak {r1 r2:Option Ms} {w1 w2:List Nat} {o:Out} (h:lOut Z m r2 w2 o τ H D) (hj:okJ r1 r2=true) (hw:∀ i ∈ w1,i ∈ w2):lOut Z m r1 w1 o τ H D:=by
 cases o with
 | nxt δ' =>
  intro m' τ' H' e1 e2 S P
  subst e1
  cases r2 with
  | none=>cases hj
  | some m2=>exact h m2 τ' H' rfl e2 (S.weak hj) ⟨P.keep,fun a o=>P.grow a (o.weak hj),fun i hi=>P.wr i fun q=>hi (hw i q)⟩
 | ret d=>exact h
 | exc c δ'=>exact fun hc τ' H' e S P=>h hc τ' H' e S (P.mono hw)
 | bad=>exact h
theorem SY {c:E} {a b:Ss} (h:lS Z (.iff c a b) D σ H):∃ m,RM (lT Z.p Z.EX (tnM m) c) (lSs Z a) (lSs Z b) D σ H:=by
 obtain ⟨τ,m,r,rfl,S,hr,h⟩:=h
 refine ⟨m,?_⟩
 simp only [msS] at hr
 obtain ⟨⟨j1,k1⟩,h1,hr⟩:=bS hr
 split at hr
 ·rename_i c2
  obtain ⟨ra,h2,hr⟩:=bS hr
  obtain ⟨rb,h3,hr⟩:=bS hr
  obtain ⟨⟨c3,c4⟩,rfl⟩:=AB hr
  simp only [ex] at h
  refine ⟨τ,rfl,S.ok,by rw [h1]; rfl,(h.lg S c2).mono (Same.refl _) fun t _ h H1 s1=>?_⟩
  have S1:=S.grow s1
  have shift:∀ {o:Out} {r0:Option Ms} {w0:List Nat},lOut Z m r0 w0 o τ H D->lOut Z m r0 w0 o τ H1 D:=by
   intro o r0 w0 h
   cases o with
   | nxt δ'=>exact fun m' τ' H' e1 e2 S P=>h m' τ' H' e1 e2 S ⟨fun a u e n=>P.keep a u (s1 a u e) n,fun a o=>(P.grow a o).imp id s1.free,P.wr⟩
   | ret d=>exact h
   | exc c δ'=>exact fun hc τ' H' e S P=>h hc τ' H' e S ⟨fun a u e n=>P.keep a u (s1 a u e) n,fun a o=>(P.grow a o).imp id s1.free,P.wr⟩
   | bad=>exact h
  cases t with
  | true =>
   rw [if_pos rfl] at h
   show (if true=true then lSs Z a D (vτ τ) H1 else lSs Z b D (vτ τ) H1)
   rw [if_pos rfl]
   exact ⟨τ,m,ra,rfl,S1,h2,shift (h.weak c3 fun i hi=>aax _ hi)⟩
  | false =>
   rw [if_neg (by decide)] at h
   show (if false=true then lSs Z a D (vτ τ) H1 else lSs Z b D (vτ τ) H1)
   rw [if_neg (by decide)]
   exact ⟨τ,m,rb,rfl,S1,h3,shift (h.weak c4 fun i hi=>aan _ hi)⟩
 ·cases hr
theorem lOut.shift {H1:Hp} {o:Out} (s1:Same H H1) (h:lOut Z m r w o τ H D):lOut Z m r w o τ H1 D:=by
 cases o with
 | nxt δ'=>exact fun m' τ' H' e1 e2 S P=>h m' τ' H' e1 e2 S ⟨fun a u e n=>P.keep a u (s1 a u e) n,fun a o=>(P.grow a o).imp id s1.free,P.wr⟩
 | ret d=>exact h
 | exc c δ'=>exact fun hc τ' H' e S P=>h hc τ' H' e S ⟨fun a u e n=>P.keep a u (s1 a u e) n,fun a o=>(P.grow a o).imp id s1.free,P.wr⟩
 | bad=>exact h
theorem lOut.after {m1:Ms} {τ1:Ft} {H1:Hp} {w1 w2:List Nat} {o:Out} (P:Stp m m1 w1 τ τ1 H H1) (hw1:∀ i ∈ w1,i ∈ w) (hw2:∀ i ∈ w2,i ∈ w) (h:lOut Z m r w o τ H D):lOut Z m1 r w2 o τ1 H1 D:=by
 cases o with
 | nxt δ'=>exact fun m' τ' H' e1 e2 S Q=>h m' τ' H' e1 e2 S ((P.trans Q).mono fun i hi=>by
   rcases aaf.mp hi with z | z
   ·exact hw1 i z
   ·exact hw2 i z)
 | ret d=>exact h
 | exc c δ'=>exact fun hc τ' H' e S Q=>h hc τ' H' e S ((P.trans Q).mono fun i hi=>by
   rcases aaf.mp hi with z | z
   ·exact hw1 i z
   ·exact hw2 i z)
 | bad=>exact h
theorem SZ {s:S} {rest:Ss} (h:lSs Z (.cons s rest) D σ H):lS Z s { D with nx:=lSs Z rest D } σ H:=by
 obtain ⟨τ,m,r,rfl,S,hr,h⟩:=h
 simp only [msSs] at hr
 obtain ⟨r1,h1,hr⟩:=bS hr
 refine ⟨τ,m,r1,rfl,S,h1,?_⟩
 simp only [exs] at h
 cases q:ex s (dτ τ) with
 | nxt δ' =>
  rw [q] at h
  intro m' τ' H' e1 e2 S' P
  subst e1
  simp only at hr
  refine ⟨τ',m',r,rfl,S',hr,?_⟩
  rw [e2]
  exact h.after P (fun i hi=>aax _ hi) (fun i hi=>aan _ hi)
 | ret d=>rw [q] at h; exact h
 | exc c δ' =>
  rw [q] at h
  exact fun hc τ' H' e S' P=>h hc τ' H' e S' (P.mono fun i hi=>aax _ hi)
 | bad=>rw [q] at h; exact h
theorem S0 (h:lSs Z .nil D σ H):D.nx σ H:=by
 obtain ⟨τ,m,r,rfl,S,hr,h⟩:=h
 cases hr
 exact h m τ H rfl rfl S (Stp.refl _ (GN S.small) (Same.refl _))
theorem QW {s:S} {rest:Ss} (hs:(∃ x k,s=.dem x k)\/(∃ x,s=.dead x)) (h:lSs Z (.cons s rest) D σ H):lSs Z rest D σ H:=by
 obtain ⟨τ,m,r,rfl,S,hr,h⟩:=h
 simp only [msSs] at hr
 obtain ⟨r1,h1,hr⟩:=bS hr
 rcases hs with ⟨x,k,rfl⟩ | ⟨x,rfl⟩
 ·simp only [msS] at h1
  obtain ⟨c,rfl⟩:=AB h1
  refine ⟨τ,_,r,rfl,S.weak c,hr,?_⟩
  simp only [exs,ex,Out.then_nxt] at h
  exact h.after (w1:=[]) (Stp.refl _ c (Same.refl _)) (fun i hi=>nomatch hi) (fun i hi=>aan _ hi)
 ·simp only [msS] at h1
  obtain ⟨c,rfl⟩:=AB h1
  refine ⟨τ,_,r,rfl,S.weak c,hr,?_⟩
  simp only [exs,ex,Out.then_nxt] at h
  exact h.after (w1:=[]) (Stp.refl _ c (Same.refl _)) (fun i hi=>nomatch hi) (fun i hi=>aan _ hi)
end
section
variable {Z:Zx} {m:Ms} {r:Option Ms} {w:List Nat} {τ:Ft} {H:Hp} {D:Ends} {X:Cx} {pos:Pos} {σ:L2.St}
theorem T9 {c:E} {b:Ss} (h:lS Z (.wh c b) D σ H):∃ m,MP (lT Z.p Z.EX (tnM m) c) (lSs Z b) D σ H:=by
 obtain ⟨τ,m,r,rfl,S,hr,h⟩:=h
 refine ⟨m,?_⟩
 simp only [msS] at hr
 obtain ⟨⟨j1,k1⟩,h1,hr⟩:=bS hr
 split at hr
 ·rename_i c2
  obtain ⟨rb,h2,hr⟩:=bS hr
  have hrb:r=some m/\okJ rb (some m)=true:=by
   cases rb with
   | none=>exact ⟨(Option.some.inj hr).symm,rfl⟩
   | some mb =>
    obtain ⟨z,e⟩:=AB hr
    exact ⟨e.symm,z⟩
  obtain ⟨rfl,hj⟩:=hrb
  simp only [ex] at h
  refine ⟨fun n σ H'=>∃ τ',σ=vτ τ'/\Sf Z.p Z.H0 Z.A0 m τ' H'/\Stp m m (wrSs b) τ τ' H H'/\lOut Z m (some m) (wrSs b) (AI (tv c) (exs b) n (dτ τ')) τ H D,⟨FU,τ,rfl,S,Stp.refl _ (GN S.small) (Same.refl _),h⟩,?_⟩
  rintro n σ' H' ⟨τ',rfl,S',P',h'⟩
  cases n with
  | zero=>exact nE h'
  | succ n =>
   simp only [AI] at h'
   have hb:=h'.after (w:=wrSs b) (w1:=wrSs b) (w2:=wrSs b) P' (fun _ z=>z) (fun _ z=>z)
   refine ⟨τ',rfl,S'.ok,by rw [h1]; rfl,(hb.lg S' c2).mono (Same.refl _) fun t et hb2 H1 s1=>?_⟩
   rw [et] at h'
   simp only [Res.out_ok] at h'
   cases t with
   | false =>
    show (if false=true then _ else D.nx (vτ τ') H1)
    rw [if_neg (by decide)]
    rw [if_neg (by decide)] at h'
    exact h' m τ' H1 rfl rfl (S'.grow s1) ⟨fun a u e n=>s1 _ _ (P'.keep a u e n),P'.grow,P'.wr⟩
   | true =>
    rw [if_pos rfl] at h' hb2
    show (if true=true then _ else _)
    rw [if_pos rfl]
    refine ⟨fun σ2 H2=>∃ τ2,σ2=vτ τ2/\Sf Z.p Z.H0 Z.A0 m τ2 H2/\Stp m m (wrSs b) τ τ2 H H2/\lOut Z m (some m) (wrSs b) (AI (tv c) (exs b) n (dτ τ2)) τ H D,fun σ2 H2 q=>⟨n,Nat.lt_succ_self n,q⟩,?_⟩
    refine ⟨τ',m,rb,rfl,S'.grow s1,h2,?_⟩
    have hb3:=hb2.shift s1
    have P1:Stp m m (wrSs b) τ τ' H H1:=⟨fun a u e n=>s1 _ _ (P'.keep a u e n),P'.grow,P'.wr⟩
    cases q:exs b (dτ τ') with
    | nxt δ2 =>
     rw [q] at h'
     intro m' τ2 H2 e1 e2 S2 P2
     subst e1
     have hle:leM m' m=true:=hj
     refine ⟨τ2,rfl,S2.weak hle,((P1.trans P2).mono (w2:=wrSs b) (fun i hi=>by simpa using hi)) |> fun P3=>⟨P3.keep,fun a o=>P3.grow a (Own.weak hle o),P3.wr⟩,?_⟩
     rw [e2]; exact h'
    | ret d=>rw [q] at hb3; exact hb3
    | exc c' δ'=>rw [q] at hb3; exact hb3
    | bad=>rw [q] at hb3; exact hb3
 ·cases hr
theorem Stp.lesser {m1 m2:Ms} {τ':Ft} {H':Hp} (h:leM m1 m2=true) (P:Stp m m1 w τ τ' H H'):Stp m m2 w τ τ' H H':=⟨P.keep,fun a o=>P.grow a (Own.weak h o),P.wr⟩
theorem JG {K:Frag} {g:Tg} {b:Ss} {J:L2.It} {us:List T} {ds:List Pu.D} {j:Nat} {H1:Hp} {rb:Option Ms} (S:Sf Z.p Z.H0 Z.A0 m τ H) (IT:ItOk Z.p (Sh (tnM m) τ) H H1 J us j ds) (hd:leM m (Ao m g.sl .dead)=true)
  (h2:msSs Z.mx Z.dep b (Ao (Ao m g.sl .dead) g.sl .sh)=some rb) (hj:okJ rb (some (Ao m g.sl .dead))=true)
  (per:∀ (τ':Ft) (H':Hp),Sf Z.p Z.H0 Z.A0 (Ao m g.sl .dead) τ' H'->Stp m (Ao m g.sl .dead) (g.sl ++ wrSs b) τ τ' H1 H'->T.Oks Z.p H' us)
  (h:lOut Z m (some (Ao m g.sl .dead)) (g.sl ++ wrSs b) (A3 g (exs b) ds (dτ τ)) τ H1 D) :
  ∃ W:Nat->Nat->L2.St->Hp->Prop,(∃ n,W 0 n (vτ τ) H1)/\∀ i n σ H,W i n σ H->(J.stop i H/\D.nx σ H)\/(J.go i H/\∃ N:L2.St->Hp->Prop,(∀ σ' H',N σ' H'->∃ n',n' < n/\W (i + 1) n' σ' H')/\∀ x H',J.yld i H x H'->lG K g x σ H' fun σ2 H2=>lSs Z b { D with nx:=N,ct:=N,bk:=D.nx } σ2 H2):=by
 have S1:=S.grow IT.same
 have fineU:∀ a,(H a=none\/Sh (tnM m) τ a)->(Z.H0 a=none\/Z.A0 a)/\¬ Own m τ a:=fun a q=>S.fine q
 refine ⟨fun i n σ H'=>n=ds.length - i/\i<=ds.length/\∃ τ',σ=vτ τ'/\Sf Z.p Z.H0 Z.A0 (Ao m g.sl .dead) τ' H'/\Stp m (Ao m g.sl .dead) (g.sl ++ wrSs b) τ τ' H1 H'/\lOut Z m (some (Ao m g.sl .dead)) (g.sl ++ wrSs b) (A3 g (exs b) (ds.drop i) (dτ τ')) τ H1 D,
  ⟨ds.length,by simp,aaw _,τ,rfl,S1.weak hd,Stp.refl _ hd (Same.refl _),by simpa using h⟩,?_⟩
 rintro i n σ' H' ⟨rfl,hi,τ',rfl,S',P',h'⟩
 have usok:=per τ' H' S' P'
 rcases acx i ds.length with hlt | hge
 ·have hdi:ds[i]?=some ds[i]:=aah hlt
  rw [abi hlt] at h'
  simp only [A3] at h'
  refine .inr ⟨IT.go i H' usok hlt,fun σ2 H2=>∃ τ2,σ2=vτ τ2/\Sf Z.p Z.H0 Z.A0 (Ao m g.sl .dead) τ2 H2/\Stp m (Ao m g.sl .dead) (g.sl ++ wrSs b) τ τ2 H1 H2/\lOut Z m (some (Ao m g.sl .dead)) (g.sl ++ wrSs b) (A3 g (exs b) (ds.drop (i + 1)) (dτ τ2)) τ H1 D,
   fun σ2 H2 q=>⟨ds.length - (i + 1),by omega,rfl,hlt,q⟩,fun x H'' y=>?_⟩
  obtain ⟨s2,t,rfl,ht,tok,tus,tsrc⟩:=IT.yld i H' x H'' ds[i] usok hdi y
  rw [<- ht,FO] at h'
  cases q:CD g t τ' with
  | none=>rw [q] at h'; exact nE h'
  | some τ2 =>
   rw [q] at h'
   simp only [aaV] at h'
   have src:∀ a ∈ t.rest 0,(Z.H0 a=none\/Z.A0 a)/\¬ Own (Ao m g.sl .dead) τ' a:=fun a z=>by
    refine ⟨(fineU a (tsrc a z)).1,fun o=>?_⟩
    rcases P'.grow a o with w | w
    ·exact (fineU a (tsrc a z)).2 w
    ·obtain ⟨v,hv,z2⟩:=T.mem_rests.mp (tus a z)
     exact (T.oks_iff.mp IT.ok v hv).dom z2 w
   obtain ⟨S2,P2⟩:=NA S' s2 tok src q
   refine Ma tok q ⟨τ2,_,rb,rfl,S2,h2,?_⟩
   have P3:=P'.trans P2
   have h3:=h'.after (w:=g.sl ++ wrSs b) (w2:=wrSs b) P3 (fun i hi=>by
    simp only [aaf] at hi ⊢
    rcases hi with (hi | hi) | hi
    ·exact .inl hi
    ·exact .inr hi
    ·exact .inl hi) (fun i hi=>aan _ hi)
   cases e:exs b (dτ τ2) with
   | nxt δ3 =>
    rw [e] at h'
    intro m' τ3 H3 e1 e2 S3 P4
    subst e1
    have hle:leM m' (Ao m g.sl .dead)=true:=hj
    refine ⟨τ3,rfl,S3.weak hle,Stp.lesser hle ((P3.trans P4).mono fun i hi=>?_),?_⟩
    ·simp only [aaf] at hi ⊢
     rcases hi with ((hi | hi) | hi) | hi
     ·exact .inl hi
     ·exact .inr hi
     ·exact .inl hi
     ·exact .inr hi
    ·rw [e2]; exact h'
   | ret d=>rw [e] at h3; exact h3
   | exc c' δ'=>rw [e] at h3; exact h3
   | bad=>rw [e] at h3; exact h3
 ·refine .inl ⟨IT.stop i H' usok hge,?_⟩
  have hil:i=ds.length:=aci hi hge
  subst hil
  rw [List.drop_length] at h'
  exact h' _ τ' H' rfl rfl S' P'
theorem S5 {K:Frag} {g:Tg} {it:It} {b:Ss} (h:lS Z (.for_ g it b) D σ H):(∃ m,RV (lI Z.p Z.EX (tnM m) it) (lG K g) (lSs Z b) D σ H) \/
  (∃ x,it=.seqL (.nm x)/\∃ v a xs,σ[x]?=some (some v)/\v=.ref a/\SqL X.K H a xs/\(X.K=Z.p.K->xs.length<=sizeLine->∃ W:Nat->Nat->L2.St->Hp->Prop,(∃ n,W 0 n σ H)/\∀ i n σ H,W i n σ H->((Itl X.K a).stop i H/\D.nx σ H)\/((Itl X.K a).go i H/\∃ N:L2.St->Hp->Prop,(∀ σ' H',N σ' H'->∃ n',n' < n/\W (i + 1) n' σ' H') /\
   ∀ x H',(Itl X.K a).yld i H x H'->lG K g x σ H' fun σ2 H2=>lSs Z b { D with nx:=N,ct:=N,bk:=D.nx } σ2 H2))):=by
 obtain ⟨τ,m,r,rfl,S,hr,h⟩:=h
 simp only [msS] at hr
 obtain ⟨j,h1,hr⟩:=bS hr
 split at hr
 ·rename_i c
  obtain ⟨c1,c2,c3⟩:=c
  obtain ⟨rb,h2,hr⟩:=bS hr
  have hrb:r=some (Ao m g.sl .dead)/\okJ rb (some (Ao m g.sl .dead))=true:=by
   cases rb with
   | none=>exact ⟨(Option.some.inj hr).symm,rfl⟩
   | some mb =>
    obtain ⟨z,e⟩:=AB hr
    exact ⟨e.symm,z⟩
  obtain ⟨rfl,hj⟩:=hrb
  simp only [ex] at h
  by_cases z:j=0
  ·subst z
   refine .inl ⟨m,τ,rfl,S.ok,0,h1,(h.lg S c1).mono (Same.refl _) fun ds _ h J us H1 IT=>?_⟩
   refine JG S IT c2 h2 hj (fun τ' H' S' P'=>?_) (h.shift IT.same)
   have S1:=S.grow IT.same
   refine T.oks_iff.mpr fun u hu=>(T.oks_iff.mp IT.ok u hu).keep fun a w e q=>P'.keep a w e fun o=>?_
   rcases q with q | q
   ·exact (S.fine (IT.src a (T.mem_rests.mpr ⟨u,hu,q⟩))).2 o
   ·obtain ⟨_,vs,e2⟩:=S1.ownOk o
    rw [e2] at e
    exact q vs (Option.some.inj e).symm
  ·rcases c3 with c3 | ⟨x,c3,c4,c5⟩
   ·exact absurd c3 z
   ·have hit:it=.seqL (.nm x):=by
     unfold It.nmOf at c3
     split at c3
     ·cases c3; rfl
     ·cases c3
    subst hit
    refine .inr ⟨x,rfl,?_⟩
    have hlg:=h.lg S c1
    cases q:get (dτ τ) x with
    | exc c=>unfold get at q; split at q <;> cases q
    | bad=>simp only [evI,ev,q,Res.bind_bad] at hlg; exact nE hlg
    | ok d =>
     obtain ⟨t,ht,rfl⟩:=Ec q
     simp only [evI,ev,q,Res.bind_ok] at hlg
     cases t with
     | lst a ts =>
      simp only [jkI] at h1
      obtain ⟨⟨j1,k1⟩,h3,h1⟩:=bS h1
      obtain ⟨hj1,e1⟩:=AB h1
      have e1:j1=j:=e1
      subst e1
      simp only [jk] at h3
      split at h3
      ·rename_i j' hj'
       obtain ⟨hlt,e⟩:=DH h3
       cases e
       have okt:=S.ok x _ j1 ht hj' (of_decide_eq_true hlt)
       refine ⟨_,a,ts.map T.val,Dv ht,rfl,.inl okt.1,fun hK hz=>?_⟩
       have R:Rs Z.p (Sh (tnM m) τ) H H j1 0 (.lst a ts):=⟨Same.refl _,okt,fun b m'=>.inr ⟨x,_,j1,ht,hj',of_decide_eq_true hlt,m'⟩,by rw [T.adr_zero]; simp,T.nd_zero _⟩
       refine JG S (FN hK R hj1 (by simpa using hz)) c2 h2 hj (fun τ' H' S' P'=>?_) hlg
       obtain ⟨d,hd,ed⟩:=Bb hj'
       have hdd:d ≠ .dead:=fun w=>by subst w; subst ed; exact absurd (of_decide_eq_true hlt) (by decide)
       have hx':(Ao m g.sl .dead)[x]?=some d:=by
        have hlen:x < (Ao m g.sl .dead).length:=by rw [DV]; exact (aaq.mp hd).1
        rcases D2 (aah hlen) with ⟨w,_⟩ | ⟨_,w⟩
        ·exact absurd w c5
        ·rw [aah hlen]
         rw [hd] at w
         exact w.symm
       refine ⟨S'.at (i:=x) (by rw [P'.wr x (fun w=>by rcases aaf.mp w with w | w; exact c5 w; exact c4 w)]; exact ht) hx' hdd,trivial⟩
      ·cases h3
     | _=>exact nE hlg
 ·cases hr
end
noncomputable def OwnN (m:Ms) (τ:Ft) (I:List Nat) (a:Addr):Prop:=∃ (i:Nat) (t:T) (k:Nat),i ∉ I/\τ[i]?=some (some t)/\m[i]?=some (.ow k)/\a ∈ t.adr k
structure RO (p:Px) (m:Ms) (τ:Ft) (I:List Nat) (k:Nat) (H H':Hp) (ts:List T):Prop where
 same:Same H H'
 ok:T.Oks p H' ts
 src:∀ a ∈ T.rests ts 0,H a=none\/Sh (tnM m) τ a\/OwnN m τ I a
 new:∀ a ∈ T.adrs ts k,(H a=none/\∃ vs,H' a=some (.lst vs))\/OwnN m τ I a
 nd:T.Nds ts k
section
variable {p:Px} {H0:Hp} {A0:Addr->Prop} {m:Ms} {τ:Ft} {H H1 H2:Hp}
theorem OwnN.own {I:List Nat} {a:Addr} (h:OwnN m τ I a):Own m τ a:=let ⟨i,t,k,_,e,q,z⟩:=h; ⟨i,t,k,e,q,z⟩
theorem S6 {I:List Nat} {k:Nat}:RO p m τ I k H H []:=⟨Same.refl _,trivial,by simp [T.rests],by simp [T.adrs],by simp [T.Nds,T.adrs]⟩
theorem S7 {I:List Nat} {i k k2:Nat} {t:T} {ts:List T} (S:Sf p H0 A0 m τ H) (ht:τ[i]?=some (some t)) (hm:m[i]?=some (.ow k)) (hi:i ∉ I) (r:RO p m τ (i :: I) k2 H H2 ts):RO p m τ I (min k k2) H H2 (t :: ts):=by
 have no:∀ {k:Nat},Md.ow k ≠ .dead:=by intro k c; cases c
 have okt:=S.at ht hm no
 have mono:∀ {a:Addr},OwnN m τ (i :: I) a->OwnN m τ I a:=fun ⟨j,u,kj,n,e,q,z⟩=>⟨j,u,kj,fun w=>n (aab _ w),e,q,z⟩
 have sm:0 < k/\k < 90:=of_decide_eq_true (S.small _ (aae hm))
 refine ⟨r.same,⟨okt.same r.same,r.ok⟩,fun a q=>?_,fun a q=>?_,T.nds_cons.mpr ⟨T.nd_le t (aaT ..) (S.nd i t k ht hm),T.nds_le (aaQ ..) r.nd,fun a q q'=>?_,fun a q q'=>?_⟩⟩
 ·simp only [T.rests,aaf] at q
  rcases q with q | q
  ·rcases (T.all_iff t k).mp q with z | z
   ·exact .inr (.inr ⟨i,t,k,hi,ht,hm,z⟩)
   ·exact .inr (.inl ⟨i,t,k,ht,AQ hm,sm.2,z⟩)
  ·rcases r.src a q with z | z | z
   ·exact .inl z
   ·exact .inr (.inl z)
   ·exact .inr (.inr (mono z))
 ·simp only [T.adrs,aaf] at q
  rcases q with q | q
  ·exact .inr ⟨i,t,k,hi,ht,hm,T.adr_le t (aaT ..) q⟩
  ·obtain ⟨u,hu,q⟩:=T.mem_adrs.mp q
   exact (r.new a (T.mem_adrs.mpr ⟨u,hu,T.adr_le u (aaQ ..) q⟩)).imp id mono
 ·have q1:=T.adr_le t (aaT k k2) q
  have o:Own m τ a:=⟨i,t,k,ht,hm,q1⟩
  rcases r.src a q' with z | z | ⟨j,u,kj,n,e,w,z⟩
  ·obtain ⟨_,vs,e⟩:=S.ownOk o
   rw [e] at z; cases z
  ·exact S.disj o z
  ·have ne:i ≠ j:=fun y=>n (by rw [y]; exact aac ..)
   exact S.sep i j t u k _ ne ht hm e w no a q1 ((T.all_iff u kj).mpr (.inl z))
 ·obtain ⟨u,hu,q⟩:=T.mem_adrs.mp q
  rcases r.new a (T.mem_adrs.mpr ⟨u,hu,T.adr_le u (aaQ ..) q⟩) with z | ⟨j,u,kj,n,e,w,z⟩
  ·exact okt.dom q' z.1
  ·have ne:j ≠ i:=fun y=>n (by rw [y]; exact aac ..)
   exact S.sep j i u t kj _ ne e w ht hm no a z q'
theorem S8 {I:List Nat} {k k2:Nat} {t:T} {ts:List T} (S:Sf p H0 A0 m τ H) (R:Rs p (Sh (tnM m) τ) H H1 0 k t) (r:RO p m τ I k2 H1 H2 ts):RO p m τ I (min k k2) H H2 (t :: ts):=by
 have R2:=R.fwd r.same
 refine ⟨R2.same,⟨R2.ok,r.ok⟩,fun a q=>?_,fun a q=>?_,T.nds_cons.mpr ⟨T.nd_le t (aaT ..) R.nd,T.nds_le (aaQ ..) r.nd,fun a q q'=>?_,fun a q q'=>?_⟩⟩
 ·simp only [T.rests,aaf] at q
  rcases q with q | q
  ·exact (R.src a q).imp id .inl
  ·exact (r.src a q).imp R.same.free id
 ·simp only [T.adrs,aaf] at q
  rcases q with q | q
  ·exact .inl (R2.new a (T.adr_le t (aaT ..) q))
  ·obtain ⟨u,hu,q⟩:=T.mem_adrs.mp q
   exact (r.new a (T.mem_adrs.mpr ⟨u,hu,T.adr_le u (aaQ ..) q⟩)).imp (fun z=>⟨R.same.free z.1,z.2⟩) id
 ·have n1:=R.new a (T.adr_le t (aaT ..) q)
  rcases r.src a q' with z | z | z
  ·obtain ⟨vs,e⟩:=n1.2
   rw [e] at z; cases z
  ·exact S.ok.dom z n1.1
  ·obtain ⟨_,vs,e⟩:=S.ownOk z.own
   rw [n1.1] at e; cases e
 ·obtain ⟨u,hu,q⟩:=T.mem_adrs.mp q
  rcases r.new a (T.mem_adrs.mpr ⟨u,hu,T.adr_le u (aaQ ..) q⟩) with z | z
  ·exact R.ok.dom q' z.1
  ·rcases R.src a q' with y | y
   ·obtain ⟨_,vs,e⟩:=S.ownOk z.own
    rw [e] at y; cases y
   ·exact S.disj z.own y
end
noncomputable def lRO (Z:Zx) (m:Ms) (τ:Ft) (I:List Nat) (es:Es):TA:=fun σ H Q=>σ=vτ τ/\Sf Z.p Z.H0 Z.A0 m τ H/\∃ k,rkT m I es=some k/\Lg Z.p Z.EX σ (evs es (dτ τ)) H (fun ds=>∀ ts H',T.dats ts=ds->RO Z.p m τ I k H H' ts->Q (ts.map T.val) H')
section
variable {Z:Zx} {m:Ms} {τ:Ft} {H:Hp} {D:Ends} {σ:L2.St}
theorem QX {es:Es} (hl:es.len<=1000) (h:lS Z (.retT es) D σ H):∃ m τ,R7 (lRO Z m τ [] es) σ H D.rt:=by
 obtain ⟨τ,m,r,rfl,S,hr,h⟩:=h
 simp only [msS] at hr
 obtain ⟨k,hk,hr⟩:=bS hr
 obtain ⟨⟨c1,c2⟩,rfl⟩:=AB hr
 simp only [ex] at h
 refine ⟨m,τ,rfl,S,k,hk,(h.lg S c2).mono (Same.refl _) fun ds e h ts H1 hts R=>⟨?_,fun a ha=>?_⟩⟩
 ·have:=BI _ _ _ e
  rw [aaa,<- Ac,hts,this]
  exact aaM hl (by decide)
 ·have sm:Same H1 (L2.upd H1 a (.tup (ts.map T.val))):=fun a' u e=>by
   rw [L2.Ap (fun z=>by subst z; rw [ha] at e; cases e)]; exact e
  refine h (.tup a ts) _ (by simp [T.dat,hts]) ⟨S.same.trans (R.same.trans sm),⟨L2.AS ..,R.ok.same sm⟩,fun b q=>?_,fun b q=>?_,T.nds_le c1 R.nd⟩
  ·rcases R.src b q with z | z | z
   ·exact .inl (S.same.free z)
   ·exact S.src b z
   ·exact .inl (S.ownOk z.own).1
  ·obtain ⟨u,hu,q⟩:=T.mem_adrs.mp q
   rcases R.new b (T.mem_adrs.mpr ⟨u,hu,T.adr_le u c1 q⟩) with ⟨z,vs,e⟩ | z
   ·exact ⟨S.same.free z,vs,sm _ _ e⟩
   ·obtain ⟨z1,vs,e⟩:=S.ownOk z.own
    exact ⟨z1,vs,sm _ _ (R.same _ _ e)⟩
end
noncomputable def Fp:List (Bool × E)->List Nd1
 | []=>[]
 | (_,e) :: r=>e.need ++ Fp r
mutual
noncomputable def S.need:S->List Nd1
 | .asg _ _ e=>e.need
 | .dem _ _=>[]
 | .dead _=>[]
 | .asgT _ e=>e.need
 | .mut _ q _ es=>Fp q ++ es.need
 | .expr e=>e.need
 | .iff c a b=>c.need ++ (a.need ++ b.need)
 | .wh c b=>c.need ++ b.need
 | .for_ _ it b=>it.need ++ b.need
 | .ret e=>e.need
 | .retT es=>es.need
 | .raise c es=>.rs c :: es.need
noncomputable def Ss.need:Ss->List Nd1
 | .nil=>[]
 | .cons s r=>s.need ++ r.need
end
noncomputable def JH:Um->Str
 | .append => "append"
 | .extend => "extend"
 | .insert => "insert"
 | .pop => "pop"
 | .popAt => "pop"
 | .clear => "clear"
 | .reverse => "reverse"
noncomputable def O0:Um->Nat->Bool
 | .append,n=>decide (n=1)
 | .extend,n=>decide (n=1)
 | .popAt,n=>decide (n=1)
 | .insert,n=>decide (n=2)
 | _,n=>decide (n=0)
noncomputable def Fa:Expr->Bool
 | .ListComp _ _ _ _=>false
 | .SetComp _ _ _ _=>false
 | .DictComp _ _ _ _ _=>false
 | _=>true
noncomputable def FX:Expr->Bool
 | .Tuple _ _ _=>false
 | _=>true
noncomputable def JI (c:CkC):List Expr->Bool
 | [.Name x _,.Name y _]=>(c.sc.names.lookup x==some .cell) || (c.sc.names.lookup y==some .cell)
 | _=>false
noncomputable def JJ:Expr->Bool
 | .Call _ _ _ _=>false
 | _=>true
noncomputable def two:Expr->Option (Expr × Expr)
 | .Tuple es _ _=>match es with
  | [a,b]=>some (a,b)
  | _=>none
 | _=>none
noncomputable def nmOf:Expr->Option (Str × Pos)
 | .Name x p=>some (x,p)
 | _=>none
mutual
noncomputable def ckS (c:CkC):S->Stmt->Bool
 | .asg x _ e,.Assign [.Name y _] e' _=>(c.N[x]?==some y) && Fm c y && ckE c e e'
 | .asgT xs e,.Assign [.Tuple ts k q] e' _=>ckG c (.tp xs) (.Tuple ts k q) && ckE c e e' && (FX e' || JI c ts)
 | .mut x q u es,.Expr (.Call (.Attribute o name ap) xs [] cp) _=>GO c x q.reverse o && (name==JH u) && ckEs c es xs && (ap.endLine==cp.line) && JJ o && decide (es.len < 20) && O0 u es.len
 | .expr e,.Expr e' _=>ckE c e e' && Fa e'
 | .iff t a b,.If t' a' b' _=>ckE c t t' && t.tst && ckSs c a a' && ckSs c b b'
 | .wh t b,.While t' b' [] _=>ckE c t t' && t.tst && ckSs c b b' && c.rz
 | .for_ g it b,.For tg it' b' [] _=>ckG c g tg && ckI c tg it it' && DI it' && ckSs c b b' && c.rz && c.cm
 | .ret e,.Return (some e') _=>ckE c e e'
 | .retT es,.Return (some (.Tuple xs _ _)) _=>ckEs c es xs && decide (es.len<=1000)
 | .raise n es,.Raise (some (.Call (.Name x _) xs [] _)) none _=>(x==A4 n) && glB c.sc x && BJ x && ckEs c es xs && decide (0 < es.len) && decide (es.len<=1000) && c.rz && c.cm
 | _,_=>false
noncomputable def ckSs (c:CkC):Ss->List Stmt->Bool
 | .nil,[]=>true
 | .cons (.dem _ _) r,st=>ckSs c r st
 | .cons (.dead _) r,st=>ckSs c r st
 | .cons s r,x :: xs=>ckS c s x && ckSs c r xs
 | _,_=>false
end
structure Cs (Z:Zx) (c:CkC) (lv:Nat) (X:Cx) (E:XK):Prop where
 ct:Ct Z.p c lv X Z.EX
 ex:c.rz=true->Z.EX=fun _=>E
 xw:c.rz=true->LQ X E
 po:c.rz=true->PassesOwn (model X.prog X.w) X.A X.env X.xe
 kind:c.sc.kind=.function
 stk:X.stack=X.env :: X.outer
 frm:X.env.frame=some X.env.locals
section
variable {Z:Zx} {c:CkC} {lv:Nat} {X:Cx} {E:XK} {pos:Pos}
theorem Hi {e:Expr} {t:Option Expr} {n:Nat} {env:Env} (h:Fa e=true):swapsWith e t n env=pure false:=by
 cases e <;> first | rfl | cases h
theorem Kz {q:List (Bool × Pu.E)}:∀ e ∈ q,∀ n ∈ e.2.need,n ∈ Fp q:=by
 induction q with
 | nil=>intro e he; cases he
 | cons a q ih =>
  intro e he n hn
  obtain ⟨b,e0⟩:=a
  rcases aal.mp he with rfl | he
  ·exact aax _ hn
  ·exact aan _ (ih e he n hn)
theorem O1 (C:Cs Z c lv X E) {x k:Nat} {e:Pu.E} {y:Str} {py:Pos} {e':Expr} (hn:∀ n ∈ e.need,NeedOk Z.p lv X n) (h1:(c.N[x]?==some y)=true) (h2:Fm c y=true) (h3:ckE c e e'=true):PS X (.Assign [.Name y py] e' pos) (lS Z (.asg x k e)):=by
 have hN:X.N[x]?=some y:=by rw [C.ct.N]; exact beq_iff_eq.mp h1
 obtain ⟨l1,l2⟩:=C.ct.loc h2
 intro pins s σ H D I h
 obtain ⟨τ,m,rfl,S,h⟩:=SU h
 by_cases hc:Fa e'=true
 ·exact MO C.ct.nd hN l1 (snd e C.ct (tn:=tnM m) e' hn h3).1 (Hi hc) l2 pins s _ H D I h
 ·cases e' with
  | ListComp elt' gens scope q =>
   have hsw:∃ b:Bool,swapsWith (.ListComp elt' gens scope q) (some (.Name y py)) pos.line X.env=pure b:=⟨_,rfl⟩
   obtain ⟨b,hsw⟩:=hsw
   cases b with
   | false=>exact MO C.ct.nd hN l1 (snd e C.ct (tn:=tnM m) _ hn h3).1 hsw l2 pins s _ H D I h
   | true =>
    cases e with
    | comp0 nl fr g it elt =>
     obtain ⟨tg,iter,ifs,rfl,h3⟩:=D0 h3
     obtain ⟨h3,g7⟩:=Aa h3
     obtain ⟨h3,g6⟩:=Aa h3
     obtain ⟨h3,g5⟩:=Aa h3
     obtain ⟨h3,g4⟩:=Aa h3
     obtain ⟨h3,g3⟩:=Aa h3
     obtain ⟨h3,g2⟩:=Aa h3
     obtain ⟨h3,g1⟩:=Aa h3
     obtain ⟨gc,g0⟩:=Aa h3
     cases ifs with
     | cons _ _=>cases g0
     | nil =>
     have g2:=of_decide_eq_true g2
     subst g2
     obtain ⟨Sc,nd⟩:=IX C.ct g1
     obtain ⟨n1,n2⟩:=Au hn
     refine Mb (C.ct.calm gc) Sc (sndI it C.ct (tn:=tnM m) iter n1 g4) (fun i hi=>of_decide_eq_true (aaF.mp g3 i hi)) (fun z=>⟨?_,?_⟩) (Dw g5) C.ct.nd hN l1 l2 hsw pins s _ H D I h
     ·exact GM (C.ct.blk nd z) g6
     ·exact (snd elt (C.ct.blk nd z) elt' (fun n m=>(n2 n m).blk) g7).1
    | comp1 nl fr g it cond elt =>
     obtain ⟨tg,iter,ifs,rfl,h3⟩:=D0 h3
     obtain ⟨cnd,rfl,h3⟩:=Jy h3
     obtain ⟨h3,g9⟩:=Aa h3
     obtain ⟨h3,g8⟩:=Aa h3
     obtain ⟨h3,g7⟩:=Aa h3
     obtain ⟨h3,g6⟩:=Aa h3
     obtain ⟨h3,g5⟩:=Aa h3
     obtain ⟨h3,g4⟩:=Aa h3
     obtain ⟨h3,g3⟩:=Aa h3
     obtain ⟨h3,g2⟩:=Aa h3
     obtain ⟨gc,g1⟩:=Aa h3
     have g2:=of_decide_eq_true g2
     subst g2
     obtain ⟨Sc,nd⟩:=IX C.ct g1
     obtain ⟨n1,n2⟩:=Au hn
     obtain ⟨n2,n3⟩:=Au n2
     refine Mc (C.ct.calm gc) Sc (sndI it C.ct (tn:=tnM m) iter n1 g4) (fun i hi=>of_decide_eq_true (aaF.mp g3 i hi)) (fun z=>⟨?_,?_,?_⟩) (Dw g5) C.ct.nd hN l1 l2 hsw pins s _ H D I h
     ·exact GM (C.ct.blk nd z) g6
     ·exact (snd cond (C.ct.blk nd z) cnd (fun n m=>(n2 n m).blk) g7).2 g8
     ·exact (snd elt (C.ct.blk nd z) elt' (fun n m=>(n3 n m).blk) g9).1
    | mt m _ _=>cases m <;> exact nF h3
    | _=>exact nF h3
  | SetComp _ _ _ _ =>
   cases e with
   | mt m _ _=>cases m <;> exact nF h3
   | _=>exact nF h3
  | DictComp _ _ _ _ _ =>
   cases e with
   | mt m _ _=>cases m <;> exact nF h3
   | _=>exact nF h3
  | _=>exact absurd rfl hc
theorem NF {ts:List Expr} {k:Nat} {q:Pos} {e':Expr} {env:Env} (h:FX e'=true):swappedStores [.Tuple ts k q] e' env=pure none:=by
 cases e' <;> first | rfl | cases h
theorem O2 (x:Str) (p:Pos):(Expr.Name x p).pos=p:=rfl
theorem NG {x y:Str} {px py q:Pos} {k:Nat} {e':Expr} {env:Env} (h:env.kindOf x=some .cell\/env.kindOf y=some .cell):swappedStores [.Tuple [.Name x px,.Name y py] k q] e' env=pure none:=by
 cases e' with
 | Tuple vs k2 q2 =>
  have key:([Expr.Name x px,.Name y py].filterMap fun | .Name id pos=>(if env.kindOf id==some .local && pos.line==px.line then some id else none) | _=>none).length ≠ 2:=by
   rcases h with h | h <;> simp only [abd,List.filterMap_nil,h] <;> simp <;> split <;> simp
  have key2:(([Expr.Name x px,.Name y py].filterMap fun | .Name id pos=>(if env.kindOf id==some .local && pos.line==px.line then some id else none) | _=>none).length != 2)=true:=by simpa using key
  unfold swappedStores
  simp only [aa5,List.length_nil,List.head?_cons,aaV,Option.getD_some,O2,aar,Nat.reduceAdd,key2,Bool.true_or,if_true,pure_bind]
  split
  ·rfl
  ·split
   ·rfl
   ·exact if_pos (ab1.mpr (.inl key2))
 | _=>rfl
theorem O3 {c:CkC} {ts:List Expr} {k:Nat} {q:Pos} {e':Expr} {env:Env} (hs:env.scope=c.sc) (h:(FX e' || JI c ts)=true):swappedStores [.Tuple ts k q] e' env=pure none:=by
 rcases ab1.mp h with h | h
 ·exact NF h
 ·unfold JI at h
  split at h
  ·refine NG ?_
   rw [ab1,beq_iff_eq,beq_iff_eq,<- hs] at h
   exact h
  ·cases h
theorem O4 {ts:List Expr} {k:Nat} {q:Pos} {e':Expr} {env:Env} {n:Nat}:swapsWithSole [.Tuple ts k q] e' n env=pure false:=by
 cases e' <;> rfl
theorem NH (C:Cs Z c lv X E) {xs:List Nat} {e:Pu.E} {ts:List Expr} {k:Nat} {q:Pos} {e':Expr} (hn:∀ n ∈ e.need,NeedOk Z.p lv X n) (h1:ckG c (.tp xs) (.Tuple ts k q)=true) (h2:ckE c e e'=true) (h3:(FX e' || JI c ts)=true):PS X (.Assign [.Tuple ts k q] e' pos) (lS Z (.asgT xs e)):=by
 intro pins s σ H D I h
 obtain ⟨m,h⟩:=QU (K:=X.K) h
 exact RT (snd e C.ct (tn:=tnM m) e' hn h2).1 (GM C.ct h1) O4 (O3 C.ct.sc h3) rfl pins s σ H D I h
theorem NI (C:Cs Z c lv X E) {e:Pu.E} {e':Expr} (hn:∀ n ∈ e.need,NeedOk Z.p lv X n) (h1:ckE c e e'=true) (h2:Fa e'=true):PS X (.Expr e' pos) (lS Z (.expr e)):=by
 intro pins s σ H D I h
 obtain ⟨m,h⟩:=QV h
 exact Cg (snd e C.ct (tn:=tnM m) e' hn h1).1 (Hi h2) pins s σ H D I h
theorem GP {p:Px} {EX:EXT} {tn:List Nat} {K:Frag} {u:V->List V->Hp->VK->Prop} {x:Nat} {q:List (Bool × Pu.E)} {σ:L2.St} {H:Hp} {Q:Hp->Prop} (h:lPl p EX tn x q σ H fun v H1=>tyV K "list" v H1/\lEs p EX tn .nil σ H1 fun vs H2=>u v vs H2 fun _ H3=>Q H3) :
  lPl p EX tn x q σ H fun v H1=>tyV K "list" v H1/\u v [] H1 fun _ H3=>Q H3:=by
 obtain ⟨τ,t,is,s,e1,e2,e3,e4,e5,e6,e7,h⟩:=h
 refine ⟨τ,t,is,s,e1,e2,e3,e4,e5,e6,e7,fun H' s'=>?_⟩
 obtain ⟨h1,τ2,rfl,hF,j,k,hj,h2⟩:=h H' s'
 exact ⟨h1,h2 [] H' rfl ⟨Same.refl _,trivial,by simp [T.rests],by simp [T.adrs],by simp [T.Nds,T.adrs]⟩⟩
theorem NJ {x:Nat} {rp:List (Bool × Pu.E)} {o:Expr} {name:Str} {env:Env} (h:GO c x rp o=true):attributeBase o name env (eval o env)=eval o env:=by
 cases rp with
 | nil=>cases o <;> first | rfl | exact nF h
 | cons a r=>obtain ⟨b,e⟩:=a; cases o <;> first | rfl | exact nF h
theorem O5 (C:Cs Z c lv X E) {x:Nat} {q:List (Bool × Pu.E)} {u:Um} {es:Es} {o:Expr} {xs:List Expr} {ap cp:Pos} (n1:∀ n ∈ Fp q,NeedOk Z.p lv X n) (n2:∀ n ∈ es.need,NeedOk Z.p lv X n)
  (h1:GO c x q.reverse o=true) (h2:ckEs c es xs=true) (h3:(ap.endLine==cp.line)=true) (h5:O0 u es.len=true):PS X (.Expr (.Call (.Attribute o (JH u) ap) xs [] cp) pos) (lS Z (.mut x q u es)):=by
 intro pins s σ H D I h
 obtain ⟨τ,m,r,rfl,S,hr,h⟩:=h
 have A:PE X o (lPl Z.p Z.EX (tnM m) x q):=by
  have A:=PK C.ct (tn:=tnM m) (x:=x) (rp:=q.reverse) (o:=o) (fun e he n hn=>n1 n (Kz e (abN.mp he) n hn)) h1
  rwa [acr] at A
 have hb:∀ name:Str,attributeBase o name X.env (eval o X.env)=eval o X.env:=fun name=>NJ h1
 obtain ⟨st,sl⟩:=Ck h2
 simp only [msS] at hr
 split at hr
 ·rename_i k hmx
  split at hr
  ·rename_i hc
   obtain ⟨c1,c2,c3⟩:=hc
   cases hmv:es.mvOf m with
   | some yk =>
    obtain ⟨y,ky⟩:=yk
    rw [hmv] at hr
    obtain ⟨⟨d1,d2,d3,d4⟩,rfl⟩:=AB hr
    subst d1
    have hq:q=[]:=by cases q with | nil=>rfl | cons _ _=>cases d4
    subst hq
    have hes:es=.cons (.nm y) .nil/\m[y]?=some (.ow ky):=by
     unfold Es.mvOf at hmv
     split at hmv
     ·split at hmv
      ·cases hmv; exact ⟨rfl,‹_›⟩
      ·cases hmv
     ·cases hmv
    obtain ⟨rfl,hmy⟩:=hes
    cases xs with
    | nil=>cases sl
    | cons a xr =>
     cases xr with
     | cons _ _=>cases sl
     | nil =>
      obtain ⟨g,_⟩:=Aa (show (ckE c (.nm y) a && Ak a && ckEs c .nil [])=true from h2)
      obtain ⟨g1,g2⟩:=Aa g
      cases a with
      | Name z pz =>
       obtain ⟨g,g5⟩:=Aa (show ((c.N[y]?==some z) && EY c.sc z && BJ z)=true from g1)
       obtain ⟨g3,g4⟩:=Aa g
       obtain ⟨e1,e2⟩:=BZ g5
       have hv:PE X (.Name z pz) (Ob y):=E2 (by rw [C.ct.N]; exact beq_iff_eq.mp g3) (C.ct.vis g4) e1 e2
       refine Cg (Fj PySem.F.plainAttrs_list PySem.F.slot_list_append PySem.F.type_list_append EH A (Ba hv Da rfl) (hb _) rfl h3 rfl rfl) rfl pins s _ H D I ?_
       exact SW (X:=X) S hmx hmy d2 (by simpa [lnE] using d3) rfl h
      | _=>exact nF g1
   | none =>
    rw [hmv] at hr
    obtain ⟨⟨j1,k1⟩,g1,hr⟩:=bS hr
    obtain ⟨hcc,rfl⟩:=AB hr
    have B:=(sndA es C.ct (tn:=tnM m) xs n2 h2).1
    have M:=QS (X:=X) C.ct.K S hmx c1 c2 g1 hcc rfl h
    have one:∀ {y:Expr},Ak y=true->((backTo cp (starEach [y] X.env)).all (fun x=>!x.1) && (backToKw cp (keywordEach [] X.env)).all (fun x=>x.1.isSome) && decide ([y].length + ([]:List Keyword).length + (if ([]:List Keyword).isEmpty then 0 else 1) < 30))=true:=by
     intro y hy
     rw [Ae hy]; rfl
    cases u with
    | append =>
     have h5:es.len=1:=of_decide_eq_true h5
     match xs,sl,st with
     | [y],_,st =>
      have hy:Ak y=true:=by simpa using st
      exact Cg (Fj PySem.F.plainAttrs_list PySem.F.slot_list_append PySem.F.type_list_append EH A B (hb _) (one hy) h3 (Ae hy) rfl) rfl pins s _ H D I M
     | [],sl,_=>rw [h5] at sl; cases sl
     | _ :: _ :: _,sl,_=>rw [h5] at sl; cases sl
    | extend =>
     have h5:es.len=1:=of_decide_eq_true h5
     match xs,sl,st with
     | [y],_,st =>
      have hy:Ak y=true:=by simpa using st
      exact Cg (Fj PySem.F.plainAttrs_list PySem.F.slot_list_extend PySem.F.type_list_extend Mj A B (hb _) (one hy) h3 (Ae hy) rfl) rfl pins s _ H D I M
     | [],sl,_=>rw [h5] at sl; cases sl
     | _ :: _ :: _,sl,_=>rw [h5] at sl; cases sl
    | popAt =>
     have h5:es.len=1:=of_decide_eq_true h5
     match xs,sl,st with
     | [y],_,st =>
      have hy:Ak y=true:=by simpa using st
      exact Cg (Fj PySem.F.plainAttrs_list PySem.F.slot_list_pop PySem.F.type_list_pop Op A B (hb _) (one hy) h3 (Ae hy) rfl) rfl pins s _ H D I M
     | [],sl,_=>rw [h5] at sl; cases sl
     | _ :: _ :: _,sl,_=>rw [h5] at sl; cases sl
    | insert =>
     have h5:es.len=2:=of_decide_eq_true h5
     match xs,sl,st with
     | [y,y'],_,st =>
      have hy:Ak y=true/\Ak y'=true:=by simpa using st
      exact Cg (Fj PySem.F.plainAttrs_list PySem.F.slot_list_insert PySem.F.type_list_insert Nf A B (hb _) (by rw [Ae hy.1,Ae hy.2]; rfl) h3 (Ae hy.1) (by rw [Ae hy.2]; rfl)) rfl pins s _ H D I M
     | [],sl,_=>rw [h5] at sl; cases sl
     | [_],sl,_=>rw [h5] at sl; cases sl
     | _ :: _ :: _ :: _,sl,_=>rw [h5] at sl; cases sl
    | pop =>
     have h5:es.len=0:=of_decide_eq_true h5
     rw [h5] at sl
     cases xs with
     | cons _ _=>cases sl
     | nil =>
      cases es with
      | cons _ _=>cases h5
      | nil =>
       refine Cg (Jj PySem.F.plainAttrs_list PySem.F.slot_list_pop PySem.F.type_list_pop Si A (hb _) h3) rfl pins s _ H D I ?_
       exact GP M
    | clear =>
     have h5:es.len=0:=of_decide_eq_true h5
     rw [h5] at sl
     cases xs with
     | cons _ _=>cases sl
     | nil =>
      cases es with
      | cons _ _=>cases h5
      | nil =>
       refine Cg (Jj PySem.F.plainAttrs_list PySem.F.slot_list_clear PySem.F.type_list_clear Oq A (hb _) h3) rfl pins s _ H D I ?_
       exact GP M
    | reverse =>
     have h5:es.len=0:=of_decide_eq_true h5
     rw [h5] at sl
     cases xs with
     | cons _ _=>cases sl
     | nil =>
      cases es with
      | cons _ _=>cases h5
      | nil =>
       refine Cg (Jj PySem.F.plainAttrs_list PySem.F.slot_list_reverse PySem.F.type_list_reverse LP A (hb _) h3) rfl pins s _ H D I ?_
       exact GP M
  ·cases hr
 ·cases hr
end
section
variable {Z:Zx} {c:CkC} {lv:Nat} {X:Cx} {E:XK} {pos:Pos}
theorem O6 (C:Cs Z c lv X E) {e:Pu.E} {e':Expr} (hn:∀ n ∈ e.need,NeedOk Z.p lv X n) (h1:ckE c e e'=true):PS X (.Return (some e') pos) (lS Z (.ret e)):=by
 intro pins s σ H D I h
 rcases SX h with ⟨i,t,rfl,hs,hq⟩ | ⟨m,h⟩
 ·cases e' with
  | Name y q =>
   obtain ⟨g,h3⟩:=Aa (show ((c.N[i]?==some y) && EY c.sc y && BJ y)=true from h1)
   obtain ⟨h1,h2⟩:=Aa g
   obtain ⟨d1,d2⟩:=BZ h3
   exact Je (E2 (by rw [C.ct.N]; exact beq_iff_eq.mp h1) (C.ct.vis h2) d1 d2) pins s σ H D I ⟨_,hs,hq⟩
  | _=>exact nF h1
 ·exact Je (snd e C.ct (tn:=tnM m) e' hn h1).1 pins s σ H D I h
theorem Mk (C:Cs Z c lv X E) {n:Nat} {es:Es} {xs:List Expr} {np cp:Pos} (hn:∀ n ∈ es.need,NeedOk Z.p lv X n) (hr:NeedOk Z.p lv X (.rs n)) (h1:glB c.sc (A4 n)=true) (h2:BJ (A4 n)=true) (h3:ckEs c es xs=true) (h4:0 < es.len) (h5:es.len<=1000) (hrz:c.rz=true) (hcm:c.cm=true) :
  PS X (.Raise (some (.Call (.Name (A4 n) np) xs [] cp)) none pos) (lS Z (.raise n es)):=by
 intro pins s σ H D I h
 obtain ⟨m,h⟩:=OZ h
 obtain ⟨r1,r2,r3⟩:=hr
 obtain ⟨s1,s2⟩:=Ck h3
 have A:=(sndA es C.ct (tn:=tnM m) xs hn h3).1
 cases xs with
 | nil=>rw [<- s2] at h4; cases h4
 | cons x xr =>
  rw [aaH,aak] at s1
  refine Oy (C.xw hrz) (C.ct.calm hcm) (C.ct.gl h1) r2 r3 A (BZ h2).1 (Ae s1.1) (AC s1.2) pins s σ H D I ?_
  obtain ⟨τ,e,hF,j,k,hj,h⟩:=h
  refine ⟨τ,e,hF,j,k,hj,h.mono (Same.refl _) fun ds _ hd ts H1 ht R=>?_⟩
  obtain ⟨q1,q2⟩:=hd ts H1 ht R
  refine ⟨by rw [q1]; exact aaM h5 (by decide),?_⟩
  have:=q2 r1
  rw [C.ex hrz] at this
  exact this
end
section
variable {Z:Zx} {c:CkC} {lv:Nat} {X:Cx} {E:XK} {pos:Pos}
theorem Ml (C:Cs Z c lv X E) {m:Ms} {τ:Ft}:∀ (es:Es) {I:List Nat} (xs:List Expr),(∀ n ∈ es.need,NeedOk Z.p lv X n)->ckEs c es xs=true->PA X xs (lRO Z m τ I es)
 | .nil,I,xs,hn,h=>by
  cases xs with
  | nil =>
   refine PA.mono Da fun σ H Q h=>?_
   obtain ⟨rfl,S,k,hk,h⟩:=h
   exact h [] H rfl S6
  | cons _ _=>exact nF h
 | .cons e r,I,xs,hn,h=>by
  cases xs with
  | nil=>exact nF h
  | cons x xs =>
   obtain ⟨h,h3⟩:=Aa (show (ckE c e x && Ak x && ckEs c r xs)=true from h)
   obtain ⟨h1,h2⟩:=Aa h
   obtain ⟨n1,n2⟩:=Au hn
   cases q:IY m e with
   | some ik =>
    obtain ⟨i,k⟩:=ik
    obtain ⟨rfl,hm⟩:=OU q
    cases x with
    | Name y py =>
     obtain ⟨g,g3⟩:=Aa (show ((c.N[i]?==some y) && EY c.sc y && BJ y)=true from h1)
     obtain ⟨g1,g2⟩:=Aa g
     obtain ⟨d1,d2⟩:=BZ g3
     refine PA.mono (Ba (E2 (by rw [C.ct.N]; exact beq_iff_eq.mp g1) (C.ct.vis g2) d1 d2) (Ml C (m:=m) (τ:=τ) r (I:=i :: I) xs n2 h3) (Ae h2)) fun σ H Q h=>?_
     obtain ⟨rfl,S,k0,hk,h⟩:=h
     rw [rkT,q] at hk
     simp only at hk
     split at hk
     ·cases hk
     ·rename_i hi
      obtain ⟨k2,hk2,hk⟩:=bS hk
      cases hk
      simp only [evs,ev] at h
      cases q2:get (dτ τ) i with
      | exc c=>unfold get at q2; split at q2 <;> cases q2
      | bad=>rw [q2] at h; exact nE h
      | ok d =>
       obtain ⟨t,ht,rfl⟩:=Ec q2
       rw [q2,Res.bind_ok] at h
       refine ⟨_,Dv ht,rfl,S,k2,hk2,h.bind.mono (Same.refl _) fun ds _ h ts H1 hts R=>?_⟩
       exact h (t :: ts) H1 (by simp [T.dats,hts]) (S7 S ht hm hi R)
    | _=>exact nF h1
   | none =>
    refine PA.mono (Ba (snd e C.ct (tn:=tnM m) x n1 h1).1 (Ml C (m:=m) (τ:=τ) r (I:=I) xs n2 h3) (Ae h2)) fun σ H Q h=>?_
    obtain ⟨rfl,S,k0,hk,h⟩:=h
    rw [rkT,q] at hk
    simp only at hk
    obtain ⟨⟨j1,k1⟩,hj,hk⟩:=bS hk
    split at hk
    ·rename_i hz
     have hz:j1=0:=hz
     subst hz
     obtain ⟨k2,hk2,hk⟩:=bS hk
     cases hk
     simp only [evs] at h
     refine l1 S.ok hj h fun d t H1 ht R h=>?_
     subst ht
     refine ⟨rfl,S.grow R.same,k2,hk2,h.bind.mono R.same fun ds _ h ts H2 hts R2=>?_⟩
     exact h (t :: ts) H2 (by simp [T.dats,hts]) (S8 S R R2)
    ·cases hk
end
mutual
theorem UJ {Z:Zx} {c:CkC} {lv:Nat} {X:Cx} {E:XK} (C:Cs Z c lv X E):∀ (s:S) (st:Stmt),(∀ n ∈ s.need,NeedOk Z.p lv X n)->ckS c s st=true->PS X st (lS Z s)
 | .asg x k e,st,hn,h=>by
  cases st with
  | Assign ts e' q =>
   match ts,h with
   | [t],h =>
    cases t with
    | Name y py =>
     obtain ⟨h,h3⟩:=Aa (show ((c.N[x]?==some y) && Fm c y && ckE c e e')=true from h)
     obtain ⟨h1,h2⟩:=Aa h
     exact O1 C hn h1 h2 h3
    | _=>exact nF h
   | [],h=>exact nF h
   | t :: _ :: _,h=>cases t <;> exact nF h
  | _=>exact nF h
 | .dem _ _,st,hn,h=>by cases st <;> exact nF h
 | .dead _,st,hn,h=>by cases st <;> exact nF h
 | .asgT xs e,st,hn,h=>by
  cases st with
  | Assign ts e' q =>
   match ts,h with
   | [t],h =>
    cases t with
    | Tuple es k py =>
     obtain ⟨h,h3⟩:=Aa (show (ckG c (.tp xs) (.Tuple es k py) && ckE c e e' && (FX e' || JI c es))=true from h)
     obtain ⟨h1,h2⟩:=Aa h
     exact NH C hn h1 h2 h3
    | _=>exact nF h
   | [],h=>exact nF h
   | t :: _ :: _,h=>cases t <;> exact nF h
  | _=>exact nF h
 | .mut x q u es,st,hn,h=>by
  cases st with
  | Expr v q2 =>
   cases v with
   | Call f xs ks cp =>
    cases f with
    | Attribute o name ap =>
     cases ks with
     | nil =>
      obtain ⟨h,h8⟩:=Aa (show (GO c x q.reverse o && (name==JH u) && ckEs c es xs && (ap.endLine==cp.line) && JJ o && decide (es.len < 20) && O0 u es.len)=true from h)
      obtain ⟨h,h7⟩:=Aa h
      obtain ⟨h,h5⟩:=Aa h
      obtain ⟨h,h4⟩:=Aa h
      obtain ⟨h,h3⟩:=Aa h
      obtain ⟨h1,h2⟩:=Aa h
      cases beq_iff_eq.mp h2
      obtain ⟨n1,n2⟩:=Au hn
      exact O5 C n1 n2 h1 h3 h4 h8
     | cons _ _=>exact nF h
    | _=>exact nF h
   | _=>exact nF h
  | _=>exact nF h
 | .expr e,st,hn,h=>by
  cases st with
  | Expr v q2 =>
   obtain ⟨h1,h2⟩:=Aa (show (ckE c e v && Fa v)=true from h)
   exact NI C hn h1 h2
  | _=>exact nF h
 | .iff t a b,st,hn,h=>by
  cases st with
  | If t' a' b' q =>
   obtain ⟨h,h4⟩:=Aa (show (ckE c t t' && t.tst && ckSs c a a' && ckSs c b b')=true from h)
   obtain ⟨h,h3⟩:=Aa h
   obtain ⟨h1,h2⟩:=Aa h
   obtain ⟨n1,n2⟩:=Au hn
   obtain ⟨n2,n3⟩:=Au n2
   intro pins s σ H D I h
   obtain ⟨m,h⟩:=SY h
   exact TK ((snd t C.ct (tn:=tnM m) t' n1 h1).2 h2) (sndSs C a a' n2 h3) (sndSs C b b' n3 h4) pins s σ H D I h
  | _=>exact nF h
 | .wh t b,st,hn,h=>by
  cases st with
  | While t' b' el q =>
   cases el with
   | nil =>
    obtain ⟨h,hrz⟩:=Aa (show (ckE c t t' && t.tst && ckSs c b b' && c.rz)=true from h)
    obtain ⟨h,h3⟩:=Aa h
    obtain ⟨h1,h2⟩:=Aa h
    obtain ⟨n1,n2⟩:=Au hn
    intro pins s σ H D I h
    obtain ⟨m,h⟩:=T9 h
    exact Of (C.po hrz) ((snd t C.ct (tn:=tnM m) t' n1 h1).2 h2) (sndSs C b b' n2 h3) pins s σ H D I h
   | cons _ _=>exact nF h
  | _=>exact nF h
 | .for_ g it b,st,hn,h=>by
  cases st with
  | For tg it' b' el q =>
   cases el with
   | nil =>
    obtain ⟨h,hcm⟩:=Aa (show (ckG c g tg && ckI c tg it it' && DI it' && ckSs c b b' && c.rz && c.cm)=true from h)
    obtain ⟨h,hrz⟩:=Aa h
    obtain ⟨h,h4⟩:=Aa h
    obtain ⟨h,h3⟩:=Aa h
    obtain ⟨h1,h2⟩:=Aa h
    obtain ⟨n1,n2⟩:=Au hn
    have B:=sndSs C b b' n2 h4
    intro pins s σ H D I h
    rcases S5 (K:=X.K) (X:=X) h with ⟨m,h⟩ | ⟨x,rfl,v,a,xs,e1,rfl,sq,hW⟩
    ·exact MU (C.po hrz) (C.ct.calm hcm) (sndI it C.ct (tn:=tnM m) it' n1 h2) (GM C.ct h1) B (Dw h3) pins s σ H D I h
    ·cases it' with
     | Name y q' =>
      obtain ⟨g,g3⟩:=Aa (show ((c.N[x]?==some y) && EY c.sc y && BJ y)=true from h2)
      obtain ⟨g1,g2⟩:=Aa g
      obtain ⟨d1,d2⟩:=BZ g3
      refine MU (C.po hrz) (C.ct.calm hcm) (Ju (E2 (by rw [C.ct.N]; exact beq_iff_eq.mp g1) (C.ct.vis g2) d1 d2)) (GM C.ct h1) B (Dw h3) pins s σ H D I ?_
      exact ⟨_,e1,a,rfl,.inl ⟨xs,sq,hW C.ct.K⟩⟩
     | _=>exact nF h2
   | cons _ _=>exact nF h
  | _=>exact nF h
 | .ret e,st,hn,h=>by
  cases st with
  | Return v q =>
   cases v with
   | some e'=>exact O6 C hn h
   | none=>exact nF h
  | _=>exact nF h
 | .retT es,st,hn,h=>by
  cases st with
  | Return v q =>
   cases v with
   | none=>exact nF h
   | some e' =>
    cases e' with
    | Tuple xs k2 p2 =>
     obtain ⟨h1,h2⟩:=Aa (show (ckEs c es xs && decide (es.len<=1000))=true from h)
     intro pins s σ H D I hq
     obtain ⟨m,τ,hq⟩:=QX (of_decide_eq_true h2) hq
     exact Je (M0 (Ml C es xs hn h1)) pins s σ H D I hq
    | _=>exact nF h
  | _=>exact nF h
 | .raise n es,st,hn,h=>by
  cases st with
  | Raise v w q =>
   cases v with
   | none=>exact nF h
   | some v =>
    cases v with
    | Call f xs ks cp =>
     cases f with
     | Name x np =>
      cases ks with
      | nil =>
       cases w with
       | none =>
        obtain ⟨h,hcm⟩:=Aa (show ((x==A4 n) && glB c.sc x && BJ x && ckEs c es xs && decide (0 < es.len) && decide (es.len<=1000) && c.rz && c.cm)=true from h)
        obtain ⟨h,hrz⟩:=Aa h
        obtain ⟨h,h6⟩:=Aa h
        obtain ⟨h,h5⟩:=Aa h
        obtain ⟨h,h4⟩:=Aa h
        obtain ⟨h,h3⟩:=Aa h
        obtain ⟨h1,h2⟩:=Aa h
        cases beq_iff_eq.mp h1
        exact Mk C (fun n m=>hn n (aab _ m)) (hn _ (aac ..)) h2 h3 h4 (of_decide_eq_true h5) (of_decide_eq_true h6) hrz hcm
       | some _=>exact nF h
      | cons _ _=>exact nF h
     | _=>exact nF h
    | _=>exact nF h
  | _=>exact nF h
theorem sndSs {Z:Zx} {c:CkC} {lv:Nat} {X:Cx} {E:XK} (C:Cs Z c lv X E):∀ (s:Ss) (st:List Stmt),(∀ n ∈ s.need,NeedOk Z.p lv X n)->ckSs c s st=true->PSs X st (lSs Z s)
 | .nil,st,hn,h=>by
  cases st with
  | nil=>exact fun pins s σ H D I h=>PV pins s σ H D I (S0 h)
  | cons _ _=>exact nF h
 | .cons s r,st,hn,h=>by
  obtain ⟨n1,n2⟩:=Au hn
  have skip:(∃ x k,s=.dem x k)\/(∃ x,s=.dead x)->ckSs c r st=true->PSs X st (lSs Z (.cons s r)):=fun hs h=>PSs.mono (sndSs C r st n2 h) fun D σ H q=>QW hs q
  by_cases hd:(∃ x k,s=.dem x k)\/(∃ x,s=.dead x)
  ·refine skip hd ?_
   rcases hd with ⟨x,k,rfl⟩ | ⟨x,rfl⟩
   ·exact h
   ·exact h
  ·cases st with
   | nil=>cases s <;> first | exact nF h | exact absurd (.inl ⟨_,_,rfl⟩) hd | exact absurd (.inr ⟨_,rfl⟩) hd
   | cons x xs =>
    have h:(ckS c s x && ckSs c r xs)=true:=by
     cases s <;> first | exact h | exact absurd (.inl ⟨_,_,rfl⟩) hd | exact absurd (.inr ⟨_,rfl⟩) hd
    obtain ⟨h1,h2⟩:=Aa h
    exact PSs.mono (Od (UJ C s x n1 h1) (sndSs C r xs n2 h2)) fun D σ H q=>SZ q
end
structure Lw where
 p:Px
 P:Program
 w:World
 mg:Str->Option Value
 base:Heap
structure Lw.Ok (L:Lw):Prop where
 blt:∀ y ∈ Eo,L.mg y=none
 bt:∀ y ∈ (["bool", "dict", "ValueError"]:List Str),L.mg y=none
 kx:Kx L.p
noncomputable def O7 (L:Lw) (F:Fn):Prop:=∃ ps:List Str,ps.length=F.ar/\Has L.P L.w L.p.K L.mg L.base F.name F.lv ps (spF L.p F)
noncomputable def NeedG (L:Lw) (lv:Nat):Nd1->Prop
 | .fn F=>F.lv<=lv/\O7 L F
 | .cl n=>L.p.has n=true/\L.mg (A4 n)=some (.ref (L.p.cl n))
 | .rs n=>L.p.has n=true/\nsIn L.p.K mainGlobals (A4 n)=some (some (.ref (L.p.cl n)))/\excIn L.p.K (L.p.cl n) GG "ValueError.__new__" = true
 | .gl x d=>∃ u,L.mg x=some u/\RelV (dT d).val u
noncomputable def AllN (f:Nd1->Prop):List Nd1->Prop
 | []=>True
 | n :: r=>f n/\AllN f r
theorem AllN.mem {f:Nd1->Prop}:∀ {l:List Nd1},AllN f l->∀ n ∈ l,f n
 | [],_,n,h=>by cases h
 | m :: r,h,n,hn=>by
  rcases aal.mp hn with rfl | hn
  ·exact h.1
  ·exact AllN.mem h.2 n hn
noncomputable def An (name:Str) (ar lv dep n:Nat) (body:Ss):Fn:=⟨name,ar,lv,dep,fun ds=>if ds.length=ar then run n body ds else .bad⟩
theorem Af {x:Str} {ar lv dep n:Nat} {b:Ss} {ds:List D} (h:ds.length=ar):(An x ar lv dep n b).den ds=run n b ds:=if_pos h
noncomputable def m0 (ar n:Nat):Ms:=aag ar .sh ++ aag (n - ar) .dead
noncomputable def τ0 (n:Nat) (ts:List T):Ft:=ts.map some ++ aag (n - ts.length) none
theorem vτ0 (N:List Str) (ts:List T):vτ (τ0 N.length ts)=L2.AH N (ts.map T.val):=by
 unfold vτ τ0 L2.AH
 rw [aao,aaP,aaP,abb,aaa]
 rfl
theorem dτ0 (n:Nat) (ts:List T):dτ (τ0 n ts)=Pu.AH n (T.dats ts):=by
 unfold dτ τ0 Pu.AH
 rw [aao,aaP,T.dats_map,aaP,abb,aaa]
 rfl
theorem JK {ar n i:Nat} {d:Md} (h:(m0 ar n)[i]?=some d):(i < ar/\d=.sh)\/(ar<=i/\d=.dead):=by
 unfold m0 at h
 by_cases hi:i < ar
 ·rw [aaK (by simpa using hi),aaR,if_pos hi] at h
  exact .inl ⟨hi,(Option.some.inj h).symm⟩
 ·rw [aaD (by simpa using hi),aaR] at h
  split at h
  ·exact .inr ⟨aaU hi,(Option.some.inj h).symm⟩
  ·cases h
theorem Lh {n i:Nat} {ts:List T} {t:T} (h:(τ0 n ts)[i]?=some (some t)):t ∈ ts:=by
 unfold τ0 at h
 have:=aae h
 rw [aaf] at this
 rcases this with z | z
 ·obtain ⟨u,hu,e⟩:=aaC.mp z
  cases e; exact hu
 ·have:=(abo.mp z).2; cases this
theorem Li {p:Px} {H:Hp}:∀ {ts:List T},T.Oks p H ts->∀ t ∈ ts,t.Ok p H
 | [],_,t,h=>by cases h
 | u :: r,h,t,ht=>by
  rcases aal.mp ht with rfl | ht
  ·exact h.1
  ·exact Li h.2 t ht
theorem sf0 {p:Px} {H:Hp} {ts:List T} {n ar:Nat} (ok:T.Oks p H ts) (hl:ts.length=ar) (hn:ar<=n):Sf p H (fun a=>a ∈ T.rests ts 0) (m0 ar n) (τ0 n ts) H:=by
 have noOw:∀ {i k:Nat},(m0 ar n)[i]? ≠ some (.ow k):=fun {i k} h=>by
  rcases JK h with ⟨_,z⟩ | ⟨_,z⟩ <;> cases z
 refine ⟨?_,fun d hd=>?_,Same.refl _,fun i t j h1 h2 h3=>Li ok t (Lh h1),fun i t k a h1 h2=>absurd h2 noOw,?_,fun i t k h1 h2=>absurd h2 noOw,fun i j t u k d h0 h1 h2=>absurd h2 noOw,fun i j t u k k2 h1 h2=>absurd h2 noOw⟩
 ·unfold τ0 m0
  simp [hl]
 ·obtain ⟨i,hi⟩:=abS hd
  rcases JK hi with ⟨_,rfl⟩ | ⟨_,rfl⟩ <;> rfl
 ·rintro a ⟨i,t,j,h1,h2,h3,h4⟩
  obtain ⟨d,h5,rfl⟩:=Bb h2
  right
  refine T.mem_rests.mpr ⟨t,Lh h1,?_⟩
  rcases JK h5 with ⟨_,rfl⟩ | ⟨_,rfl⟩
  ·exact h4
  ·exact absurd h3 (by decide)
theorem NeedG.to {L:Lw} {lv:Nat} {n:Nd1} (h:NeedG L lv n) {X:Cx} (e1:X.prog=L.P) (e2:X.w=L.w) (e3:X.K=L.p.K) (e4:X.mg=L.mg) (e5:X.base=L.base):NeedOk L.p lv X n:=by
 cases n with
 | fn F =>
  refine ⟨h.1,?_⟩
  unfold L7
  rw [e1,e2,e3,e4,e5]
  exact h.2
 | cl n=>show _/\_; rw [e4]; exact h
 | rs n=>show _/\_/\_; rw [e3]; exact h
 | gl x d=>show ∃ u,_; rw [e4]; exact h
theorem NK {L:Lw} (O:L.Ok) {x:Str} {st:Stmt} {N ps:List Str} {ar lv dep:Nat} {body:Ss} {f:Addr} {fd:FuncData} (D:Fun L.p.K x x st f fd) (S:FnScope N ps (Am st)) (har:ps.length=ar)
  (hck:ckSs ⟨N,Am st,true,true,true⟩ body (AN st)=true) (hms:(msSs (aag N.length .dead) dep body (m0 ar N.length)).isSome=true) (hn:AllN (NeedG L lv) body.need):FnOk L.P L.w L.p.K L.mg L.base (CXe L.P L.w) (lv + 1) f fd ps (spF L.p (An x ar (lv + 1) dep N.length body)):=by
 have hpl:ps.length<=N.length:=by have:=congrArg abe S.pre; rw [aa3] at this; omega
 refine Fun.okX D S (fun vs H Q E h=>?_) fun f cdv A outer s H vs Q E hr hsp=>?_
 ·obtain ⟨ts,rfl,_,h,_⟩:=h
  rw [aaa,h]; exact har.symm
 ·obtain ⟨ts,rfl,ok,hl,h⟩:=hsp
  have hl:ts.length=ar:=hl
  obtain ⟨r,hr'⟩:=aaz.mp hms
  let Z:Zx:=⟨L.p,H,fun a=>a ∈ T.rests ts 0,fun _=>E,aag N.length .dead,dep⟩
  have C:Cs Z ⟨N,Am st,true,true,true⟩ lv (BF (CXe L.P L.w) L.P L.w L.p.K L.mg L.base N x (Am st) f cdv A outer s H E) E:=by
   refine ⟨⟨rfl,rfl,rfl,S.nd,fun _=>rfl,fun _=>hr,hr.units,O.blt,O.bt,?_,fun _ _=>rfl,O.kx⟩,fun _=>rfl,fun _=>Ox fun _ _ _ h=>h,fun _=>PassesOwn.leaving,S.kind,rfl,rfl⟩
   intro pins σ H' s' e s'' I h
   exact TY (fun _ _ _ h=>h) pins σ H' s' e s'' I h
  refine ⟨_,sndSs C body (AN st) (fun n hnm=>(hn.mem n hnm).to rfl rfl rfl rfl rfl) hck,τ0 N.length ts,m0 ar N.length,r,(vτ0 N ts).symm,sf0 ok hl (by omega),hr',?_⟩
  have h:match (if (T.dats ts).length=ar then run N.length body (T.dats ts) else .bad) with
   | .ok d=>∀ t H',t.dat=d->Rs L.p (fun a=>a ∈ T.rests ts 0) H H' 0 dep t->Q t.val H'
   | .exc c=>L.p.has c=true->∀ H',Same H H'->E (.ref (L.p.cl c)) none H'
   | .bad=>False:=h
  rw [if_pos (by rw [T.dats_map,aaa]; exact hl)] at h
  unfold run at h
  rw [dτ0]
  cases q:exs body (Pu.AH N.length (T.dats ts)) with
  | nxt δ =>
   rw [q] at h
   intro m' τ' H' e1 e2 S' P'
   exact h .non H' rfl (Rs.scal S'.same rfl)
  | ret d =>
   rw [q] at h
   exact h
  | exc c δ =>
   rw [q] at h
   intro hc τ' H' e S' P'
   exact h hc H' S'.same
  | bad=>rw [q] at h; exact h.elim
theorem QY {L:Lw} (O:L.Ok) {x:Str} {st:Stmt} {N ps:List Str} {ar lv dep:Nat} {body:Ss} (D:Df L.p.K L.mg x st ps) (S:FnScope N ps (Am st)) (har:ps.length=ar)
  (hck:ckSs ⟨N,Am st,true,true,true⟩ body (AN st)=true) (hms:(msSs (aag N.length .dead) dep body (m0 ar N.length)).isSome=true) (hn:AllN (NeedG L lv) body.need):O7 L (An x ar (lv + 1) dep N.length body):=by
 obtain ⟨f,fd,F,m,b⟩:=D
 exact ⟨ps,har,f,fd,NK O F S har hck hms hn,m,F.kp,b⟩
noncomputable def UK:Value->Bool
 | .type x=>x == "list"
 | _=>false
noncomputable def noL (K:Frag):Bool:=K.all fun e=>!UK e.2.cls
theorem NL {a:Addr} {o:Obj}:∀ {K:Frag},K.lookup a=some o->(a,o) ∈ K
 | [],h=>by cases h
 | (b,u) :: r,h=>by
  by_cases e:a=b
  ·subst e
   rw [List.lookup_cons_self] at h
   cases h
   exact aac
  ·have:(a==b)=false:=by simpa using e
   rw [List.lookup_cons,this] at h
   exact aab _ (NL h)
theorem S9 {K:Frag} (h:noL K=true) {a:Addr} {o:Obj} (e:K.lookup a=some o):o.cls ≠ .type "list" := fun z=>by
 have:=aaF.mp h (a,o) (NL e)
 rw [z] at this
 cases this
noncomputable def spL (K:Frag):Sp:=fun vs H Q E=>∃ (a:Addr) (ns:List Int),vs=[.ref a]/\ns.length<=63/\SqL K H a (ns.map V.int)/\∀ H',Q (.bl true) H'
theorem JL:∀ ns:List Int,(ns.map T.int).map T.val=ns.map V.int
 | []=>rfl
 | n :: r=>by rw [aaE,aaE,aaE,JL r]; rfl
theorem JM:∀ ns:List Int,T.dats (ns.map T.int)=ns.map D.int
 | []=>rfl
 | n :: r=>by rw [aaE,aaE,T.dats,JM r]; rfl
theorem Lj {p:Px} {H:Hp}:∀ ns:List Int,T.Oks p H (ns.map T.int)
 | []=>trivial
 | n :: r=>⟨trivial,Lj r⟩
theorem Ta {P:Program} {w:World} {K:Frag} {mg:Str->Option Value} {base:Heap} {p:Px} {F:Fn} {f:Addr} {fd:FuncData} {ps:List Str} (hF:FnOk P w K mg base (CXe P w) F.lv f fd ps (spF p F)) (hp:p.K=K) (ha:F.ar=1) (hK:noL K=true)
  (hd:∀ ns:List Int,ns.length<=63->F.den [.lst (ns.map .int)]=.ok (.bl true)):FnOk P w K mg base (CXe P w) F.lv f fd ps (spL K):=by
 refine hF.imp fun vs H Q E h=>?_
 obtain ⟨a,ns,rfl,hl,hS,q⟩:=h
 have hR:Rd H a (.lst (ns.map V.int)):=by
  rcases hS with h | ⟨o,its,n,e,c,_⟩
  ·exact h
  ·exact absurd c (S9 hK e)
 refine ⟨[.lst a (ns.map T.int)],rfl,⟨⟨by rw [JL]; exact hR,Lj ns⟩,trivial⟩,ha.symm,?_⟩
 have e:T.dats [T.lst a (ns.map T.int)]=[.lst (ns.map .int)]:=by
  show [D.lst (T.dats (ns.map T.int))]=_
  rw [JM]
 rw [e,hd ns hl]
 intro t H' ht R
 cases t <;> first | cases ht | skip
 exact q H'
theorem Ua {l:PySem.W.OpenLaw} {k:Nat} {q:Program} {loose:List Str} {XP:(Str->Option Value)->Heap->Prop} {YP:World->Heap->Prop} {d:DefRec} {K:Params->PySem.W.Frag} {x:Str} (hn:l.most=some 63) (hdf:d.params.defaults=[]) (hr:Room k callerA)
  (hY:∀ (w:World) (h:Heap),YP w h->(K w.params).In h)
  (F:∀ (w:World) (mg:Str->Option Value) (fa:Addr) (h:Heap),(K w.params).In h->h.Ns mainGlobals mg->mg d.name=some (.ref fa) ->
   ∃ fd:FuncData,(∀ (s:Shared) (u:Value),BindsTo s fd ⟨[u],[]⟩ [(x,u)])/\∀ base:Heap,(K w.params).In base->base.Ns mainGlobals mg->FnOk l.prog w (K w.params) mg base (CXe l.prog w) k fa fd [x] (spL (K w.params))) :
  PySem.W.WalkO q loose XP YP l.row.toRowW d [] (fun f vs=>PySem.call f vs) :=
 L2.Qa (n:=63) (k:=k) (x:=x) (CX:=fun w=>CXe l.prog w) (sp:=fun w=>spL (K w.params)) hn (by decide) hdf hr hY F (fun _ _ a ns hl _ hS=>⟨a,ns,rfl,hl,hS,fun _=>rfl⟩) fun w H s e s' h=>by
  obtain ⟨_,_,_,_,_,_,_,_,_,_,_,_,_,_,_,_,_,_,z⟩:=h
  exact z
noncomputable def Ar (K:Frag) (x:Str) (st:Stmt):Prop:=∃ (f:Addr) (oc:Value) (od an:Option Addr) (sl:Array (Option Value)) (kV dc pm cd ct:Value),nsIn K mainGlobals x=some (some (.ref f))/\K.lookup f=some ⟨oc,od,.func (fnOf x x (BX st) (AN st) (Am st) .none kV dc pm an cd ct),sl⟩/\codeIn K cd x=true/\keepIn K (.ref f)=true
theorem As {K:Frag} {x:Str} {st:Stmt} {f:Addr} {oc:Value} {od an:Option Addr} {sl:Array (Option Value)} {kV dc pm cd ct:Value} (a:nsIn K mainGlobals x=some (some (.ref f))) (l:K.lookup f=some ⟨oc,od,.func (fnOf x x (BX st) (AN st) (Am st) .none kV dc pm an cd ct),sl⟩) (c:codeIn K cd x=true) (k:keepIn K (.ref f)=true):Ar K x st:=⟨f,oc,od,an,sl,kV,dc,pm,cd,ct,a,l,c,k⟩
theorem Ag {K:Frag} {h:Heap} {mg:Str->Option Value} {x:Str} {st:Stmt} {ps:List Str} (X:K.In h) (G:h.Ns mainGlobals mg) (t:Ar K x st) (hb:∀ (kV doc pm:Value) (an:Option Addr) (cdv ct:Value) (us:List Value),us.length=ps.length->bindArgs (fnOf x x (BX st) (AN st) (Am st) .none kV doc pm an cdv ct) ⟨us,[]⟩=pure (ps.zip us)):Df K mg x st ps:=by
 obtain ⟨f,oc,od,an,sl,kV,dc,pm,cd,ct,a,l,c,k⟩:=t
 exact T0 X G a l c k hb
theorem ba1 {fd:FuncData} {a0:Str} (h:∀ u0:Value,bindArgs fd ⟨[u0],[]⟩=pure [(a0,u0)]):∀ us:List Value,us.length=([a0]:List Str).length->bindArgs fd ⟨us,[]⟩=pure (([a0]:List Str).zip us)
 | [u0],_=>h u0
theorem ba2 {fd:FuncData} {a0 a1:Str} (h:∀ u0 u1:Value,bindArgs fd ⟨[u0,u1],[]⟩=pure [(a0,u0),(a1,u1)]):∀ us:List Value,us.length=([a0,a1]:List Str).length->bindArgs fd ⟨us,[]⟩=pure (([a0,a1]:List Str).zip us)
 | [u0,u1],_=>h u0 u1
theorem ba3 {fd:FuncData} {a0 a1 a2:Str} (h:∀ u0 u1 u2:Value,bindArgs fd ⟨[u0,u1,u2],[]⟩=pure [(a0,u0),(a1,u1),(a2,u2)]):∀ us:List Value,us.length=([a0,a1,a2]:List Str).length->bindArgs fd ⟨us,[]⟩=pure (([a0,a1,a2]:List Str).zip us)
 | [u0,u1,u2],_=>h u0 u1 u2
theorem ba4 {fd:FuncData} {a0 a1 a2 a3:Str} (h:∀ u0 u1 u2 u3:Value,bindArgs fd ⟨[u0,u1,u2,u3],[]⟩=pure [(a0,u0),(a1,u1),(a2,u2),(a3,u3)]):∀ us:List Value,us.length=([a0,a1,a2,a3]:List Str).length->bindArgs fd ⟨us,[]⟩=pure (([a0,a1,a2,a3]:List Str).zip us)
 | [u0,u1,u2,u3],_=>h u0 u1 u2 u3
structure ClsF (K:Frag) (x:Str) (C:Addr):Prop where
 q:nsIn K mainGlobals x=some (some (.ref C))
 x:XCls K C
 t:∀ T ∈ (["int", "bool", "str", "list", "tuple", "dict"]:List String),kitOne K (.ref C) (.type T)=some false
 v:kitOne K (.ref C) (.type "ValueError")=some true
theorem Tb {K:Frag} {x:Str} {C:Addr} {cd:ClassData} (q:nsIn K mainGlobals x=some (some (.ref C)))
  (ga:findIn K (.ref C) "__getattribute__" = some (some (.builtin "BaseException.__getattribute__"))) (gn:findIn K (.ref C) "__getattr__" = some none) (sb:subIn K (.ref C) (.type "BaseException")=some true)
  (cl:findIn K (.ref C) "__class__" = some (some (.builtin "object.__class__"))) (mo:mroIn K C (.type "object")=some true) (ty:typeIn K (.ref C)=some (.type "type")) (cc:clsIn K C=some cd)
  (t1:kitOne K (.ref C) (.type "int")=some false) (t2:kitOne K (.ref C) (.type "bool")=some false) (t3:kitOne K (.ref C) (.type "str")=some false) (t4:kitOne K (.ref C) (.type "list")=some false) (t5:kitOne K (.ref C) (.type "tuple")=some false) (t6:kitOne K (.ref C) (.type "dict")=some false)
  (v:kitOne K (.ref C) (.type "ValueError")=some true):ClsF K x C:=by
 refine ⟨q,⟨ga,gn,sb,cl,mo,ty,by rw [cc]; rfl⟩,fun T hT=>?_,v⟩
 simp only [aal,acd,or_false] at hT
 rcases hT with rfl | rfl | rfl | rfl | rfl | rfl <;> assumption
noncomputable abbrev Cs':=List (Nat × Addr)
noncomputable def clA:Cs'->Nat->Addr
 | [],_=>0
 | (c,a) :: r,n=>if n=c then a else clA r n
noncomputable def C4:Cs'->Nat->Bool
 | [],_=>false
 | (c,_) :: r,n=>n==c || C4 r n
noncomputable def AllC {α:Type} (f:α->Prop):List α->Prop
 | []=>True
 | q :: r=>f q/\AllC f r
theorem AllC.mem {α:Type} {f:α->Prop}:∀ {l:List α},AllC f l->∀ n ∈ l,f n
 | [],_,n,h=>by cases h
 | m :: r,h,n,hn=>by
  rcases aal.mp hn with rfl | hn
  ·exact h.1
  ·exact AllC.mem h.2 n hn
theorem Dz:∀ {cs:Cs'} {n:Nat},C4 cs n=true->(n,clA cs n) ∈ cs
 | [],n,h=>by cases h
 | (c,a) :: r,n,h=>by
  unfold C4 at h
  unfold clA
  by_cases e:n=c
  ·subst e; rw [if_pos rfl]; exact aac
  ·rw [if_neg e]
   have:(n==c)=false:=by simpa using e
   rw [this,Bool.false_or] at h
   exact aab _ (Dz h)
theorem Ub {K:Frag} {cs:Cs'} (h9:C4 cs 999=false) (h:AllC (fun q=>ClsF K (A4 q.1) q.2) cs) (y:AllC (fun q=>AllC (fun r=>kitOne K (.ref q.2) (.ref r.2)=some (isa q.1 r.1)) cs) cs):Kx ⟨K,clA cs,C4 cs⟩ :=
 ⟨h9,fun c hc=>(h.mem _ (Dz hc)).x,fun c hc=>(h.mem _ (Dz hc)).t,fun c hc=>(h.mem _ (Dz hc)).v,fun c d hc hd=>(y.mem _ (Dz hc)).mem _ (Dz hd)⟩
theorem Uc {K:Frag} {P:Program} {w:World} {mg:Str->Option Value} {base h:Heap} {cs:Cs'} (h9:C4 cs 999=false) (X:K.In h) (G:h.Ns mainGlobals mg) (nb:AllC (fun y=>nsIn K mainGlobals y=some none) (Eo ++ (["bool", "dict", "ValueError"]:List Str))) (hc:AllC (fun q=>ClsF K (A4 q.1) q.2) cs) (y:AllC (fun q=>AllC (fun r=>kitOne K (.ref q.2) (.ref r.2)=some (isa q.1 r.1)) cs) cs):Lw.Ok ⟨⟨K,clA cs,C4 cs⟩,P,w,mg,base⟩ :=
 ⟨fun z hz=>mg_none_of X G (nb.mem z (aax _ hz)),fun z hz=>mg_none_of X G (nb.mem z (aan _ hz)),Ub h9 hc y⟩
noncomputable def dfB (N:List Str) (ps:List Str) (st:Stmt) (b:Ss) (dep:Nat):Bool :=
 decide ((Am st).kind=.function) && !(Am st).isCoroutine && !(Am st).isGenerator && decide N.Nodup && decide (N.take ps.length=ps) && ps.all (fun x=>decide ((Am st).names.lookup x=some .local\/(Am st).names.lookup x=some .cell)) && (Am st).names.all (fun y=>decide (y.2 ≠ .free)) && ckSs ⟨N,Am st,true,true,true⟩ b (AN st) && (msSs (aag N.length .dead) dep b (m0 ps.length N.length)).isSome
theorem Fb {N ps:List Str} {st:Stmt} {b:Ss} {dep:Nat} (h:dfB N ps st b dep=true):FnScope N ps (Am st)/\ckSs ⟨N,Am st,true,true,true⟩ b (AN st)=true/\(msSs (aag N.length .dead) dep b (m0 ps.length N.length)).isSome=true:=by
 unfold dfB at h
 simp only [aak,decide_eq_true_eq,aaF,ab7] at h
 obtain ⟨⟨⟨⟨⟨⟨⟨⟨h1,h2⟩,h3⟩,h4⟩,h5⟩,h6⟩,h7⟩,h8⟩,h9⟩:=h
 exact ⟨⟨h1,h2,h3,h4,h5,h6,h7⟩,h8,h9⟩
theorem Ah {L:Lw} (O:L.Ok) {x:Str} {st:Stmt} {N ps:List Str} {lv dep:Nat} {b:Ss} (D:Df L.p.K L.mg x st ps) (h:dfB N ps st b dep=true) (hn:AllN (NeedG L lv) b.need):O7 L (An x ps.length (lv + 1) dep N.length b) :=
 QY O D (Fb h).1 rfl (Fb h).2.1 (Fb h).2.2 hn
theorem QZ {l:PySem.W.OpenLaw} {w:World} {K:Frag} {h:Heap} {mg:Str->Option Value} {fa:Addr} {cs:Cs'} {x:Str} {st:Stmt} {N:List Str} {lv dep:Nat} {b:Ss} (X:K.In h) (G:h.Ns mainGlobals mg) (hfa:mg "law" = some (.ref fa)) (t:Ar K "law" st) (hck:dfB N [x] st b dep=true)
  (hb:∀ (kV dc pm:Value) (an:Option Addr) (cd ct:Value) (s:Shared) (v:Value),BindsTo s (fnOf "law" "law" (BX st) (AN st) (Am st) .none kV dc pm an cd ct) ⟨[v],[]⟩ [(x,v)])
  (O:∀ base:Heap,Lw.Ok ⟨⟨K,clA cs,C4 cs⟩,l.prog,w,mg,base⟩) (hn:∀ base:Heap,AllN (NeedG ⟨⟨K,clA cs,C4 cs⟩,l.prog,w,mg,base⟩ lv) b.need) (nl:noL K=true)
  (hden:∀ ns:List Int,ns.length<=63->(An "law" 1 (lv + 1) dep N.length b).den [.lst (ns.map .int)]=.ok (.bl true)) :
  ∃ fd:FuncData,(∀ (s:Shared) (v:Value),BindsTo s fd ⟨[v],[]⟩ [(x,v)])/\∀ base:Heap,K.In base->base.Ns mainGlobals mg->FnOk l.prog w K mg base (CXe l.prog w) (lv + 1) fa fd [x] (spL K):=by
 obtain ⟨f,oc,od,an,sl,kV,dc,pm,cd,ct,a,l',c,k⟩:=t
 have e:=hfa.symm.trans (mg_of X G a)
 cases e
 refine ⟨_,hb kV dc pm an cd ct,fun base _ _=>?_⟩
 exact Ta (F:=An "law" 1 (lv + 1) dep N.length b) (NK (L:=⟨⟨K,clA cs,C4 cs⟩,l.prog,w,mg,base⟩) (O base) (M8 (st:=st) l' c k) (Fb hck).1 rfl (Fb hck).2.1 (Fb hck).2.2 (hn base)) rfl rfl nl hden
end Pu
end
namespace Pu
open PySem PySem.Spec PyProof.Rows PySem.W L2
noncomputable def Hj:Ss :=
 (.cons (.ret (.bo true (.cons (.isi (.nm 0) .int) (.cons (.not (.isi (.nm 0) .bool)) .nil))))
 .nil)
noncomputable def Gz:Fn:=An "is_whole" 1 1 9 1 Hj
noncomputable def Dd:Ss :=
 (.cons (.ret (.bo true (.cons (.call Gz (.cons (.nm 0) .nil)) (.cons (.chain .le .le (.nm 1) (.nm 0) (.nm 2)) .nil))))
 .nil)
noncomputable def CO:Fn:=An "is_between" 3 2 9 3 Dd
theorem II (ds:List D) (h:ds.length=3):CO.den ds=run 3 Dd ds:=Af h
noncomputable def B3:Ss :=
 (.cons (.mut 2 [] .append (.cons (.nm 3) .nil))
 (.cons (.asg 3 0 (.bin .fdiv (.bin .sub (.bin .add (.nm 3) (.nm 1)) (.cI 1)) (.nm 1)))
 .nil))
noncomputable def Eu:Ss :=
 (.cons (.asg 1 0 (.ix (.nm 0) (.cI 1)))
 (.cons (.asg 2 2 (.lst .nil))
 (.cons (.asg 3 0 (.ix (.nm 0) (.cI 0)))
 (.cons (.dem 2 1)
 (.cons (.wh (.cmp .gt (.nm 3) (.cI 1))
 B3)
 (.cons (.iff (.cmp .eq (.nm 3) (.cI 1))
 (.cons (.mut 2 [] .append (.cons (.nm 3) .nil))
 .nil)
 .nil)
 (.cons (.ret (.nm 2))
 .nil)))))))
noncomputable def Ca:Fn:=An "levels" 1 1 1 4 Eu
theorem Iz (ds:List D) (h:ds.length=1):Ca.den ds=run 4 Eu ds:=Af h
noncomputable def Ax:Ss :=
 (.cons (.iff (.bo false (.cons (.not (.isi (.nm 1) .tuple)) (.cons (.cmp .ne (.bi .len (.cons (.nm 1) .nil)) (.cI 2)) .nil)))
 (.cons (.ret (.cB false))
 .nil)
 .nil)
 (.cons (.iff (.not (.call CO (.cons (.ix (.nm 1) (.cI 0)) (.cons (.cI 0) (.cons (.bin .sub (.bi .len (.cons (.nm 0) .nil)) (.cI 1)) .nil)))))
 (.cons (.ret (.cB false))
 .nil)
 .nil)
 (.cons (.ret (.call CO (.cons (.ix (.nm 1) (.cI 1)) (.cons (.cI 0) (.cons (.bin .sub (.ix (.nm 0) (.ix (.nm 1) (.cI 0))) (.cI 1)) .nil)))))
 .nil)))
noncomputable def AG:Fn:=An "is_counted_node" 2 3 9 2 Ax
theorem Cb (ds:List D) (h:ds.length=2):AG.den ds=run 2 Ax ds:=Af h
noncomputable def DS:Ss :=
 (.cons (.ret (.call AG (.cons (.call Ca (.cons (.nm 0) .nil)) (.cons (.nm 1) .nil))))
 .nil)
noncomputable def De:Fn:=An "is_node" 2 4 9 2 DS
theorem Hk (ds:List D) (h:ds.length=2):De.den ds=run 2 DS ds:=Af h
noncomputable def Dg:Ss :=
 (.cons (.iff (.not (.call De (.cons (.nm 0) (.cons (.nm 1) .nil))))
 (.cons (.raise 2 (.cons (.cS "this is no node of the shape") .nil))
 .nil)
 .nil)
 .nil)
noncomputable def CP:Fn:=An "check_node" 2 5 9 2 Dg
theorem IJ (ds:List D) (h:ds.length=2):CP.den ds=run 2 Dg ds:=Af h
noncomputable def EM:Ss :=
 (.cons (.asg 2 0 (.bin .mul (.nm 2) (.ix (.nm 0) (.cI 1))))
 .nil)
noncomputable def Hl:Ss :=
 (.cons (.expr (.call CP (.cons (.nm 0) (.cons (.nm 1) .nil))))
 (.cons (.asg 2 0 (.cI 1))
 (.cons (.for_ (.nm 3) (.r1 (.ix (.nm 1) (.cI 0)))
 EM)
 (.cons (.asg 4 0 (.bin .mul (.ix (.nm 1) (.cI 1)) (.nm 2)))
 (.cons (.ret (.tup (.cons (.nm 4) (.cons (.bi .min (.cons (.bin .add (.nm 4) (.nm 2)) (.cons (.ix (.nm 0) (.cI 0)) .nil))) .nil))))
 .nil)))))
noncomputable def AT:Fn:=An "span" 2 6 0 5 Hl
theorem Q0 (ds:List D) (h:ds.length=2):AT.den ds=run 5 Hl ds:=Af h
noncomputable def IZ:Ss :=
 (.cons (.asg 1 1 (.call Ca (.cons (.nm 0) .nil)))
 (.cons (.iff (.cmp .eq (.nm 1) (.lst .nil))
 (.cons (.ret .cN)
 .nil)
 .nil)
 (.cons (.ret (.tup (.cons (.bin .sub (.bi .len (.cons (.nm 1) .nil)) (.cI 1)) (.cons (.cI 0) .nil))))
 .nil)))
noncomputable def JN:Fn:=An "top" 1 2 1 2 IZ
theorem Tc (ds:List D) (h:ds.length=1):JN.den ds=run 2 IZ ds:=Af h
noncomputable def Ev:Ss :=
 (.cons (.expr (.call CP (.cons (.nm 0) (.cons (.nm 1) .nil))))
 (.cons (.iff (.cmp .eq (.nm 1) (.call JN (.cons (.nm 0) .nil)))
 (.cons (.ret .cN)
 .nil)
 .nil)
 (.cons (.ret (.tup (.cons (.bin .add (.ix (.nm 1) (.cI 0)) (.cI 1)) (.cons (.bin .fdiv (.ix (.nm 1) (.cI 1)) (.ix (.nm 0) (.cI 1))) .nil))))
 .nil)))
noncomputable def Cc:Fn:=An "parent" 2 6 1 2 Ev
theorem IA (ds:List D) (h:ds.length=2):Cc.den ds=run 2 Ev ds:=Af h
noncomputable def C5:Ss :=
 (.cons (.asg 2 0 (.ix (.nm 0) (.cI 1)))
 (.cons (.iff (.cmp .eq (.ix (.nm 0) (.cI 1)) (.ix (.nm 0) (.cI 0)))
 (.cons (.asg 2 0 (.bin .add (.ix (.nm 0) (.cI 0)) (.ix (.nm 1) (.cI 1))))
 .nil)
 .nil)
 (.cons (.asg 3 0 (.ix (.nm 1) (.cI 2)))
 (.cons (.iff (.cmp .eq (.ix (.nm 1) (.cI 2)) (.ix (.nm 1) (.cI 0)))
 (.cons (.asg 3 0 (.bin .add (.ix (.nm 1) (.cI 0)) (.ix (.nm 0) (.cI 2))))
 .nil)
 .nil)
 (.cons (.ret (.tup (.cons (.bin .add (.ix (.nm 0) (.cI 0)) (.ix (.nm 1) (.cI 0))) (.cons (.nm 2) (.cons (.nm 3) (.cons (.bi .max3 (.cons (.ix (.nm 0) (.cI 3)) (.cons (.ix (.nm 1) (.cI 3)) (.cons (.bin .add (.ix (.nm 0) (.cI 2)) (.ix (.nm 1) (.cI 1))) .nil)))) .nil))))))
 .nil)))))
noncomputable def C7:Fn:=An "joined" 2 1 0 4 C5
theorem NM (ds:List D) (h:ds.length=2):C7.den ds=run 4 C5 ds:=Af h
noncomputable def BT:Ss :=
 (.cons (.asg 1 0 (.call C7 (.cons (.nm 1) (.cons (.ifx (.nm 2) (.tup (.cons (.cI 1) (.cons (.cI 1) (.cons (.cI 1) (.cons (.cI 1) .nil))))) (.tup (.cons (.cI 1) (.cons (.cI 0) (.cons (.cI 0) (.cons (.cI 0) .nil)))))) .nil))))
 .nil)
noncomputable def D3:Ss :=
 (.cons (.asg 1 0 (.tup (.cons (.cI 0) (.cons (.cI 0) (.cons (.cI 0) (.cons (.cI 0) .nil))))))
 (.cons (.for_ (.nm 2) (.seq (.nm 0))
 BT)
 (.cons (.ret (.nm 1))
 .nil)))
noncomputable def CH:Fn:=An "block_of" 1 2 0 3 D3
theorem KA (ds:List D) (h:ds.length=1):CH.den ds=run 3 D3 ds:=Af h
noncomputable def DJ:Ss :=
 (.cons (.asg 6 1 (.comp0 1 [2,4] (.nm 0) (.r1 (.nm 5)) (.call AT (.cons (.nm 1) (.cons (.tup (.cons (.nm 2) (.cons (.nm 0) .nil))) .nil)))))
 (.cons (.mut 3 [] .append (.cons (.comp0 1 [0] (.nm 0) (.seqL (.nm 6)) (.call CH (.cons (.slc (.nm 1) (.ix (.nm 0) (.cI 0)) (.ix (.nm 0) (.cI 1))) .nil))) .nil))
 .nil))
noncomputable def Fq:Ss :=
 (.cons (.asg 2 0 (.tup (.cons (.bi .len (.cons (.nm 0) .nil)) (.cons (.nm 1) .nil))))
 (.cons (.asg 3 2 (.lst .nil))
 (.cons (.for_ (.tp [4,5]) (.en (.call Ca (.cons (.nm 2) .nil)))
 DJ)
 (.cons (.ret (.nm 3))
 .nil))))
noncomputable def EQ:Fn:=An "blocks" 2 7 2 7 Fq
theorem NN (ds:List D) (h:ds.length=2):EQ.den ds=run 7 Fq ds:=Af h
noncomputable def Bc:Ss :=
 (.cons (.iff (.not (.nm 4))
 (.cons (.iff (.cmp .lt (.nm 2) (.nm 3))
 (.cons (.mut 1 [] .append (.cons (.tup (.cons (.nm 2) (.cons (.nm 3) .nil))) .nil))
 .nil)
 .nil)
 (.cons (.asg 2 0 (.bin .add (.nm 3) (.cI 1)))
 .nil))
 .nil)
 .nil)
noncomputable def CI:Ss :=
 (.cons (.asg 1 2 (.lst .nil))
 (.cons (.asg 2 0 (.cI 0))
 (.cons (.dem 1 1)
 (.cons (.for_ (.tp [3,4]) (.en (.nm 0))
 Bc)
 (.cons (.iff (.cmp .lt (.nm 2) (.bi .len (.cons (.nm 0) .nil)))
 (.cons (.mut 1 [] .append (.cons (.tup (.cons (.nm 2) (.cons (.bi .len (.cons (.nm 0) .nil)) .nil))) .nil))
 .nil)
 .nil)
 (.cons (.ret (.nm 1))
 .nil))))))
noncomputable def BD:Fn:=An "stretches" 1 1 1 5 CI
theorem JO (ds:List D) (h:ds.length=1):BD.den ds=run 5 CI ds:=Af h
noncomputable def DK:Ss :=
 (.cons (.ret (.comp0 1 [] (.nm 0) (.seq (.nm 0)) (.bi .len (.cons (.nm 0) .nil))))
 .nil)
noncomputable def Dh:Fn:=An "counts_of" 1 1 9 1 DK
theorem JP (ds:List D) (h:ds.length=1):Dh.den ds=run 1 DK ds:=Af h
noncomputable def Di:Ss :=
 (.cons (.iff (.cmp .eq (.nm 0) (.lst .nil))
 (.cons (.ret (.lst .nil))
 .nil)
 .nil)
 (.cons (.ret (.bi .list (.cons (.ix (.nm 0) (.cI 0)) .nil)))
 .nil))
noncomputable def EZ:Fn:=An "rooms_of" 1 1 1 1 Di
theorem GA (ds:List D) (h:ds.length=1):EZ.den ds=run 1 Di ds:=Af h
noncomputable def D4:Ss :=
 (.cons (.ret (.tup (.cons (.bi .len (.cons (.call EZ (.cons (.nm 0) .nil)) .nil)) (.cons (.nm 1) .nil))))
 .nil)
noncomputable def E0:Fn:=An "shape_of" 2 2 0 2 D4
theorem KB (ds:List D) (h:ds.length=2):E0.den ds=run 2 D4 ds:=Af h
noncomputable def D5:Ss :=
 (.cons (.ret (.call AG (.cons (.call Dh (.cons (.nm 0) .nil)) (.cons (.nm 1) .nil))))
 .nil)
noncomputable def DL:Fn:=An "has_node" 2 4 9 2 D5
theorem KC (ds:List D) (h:ds.length=2):DL.den ds=run 2 D5 ds:=Af h
noncomputable def BK:Ss :=
 (.cons (.iff (.not (.call DL (.cons (.nm 0) (.cons (.nm 1) .nil))))
 (.cons (.raise 2 (.cons (.cS "this is no node of the tree") .nil))
 .nil)
 .nil)
 .nil)
noncomputable def Cy:Fn:=An "check_has_node" 2 5 9 2 BK
theorem Gq (ds:List D) (h:ds.length=2):Cy.den ds=run 2 BK ds:=Af h
noncomputable def Gm:Ss :=
 (.cons (.expr (.call Cy (.cons (.nm 0) (.cons (.nm 1) .nil))))
 (.cons (.ret (.ix (.ix (.nm 0) (.ix (.nm 1) (.cI 0))) (.ix (.nm 1) (.cI 1))))
 .nil))
noncomputable def DA:Fn:=An "tells" 2 6 0 2 Gm
theorem O8 (ds:List D) (h:ds.length=2):DA.den ds=run 2 Gm ds:=Af h
noncomputable def DM:Ss :=
 (.cons (.ret (.comp0 1 [0] (.nm 0) (.seq (.nm 1)) (.tup (.cons (.ix (.nm 0) (.cI 0)) (.cons (.ix (.nm 0) (.cI 1)) (.cons (.call DA (.cons (.nm 1) (.cons (.nm 0) .nil))) .nil))))))
 .nil)
noncomputable def Ew:Fn:=An "with_told" 2 7 1 2 DM
theorem JQ (ds:List D) (h:ds.length=2):Ew.den ds=run 2 DM ds:=Af h
noncomputable def Bd:Ss :=
 (.cons (.asg 5 0 (.tup (.cons (.ix (.nm 4) (.cI 0)) (.cons (.ix (.nm 4) (.cI 1)) .nil))))
 (.cons (.iff (.bo false (.cons (.not (.call De (.cons (.nm 0) (.cons (.nm 5) .nil)))) (.cons (.cmp .ne (.ix (.call AT (.cons (.nm 0) (.cons (.nm 5) .nil))) (.cI 0)) (.nm 3)) .nil)))
 (.cons (.ret (.cB false))
 .nil)
 .nil)
 (.cons (.asg 3 0 (.ix (.call AT (.cons (.nm 0) (.cons (.nm 5) .nil))) (.cI 1)))
 .nil)))
noncomputable def DN:Ss :=
 (.cons (.asg 3 0 (.ix (.nm 1) (.cI 0)))
 (.cons (.for_ (.nm 4) (.seq (.nm 2))
 Bd)
 (.cons (.ret (.cmp .eq (.nm 3) (.ix (.nm 1) (.cI 1))))
 .nil)))
noncomputable def Ex:Fn:=An "lies_over" 3 7 9 6 DN
theorem JR (ds:List D) (h:ds.length=3):Ex.den ds=run 6 DN ds:=Af h
noncomputable def DT:Ss :=
 (.cons (.asg 2 0 (.tup (.cons (.ix (.nm 1) (.cI 0)) (.cons (.ix (.nm 1) (.cI 1)) .nil))))
 (.cons (.ret (.bo true (.cons (.call DL (.cons (.nm 0) (.cons (.nm 2) .nil))) (.cons (.cmp .eq (.call DA (.cons (.nm 0) (.cons (.nm 2) .nil))) (.ix (.nm 1) (.cI 2))) .nil))))
 .nil))
noncomputable def D6:Fn:=An "is_true" 2 7 9 3 DT
theorem Mm (ds:List D) (h:ds.length=2):D6.den ds=run 3 DT ds:=Af h
noncomputable def Fs:Ss :=
 (.cons (.ret (.bi .all (.cons (.comp0 1 [0] (.nm 0) (.seq (.nm 1)) (.call D6 (.cons (.nm 1) (.cons (.nm 0) .nil)))) .nil)))
 .nil)
noncomputable def FY:Fn:=An "honest" 2 8 9 2 Fs
theorem NO (ds:List D) (h:ds.length=2):FY.den ds=run 2 Fs ds:=Af h
noncomputable def CQ:Ss :=
 (.cons (.ret (.bo true (.cons (.cmp .le (.nm 1) (.ix (.nm 0) (.cI 0))) (.cons (.cmp .le (.ix (.nm 0) (.cI 1)) (.nm 2)) .nil))))
 .nil)
noncomputable def Be:Fn:=An "lies_within" 3 1 9 3 CQ
theorem HM (ds:List D) (h:ds.length=3):Be.den ds=run 3 CQ ds:=Af h
noncomputable def Bp:Ss :=
 (.cons (.dem 4 0)
 (.cons (.asg 3 0 (.nm 4))
 (.cons (.asg 4 1 (.call Cc (.cons (.nm 0) (.cons (.nm 3) .nil))))
 .nil)))
noncomputable def BL:Ss :=
 (.cons (.asg 3 0 (.tup (.cons (.cI 0) (.cons (.nm 1) .nil))))
 (.cons (.asg 4 1 (.call Cc (.cons (.nm 0) (.cons (.nm 3) .nil))))
 (.cons (.wh (.bo true (.cons (.isN true (.nm 4)) (.cons (.call Be (.cons (.callB AT (.cons (.nm 0) (.cons (.nm 4) .nil))) (.cons (.nm 1) (.cons (.nm 2) .nil)))) .nil)))
 Bp)
 (.cons (.ret (.nm 3))
 .nil))))
noncomputable def Cz:Fn:=An "highest_within" 3 7 0 5 BL
theorem Gr (ds:List D) (h:ds.length=3):Cz.den ds=run 5 BL ds:=Af h
noncomputable def Dj:Ss :=
 (.cons (.asg 5 0 (.call Cz (.cons (.nm 0) (.cons (.nm 4) (.cons (.nm 2) .nil)))))
 (.cons (.mut 3 [] .append (.cons (.nm 5) .nil))
 (.cons (.asg 4 0 (.ix (.call AT (.cons (.nm 0) (.cons (.nm 5) .nil))) (.cI 1)))
 .nil)))
noncomputable def Fc:Ss :=
 (.cons (.iff (.bo false (.cons (.cmp .lt (.nm 1) (.cI 0)) (.cons (.cmp .gt (.nm 2) (.ix (.nm 0) (.cI 0))) (.cons (.cmp .gt (.nm 1) (.nm 2)) .nil))))
 (.cons (.raise 3 (.cons (.cS "these are no pages of the shape") .nil))
 .nil)
 .nil)
 (.cons (.asg 3 2 (.lst .nil))
 (.cons (.asg 4 0 (.nm 1))
 (.cons (.dem 3 1)
 (.cons (.wh (.cmp .lt (.nm 4) (.nm 2))
 Dj)
 (.cons (.ret (.nm 3))
 .nil))))))
noncomputable def Ey:Fn:=An "cover" 3 8 1 6 Fc
theorem JS (ds:List D) (h:ds.length=3):Ey.den ds=run 6 Fc ds:=Af h
noncomputable def Dk:Ss :=
 (.cons (.ret (.call Ew (.cons (.nm 0) (.cons (.call Ey (.cons (.call E0 (.cons (.nm 0) (.cons (.nm 1) .nil))) (.cons (.ix (.nm 2) (.cI 0)) (.cons (.ix (.nm 2) (.cI 1)) .nil)))) .nil))))
 .nil)
noncomputable def DW:Fn:=An "paper_over" 3 9 1 3 Dk
theorem IK (ds:List D) (h:ds.length=3):DW.den ds=run 3 Dk ds:=Af h
noncomputable def Bs:Ss :=
 (.cons (.ret (.comp1 1 [1] (.nm 0) (.seq (.call BD (.cons (.nm 0) .nil))) (.cmp .ge (.bin .sub (.ix (.nm 0) (.cI 1)) (.ix (.nm 0) (.cI 0))) (.nm 1)) (.nm 0)))
 .nil)
noncomputable def Bq:Fn:=An "rows_of_at_least" 2 2 1 2 Bs
theorem Fz (ds:List D) (h:ds.length=2):Bq.den ds=run 2 Bs ds:=Af h
noncomputable def CJ:Ss :=
 (.cons (.iff (.bo true (.cons (.cmp .lt (.nm 2) (.cI 1)) (.cons (.cmp .ne (.nm 0) (.lst .nil)) .nil)))
 (.cons (.ret (.cI 0))
 .nil)
 .nil)
 (.cons (.asg 3 1 (.call Bq (.cons (.nm 0) (.cons (.nm 2) .nil))))
 (.cons (.iff (.cmp .eq (.nm 3) (.lst .nil))
 (.cons (.ret .cN)
 .nil)
 .nil)
 (.cons (.ret (.ix (.ixL (.nm 3) (.cI 0)) (.cI 0)))
 .nil))))
noncomputable def Bj:Fn:=An "row_first" 3 3 0 4 CJ
theorem JT (ds:List D) (h:ds.length=3):Bj.den ds=run 4 CJ ds:=Af h
theorem FZ:Bj.dep=0:=rfl
noncomputable def BU:Ss :=
 (.cons (.iff (.isN false (.nm 2))
 (.cons (.ret (.tup (.cons (.cI 0) (.cons (.nm 0) .nil))))
 .nil)
 .nil)
 (.cons (.ret (.tup (.cons (.cI 0) (.cons (.bi .max (.cons (.bin .sub (.bin .add (.nm 2) (.nm 1)) (.cI 1)) (.cons (.cI 0) .nil))) .nil))))
 .nil))
noncomputable def AU:Fn:=An "pages_ahead" 3 1 0 3 BU
theorem HN (ds:List D) (h:ds.length=3):AU.den ds=run 3 BU ds:=Af h
theorem HP:AU.dep=0:=rfl
noncomputable def DO:Ss :=
 (.cons (.asg 3 2 (.callB Bj (.cons (.nm 0) (.cons (.nm 1) (.cons (.nm 2) .nil)))))
 (.cons (.asg 4 0 (.callB AU (.cons (.bi .len (.cons (.nm 0) .nil)) (.cons (.nm 2) (.cons (.nm 3) .nil)))))
 (.cons (.retT (.cons (.nm 3) (.cons (.call DW (.cons (.call EQ (.cons (.nm 0) (.cons (.nm 1) .nil))) (.cons (.nm 1) (.cons (.nm 4) .nil)))) .nil)))
 .nil)))
noncomputable def Cd:Fn:=An "row_paper" 3 10 1 5 DO
theorem JU (ds:List D) (h:ds.length=3):Cd.den ds=run 5 DO ds:=Af h
theorem JV:Cd.dep=1:=rfl
noncomputable def AO:Ss :=
 (.cons (.asg 1 0 (.call C7 (.cons (.nm 1) (.cons (.ix (.nm 2) (.cI 2)) .nil))))
 .nil)
noncomputable def Cl:Ss :=
 (.cons (.asg 1 0 (.tup (.cons (.cI 0) (.cons (.cI 0) (.cons (.cI 0) (.cons (.cI 0) .nil))))))
 (.cons (.for_ (.nm 2) (.seq (.nm 0))
 AO)
 (.cons (.ret (.ix (.nm 1) (.cI 3)))
 .nil)))
noncomputable def Dl:Fn:=An "longest_told" 1 2 0 3 Cl
theorem Hm (ds:List D) (h:ds.length=1):Dl.den ds=run 3 Cl ds:=Af h
noncomputable def Gn:Ss :=
 (.cons (.asg 2 0 (.call AT (.cons (.nm 0) (.cons (.tup (.cons (.ix (.nm 1) (.cI 0)) (.cons (.ix (.nm 1) (.cI 1)) .nil))) .nil))))
 (.cons (.ret (.bin .sub (.ix (.nm 2) (.cI 1)) (.ix (.nm 2) (.cI 0))))
 .nil))
noncomputable def Ez:Fn:=An "width" 2 7 1 3 Gn
theorem O9 (ds:List D) (h:ds.length=2):Ez.den ds=run 3 Gn ds:=Af h
noncomputable def DP:Ss :=
 (.cons (.iff (.not (.call Ex (.cons (.nm 0) (.cons (.call AU (.cons (.ix (.nm 0) (.cI 0)) (.cons (.nm 1) (.cons (.nm 2) .nil)))) (.cons (.nm 3) .nil)))))
 (.cons (.ret (.cB false))
 .nil)
 .nil)
 (.cons (.iff (.not (.bi .all (.cons (.comp0 1 [0] (.nm 0) (.seq (.nm 3)) (.cmp .eq (.ix (.ix (.nm 0) (.cI 2)) (.cI 0)) (.call Ez (.cons (.nm 1) (.cons (.nm 0) .nil))))) .nil)))
 (.cons (.ret (.cB false))
 .nil)
 .nil)
 (.cons (.ret (.cmp .lt (.call Dl (.cons (.nm 3) .nil)) (.nm 1)))
 .nil)))
noncomputable def AL:Fn:=An "row_shows" 4 8 9 4 DP
theorem JW (ds:List D) (h:ds.length=4):AL.den ds=run 4 DP ds:=Af h
theorem EA:AL.dep=9:=rfl
noncomputable def Dm:Ss :=
 (.cons (.ret (.call FY (.cons (.call EQ (.cons (.nm 0) (.cons (.nm 1) .nil))) (.cons (.nm 2) .nil))))
 .nil)
noncomputable def AE:Fn:=An "row_honest" 3 9 9 3 Dm
theorem IL (ds:List D) (h:ds.length=3):AE.den ds=run 3 Dm ds:=Af h
theorem Fy:AE.dep=9:=rfl
noncomputable def DX:Ss :=
 (.cons (.asg 2 0 (.bin .mod (.bin .add (.bin .add (.bin .mul (.nm 2) (.cI 48271)) (.bin .mod (.nm 3) (.cI 1000003))) (.cI 1)) (.cI 2147483647)))
 .nil)
noncomputable def Dn:Ss :=
 (.cons (.iff (.cmp .lt (.nm 1) (.bi .len (.cons (.nm 0) .nil)))
 (.cons (.ret (.ix (.nm 0) (.nm 1)))
 .nil)
 .nil)
 (.cons (.asg 2 0 (.cI 5))
 (.cons (.for_ (.nm 3) (.seq (.slc (.nm 0) .cN (.cI 63)))
 DX)
 (.cons (.ret (.bin .mod (.bin .add (.nm 2) (.bin .mul (.cI 7919) (.nm 1))) (.cI 1000003)))
 .nil))))
noncomputable def CK:Fn:=An "_law_cell" 2 1 0 4 Dn
theorem KD (ds:List D) (h:ds.length=2):CK.den ds=run 4 Dn ds:=Af h
noncomputable def CS:Ss :=
 (.cons (.asg 2 0 (.bin .mod (.bin .pow (.bin .add (.bin .add (.bin .mod (.nm 0) (.cI 2147483629)) (.bin .mul (.cI 1013) (.nm 1))) (.cI 7919)) (.cI 3)) (.cI 2147483647)))
 (.cons (.asg 3 0 (.bin .mod (.bin .add (.bin .add (.bin .mul (.nm 2) (.cI 40699)) (.bin .mul (.bin .mul (.cI 3793) (.nm 1)) (.nm 1))) (.cI 11)) (.cI 2147483399)))
 (.cons (.ret (.bin .fdiv (.nm 3) (.cI 101)))
 .nil)))
noncomputable def Cm:Fn:=An "_law_mix" 2 1 1 4 CS
theorem HQ (ds:List D) (h:ds.length=2):Cm.den ds=run 4 CS ds:=Af h
noncomputable def Ay:Ss :=
 (.cons (.iff (.cmp .lt (.nm 3) (.bin .pow (.cI 10) (.cI 18)))
 (.cons (.mut 5 [] .append (.cons (.bin .mod (.call Cm (.cons (.nm 3) (.cons (.nm 6) .nil))) (.ix (.nm 2) (.nm 6))) .nil))
 .nil)
 (.cons (.iff (.cmp .gt (.nm 4) (.cI 0))
 (.cons (.mut 5 [] .append (.cons (.bin .mod (.nm 4) (.ix (.nm 2) (.nm 6))) .nil))
 (.cons (.asg 4 0 (.bin .fdiv (.nm 4) (.ix (.nm 2) (.nm 6))))
 .nil))
 (.cons (.asg 7 0 (.call CK (.cons (.nm 0) (.cons (.bin .mod (.bin .add (.bin .add (.nm 1) (.cI 1)) (.nm 6)) (.cI 63)) .nil))))
 (.cons (.mut 5 [] .append (.cons (.bin .mod (.call Cm (.cons (.nm 7) (.cons (.nm 6) .nil))) (.ix (.nm 2) (.nm 6))) .nil))
 .nil)))
 .nil))
 .nil)
noncomputable def CT:Ss :=
 (.cons (.asg 3 0 (.call CK (.cons (.nm 0) (.cons (.nm 1) .nil))))
 (.cons (.asg 4 0 (.nm 3))
 (.cons (.asg 5 2 (.lst .nil))
 (.cons (.for_ (.nm 6) (.r1 (.bi .len (.cons (.nm 2) .nil)))
 Ay)
 (.cons (.ret (.nm 5))
 .nil)))))
noncomputable def BE:Fn:=An "_law_row" 3 2 2 8 CT
theorem HR (ds:List D) (h:ds.length=3):BE.den ds=run 8 CT ds:=Af h
noncomputable def BM:Ss :=
 (.cons (.mut 4 [] .append (.cons (.cmp .eq (.bin .mod (.bin .add (.nm 5) (.ixL (.nm 3) (.cI 2))) (.cI 2)) (.cI 0)) .nil))
 (.cons (.asg 6 0 (.bin .sub (.nm 6) (.cI 1)))
 .nil))
noncomputable def AF:Ss :=
 (.cons (.asg 6 0 (.ixL (.nm 3) (.bin .add (.cI 3) (.nm 5))))
 (.cons (.iff (.cmp .eq (.ixL (.nm 3) (.cI 1)) (.cI 3))
 (.cons (.mut 4 [] .append (.cons (.cmp .eq (.ixL (.nm 3) (.cI 2)) (.cI 0)) .nil))
 .nil)
 (.cons (.iff (.cmp .gt (.ixL (.nm 3) (.cI 1)) (.cI 3))
 (.cons (.wh (.bo true (.cons (.cmp .lt (.bi .len (.cons (.nm 4) .nil)) (.ixL (.nm 3) (.cI 0))) (.cons (.cmp .ge (.nm 6) (.cI 0)) .nil)))
 BM)
 .nil)
 (.cons (.mut 4 [] .append (.cons (.cmp .ge (.nm 6) (.ix (.lst (.cons (.cI 6) (.cons (.cI 1) (.cons (.cI 10) .nil)))) (.ixL (.nm 3) (.cI 1)))) .nil))
 .nil))
 .nil))
 .nil))
noncomputable def CU:Ss :=
 (.cons (.asg 3 2 (.call BE (.cons (.nm 0) (.cons (.nm 1) (.cons (.bin .add (.lst (.cons (.bin .add (.nm 2) (.cI 1)) (.cons (.cI 6) (.cons (.cI 2) .nil)))) (.bin .mul (.lst (.cons (.cI 12) .nil)) (.nm 2))) .nil)))))
 (.cons (.asg 4 2 (.lst .nil))
 (.cons (.dem 3 1)
 (.cons (.for_ (.nm 5) (.r1 (.ixL (.nm 3) (.cI 0)))
 AF)
 (.cons (.ret (.nm 4))
 .nil)))))
noncomputable def Cn:Fn:=An "_law_empties" 3 3 2 7 CU
theorem HS (ds:List D) (h:ds.length=3):Cn.den ds=run 7 CU ds:=Af h
noncomputable def Co:Ss :=
 (.cons (.asg 1 0 (.bin .add (.nm 1) (.cI 1)))
 .nil)
noncomputable def Cp:Ss :=
 (.cons (.asg 2 0 (.bin .add (.nm 2) (.cI 1)))
 .nil)
noncomputable def Cq:Ss :=
 (.cons (.asg 4 0 (.ix (.lst (.cons (.cI 0) (.cons (.bin .add (.nm 4) (.cI 1)) .nil))) (.bi .int (.cons (.nm 5) .nil))))
 (.cons (.asg 3 0 (.bi .max (.cons (.nm 3) (.cons (.nm 4) .nil))))
 .nil))
noncomputable def DQ:Ss :=
 (.cons (.asg 1 0 (.cI 0))
 (.cons (.wh (.bo true (.cons (.cmp .lt (.nm 1) (.bi .len (.cons (.nm 0) .nil))) (.cons (.ix (.nm 0) (.nm 1)) .nil)))
 Co)
 (.cons (.asg 2 0 (.cI 0))
 (.cons (.wh (.bo true (.cons (.cmp .lt (.nm 2) (.bi .len (.cons (.nm 0) .nil))) (.cons (.ix (.nm 0) (.bin .sub (.bin .sub (.bi .len (.cons (.nm 0) .nil)) (.cI 1)) (.nm 2))) .nil)))
 Cp)
 (.cons (.asg 3 0 (.cI 0))
 (.cons (.asg 4 0 (.cI 0))
 (.cons (.for_ (.nm 5) (.seq (.nm 0))
 Cq)
 (.cons (.ret (.tup (.cons (.bi .len (.cons (.nm 0) .nil)) (.cons (.nm 1) (.cons (.nm 2) (.cons (.nm 3) .nil))))))
 .nil))))))))
noncomputable def Do:Fn:=An "_law_block" 1 1 0 6 DQ
theorem JX (ds:List D) (h:ds.length=1):Do.den ds=run 6 DQ ds:=Af h
noncomputable def CW:Ss :=
 (.cons (.ret (.bin .add (.cI 2) (.ix (.call BE (.cons (.nm 0) (.cons (.nm 1) (.cons (.lst (.cons (.cI 7) .nil)) .nil)))) (.cI 0))))
 .nil)
noncomputable def DB:Fn:=An "_law_fan" 2 3 1 2 CW
theorem HU (ds:List D) (h:ds.length=2):DB.den ds=run 2 CW ds:=Af h
noncomputable def AR:Ss :=
 (.cons (.mut 2 [] .append (.cons (.bin .fdiv (.bin .sub (.bin .add (.ixL (.nm 2) (.neg (.cI 1))) (.nm 1)) (.cI 1)) (.nm 1)) .nil))
 .nil)
noncomputable def BN:Ss :=
 (.cons (.iff (.cmp .eq (.nm 0) (.cI 0))
 (.cons (.ret (.lst .nil))
 .nil)
 .nil)
 (.cons (.asg 2 1 (.lst (.cons (.nm 0) .nil)))
 (.cons (.wh (.cmp .gt (.ixL (.nm 2) (.neg (.cI 1))) (.cI 1))
 AR)
 (.cons (.ret (.nm 2))
 .nil))))
noncomputable def CA:Fn:=An "_law_counts" 2 1 1 3 BN
theorem Gs (ds:List D) (h:ds.length=2):CA.den ds=run 3 BN ds:=Af h
noncomputable def Bt:Ss :=
 (.cons (.asg 4 0 (.bin .mul (.nm 4) (.nm 1)))
 .nil)
noncomputable def B7:Ss :=
 (.cons (.asg 4 0 (.cI 1))
 (.cons (.for_ (.nm 5) (.r1 (.nm 2))
 Bt)
 (.cons (.ret (.tup (.cons (.bin .mul (.nm 3) (.nm 4)) (.cons (.bi .min (.cons (.nm 0) (.cons (.bin .add (.bin .mul (.nm 3) (.nm 4)) (.nm 4)) .nil))) .nil))))
 .nil)))
noncomputable def BO:Fn:=An "_law_reach" 4 1 1 6 B7
theorem GQ (ds:List D) (h:ds.length=4):BO.den ds=run 6 B7 ds:=Af h
noncomputable def Az:Ss :=
 (.cons (.asg 9 0 (.bi .min (.cons (.nm 0) (.cons (.bin .add (.nm 5) (.nm 6)) .nil))))
 (.cons (.iff (.bo true (.cons (.cmp .eq (.bin .mod (.nm 5) (.nm 6)) (.cI 0)) (.cons (.cmp .le (.nm 9) (.nm 3)) .nil)))
 (.cons (.asg 7 0 (.tup (.cons (.nm 8) (.cons (.bin .fdiv (.nm 5) (.nm 6)) (.cons (.nm 9) .nil)))))
 .nil)
 .nil)
 (.cons (.asg 6 0 (.bin .mul (.nm 6) (.nm 1)))
 .nil)))
noncomputable def AX:Ss :=
 (.cons (.asg 6 0 (.cI 1))
 (.cons (.asg 7 0 (.tup (.cons (.cI 0) (.cons (.nm 5) (.cons (.bin .add (.nm 5) (.cI 1)) .nil)))))
 (.cons (.for_ (.nm 8) (.r1 (.bi .len (.cons (.call CA (.cons (.nm 0) (.cons (.nm 1) .nil))) .nil)))
 Az)
 (.cons (.mut 4 [] .append (.cons (.slc (.nm 7) .cN (.cI 2)) .nil))
 (.cons (.asg 5 0 (.ix (.nm 7) (.cI 2)))
 .nil)))))
noncomputable def Bu:Ss :=
 (.cons (.asg 4 2 (.lst .nil))
 (.cons (.asg 5 0 (.nm 2))
 (.cons (.wh (.cmp .lt (.nm 5) (.nm 3))
 AX)
 (.cons (.ret (.nm 4))
 .nil))))
noncomputable def Bl:Fn:=An "_law_cover" 4 2 2 10 Bu
theorem EB (ds:List D) (h:ds.length=4):Bl.den ds=run 10 Bu ds:=Af h
noncomputable def Bv:Ss :=
 (.cons (.asg 3 0 (.bin .add (.nm 3) (.cI 1)))
 .nil)
noncomputable def AY:Ss :=
 (.cons (.iff (.bo true (.cons (.ix (.nm 0) (.nm 2)) (.cons (.bo false (.cons (.cmp .eq (.nm 2) (.cI 0)) (.cons (.not (.ix (.nm 0) (.bin .sub (.nm 2) (.cI 1)))) .nil))) .nil)))
 (.cons (.asg 3 0 (.nm 2))
 (.cons (.wh (.bo true (.cons (.cmp .lt (.nm 3) (.bi .len (.cons (.nm 0) .nil))) (.cons (.ix (.nm 0) (.nm 3)) .nil)))
 Bv)
 (.cons (.mut 1 [] .append (.cons (.tup (.cons (.nm 2) (.cons (.nm 3) .nil))) .nil))
 .nil)))
 .nil)
 .nil)
noncomputable def B8:Ss :=
 (.cons (.asg 1 2 (.lst .nil))
 (.cons (.dem 1 1)
 (.cons (.for_ (.nm 2) (.r1 (.bi .len (.cons (.nm 0) .nil)))
 AY)
 (.cons (.ret (.nm 1))
 .nil))))
noncomputable def Bm:Fn:=An "_law_stretches" 1 1 1 4 B8
theorem GR (ds:List D) (h:ds.length=1):Bm.den ds=run 4 B8 ds:=Af h
noncomputable def BB:Ss :=
 (.cons (.asg 5 2 (.call BE (.cons (.nm 0) (.cons (.bin .add (.cI 3) (.nm 4)) (.cons (.lst (.cons (.cI 200) (.cons (.cI 4) (.cons (.cI 30) .nil)))) .nil)))))
 (.cons (.mut 3 [] .append (.cons (.bi .max (.cons (.cI 1) (.cons (.bin .add (.ix (.nm 2) (.bin .mod (.ixL (.nm 5) (.cI 0)) (.bi .len (.cons (.nm 2) .nil)))) (.ixL (.lst (.cons (.cI 0) (.cons (.cI 1) (.cons (.neg (.cI 1)) (.cons (.ixL (.nm 5) (.cI 2)) .nil))))) (.ixL (.nm 5) (.cI 1)))) .nil))) .nil))
 .nil))
noncomputable def Cr:Ss :=
 (.cons (.asg 2 0 (.bin .add (.comp0 2 [] (.tp [0,1]) (.seq (.call Bm (.cons (.nm 1) .nil))) (.bin .sub (.nm 1) (.nm 0))) (.lst (.cons (.cI 1) .nil))))
 (.cons (.asg 3 2 (.lst (.cons (.cI 1) (.cons (.cI 2) (.cons (.bin .add (.bi .len (.cons (.nm 1) .nil)) (.cI 1)) (.cons (.cI 200) (.cons (.bi .max (.cons (.cI 1) (.cons (.bi .len (.cons (.nm 1) .nil)) .nil))) (.cons (.bi .maxL (.cons (.nm 2) .nil)) (.cons (.bin .pow (.cI 10) (.cI 30)) .nil)))))))))
 (.cons (.for_ (.nm 4) (.r1 (.cI 4))
 BB)
 (.cons (.ret (.nm 3))
 .nil))))
noncomputable def Bw:Fn:=An "_law_many" 2 3 2 6 Cr
theorem Hn (ds:List D) (h:ds.length=2):Bw.den ds=run 6 Cr ds:=Af h
theorem Ho:Bw.dep=2:=rfl
noncomputable def Bx:Ss :=
 (.cons (.asgT [6,7] (.call BO (.cons (.bi .len (.cons (.nm 0) .nil)) (.cons (.nm 1) (.cons (.nm 4) (.cons (.nm 5) .nil))))))
 (.cons (.mut 3 [] .append (.cons (.tup (.cons (.nm 4) (.cons (.nm 5) (.cons (.call Do (.cons (.slc (.nm 0) (.nm 6) (.nm 7)) .nil)) .nil)))) .nil))
 .nil))
noncomputable def B9:Ss :=
 (.cons (.asg 3 2 (.lst .nil))
 (.cons (.dem 3 1)
 (.cons (.for_ (.tp [4,5]) (.seq (.call Bl (.cons (.bi .len (.cons (.nm 0) .nil)) (.cons (.nm 1) (.cons (.cI 0) (.cons (.nm 2) .nil))))))
 Bx)
 (.cons (.ret (.nm 3))
 .nil))))
noncomputable def BP:Fn:=An "_law_row_paper" 3 3 1 8 B9
theorem GS (ds:List D) (h:ds.length=3):BP.den ds=run 8 B9 ds:=Af h
noncomputable def A5:Ss :=
 (.cons (.asg 7 1 (.call BP (.cons (.nm 0) (.cons (.nm 1) (.cons (.bin .sub (.bin .add (.nm 6) (.nm 2)) (.cI 1)) .nil)))))
 (.cons (.asg 8 0 (.bo false (.cons (.isN false (.nm 3)) (.cons (.cmp .le (.nm 6) (.nm 3)) .nil))))
 (.cons (.asg 9 0 (.callB AL (.cons (.nm 4) (.cons (.nm 2) (.cons (.nm 6) (.cons (.nm 7) .nil))))))
 (.cons (.iff (.bo false (.cons (.not (.isi (.nm 9) .bool)) (.cons (.cmp .ne (.nm 9) (.nm 8)) (.cons (.not (.callB AE (.cons (.bi .list (.cons (.nm 0) .nil)) (.cons (.nm 1) (.cons (.nm 7) .nil))))) .nil))))
 (.cons (.ret (.cB false))
 .nil)
 .nil)
 .nil))))
noncomputable def Ce:Ss :=
 (.cons (.asg 4 0 (.tup (.cons (.bi .len (.cons (.nm 0) .nil)) (.cons (.nm 1) .nil))))
 (.cons (.asg 5 0 (.bin .add (.cI 1) (.bin .fdiv (.bi .len (.cons (.nm 0) .nil)) (.cI 12))))
 (.cons (.for_ (.nm 6) (.r3w (.cI 0) (.bin .sub (.bin .add (.bi .len (.cons (.nm 0) .nil)) (.cI 2)) (.nm 2)) (.nm 5))
 A5)
 (.cons (.asg 7 1 (.call BP (.cons (.nm 0) (.cons (.nm 1) (.cons (.bi .len (.cons (.nm 0) .nil)) .nil)))))
 (.cons (.asg 9 0 (.callB AL (.cons (.nm 4) (.cons (.nm 2) (.cons .cN (.cons (.nm 7) .nil))))))
 (.cons (.ret (.bo true (.cons (.isi (.nm 9) .bool) (.cons (.cmp .eq (.nm 9) (.isN false (.nm 3))) .nil))))
 .nil))))))
noncomputable def BV:Fn:=An "_law_others" 4 10 9 10 Ce
theorem IM (ds:List D) (h:ds.length=4):BV.den ds=run 10 Ce ds:=Af h
theorem IN:BV.dep=9:=rfl
noncomputable def EC:Ss :=
 (.cons (.iff (.cmp .eq (.mt .count (.slc (.nm 1) (.nm 6) (.bin .add (.nm 6) (.nm 3))) (.cons (.cB true) .nil)) (.nm 3))
 (.cons (.ret (.cB false))
 .nil)
 .nil)
 .nil)
noncomputable def Dp:Ss :=
 (.cons (.asg 4 0 (.callB Bj (.cons (.bi .listL (.cons (.nm 1) .nil)) (.cons (.nm 2) (.cons (.nm 3) .nil)))))
 (.cons (.asg 5 0 (.bi .len (.cons (.nm 1) .nil)))
 (.cons (.iff (.isN true (.nm 4))
 (.cons (.asg 5 0 (.nm 4))
 (.cons (.iff (.cmp .ne (.mt .count (.slc (.nm 1) (.nm 4) (.bin .add (.nm 4) (.nm 3))) (.cons (.cB true) .nil)) (.nm 3))
 (.cons (.ret (.cB false))
 .nil)
 .nil)
 .nil))
 .nil)
 (.cons (.for_ (.nm 6) (.r1 (.nm 5))
 EC)
 (.cons (.asgT [7,8] (.callB Cd (.cons (.bi .listL (.cons (.nm 1) .nil)) (.cons (.nm 2) (.cons (.nm 3) .nil)))))
 (.cons (.iff (.bo false (.cons (.cmp .ne (.nm 7) (.nm 4)) (.cons (.isB true true (.callB AE (.cons (.bi .listL (.cons (.nm 1) .nil)) (.cons (.nm 2) (.cons (.nm 8) .nil))))) .nil)))
 (.cons (.ret (.cB false))
 .nil)
 .nil)
 (.cons (.iff (.isB true true (.callB AL (.cons (.tup (.cons (.bi .len (.cons (.nm 1) .nil)) (.cons (.nm 2) .nil))) (.cons (.nm 3) (.cons (.nm 4) (.cons (.nm 8) .nil))))))
 (.cons (.ret (.cB false))
 .nil)
 .nil)
 (.cons (.iff (.not (.callB BV (.cons (.nm 1) (.cons (.nm 2) (.cons (.nm 3) (.cons (.nm 4) .nil))))))
 (.cons (.ret (.cB false))
 .nil)
 .nil)
 .nil))))))))
noncomputable def DU:Ss :=
 (.cons (.asg 1 2 (.call Cn (.cons (.nm 0) (.cons (.cI 0) (.cons (.cI 120) .nil)))))
 (.cons (.asg 2 1 (.call DB (.cons (.nm 0) (.cons (.cI 1) .nil))))
 (.cons (.dem 1 1)
 (.cons (.for_ (.nm 3) (.seq (.callB Bw (.cons (.nm 0) (.cons (.nm 1) .nil))))
 Dp)
 (.cons (.ret (.cB true))
 .nil)))))
noncomputable def Fu:Fn:=An "law" 1 11 9 9 DU
theorem Mn (ds:List D) (h:ds.length=1):Fu.den ds=run 9 DU ds:=Af h
end Pu
section
namespace Pu
open PySem
theorem Aw {tg:Tg} {b:Fr->Out} (P:Nat->Fr->Prop):∀ {ds:List D} {δ:Fr} (n:Nat),P n δ->(∀ i d δ,ds[i]?=some d->P (n + i) δ->∃ δ' δ'',CN tg d δ=some δ'/\b δ'=.nxt δ''/\P (n + i + 1) δ'')->∃ δ',A3 tg b ds δ=.nxt δ'/\P (n + ds.length) δ'
 | [],δ,n,h0,_=>⟨δ,rfl,h0⟩
 | d :: ds,δ,n,h0,hs=>by
  obtain ⟨δ',δ'',e1,e2,h1⟩:=hs 0 d δ rfl h0
  obtain ⟨δ3,e3,h3⟩:=Aw P (ds:=ds) (δ:=δ'') (n + 1) h1 fun i d δ hd hP=>by
   have:=hs (i + 1) d δ (by simpa using hd) (by rw [show n + (i + 1)=n + 1 + i by omega]; exact hP)
   rw [show n + (i + 1) + 1=n + 1 + i + 1 by omega] at this
   exact this
  refine ⟨δ3,?_,by rw [aa5,show n + (ds.length + 1)=n + 1 + ds.length by omega]; exact h3⟩
  unfold A3
  rw [e1]
  show (b δ').then _=_
  rw [e2]
  exact e3
theorem CL (i j:Int):b2 .add (.int i) (.int j)=.ok (.int (i + j)):=rfl
theorem Dq (i j:Int):b2 .sub (.int i) (.int j)=.ok (.int (i - j)):=rfl
theorem B4 (i j:Int) (h1:-(18446744073709551616) < i) (h2:i < 18446744073709551616):b2 .mul (.int i) (.int j)=.ok (.int (i * j)):=by
 show (if _ then _ else _)=_; rw [if_pos (.inl ⟨h1,h2⟩)]
theorem B5 (i j:Int) (h1:-(18446744073709551616) < j) (h2:j < 18446744073709551616):b2 .mul (.int i) (.int j)=.ok (.int (i * j)):=by
 show (if _ then _ else _)=_; rw [if_pos (.inr ⟨h1,h2⟩)]
theorem CM (i j:Int) (h1:0 < j):b2 .mod (.int i) (.int j)=.ok (.int (i % j)):=by
 show (if _ then _ else _)=_; rw [if_pos h1]
theorem B6 (i j:Int) (h1:0 < j) (h2:j < 1606938044258990275541962092341162602522202993782792835301376):b2 .fdiv (.int i) (.int j)=.ok (.int (i / j)):=by
 show (if _ then _ else _)=_; rw [if_pos ⟨h1,h2⟩]
theorem ED (i j:Int) (h1:0<=j) (h2:j<=1000000) (h3:i.natAbs < 18446744073709551616):b2 .pow (.int i) (.int j)=.ok (.int (i ^ j.toNat)):=by
 show (if _ then _ else _)=_; rw [if_pos ⟨h1,h2,h3⟩]
theorem D7 (i j:Int):c2 .lt (.int i) (.int j)=.ok (.bl (decide (i < j))):=rfl
theorem D8 (i j:Int):c2 .le (.int i) (.int j)=.ok (.bl (decide (i<=j))):=rfl
theorem D9 (i j:Int):c2 .gt (.int i) (.int j)=.ok (.bl (decide (j < i))):=rfl
theorem Ea (i j:Int):c2 .ge (.int i) (.int j)=.ok (.bl (decide (j<=i))):=rfl
theorem Dr (i j:Int):c2 .eq (.int i) (.int j)=.ok (.bl (i==j)):=rfl
theorem Ds (i j:Int):c2 .ne (.int i) (.int j)=.ok (.bl (!(i==j))):=rfl
theorem DC (d:D) (r:Fr):get (some d :: r) 0=.ok d:=rfl
theorem DD (o:Option D) (r:Fr) (i:Nat):get (o :: r) (i + 1)=get r i:=by
 unfold get; rw [aaY]
theorem Ab {n:Nat} {b:Ss} {ds:List D} {d:D} (h:exs b (Pu.AH n ds)=.ret d):run n b ds=.ok d:=by
 unfold run; rw [h]
noncomputable def F0 (c k:Int):Int:=((((c % 2147483629 + 1013 * k + 7919) ^ 3 % 2147483647) * 40699 + 3793 * k * k + 11) % 2147483399) / 101
theorem Lk (c k:Int) (hk0:0<=k) (hk:k<=100000):Cm.den [.int c,.int k]=.ok (.int (F0 c k)):=by
 have h1:0<=c % 2147483629:=abV _ (by decide)
 have h2:c % 2147483629 < 2147483629:=ab6 _ (by decide)
 have h3:(c % 2147483629 + 1013 * k + 7919).natAbs < 18446744073709551616:=by omega
 have h4:-(18446744073709551616) < k:=by omega
 have h5:k < 18446744073709551616:=by omega
 rw [HQ _ rfl]
 simp [run,CS,exs,ex,ev,evs,get,CL,B4,B5,CM,B6,ED,Pu.AH,h3,h4,h5,F0]
theorem Hq {ns:List Int} {d:D} (h:d ∈ ns.map D.int):∃ x,d=.int x:=by
 obtain ⟨x,_,e⟩:=aaC.mp h
 exact ⟨x,e.symm⟩
theorem Mo {ns:List Int} {d:D} {lo hi:Option Int} {i:Nat} (h:(cut (ns.map D.int) lo hi)[i]?=some d):∃ x,d=.int x:=by
 have:=aae h
 unfold cut at this
 exact Hq (aby (abz this))
theorem JY {ns:List Int} {i:Int} (h0:0<=i) (h1:i < ns.length):∃ x,ns[i.toNat]?=some x/\atD (ns.map D.int) i=.ok (.int x):=by
 have hl:i.toNat < ns.length:=by omega
 refine ⟨ns[i.toNat],aah hl,?_⟩
 unfold atD ixN
 rw [aaa,if_pos h0,if_pos h1]
 simp [hl]
theorem JZ (ns:List Int) (p:Int) (hp:0<=p):∃ i,CK.den [.lst (ns.map .int),.int p]=.ok (.int i):=by
 rw [KD _ rfl]
 by_cases h:p < ns.length
 ·obtain ⟨x,_,e⟩:=JY hp h
  refine ⟨x,?_⟩
  simp -implicitDefEqProofs [run,exs,ex,ev,evs,evI,evBo,tv,get,BA,CL,Dq,B4,B5,CM,B6,ED,D7,D8,D9,Ea,Dr,Ds,Pu.AH,biD,ixD,Ej,Fk,evP,upd,Cw,umD,DG,CC,C0,Ci,Db,E.isCN,CZ,on1,on2,on3,Dt,By,DF,CB,ES,Du,ET,dI,dB,dS,dL,dT',un1,un0,Dn,h,e]
 ·obtain ⟨δ',e,s,o,rfl⟩:=Aw (tg:=.nm 3) (b:=exs DX) (fun _ δ=>∃ (s:Int) (o:Option D),δ=[some (.lst (ns.map .int)),some (.int p),some (.int s),o]) (ds:=cut (ns.map D.int) none (some 63)) (δ:=[some (.lst (ns.map .int)),some (.int p),some (.int 5),none]) 0 ⟨5,none,rfl⟩ (by
   rintro i d δ hd ⟨s,o,rfl⟩
   obtain ⟨x,rfl⟩:=Mo hd
   refine ⟨_,_,rfl,?_,(s * 48271 + x % 1000003 + 1) % 2147483647,some (.int x),rfl⟩
   simp -implicitDefEqProofs [run,exs,ex,ev,evs,evI,evBo,tv,get,BA,CL,Dq,B4,B5,CM,B6,ED,D7,D8,D9,Ea,Dr,Ds,Pu.AH,biD,ixD,Ej,Fk,evP,upd,Cw,umD,DG,CC,C0,Ci,Db,E.isCN,CZ,on1,on2,on3,Dt,By,DF,CB,ES,Du,ET,dI,dB,dS,dL,dT',un1,un0,DX])
  refine ⟨(s + 7919 * p) % 1000003,?_⟩
  simp -implicitDefEqProofs [run,exs,ex,ev,evs,evI,evBo,tv,get,BA,CL,Dq,B4,B5,CM,B6,ED,D7,D8,D9,Ea,Dr,Ds,Pu.AH,biD,ixD,Ej,Fk,evP,upd,Cw,umD,DG,CC,C0,Ci,Db,E.isCN,CZ,on1,on2,on3,Dt,By,DF,CB,ES,Du,ET,dI,dB,dS,dL,dT',un1,un0,Dn,h,e]
theorem BQ {a b:Int} {i:Nat} {d:D} (h:(Av a b)[i]?=some d):d=.int (a + i)/\(i:Int) < b - a:=by
 unfold Av at h
 rw [aaj] at h
 obtain ⟨j,hj,e⟩:=aam.mp h
 obtain ⟨h1,h2⟩:=aaq.mp hj
 rw [abf] at h2
 subst h2
 rw [aay] at h1
 exact ⟨e.symm,by omega⟩
theorem Cu (a b:Int):(Av a b).length=(b - a).toNat:=by unfold Av; simp
theorem Cv {a b:Int} (h1:-1000000<=a) (h2:a<=1000000) (h3:-1000000<=b) (h4:b<=1000000):Sx (.int a) (.int b)=.ok (Av a b):=by
 show (if _ then _ else _)=_
 rw [if_pos]
 unfold DR LIM
 simp -implicitDefEqProofs only [aak,decide_eq_true_eq]
 omega
theorem Eh {ns:List Int} {i:Nat} {x:Int} (h:ns[i]?=some x):atD (ns.map D.int) (i:Int)=.ok (.int x):=by
 have hl:=(aaq.mp h).1
 obtain ⟨y,e1,e2⟩:=JY (ns:=ns) (i:=(i:Int)) (by omega) (by omega)
 rw [aau,h] at e1
 cases e1
 exact e2
theorem HV:b2 .pow (.int 10) (.int 18)=.ok (.int 1000000000000000000):=by
 rw [ED _ _ (by decide) (by decide) (by decide)]; rfl
theorem HW:b2 .pow (.int 10) (.int 59)=.ok (.int 100000000000000000000000000000000000000000000000000000000000):=by
 rw [ED _ _ (by decide) (by decide) (by decide)]; rfl
theorem A7 (ds:List D) (d:D) (h:ds.length < 16777216):umD .append [d] ds=some (ds ++ [d]):=by
 show (if _ then _ else _)=_
 exact if_pos h
section
variable {ns S xs:List Int} {p c left:Int} {i:Nat} {s:Int} {o2:Option D} (hs:0 < s) (hat:atD (S.map D.int) (i:Int)=.ok (.int s)) (hi:i<=1000) (hx:xs.length<=1000)
include hs hat hi hx
theorem Ud (h1:c < 1000000000000000000) :
  exs Ay [some (.lst (ns.map .int)),some (.int p),some (.lst (S.map .int)),some (.int c),some (.int left),some (.lst (xs.map .int)),some (.int i),o2]=.nxt [some (.lst (ns.map .int)),some (.int p),some (.lst (S.map .int)),some (.int c),some (.int left),some (.lst ((xs ++ [F0 c i % s]).map .int)),some (.int i),o2]:=by
 have hmx:=Lk c i (by omega) (by omega)
 have hap:=A7 (xs.map D.int) (.int (F0 c i % s)) (by rw [aaa]; omega)
 simp -implicitDefEqProofs only [Ay,exs,ex,tv,ev,evs,evI,evBo,DC,DD,Res.bind_ok,Res.out_ok,Out.then_nxt,Out.then_ret,aa8,aaY,HV,HW,CL,Dq,B4,B5,CM,B6,D7,D8,D9,Ea,Dr,Ds,BA,decide_true,decide_false,if_true,if_false,aaX,abg,abl,abw,evP,ixD,Ej,Fk,upd,Cw,aaV,ace,aao,abA,biD,DG,CC,C0,on1,on2,on3,Dt,By,DF,CB,ES,Du,ET,dI,dB,dS,dL,dT',un1,un0,Ci,Db,E.isCN,CZ,reduceCtorEq,Int.reduceLT,Int.reduceLE,Int.reduceNeg,Int.reduceBEq,h1,hmx,hat,hs,hap]
theorem Ue (h1:¬ c < 1000000000000000000) (h2:0 < left) (h3:s < 1606938044258990275541962092341162602522202993782792835301376) :
  exs Ay [some (.lst (ns.map .int)),some (.int p),some (.lst (S.map .int)),some (.int c),some (.int left),some (.lst (xs.map .int)),some (.int i),o2]=.nxt [some (.lst (ns.map .int)),some (.int p),some (.lst (S.map .int)),some (.int c),some (.int (left / s)),some (.lst ((xs ++ [left % s]).map .int)),some (.int i),o2]:=by
 have hap:=A7 (xs.map D.int) (.int (left % s)) (by rw [aaa]; omega)
 simp -implicitDefEqProofs only [Ay,exs,ex,tv,ev,evs,evI,evBo,DC,DD,Res.bind_ok,Res.out_ok,Out.then_nxt,Out.then_ret,aa8,aaY,HV,HW,CL,Dq,B4,B5,CM,B6,D7,D8,D9,Ea,Dr,Ds,BA,decide_true,decide_false,if_true,if_false,aaX,abg,abl,abw,evP,ixD,Ej,Fk,upd,Cw,aaV,ace,aao,abA,biD,DG,CC,C0,on1,on2,on3,Dt,By,DF,CB,ES,Du,ET,dI,dB,dS,dL,dT',un1,un0,Ci,Db,E.isCN,CZ,reduceCtorEq,Int.reduceLT,Int.reduceLE,Int.reduceNeg,Int.reduceBEq,h1,h2,h3,hat,hs,hap]
theorem Uf (h1:¬ c < 1000000000000000000) (h2:¬ 0 < left) {q:Int} (hq:CK.den [.lst (ns.map .int),.int ((p + 1 + i) % 63)]=.ok (.int q)) :
  exs Ay [some (.lst (ns.map .int)),some (.int p),some (.lst (S.map .int)),some (.int c),some (.int left),some (.lst (xs.map .int)),some (.int i),o2]=.nxt [some (.lst (ns.map .int)),some (.int p),some (.lst (S.map .int)),some (.int c),some (.int left),some (.lst ((xs ++ [F0 q i % s]).map .int)),some (.int i),some (.int q)]:=by
 have hmx:=Lk q i (by omega) (by omega)
 have hap:=A7 (xs.map D.int) (.int (F0 q i % s)) (by rw [aaa]; omega)
 simp -implicitDefEqProofs only [Ay,exs,ex,tv,ev,evs,evI,evBo,DC,DD,Res.bind_ok,Res.out_ok,Out.then_nxt,Out.then_ret,aa8,aaY,HV,HW,CL,Dq,B4,B5,CM,B6,D7,D8,D9,Ea,Dr,Ds,BA,decide_true,decide_false,if_true,if_false,aaX,abg,abl,abw,evP,ixD,Ej,Fk,upd,Cw,aaV,ace,aao,abA,biD,DG,CC,C0,on1,on2,on3,Dt,By,DF,CB,ES,Du,ET,dI,dB,dS,dL,dT',un1,un0,Ci,Db,E.isCN,CZ,reduceCtorEq,Int.reduceLT,Int.reduceLE,Int.reduceNeg,Int.reduceBEq,h1,h2,hq,hmx,hat,hs,hap,Int.reduceLT]
end
theorem HX (ns:List Int) (p:Int) (hp:0<=p) (S:List Int) (hl:S.length<=1000) (hS:∀ s ∈ S,0 < s/\s < 1606938044258990275541962092341162602522202993782792835301376) :
  ∃ xs:List Int,BE.den [.lst (ns.map .int),.int p,.lst (S.map .int)]=.ok (.lst (xs.map .int))/\xs.length=S.length/\∀ (j:Nat) (x s:Int),xs[j]?=some x->S[j]?=some s->0<=x/\x < s:=by
 obtain ⟨c,hc⟩:=JZ ns p hp
 obtain ⟨δ',e,left,xs,o1,o2,rfl,hx,hb⟩:=Aw (tg:=.nm 6) (b:=exs Ay) (fun i δ=>∃ (left:Int) (xs:List Int) (o1 o2:Option D),δ=[some (.lst (ns.map .int)),some (.int p),some (.lst (S.map .int)),some (.int c),some (.int left),some (.lst (xs.map .int)),o1,o2]/\xs.length=i/\∀ (j:Nat) (x s:Int),xs[j]?=some x->S[j]?=some s->0<=x/\x < s)
  (ds:=Av 0 (S.length:Int)) (δ:=[some (.lst (ns.map .int)),some (.int p),some (.lst (S.map .int)),some (.int c),some (.int c),some (.lst []),none,none]) 0 ⟨c,[],none,none,rfl,rfl,by simp⟩ (by
   rintro i d δ hd ⟨left,xs,o1,o2,rfl,hx,hb⟩
   obtain ⟨rfl,hi⟩:=BQ hd
   have hx:xs.length=i:=by omega
   have hi':i < S.length:=by omega
   have hs:S[i]?=some S[i]:=aah hi'
   have hsp:=hS S[i] (List.getElem_mem hi')
   have hat:=Eh hs
   generalize S[i]=s at hs hsp hat
   have fin:∀ z:Int,0<=z->z < s->∀ (j:Nat) (x s:Int),(xs ++ [z])[j]?=some x->S[j]?=some s->0<=x/\x < s:=by
    intro z h0 h1 j x s e1 e2
    by_cases hj:j < xs.length
    ·rw [aaK hj] at e1
     exact hb j x s e1 e2
    ·rw [aaD (by omega)] at e1
     have:j=i:=by
      have:=(aaq.mp e1).1
      simp at this; omega
     subst this
     rw [hx,Nat.sub_self] at e1
     rw [hs] at e2
     cases e2; cases e1
     exact ⟨h0,h1⟩
   have md:∀ y:Int,0<=y % s/\y % s < s:=fun y=>⟨abV _ (by omega),ab6 _ hsp.1⟩
   have hz:(0:Int) + (i:Int)=(i:Int):=by omega
   rw [hz]
   have len:∀ z:Int,(xs ++ [z]).length=0 + i + 1:=fun z=>by rw [aav,hx]; simp
   by_cases h1:c < 1000000000000000000
   ·exact ⟨_,_,rfl,Ud hsp.1 hat (by omega) (by omega) h1,left,xs ++ [F0 c i % s],some (.int i),o2,rfl,len _,fin _ (md _).1 (md _).2⟩
   ·by_cases h2:0 < left
    ·exact ⟨_,_,rfl,Ue hsp.1 hat (by omega) (by omega) h1 h2 hsp.2,left / s,xs ++ [left % s],some (.int i),o2,rfl,len _,fin _ (md _).1 (md _).2⟩
    ·obtain ⟨q,hq⟩:=JZ ns ((p + 1 + i) % 63) (abV _ (by decide))
     exact ⟨_,_,rfl,Uf hsp.1 hat (by omega) (by omega) h1 h2 hq,left,xs ++ [F0 q i % s],some (.int i),some (.int q),rfl,len _,fin _ (md _).1 (md _).2⟩)
 refine ⟨xs,?_,by rw [hx,Cu]; omega,hb⟩
 have hr:=Cv (a:=0) (b:=(S.length:Int)) (by omega) (by omega) (by omega) (by omega)
 refine (HR _ rfl).trans (Ab ?_)
 simp -implicitDefEqProofs only [Pu.AH,abe,aag,aa7,aa0,CT,exs,ex,tv,ev,evs,evI,evBo,DC,DD,Res.bind_ok,Res.out_ok,Out.then_nxt,Out.then_ret,aa8,aaY,HV,HW,CL,Dq,B4,B5,CM,B6,D7,D8,D9,Ea,Dr,Ds,BA,decide_true,decide_false,if_true,if_false,aaX,abg,abl,abw,evP,ixD,Ej,Fk,upd,Cw,aaV,ace,aao,abA,biD,DG,CC,C0,on1,on2,on3,Dt,By,DF,CB,ES,Du,ET,dI,dB,dS,dL,dT',un1,un0,Ci,Db,E.isCN,CZ,reduceCtorEq,Int.reduceLT,Int.reduceLE,Int.reduceNeg,Int.reduceBEq,hc,aaa,hr,e]
theorem J0 (i:Int):Gz.den [.int i]=.ok (.bl true):=rfl
theorem Bf (i a b:Int):CO.den [.int i,.int a,.int b]=.ok (.bl (decide (a<=i/\i<=b))):=by
 refine (II _ rfl).trans (Ab ?_)
 by_cases h1:a<=i <;> by_cases h2:i<=b <;> simp -implicitDefEqProofs only [Pu.AH,abe,aag,aa7,aa0,Dd,exs,ex,tv,ev,evs,evI,evBo,DC,DD,Res.bind_ok,Res.out_ok,Out.then_nxt,Out.then_ret,aa8,aaY,HV,HW,CL,Dq,B4,B5,CM,B6,D7,D8,D9,Ea,Dr,Ds,BA,decide_true,decide_false,if_true,if_false,aaX,abg,abl,abw,evP,ixD,Ej,Fk,upd,Cw,aaV,ace,aao,abA,biD,DG,CC,C0,on1,on2,on3,Dt,By,DF,CB,ES,Du,ET,dI,dB,dS,dL,dT',un1,un0,Ci,Db,E.isCN,CZ,reduceCtorEq,Int.reduceLT,Int.reduceLE,Int.reduceNeg,Int.reduceBEq,J0,h1,h2,and_self,and_true,and_false]
theorem at0 (a b:D):atD [a,b] 0=.ok a:=rfl
theorem at1 (a b:D):atD [a,b] 1=.ok b:=rfl
theorem Fd (b:Bool):D.flat 9 9 (.bl b)=true:=rfl
theorem UL {xs:List Int} (h:xs.length=1):∃ a,xs=[a]:=by
 match xs,h with
 | [a],_=>exact ⟨a,rfl⟩
section
variable (a b c d e f:D)
theorem UM:atD [a] 0=.ok a:=rfl
end
theorem F1 {f:D->Res (Option D)} {g:D->Option D}:∀ {ds:List D},(∀ d ∈ ds,f d=.ok (g d))->A6 f ds=.ok (ds.filterMap g)
 | [],_=>rfl
 | d :: ds,h=>by
  unfold A6
  rw [h d aac,F1 (ds:=ds) fun x hx=>h x (aab _ hx)]
  show Res.ok _=_
  rw [abd]
  cases g d <;> rfl
theorem C6 {nl:Nat} {fr:List Nat} {tg:Tg} {it:It} {elt:E} {δ:Fr} {ds:List D} {g:D->D} (hi:evI it δ=.ok ds) (h:∀ d ∈ ds,∃ δ',CN tg d (blk nl fr δ)=some δ'/\ev elt δ'=.ok (g d)):ev (.comp0 nl fr tg it elt) δ=.ok (.lst (ds.map g)):=by
 rw [ev,hi,Res.bind_ok,F1 (g:=fun d=>some (g d)) (fun d hd=>by
  obtain ⟨δ',e1,e2⟩:=h d hd
  rw [e1]
  show (ev elt δ').bind _=_
  rw [e2]; rfl),Res.bind_ok,List.filterMap_eq_map']
theorem Pa {nl:Nat} {fr:List Nat} {tg:Tg} {it:It} {cond elt:E} {δ:Fr} {ds:List D} {b:D->Bool} {g:D->D} (hi:evI it δ=.ok ds) (h:∀ d ∈ ds,∃ δ',CN tg d (blk nl fr δ)=some δ'/\(ev cond δ').bind BA=.ok (b d)/\(b d=true->ev elt δ'=.ok (g d))):ev (.comp1 nl fr tg it cond elt) δ=.ok (.lst ((ds.filter b).map g)):=by
 rw [ev,hi,Res.bind_ok,F1 (g:=fun d=>if b d then some (g d) else none) (fun d hd=>by
  obtain ⟨δ',e1,e2,e3⟩:=h d hd
  rw [e1]
  show ((ev cond δ').bind BA).bind _=_
  rw [e2,Res.bind_ok]
  cases q:b d with
  | true=>rw [if_pos rfl,e3 q]; rfl
  | false=>rfl),Res.bind_ok]
 congr 2
 clear h hi
 induction ds with
 | nil=>rfl
 | cons d ds ih =>
  rw [abd,List.filter_cons]
  cases q:b d with
  | true=>simp [ih]
  | false=>simp [ih]
theorem Cf {c:Fr->Res Bool} {b:Fr->Out} (P:Nat->Fr->Prop):∀ (k n m:Nat) {δ:Fr},P m δ->(∀ i δ,m<=i->i < m + k->P i δ->c δ=.ok true/\∃ δ',b δ=.nxt δ'/\P (i + 1) δ')->(∀ δ,P (m + k) δ->c δ=.ok false)->k < n->∃ δ',AI c b n δ=.nxt δ'/\P (m + k) δ'
 | 0,n + 1,m,δ,h0,_,h2,_=>by
  refine ⟨δ,?_,h0⟩
  unfold AI
  rw [h2 δ h0]; rfl
 | k + 1,n + 1,m,δ,h0,h1,h2,hn=>by
  obtain ⟨e1,δ',e2,h3⟩:=h1 m δ (aai _) (by omega) h0
  obtain ⟨δ2,e4,h4⟩:=Cf P k n (m + 1) h3 (fun i δ hi hl=>h1 i δ (by omega) (by omega)) (fun δ hd=>h2 δ (by rw [show m + (k + 1)=m + 1 + k by omega]; exact hd)) (by omega)
  refine ⟨δ2,?_,by rw [show m + (k + 1)=m + 1 + k by omega]; exact h4⟩
  unfold AI
  rw [e1,Res.out_ok,if_pos rfl,e2]
  exact e4
theorem Mp {b:Int} {d:D} (h:d ∈ Av 0 b):∃ i:Nat,d=.int i/\(i:Int) < b:=by
 obtain ⟨i,hi⟩:=abS h
 obtain ⟨rfl,h⟩:=BQ hi
 exact ⟨i,by rw [abx],by omega⟩
theorem Ll (a b:List D) (h:a.length + b.length<=16777216):b2 .add (.lst a) (.lst b)=.ok (.lst (a ++ b)):=by
 show (if _ then _ else _)=_
 exact if_pos h
noncomputable def cnt (p f i:Nat):Nat:=(p + f ^ i - 1) / f ^ i
theorem J1 (p f:Nat):cnt p f 0=p:=by unfold cnt; simp
theorem J2 {p f:Nat} (hf:1<=f) (i:Nat):cnt p f (i + 1)=(cnt p f i + f - 1) / f:=by
 unfold cnt
 have hw:0 < f ^ i:=abt (by omega)
 have h1:(p + f ^ i - 1) / f ^ i + f - 1=(p + f ^ (i + 1) - 1) / f ^ i:=by
  have e:p + f ^ (i + 1) - 1=(p + f ^ i - 1) + f ^ i * (f - 1):=by
   have:f ^ (i + 1)=f ^ i * (f - 1) + f ^ i:=by
    rw [abF,<- Nat.mul_succ]; congr 1; omega
   omega
  rw [e,Nat.add_mul_div_left _ _ hw]
  generalize (p + f ^ i - 1) / f ^ i=q
  omega
 rw [h1,acl,abF]
structure Hs (p f h:Nat):Prop where
 one:cnt p f h=1
 more:∀ i,i < h->1 < cnt p f i
theorem Lm {p f h:Nat} (hf:1<=f) (hh:p<=f ^ h) (hp:1<=p):cnt p f h=1:=by
 unfold cnt
 have hw:0 < f ^ h:=abt (by omega)
 apply Nat.div_eq_of_lt_le <;> omega
theorem PL {p f:Nat} (hf:2<=f) (hp:1<=p):∀ n:Nat,p<=f ^ n->∃ h,h<=n/\Hs p f h
 | 0,h=>⟨0,aai _,Lm (by omega) h hp,fun i hi=>absurd hi (by omega)⟩
 | n + 1,h=>by
  by_cases hn:p<=f ^ n
  ·obtain ⟨k,h1,h2⟩:=PL hf hp n hn
   exact ⟨k,by omega,h2⟩
  ·refine ⟨n + 1,aai _,Lm (by omega) h hp,fun i hi=>?_⟩
   unfold cnt
   have hw:0 < f ^ i:=abt (by omega)
   have hm:f ^ i<=f ^ n:=abW (by omega) (by omega)
   have:2<=(p + f ^ i - 1) / f ^ i:=by
    rw [aco hw]; omega
   omega
theorem hs8 {p f:Nat} (hf:2<=f) (hp:1<=p) (hp2:p<=200):∃ h,h<=8/\Hs p f h:=by
 refine PL hf hp 8 (aaM (show p<=2 ^ 8 by omega) (act hf 8))
theorem Pb {f l:Nat} (hf:f<=8) (hl:l<=9):f ^ l<=134217728 :=
 aaM (act hf l) (aaM (abW (by decide) hl) (by decide))
theorem Fe {p f l j:Nat} (hf:1<=f):j < cnt p f l ↔ j * f ^ l < p:=by
 unfold cnt
 have hw:0 < f ^ l:=abt (by omega)
 rw [<- Nat.succ_le_iff,aco hw,Nat.succ_mul]
 omega
theorem NP {p f l:Nat} (hf:1<=f):cnt p f l<=p:=by
 apply aaU
 intro h
 have:=(Fe hf).mp h
 have hw:0 < f ^ l:=abt (by omega)
 have:=Nat.le_mul_of_pos_right p hw
 omega
noncomputable def mx (b:Nat->Bool):Nat->Nat
 | 0=>0
 | l + 1=>if b (l + 1) then l + 1 else mx b l
theorem Hr (b:Nat->Bool):∀ n,mx b n<=n
 | 0=>aai _
 | l + 1=>by unfold mx; split; exact aai _; exact Nat.le_succ_of_le (Hr b l)
theorem I0 {b:Nat->Bool} (h0:b 0=true):∀ n,b (mx b n)=true
 | 0=>h0
 | l + 1=>by unfold mx; split; assumption; exact I0 h0 l
theorem Mq {b:Nat->Bool}:∀ n l,mx b n < l->l<=n->b l=false
 | 0,l,h,h2=>by unfold mx at h; omega
 | n + 1,l,h,h2=>by
  unfold mx at h
  split at h
  ·omega
  ·rename_i hb
   by_cases e:l=n + 1
   ·subst e; simpa using hb
   ·exact Mq n l h (by omega)
noncomputable def okL (p f a e l:Nat):Bool:=a % f ^ l==0 && decide (min p (a + f ^ l)<=e)
theorem Ff {p f a e l:Nat}:okL p f a e l=true ↔ a % f ^ l=0/\min p (a + f ^ l)<=e:=by unfold okL; simp
theorem J3 {p f a e l k:Nat} (hf:1<=f) (h:okL p f a e l=true) (hk:k<=l):okL p f a e k=true:=by
 rw [Ff] at h ⊢
 refine ⟨Nat.mod_eq_zero_of_dvd (Nat.dvd_trans (Nat.pow_dvd_pow f hk) (Nat.dvd_of_mod_eq_zero h.1)),?_⟩
 have:f ^ k<=f ^ l:=abW hf hk
 omega
noncomputable def lvA (p f h e a:Nat):Nat:=mx (okL p f a e) h
noncomputable def nxA (p f h e a:Nat):Nat:=min p (a + f ^ lvA p f h e a)
noncomputable def cov (p f h e:Nat):Nat->Nat->List (Nat × Nat)
 | 0,_=>[]
 | n + 1,a=>if a < e then (lvA p f h e a,a / f ^ lvA p f h e a) :: cov p f h e n (nxA p f h e a) else []
theorem Pc {p f a e:Nat} (h:a < e):okL p f a e 0=true:=by
 rw [Ff,acA,Nat.mod_one]; omega
theorem F2 {p f h a e:Nat} (hae:a < e):a % f ^ lvA p f h e a=0/\nxA p f h e a<=e:=Ff.mp (I0 (Pc hae) h)
theorem J4 {p f h a e:Nat} (hf:1<=f) (hae:a < e) (hep:e<=p):a < nxA p f h e a:=by
 unfold nxA
 have:0 < f ^ lvA p f h e a:=abt (by omega)
 omega
end Pu
end
section
open Pu
local macro_rules | `(tactic| simp_arith [$xs,*] $[at $h:ident]?)=>`(tactic| simp -implicitDefEqProofs only [Pu.AH,abe,aag,aa7,aa0,↓reduceIte,aar,Nat.reduceAdd,Nat.reduceSub,acB,Int.reduceAdd,Int.reduceSub,Int.reduceMul,at0,at1,beq_self_eq_true,Bool.and_self,Bool.and_true,abm,ab2,ab3,exs,ex,tv,ev,evs,evI,evBo,DC,DD,Res.bind_ok,Res.out_ok,Out.then_nxt,Out.then_ret,aa8,aaY,HV,HW,CL,Dq,B4,B5,CM,B6,D7,D8,D9,Ea,Dr,Ds,BA,decide_true,decide_false,if_true,if_false,aaX,abg,abl,abw,evP,ixD,Ej,Fk,upd,Cw,aaV,ace,aao,abA,biD,DG,CC,C0,on1,on2,on3,Dt,By,DF,CB,ES,Du,ET,dI,dB,dS,dL,dT',un1,un0,Ci,Db,E.isCN,CZ,reduceCtorEq,Int.reduceLT,Int.reduceLE,Int.reduceNeg,Int.reduceBEq,$xs,*] $[at $h:ident]?)
namespace Pu
open PySem
theorem Fv {c:Fr->Res Bool} {b:Fr->Out} {n:Nat} {δ δ':Fr} (h1:c δ=.ok true) (h2:b δ=.nxt δ'):AI c b (n + 1) δ=AI c b n δ':=by
 rw [AI,h1,Res.out_ok,if_pos rfl,h2,Out.then_nxt]
theorem BR {c:Fr->Res Bool} {b:Fr->Out} {n:Nat} {δ:Fr} (h1:c δ=.ok false):AI c b (n + 1) δ=.nxt δ:=by
 rw [AI,h1,Res.out_ok]; rfl
noncomputable def iN (n:Nat):D:=.int n
noncomputable def Bo (xs:List Nat):D:=.lst (xs.map iN)
noncomputable def lvD (p f h:Nat):List Nat:=(aat (h + 1)).map (cnt p f)
noncomputable def shD (p f:Nat):D:=.tup [.int p,.int f]
noncomputable def Aj (l j:Nat):D:=.tup [.int l,.int j]
theorem NQ {m f:Nat} (hf:1<=f):((m:Int) + (f:Int) - 1) / (f:Int)=(((m + f - 1) / f:Nat):Int):=by
 rw [acf]; congr 1; omega
theorem J5 {xs:List Nat} {i:Nat} (h:i < xs.length):atD (xs.map iN) (i:Int)=.ok (.int (xs[i]:Nat)):=by
 unfold atD ixN
 rw [aaa,if_pos (by omega),if_pos (by omega)]
 simp [h,iN]
theorem Go (p f i:Nat):((aat (i + 1)).map (cnt p f)).map iN=((aat i).map (cnt p f)).map iN ++ [.int (cnt p f i)]:=by
 rw [abp,aao,aao]; rfl
section
variable {p f h:Nat} (hf:2<=f) (hf8:f<=8) (H:Hs p f h) (hh:h<=8)
include hf hf8 H hh
theorem Q1 (xs:List D) (hl:xs.length<=1000) (i:Nat):exs B3 [some (shD p f),some (.int f),some (.lst xs),some (.int (cnt p f i))]=.nxt [some (shD p f),some (.int f),some (.lst (xs ++ [.int (cnt p f i)])),some (.int (cnt p f (i + 1)))]:=by
 have hap:=A7 xs (.int (cnt p f i)) (by omega)
 have h1:0 < (f:Int):=by omega
 have h2:(f:Int) < 1606938044258990275541962092341162602522202993782792835301376:=by omega
 rw [J2 (by omega),<- NQ (by omega)]
 simp_arith [B3,hap,h1,h2]
theorem Q2:AI (tv (.cmp .gt (.nm 3) (.cI 1))) (exs B3) FU [some (shD p f),some (.int f),some (.lst []),some (.int p)]=.nxt [some (shD p f),some (.int f),some (.lst (((aat h).map (cnt p f)).map iN)),some (.int (1:Nat))]:=by
 obtain ⟨δ',e,rfl⟩:=Cf (c:=tv (.cmp .gt (.nm 3) (.cI 1))) (b:=exs B3) (fun i δ=>δ=[some (shD p f),some (.int f),some (.lst (((aat i).map (cnt p f)).map iN)),some (.int (cnt p f i))]) h FU 0 (δ:=[some (shD p f),some (.int f),some (.lst []),some (.int p)]) (by rw [J1]; rfl) (by
   rintro i δ _ hi rfl
   have:=H.more i (by omega)
   have h1:(1:Int) < (cnt p f i:Int):=by omega
   refine ⟨?_,_,Q1 hf hf8 H hh _ (by simp; omega) i,by rw [Go]⟩
   simp_arith [h1]) (by
   rintro δ rfl
   rw [aar,H.one]
   rfl) (by unfold FU; omega)
 rw [e,aar,H.one]
theorem Fw:Ca.den [shD p f]=.ok (Bo (lvD p f h)):=by
 have hl:=Q2 hf hf8 H hh
 have hap:=A7 (((aat h).map (cnt p f)).map iN) (.int (1:Nat)) (by simp; omega)
 have e:=Go p f h
 rw [H.one] at e
 refine (Iz _ rfl).trans (Ab ?_)
 unfold Bo lvD
 rw [e]
 unfold shD at hl ⊢
 have h1:((1:Nat):Int)=1:=rfl
 rw [h1] at hap hl ⊢
 simp_arith [Eu,hl,hap]
end
theorem KG (f:Nat):Ca.den [shD 0 f]=.ok (Bo []):=by
 refine (Iz _ rfl).trans (Ab ?_)
 unfold shD Bo
 have h1:((0:Nat):Int)=0:=rfl
 have hl:AI (tv (.cmp .gt (.nm 3) (.cI 1))) (exs B3) FU [some (.tup [.int 0,.int f]),some (.int f),some (.lst []),some (.int 0)]=.nxt [some (.tup [.int 0,.int f]),some (.int f),some (.lst []),some (.int 0)]:=by
  unfold FU
  exact BR rfl
 rw [h1]
 simp_arith [Eu,hl]
theorem C8 (p f h:Nat):(lvD p f h).length=h + 1:=by unfold lvD; simp
theorem Ln {p f h i:Nat} (hi:i<=h):(lvD p f h)[i]'(by rw [C8]; omega)=cnt p f i:=by unfold lvD; simp
section
variable {p f h:Nat} (hf:2<=f) (hf8:f<=8) (H:Hs p f h) (hh:h<=8) {l j:Nat} (hl:l<=h) (hj:j < cnt p f l)
include hl hj
theorem Q3:AG.den [Bo (lvD p f h),Aj l j]=.ok (.bl true):=by
 have h1:=Bf (l:Int) 0 (((lvD p f h).length:Int) - 1)
 rw [C8,decide_eq_true (by omega)] at h1
 have h2:=Bf (j:Int) 0 ((cnt p f l:Int) - 1)
 rw [decide_eq_true (by omega)] at h2
 have h3:=J5 (xs:=lvD p f h) (i:=l) (by rw [C8]; omega)
 rw [Ln hl] at h3
 have h4:(h:Int) + 1 - 1=h:=by omega
 refine (Cb _ rfl).trans (Ab ?_)
 unfold Bo Aj
 have h5:=C8 p f h
 simp_arith [Ax,h1,h2,h3,h5,aaa,aar,Nat.reduceAdd,acB]
end
theorem Lo {n:Nat} {b:Ss} {ds:List D} {δ:Fr} (h:exs b (Pu.AH n ds)=.nxt δ):run n b ds=.ok .non:=by
 unfold run; rw [h]
theorem NR (a b c d:Int):c2 .eq (.tup [.int a,.int b]) (.tup [.int c,.int d])=.ok (.bl (a==c && (b==d && true))):=rfl
theorem Pd (xs:List Nat) (k:Nat):(xs.map iN).all (D.shp k)=true:=by
 rw [aaF]
 intro d hd
 obtain ⟨n,_,rfl⟩:=aaC.mp hd
 cases k <;> rfl
theorem F3 (xs:List D) (h:xs.all (D.shp 7)=true):c2 .eq (.lst xs) (.lst [])=.ok (.bl xs.isEmpty):=by
 show (if (D.shp 8 (.lst xs) && D.shp 8 (.lst [])) then _ else _)=_
 rw [show D.shp 8 (.lst xs)=true from h,show D.shp 8 (.lst [])=true from rfl]
 cases xs <;> rfl
section
variable {p f h:Nat} (hf:2<=f) (hf8:f<=8) (H:Hs p f h) (hh:h<=8)
include hf hf8 H hh
section
variable {l j:Nat} (hl:l<=h) (hj:j < cnt p f l)
include hl hj
theorem KH:De.den [shD p f,Aj l j]=.ok (.bl true):=by
 have h1:=Fw hf hf8 H hh
 have h2:=Q3 hl hj
 refine (Hk _ rfl).trans (Ab ?_)
 simp_arith [DS,h1,h2]
theorem DE:CP.den [shD p f,Aj l j]=.ok .non:=by
 have h1:=KH hf hf8 H hh hl hj
 refine (IJ _ rfl).trans (Lo (δ:=[some (shD p f),some (Aj l j)]) ?_)
 simp_arith [Dg,h1]
end
theorem NS (l j:Nat):∃ o,A3 (.nm 3) (exs EM) (Av 0 (l:Int)) [some (shD p f),some (Aj l j),some (.int 1),none,none]=.nxt [some (shD p f),some (Aj l j),some (.int ((f ^ l:Nat):Int)),o,none]:=by
 obtain ⟨δ',e,o,rfl⟩:=Aw (tg:=.nm 3) (b:=exs EM) (fun i δ=>∃ o,δ=[some (shD p f),some (Aj l j),some (.int ((f ^ i:Nat):Int)),o,none]) (ds:=Av 0 (l:Int)) (δ:=[some (shD p f),some (Aj l j),some (.int 1),none,none]) 0 ⟨none,rfl⟩ (by
  rintro i d δ hd ⟨o,rfl⟩
  refine ⟨_,_,rfl,?_,some d,rfl⟩
  have h1:-(18446744073709551616) < (f:Int):=by omega
  have h2:(f:Int) < 18446744073709551616:=by omega
  rw [abF,aar,abh]
  unfold shD
  simp_arith [EM,h1,h2])
 rw [Cu,acy,aau,aar] at e
 exact ⟨o,e⟩
theorem GT {l j:Nat} (hl:l<=h) (hj:j < cnt p f l):AT.den [shD p f,Aj l j]=.ok (Aj (j * f ^ l) (min p (j * f ^ l + f ^ l))):=by
 have hc:=DE hf hf8 H hh hl hj
 obtain ⟨o,e⟩:=NS hf hf8 H hh l j
 have hr:=Cv (a:=0) (b:=(l:Int)) (by omega) (by omega) (by omega) (by omega)
 have hw:=Pb (f:=f) (l:=l) hf8 (by omega)
 have h1:-(18446744073709551616) < ((f ^ l:Nat):Int):=by omega
 have h2:((f ^ l:Nat):Int) < 18446744073709551616:=by omega
 refine (Q0 _ rfl).trans (Ab ?_)
 generalize f ^ l=w at *
 have h3:(((min p (j * w + w):Nat)):Int)=min ((j:Int) * w + w) p:=by rw [<- abh]; omega
 unfold Aj at e hc ⊢
 unfold shD at e hc ⊢
 rw [h3,abh]
 simp_arith [Hl,hc,hr,e,h1,h2]
theorem J6:JN.den [shD p f]=.ok (Aj h 0):=by
 have h1:=Fw hf hf8 H hh
 have h2:=F3 ((lvD p f h).map iN) (Pd _ _)
 have h3:((lvD p f h).map iN).isEmpty=false:=by
  rw [List.isEmpty_eq_false_iff_exists_mem]
  refine ⟨iN (cnt p f 0),aaC.mpr ⟨cnt p f 0,?_,rfl⟩⟩
  exact aaC.mpr ⟨0,by simp,rfl⟩
 rw [h3] at h2
 have h5:=C8 p f h
 refine (Tc _ rfl).trans (Ab ?_)
 unfold Bo at h1
 unfold Aj
 have h6:(((h + 1:Nat):Int) - 1)=h:=by omega
 simp_arith [IZ,h1,h2,h5,h6,aaa]
theorem HY:Cc.den [shD p f,Aj h 0]=.ok .non:=by
 have hc:=DE hf hf8 H hh (l:=h) (j:=0) (aai _) (by rw [H.one]; decide)
 have ht:=J6 hf hf8 H hh
 have h1:(((h:Int)==(h:Int)) && (((0:Int)==(0:Int)) && true))=true:=by simp
 refine (IA _ rfl).trans (Ab ?_)
 unfold Aj at hc ht ⊢
 rw [show ((0:Nat):Int)=0 from rfl] at *
 simp_arith [Ev,hc,ht,NR,h1]
theorem Mr {l j:Nat} (hl:l < h) (hj:j < cnt p f l):Cc.den [shD p f,Aj l j]=.ok (Aj (l + 1) (j / f)):=by
 have hc:=DE hf hf8 H hh (l:=l) (j:=j) (by omega) hj
 have ht:=J6 hf hf8 H hh
 have h1:(((l:Int)==(h:Int)) && ((j:Int)==(0:Int)))=false:=by
  have:((l:Int)==(h:Int))=false:=by simp; omega
  rw [this]; rfl
 have h2:0 < (f:Int):=by omega
 have h3:(f:Int) < 1606938044258990275541962092341162602522202993782792835301376:=by omega
 refine (IA _ rfl).trans (Ab ?_)
 unfold Aj shD at *
 rw [acf,abX]
 rw [show ((0:Nat):Int)=0 from rfl] at ht
 simp_arith [Ev,hc,ht,NR,h1,h2,h3,abY]
end
theorem Pe (a b c d:Int):Be.den [.tup [.int a,.int b],.int c,.int d]=.ok (.bl (decide (c<=a/\b<=d))):=by
 refine (HM _ rfl).trans (Ab ?_)
 by_cases h1:c<=a <;> by_cases h2:b<=d <;> simp_arith [CQ,h1,h2,and_self,and_true,and_false]
theorem Q4 (a b k:Nat):D.flat 9 k (Aj a b)=true:=rfl
noncomputable def Al (q:Nat × Nat):D:=Aj q.1 q.2
noncomputable def F5 (p f h e n a:Nat):List D:=(cov p f h e n a).map Al
section
variable {p f h:Nat} (hf:2<=f) (hf8:f<=8) (H:Hs p f h) (hh:h<=8)
include hf hf8 H hh
section
variable {a e:Nat} (hae:a < e) (hep:e<=p)
include hae hep
theorem Ht (l:Nat):a / f ^ l < cnt p f l:=by
 rw [Fe (by omega)]
 have:=acu a (f ^ l)
 omega
theorem Td (l:Nat) (hl:l < h):Cc.den [shD p f,Aj l (a / f ^ l)]=.ok (Aj (l + 1) (a / f ^ (l + 1))):=by
 have:=Mr hf hf8 H hh hl (Ht hf hf8 H hh hae hep l)
 rw [acl,<- abF] at this
 exact this
theorem NT (l:Nat) (hl:l<=h) (h0:a % f ^ l=0\/True):∃ b c:Nat,AT.den [shD p f,Aj l (a / f ^ l)]=.ok (Aj b c)/\Be.den [Aj b c,.int a,.int e]=.ok (.bl (okL p f a e l)):=by
 refine ⟨_,_,GT hf hf8 H hh hl (Ht hf hf8 H hh hae hep l),?_⟩
 unfold Aj
 rw [Pe]
 congr 2
 have hw:0 < f ^ l:=abt (by omega)
 have hm:=acj a (f ^ l)
 rw [acb] at hm
 rw [abZ,decide_eq_true_eq,Ff]
 generalize f ^ l=w at *
 generalize a / w=q at *
 generalize a % w=r at *
 generalize q * w=x at *
 constructor
 ·rintro ⟨h1,h2⟩
  have:r=0:=by omega
  omega
 ·rintro ⟨h1,h2⟩
  omega
noncomputable def upD (p f h a l:Nat):D:=if l=h then .non else Aj (l + 1) (a / f ^ (l + 1))
theorem PM (l:Nat) (hl:l<=h):Cc.den [shD p f,Aj l (a / f ^ l)]=.ok (upD p f h a l):=by
 unfold upD
 by_cases e':l=h
 ·rw [if_pos e']
  have h0:a / f ^ l=0:=by
   have:=Ht hf hf8 H hh hae hep l
   rw [e',H.one,<- e'] at this
   exact Nat.lt_one_iff.mp this
  rw [h0,e']
  exact HY hf hf8 H hh
 ·rw [if_neg e']
  exact Td hf hf8 H hh hae hep l (by omega)
theorem Lp (l:Nat) (hl:l<=h):tv (.bo true (.cons (.isN true (.nm 4)) (.cons (.call Be (.cons (.callB AT (.cons (.nm 0) (.cons (.nm 4) .nil))) (.cons (.nm 1) (.cons (.nm 2) .nil)))) .nil))) [some (shD p f),some (.int a),some (.int e),some (Aj l (a / f ^ l)),some (upD p f h a l)]=.ok (decide (l < h) && okL p f a e (l + 1)):=by
 unfold upD
 by_cases e':l=h
 ·have h1:decide (l < h)=false:=by simp; omega
  rw [if_pos e',h1]
  simp_arith []
 ·have h1:decide (l < h)=true:=by simp; omega
  rw [if_neg e',h1]
  obtain ⟨b,c,h2,h3⟩:=NT hf hf8 H hh hae hep (l + 1) (by omega) (.inr trivial)
  have h4:=Q4 b c AT.dep
  simp_arith [show (Aj (l + 1) (a / f ^ (l + 1)))=.tup [.int ((l + 1:Nat):Int),.int ((a / f ^ (l + 1):Nat):Int)] from rfl]
  rw [show D.tup [.int ((l + 1:Nat):Int),.int ((a / f ^ (l + 1):Nat):Int)]=(Aj (l + 1) (a / f ^ (l + 1))) from rfl,h2]
  simp_arith [h4,h3]
theorem Q5 (l:Nat) (hl:l < h):exs Bp [some (shD p f),some (.int a),some (.int e),some (Aj l (a / f ^ l)),some (upD p f h a l)]=.nxt [some (shD p f),some (.int a),some (.int e),some (Aj (l + 1) (a / f ^ (l + 1))),some (upD p f h a (l + 1))]:=by
 have h1:upD p f h a l=Aj (l + 1) (a / f ^ (l + 1)):=by unfold upD; rw [if_neg (by omega)]
 have h2:=PM hf hf8 H hh hae hep (l + 1) (by omega)
 rw [h1]
 simp_arith [Bp,h2]
theorem Te:Cz.den [shD p f,.int a,.int e]=.ok (Aj (lvA p f h e a) (a / f ^ lvA p f h e a)):=by
 have hm:lvA p f h e a<=h:=Hr _ _
 obtain ⟨δ',e',rfl⟩:=Cf (c:=tv (.bo true (.cons (.isN true (.nm 4)) (.cons (.call Be (.cons (.callB AT (.cons (.nm 0) (.cons (.nm 4) .nil))) (.cons (.nm 1) (.cons (.nm 2) .nil)))) .nil)))) (b:=exs Bp) (fun l δ=>δ=[some (shD p f),some (.int a),some (.int e),some (Aj l (a / f ^ l)),some (upD p f h a l)]) (lvA p f h e a) FU 0 (δ:=[some (shD p f),some (.int a),some (.int e),some (Aj 0 (a / f ^ 0)),some (upD p f h a 0)]) rfl (by
   rintro l δ _ hl rfl
   refine ⟨?_,_,Q5 hf hf8 H hh hae hep l (by omega),rfl⟩
   rw [Lp hf hf8 H hh hae hep l (by omega),decide_eq_true (by omega),abm]
   congr 1
   exact J3 (by omega) (I0 (Pc hae) h) (show l + 1<=lvA p f h e a by omega)) (by
   rintro δ rfl
   rw [aar,Lp hf hf8 H hh hae hep _ hm]
   by_cases h1:lvA p f h e a < h
   ·rw [Mq (b:=okL p f a e) h (lvA p f h e a + 1) (Nat.lt_succ_self _) h1,ab3]
   ·rw [decide_eq_false h1,ab2]) (by unfold FU; omega)
 rw [aar] at e'
 have h1:=PM hf hf8 H hh hae hep 0 (by omega)
 rw [acA,Nat.div_one] at h1 e'
 refine (Gr _ rfl).trans (Ab ?_)
 unfold Aj at h1 e' ⊢
 rw [show ((0:Nat):Int)=0 from rfl] at h1 e'
 simp_arith [BL,h1,e']
theorem Q6:AT.den [shD p f,Aj (lvA p f h e a) (a / f ^ lvA p f h e a)]=.ok (Aj a (nxA p f h e a)):=by
 have h1:=GT hf hf8 H hh (show lvA p f h e a<=h from Hr (okL p f a e) h) (Ht hf hf8 H hh hae hep (lvA p f h e a))
 rw [show a / f ^ lvA p f h e a * f ^ lvA p f h e a=a by
  have:=acj a (f ^ lvA p f h e a)
  rw [(F2 hae).1,acb] at this
  exact this] at h1
 exact h1
theorem Q7 (b:Nat) (xs:List D) (hx:xs.length<=1000) (o:Option D):exs Dj [some (shD p f),some (.int b),some (.int e),some (.lst xs),some (.int a),o]=.nxt [some (shD p f),some (.int b),some (.int e),some (.lst (xs ++ [Aj (lvA p f h e a) (a / f ^ lvA p f h e a)])),some (.int (nxA p f h e a)),some (Aj (lvA p f h e a) (a / f ^ lvA p f h e a))]:=by
 have h1:=Te hf hf8 H hh hae hep
 have h2:=Q6 hf hf8 H hh hae hep
 generalize Aj (lvA p f h e a) (a / f ^ lvA p f h e a)=nd at *
 have h3:=A7 xs nd (by omega)
 unfold Aj at h2
 simp_arith [Dj,h1,h2,h3]
end
theorem Lq {e:Nat} (hep:e<=p) (b:Nat):∀ (n m a:Nat) (xs:List D) (o:Option D),e - a<=n->n < m->a<=e->xs.length + n<=1000->∃ o',AI (tv (.cmp .lt (.nm 4) (.nm 2))) (exs Dj) m [some (shD p f),some (.int b),some (.int e),some (.lst xs),some (.int a),o]=.nxt [some (shD p f),some (.int b),some (.int e),some (.lst (xs ++ F5 p f h e n a)),some (.int e),o']
 | n,m + 1,a,xs,o,h1,h2,h3,h4=>by
  by_cases hae:a < e
  ·obtain ⟨n,rfl⟩:∃ k,n=k + 1:=⟨n - 1,by omega⟩
   have c1:(a:Int) < e:=by omega
   have hn:=J4 (p:=p) (f:=f) (h:=h) (by omega) hae hep
   have hn2:=(F2 (p:=p) (f:=f) (h:=h) hae).2
   rw [Fv (by simp_arith [c1]) (Q7 hf hf8 H hh hae hep b xs (by omega) o)]
   obtain ⟨o',e'⟩:=Lq hep b n m (nxA p f h e a) (xs ++ [Aj (lvA p f h e a) (a / f ^ lvA p f h e a)]) (some (Aj (lvA p f h e a) (a / f ^ lvA p f h e a))) (by omega) (by omega) hn2 (by simp; omega)
   refine ⟨o',?_⟩
   rw [e',abI]
   unfold F5
   rw [cov,if_pos hae]
   rfl
  ·have ha:a=e:=by omega
   subst ha
   have c1:¬ (a:Int) < a:=by omega
   refine ⟨o,?_⟩
   rw [BR (by simp_arith [c1])]
   unfold F5
   cases n with
   | zero=>simp [cov]
   | succ n=>rw [cov,if_neg hae]; simp
theorem NU {a e:Nat} (hae:a<=e) (hep:e<=p) (hp:p<=200):Ey.den [shD p f,.int a,.int e]=.ok (.lst (F5 p f h e 200 a)):=by
 obtain ⟨o,e'⟩:=Lq hf hf8 H hh hep a 200 FU a [] none (by omega) (by unfold FU; omega) hae (by simp)
 have c1:¬ (a:Int) < 0:=by omega
 have c2:¬ (p:Int) < e:=by omega
 have c3:¬ (e:Int) < a:=by omega
 rw [aa0] at e'
 refine (JS _ rfl).trans (Ab ?_)
 unfold shD at e' ⊢
 simp_arith [Fc,c1,c2,c3,e']
end
theorem Lr (xs:List D) (d:D):atD (xs ++ [d]) (-1)=.ok d:=by
 unfold atD ixN
 rw [if_neg (by decide),if_pos (by rw [aav,abv]; omega),aav,abv]
 show (match (xs ++ [d])[((-1:Int) + ((xs.length + 1:Nat):Int)).toNat]? with | some d=>Res.ok d | none=>Res.bad)=_
 rw [show ((-1:Int) + ((xs.length + 1:Nat):Int)).toNat=xs.length by omega,aaD (aai _),Nat.sub_self]
 rfl
section
variable {p f h:Nat} (hf:2<=f) (hf8:f<=8) (H:Hs p f h) (hh:h<=8)
include hf hf8 H hh
noncomputable def cL (p f i:Nat):D:=.lst (((aat i).map (cnt p f)).map iN ++ [.int (cnt p f i)])
theorem Q8 (i:Nat) (hi:i<=8):exs AR [some (.int p),some (.int f),some (cL p f i)]=.nxt [some (.int p),some (.int f),some (cL p f (i + 1))]:=by
 have h0:=Lr (((aat i).map (cnt p f)).map iN) (.int (cnt p f i))
 have hap:=A7 (((aat i).map (cnt p f)).map iN ++ [.int (cnt p f i)]) (.int (cnt p f (i + 1))) (by simp; omega)
 have h1:0 < (f:Int):=by omega
 have h2:(f:Int) < 1606938044258990275541962092341162602522202993782792835301376:=by omega
 have e1:cL p f (i + 1)=.lst ((((aat i).map (cnt p f)).map iN ++ [.int (cnt p f i)]) ++ [.int (cnt p f (i + 1))]):=by
  unfold cL; rw [Go]
 rw [e1]
 rw [J2 (by omega),<- NQ (by omega)] at hap ⊢
 unfold cL
 generalize ((aat i).map (cnt p f)).map iN=xs at *
 simp_arith [AR,h0,h1,h2,hap]
theorem Q9:AI (tv (.cmp .gt (.ixL (.nm 2) (.neg (.cI 1))) (.cI 1))) (exs AR) FU [some (.int p),some (.int f),some (cL p f 0)]=.nxt [some (.int p),some (.int f),some (cL p f h)]:=by
 have cd:∀ i,tv (.cmp .gt (.ixL (.nm 2) (.neg (.cI 1))) (.cI 1)) [some (.int p),some (.int f),some (cL p f i)]=.ok (decide (1 < (cnt p f i:Int))):=fun i=>by
  have h0:=Lr (((aat i).map (cnt p f)).map iN) (.int (cnt p f i))
  unfold cL
  simp_arith [h0]
 obtain ⟨δ',e,rfl⟩:=Cf (c:=tv (.cmp .gt (.ixL (.nm 2) (.neg (.cI 1))) (.cI 1))) (b:=exs AR) (fun i δ=>δ=[some (.int p),some (.int f),some (cL p f i)]) h FU 0 (δ:=[some (.int p),some (.int f),some (cL p f 0)]) rfl (by
   rintro i δ _ hi rfl
   have:=H.more i (by omega)
   refine ⟨?_,_,Q8 hf hf8 H hh i (by omega),rfl⟩
   rw [cd,decide_eq_true (by omega)]) (by
   rintro δ rfl
   rw [aar,cd,H.one]
   rfl) (by unfold FU; omega)
 rw [e,aar]
theorem Mu (hp:1<=p):CA.den [.int p,.int f]=.ok (Bo (lvD p f h)):=by
 have hl:=Q9 hf hf8 H hh
 have e:Bo (lvD p f h)=cL p f h:=by unfold Bo lvD cL; rw [Go]
 have c1:((p:Int)==0)=false:=by simp; omega
 have e0:cL p f 0=.lst [.int p]:=by unfold cL; rw [J1]; rfl
 rw [e0] at hl
 rw [e]
 refine (Gs _ rfl).trans (Ab ?_)
 simp_arith [BN,c1,hl]
end
theorem Mv (p f l j:Nat) (hf8:f<=8):∃ o,A3 (.nm 5) (exs Bt) (Av 0 (l:Int)) [some (.int p),some (.int f),some (.int l),some (.int j),some (.int 1),none]=.nxt [some (.int p),some (.int f),some (.int l),some (.int j),some (.int ((f ^ l:Nat):Int)),o]:=by
 obtain ⟨δ',e,o,rfl⟩:=Aw (tg:=.nm 5) (b:=exs Bt) (fun i δ=>∃ o,δ=[some (.int p),some (.int f),some (.int l),some (.int j),some (.int ((f ^ i:Nat):Int)),o]) (ds:=Av 0 (l:Int)) (δ:=[some (.int p),some (.int f),some (.int l),some (.int j),some (.int 1),none]) 0 ⟨none,rfl⟩ (by
  rintro i d δ hd ⟨o,rfl⟩
  refine ⟨_,_,rfl,?_,some d,rfl⟩
  have h1:-(18446744073709551616) < (f:Int):=by omega
  have h2:(f:Int) < 18446744073709551616:=by omega
  rw [abF,aar,abh]
  simp_arith [Bt,h1,h2])
 rw [Cu,acy,aau,aar] at e
 exact ⟨o,e⟩
theorem NV (p f l j:Nat) (hf8:f<=8) (hl:l<=8):BO.den [.int p,.int f,.int l,.int j]=.ok (Aj (j * f ^ l) (min p (j * f ^ l + f ^ l))):=by
 obtain ⟨o,e⟩:=Mv p f l j hf8
 have hr:=Cv (a:=0) (b:=(l:Int)) (by omega) (by omega) (by omega) (by omega)
 have hw:=Pb (f:=f) (l:=l) hf8 (by omega)
 have h1:-(18446744073709551616) < ((f ^ l:Nat):Int):=by omega
 have h2:((f ^ l:Nat):Int) < 18446744073709551616:=by omega
 refine (GQ _ rfl).trans (Ab ?_)
 generalize f ^ l=w at *
 have h3:(((min p (j * w + w):Nat)):Int)=min (p:Int) ((j:Int) * w + w):=by rw [<- abh]; omega
 unfold Aj
 rw [h3,abh]
 simp_arith [B7,hr,e,h1,h2]
mutual
theorem GU:∀ {n:Nat} {d:D},D.shp n d=true->D.eqv d d=true
 | _,.non,_=>by simp [D.eqv]
 | _,.bl b,_=>by simp [D.eqv]
 | _,.int i,_=>by simp [D.eqv]
 | _,.str x,_=>by simp [D.eqv]
 | n + 1,.tup ds,h=>by rw [D.eqv]; exact eqvs_refl (n:=n) h
 | n + 1,.lst ds,h=>by rw [D.eqv]; exact eqvs_refl (n:=n) h
 | 0,.tup ds,h=>by cases h
 | 0,.lst ds,h=>by cases h
 | _,.exn _,h=>by simp [D.shp] at h
theorem eqvs_refl:∀ {n:Nat} {ds:List D},ds.all (D.shp n)=true->D.eqvs ds ds=true
 | _,[],_=>by simp [D.eqvs]
 | n,d :: ds,h=>by
  rw [aaH,aak] at h
  rw [D.eqvs,GU h.1,eqvs_refl h.2]; rfl
end
theorem Mw (d:D) (h:D.shp 8 d=true):c2 .eq d d=.ok (.bl true):=by
 show (if _ then _ else _)=_
 rw [h,GU h]; rfl
theorem Mx (d:D) (h:D.shp 8 d=true):c2 .ne d d=.ok (.bl false):=by
 show (if _ then _ else _)=_
 rw [h,GU h]; rfl
theorem GB:∀ n:Nat,AA (aag n (.bl true))=some (aag n true)
 | 0=>rfl
 | n + 1=>by rw [aa9,AA,GB n]; rfl
theorem NW (qs:List (Nat × Nat)) (k:Nat):(qs.map Al).all (D.shp (k + 1))=true:=by
 rw [aaF]
 intro d hd
 obtain ⟨n,_,rfl⟩:=aaC.mp hd
 cases k <;> rfl
theorem Ra (i j:Nat) (a b:D) (δ:Fr):CN (.tp [i,j]) (.tup [a,b]) δ=some ((δ.set i (some a)).set j (some b)):=rfl
section
variable (a b c d e f g h:D)
theorem My:atD [a,b,c] 0=.ok a:=rfl
theorem Mz:atD [a,b,c] 1=.ok b:=rfl
theorem MA:atD [a,b,c] 2=.ok c:=rfl
end
structure Sp (p f h:Nat):Prop where
 hf:2<=f
 hf8:f<=8
 hp:p<=200
 hh:h<=8
 hs:p=0\/Hs p f h
theorem Ug {p f:Nat} (hp:p<=200) (hf:2<=f) (hf8:f<=8):∃ h,Sp p f h:=by
 by_cases h:p=0
 ·exact ⟨0,hf,hf8,hp,by decide,.inl h⟩
 ·obtain ⟨k,h1,h2⟩:=hs8 hf (by omega) hp
  exact ⟨k,hf,hf8,hp,h1,.inr h2⟩
theorem J7 (d:D):∀ n,(aag n [d]).flatten=aag n d
 | 0=>rfl
 | n + 1=>by rw [aa9,abu,J7 d n]; rfl
theorem Tf (d:D) (n:Nat) (h:n<=1000):b2 .mul (.lst [d]) (.int n)=.ok (.lst (aag n d)):=by
 rw [b2,Jn,if_pos]
 ·rw [aau,J7]
 ·rw [aau,abv]
  unfold LIM
  omega
theorem Rb (ns:List Int) (p:Int) (hp:0<=p):∃ f:Nat,2<=f/\f<=8/\DB.den [.lst (ns.map .int),.int p]=.ok (.int f):=by
 obtain ⟨xs,hrow,hl,hb⟩:=HX ns p hp [7] (by decide) (by decide)
 obtain ⟨a,rfl⟩:=UL hl
 have ha:=hb 0 a 7 rfl rfl
 simp only [abA] at hrow
 refine ⟨(2 + a).toNat,by omega,by omega,?_⟩
 rw [aba (by omega)]
 refine (HU _ rfl).trans (Ab ?_)
 simp_arith [CW,hrow,UM]
theorem Hu:∀ ys:List Int,Bh (ys.map .int)=some ys
 | []=>rfl
 | y :: r=>by rw [aaE,Bh,Hu r]; rfl
theorem Pf {ys:List Int} (h:ys ≠ []):ys.max?=some (ys.max?.getD 0):=by
 cases q:ys.max? with
 | none=>exact absurd (List.max?_eq_none_iff.mp q) h
 | some m=>rfl
noncomputable def tl (tr:List (List Int)) (l j:Nat):Int:=(tr.getD l []).getD j 0
noncomputable def Dim (tr:List (List Int)) (p f h:Nat):Prop:=tr.map abe=lvD p f h
theorem NX (rs:List Int):BH (rs.map .int)=(aat rs.length).map fun i=>D.tup [.int (i:Nat),.int (rs.getD i 0)]:=by
 apply ab8
 intro i
 unfold BH
 rw [aaj,abT,aaj,aaj]
 by_cases h:i < rs.length
 ·rw [aah h,acv h]
  show some (D.tup [.int ((0 + i:Nat):Int),.int rs[i]])=some (D.tup [.int (i:Nat),.int (rs.getD i 0)])
  rw [aar,aas,aah h]; rfl
 ·rw [abc (by omega),abc (by rw [aay]; omega)]; rfl
theorem Uh {rs:List Int} {i:Nat} (h:i < rs.length):atD (rs.map D.int) (i:Int)=.ok (.int (rs.getD i 0)):=by
 apply Eh
 rw [aas,aah h]; rfl
theorem Pg {xs:List D} {i:Nat} (h:i < xs.length):atD xs (i:Int)=.ok xs[i]:=by
 unfold atD ixN
 rw [if_pos (by omega),if_pos (by omega)]
 simp [h]
theorem Rc {y:Int} {n:Nat} (hn:0 < n):∃ k:Nat,k < n/\y % (n:Int)=k:=by
 have h1:=abV y (show (n:Int) ≠ 0 by omega)
 have h2:=ab6 y (show 0 < (n:Int) by omega)
 exact ⟨(y % (n:Int)).toNat,by omega,by omega⟩
structure Tri where
 l:Int
 j:Int
 t:Int
noncomputable def nlv (p h:Nat):Nat:=if p=0 then 0 else h + 1
noncomputable def lvS (p f h:Nat):List Nat:=if p=0 then [] else lvD p f h
noncomputable def AZ (p f h:Nat) (l j:Int):Bool:=decide (0<=l/\l < nlv p h/\0<=j/\j < cnt p f l.toNat)
theorem HZ (p f h:Nat):(lvS p f h).length=nlv p h:=by
 unfold lvS nlv
 split
 ·rfl
 ·rw [C8]
theorem GC {α:Type} (g:α->Bool):∀ xs:List α,AA (xs.map fun x=>.bl (g x))=some (xs.map g)
 | []=>rfl
 | x :: r=>by rw [aaE,AA,GC g r]; rfl
section
variable {p f h:Nat} (S:Sp p f h)
include S
theorem GD:Ca.den [shD p f]=.ok (Bo (lvS p f h)):=by
 unfold lvS
 rcases S.hs with h0 | H
 ·subst h0; rw [if_pos rfl]; exact KG f
 ·have:=H.one
  have h1:=NP (p:=p) (f:=f) (l:=h) (by have:=S.hf; omega)
  rw [if_neg (by omega)]
  exact Fw S.hf S.hf8 H S.hh
theorem J8 {l:Nat} (hl:l < nlv p h):atD ((lvS p f h).map iN) (l:Int)=.ok (.int (cnt p f l)):=by
 unfold nlv at hl
 unfold lvS
 split at hl
 ·omega
 ·rename_i h0
  rw [if_neg h0]
  have h3:=J5 (xs:=lvD p f h) (i:=l) (by rw [C8]; omega)
  rw [Ln (by omega)] at h3
  exact h3
theorem Ph (l j:Int):De.den [shD p f,.tup [.int l,.int j]]=.ok (.bl (AZ p f h l j)):=by
 have h1:=GD S
 have hl:=HZ p f h
 have b1:=Bf l 0 (((lvS p f h).length:Int) - 1)
 rw [hl] at b1
 have h2:AG.den [Bo (lvS p f h),.tup [.int l,.int j]]=.ok (.bl (AZ p f h l j)):=by
  refine (Cb _ rfl).trans (Ab ?_)
  by_cases c1:0<=l/\l < nlv p h
  ·rw [decide_eq_true (by omega)] at b1
   have h3:=J8 S (l:=l.toNat) (by omega)
   rw [aba c1.1] at h3
   have b2:=Bf j 0 ((cnt p f l.toNat:Int) - 1)
   have e:AZ p f h l j=decide (0<=j/\j<=(cnt p f l.toNat:Int) - 1):=by
    unfold AZ
    rw [decide_eq_decide]; omega
   rw [e]
   unfold Bo
   simp_arith [Ax,aaa,hl,b1,h3,b2]
  ·rw [decide_eq_false (by omega)] at b1
   have e:AZ p f h l j=false:=by unfold AZ; rw [decide_eq_false_iff_not]; omega
   rw [e]
   unfold Bo
   simp_arith [Ax,aaa,hl,b1]
 refine (Hk _ rfl).trans (Ab ?_)
 simp_arith [DS,h1,h2]
theorem F6 {l j:Int} (h1:AZ p f h l j=true):∃ a b:Nat,l=a/\j=b/\a<=h/\b < cnt p f a/\p ≠ 0:=by
 have h2:=of_decide_eq_true h1
 have:p ≠ 0:=fun z=>by
  have:=h2.2.1
  unfold nlv at this
  rw [if_pos z] at this
  omega
 refine ⟨l.toNat,j.toNat,by omega,by omega,?_,by omega,this⟩
 have:=h2.2.1
 unfold nlv at this
 rw [if_neg (by assumption)] at this
 omega
noncomputable def spB (f:Nat) (l j:Int):Int:=((j.toNat * f ^ l.toNat:Nat):Int)
noncomputable def spE (p f:Nat) (l j:Int):Int:=((min p (j.toNat * f ^ l.toNat + f ^ l.toNat):Nat):Int)
theorem F7 {l j:Int} (h1:AZ p f h l j=true):AT.den [shD p f,.tup [.int l,.int j]]=.ok (.tup [.int (spB f l j),.int (spE p f l j)]):=by
 obtain ⟨a,b,rfl,rfl,h2,h3,h4⟩:=F6 S h1
 rcases S.hs with h0 | H
 ·exact absurd h0 h4
 ·exact GT S.hf S.hf8 H S.hh h2 h3
theorem MB {l j:Int} (h1:AZ p f h l j=true):BO.den [.int p,.int f,.int l,.int j]=.ok (.tup [.int (spB f l j),.int (spE p f l j)]):=by
 obtain ⟨a,b,rfl,rfl,h2,h3,h4⟩:=F6 S h1
 have:=S.hh
 exact NV p f a b S.hf8 (by omega)
noncomputable def lo (p f h:Nat):List Tri->Int->Option Int
 | [],r=>some r
 | q :: qs,r=>if AZ p f h q.l q.j=true/\spB f q.l q.j=r then lo p f h qs (spE p f q.l q.j) else none
end
noncomputable def tri (l q r:Nat):D:=.tup [.int l,.int q,.int r]
theorem Re (l q r:Nat):CZ (tri l q r) none (some 2)=.ok (Aj l q):=rfl
theorem Ui (a b c:D):atD [a,b,c] 2=.ok c:=rfl
noncomputable def cvN (p f a m:Nat):D:=tri m (a / f ^ m) (min p (a + f ^ m))
section
variable {p f h:Nat} (hf:2<=f) (hf8:f<=8) (H:Hs p f h) (hh:h<=8)
include hf hf8 H hh
section
variable {a e:Nat} (hae:a < e) (hep:e<=p)
include hae hep
theorem Pi (b:D) (xs:D) (i:Nat) (hi:i<=h) (nd:D) (o9:Option D) :
  ∃ o9',exs Az [some (.int p),some (.int f),some b,some (.int e),some xs,some (.int a),some (.int ((f ^ i:Nat):Int)),some nd,some (.int i),o9]=.nxt [some (.int p),some (.int f),some b,some (.int e),some xs,some (.int a),some (.int ((f ^ (i + 1):Nat):Int)),some (if okL p f a e i then cvN p f a i else nd),some (.int i),o9']:=by
 refine ⟨some (.int (min (p:Int) (a + ((f ^ i:Nat):Int)))),?_⟩
 have hw0:0 < f ^ i:=abt (by omega)
 have hw:=Pb (f:=f) (l:=i) hf8 (by omega)
 have ok:=Ff (p:=p) (f:=f) (a:=a) (e:=e) (l:=i)
 rw [abF,abh]
 unfold cvN tri
 generalize okL p f a e i=t at *
 generalize f ^ i=w at *
 have h1:0 < (w:Int):=by omega
 have h2:(w:Int) < 1606938044258990275541962092341162602522202993782792835301376:=by omega
 have h3:-(18446744073709551616) < (f:Int):=by omega
 have h4:(f:Int) < 18446744073709551616:=by omega
 have e1:((a:Int) % (w:Int)==0)=(a % w==0):=by
  rw [<- Int.natCast_emod,abZ,beq_iff_eq,beq_iff_eq]
  omega
 have e2:((min p (a + w):Nat):Int)=min (p:Int) (a + (w:Int)):=by omega
 by_cases c1:a % w=0
 ·have d1:(a % w==0)=true:=by simpa using c1
  by_cases c2:min p (a + w)<=e
  ·have d2:min (p:Int) (a + (w:Int))<=e:=by omega
   have d3:t=true:=ok.mpr ⟨c1,c2⟩
   subst d3
   rw [if_pos rfl,acf,e2]
   simp_arith [Az,h1,h2,h3,h4,e1,d1,d2]
  ·have d2:¬ min (p:Int) (a + (w:Int))<=e:=by omega
   have d3:t=false:=by cases t; rfl; exact absurd (ok.mp rfl).2 c2
   subst d3
   rw [if_neg aaW]
   simp_arith [Az,h1,h2,h3,h4,e1,d1,d2]
 ·have d1:(a % w==0)=false:=by simpa using c1
  have d3:t=false:=by cases t; rfl; exact absurd (ok.mp rfl).1 c1
  subst d3
  rw [if_neg aaW]
  simp_arith [Az,h1,h2,h3,h4,e1,d1]
theorem Th (i:Nat) (hi:i<=h):okL p f a e i=decide (i<=lvA p f h e a):=by
 rw [abZ,decide_eq_true_eq]
 constructor
 ·intro h1
  apply aaU
  intro h2
  have:=Mq (b:=okL p f a e) h i h2 hi
  rw [this] at h1; cases h1
 ·intro h1
  exact J3 (by omega) (I0 (Pc hae) h) h1
theorem Pj (b:D) (xs:D) (o8 o9:Option D):∃ o8' o9',A3 (.nm 8) (exs Az) (Av 0 ((h + 1:Nat):Int)) [some (.int p),some (.int f),some b,some (.int e),some xs,some (.int a),some (.int 1),some (tri 0 a (a + 1)),o8,o9]=.nxt [some (.int p),some (.int f),some b,some (.int e),some xs,some (.int a),some (.int ((f ^ (h + 1):Nat):Int)),some (cvN p f a (lvA p f h e a)),o8',o9']:=by
 obtain ⟨δ',e',o8',o9',rfl⟩:=Aw (tg:=.nm 8) (b:=exs Az) (fun i δ=>∃ o8 o9,δ=[some (.int p),some (.int f),some b,some (.int e),some xs,some (.int a),some (.int ((f ^ i:Nat):Int)),some (cvN p f a (min (i - 1) (lvA p f h e a))),o8,o9]) (ds:=Av 0 ((h + 1:Nat):Int)) (δ:=[some (.int p),some (.int f),some b,some (.int e),some xs,some (.int a),some (.int 1),some (tri 0 a (a + 1)),o8,o9]) 0 ⟨o8,o9,by
   rw [show min (0 - 1) (lvA p f h e a)=0 by omega]
   unfold cvN
   rw [acA,Nat.div_one,show min p (a + 1)=a + 1 by omega]; rfl⟩ (by
  rintro i d δ hd ⟨o8,o9,rfl⟩
  obtain ⟨rfl,hi⟩:=BQ hd
  rw [abx,aar]
  obtain ⟨o9',e'⟩:=Pi hf hf8 H hh hae hep b xs i (by omega) (cvN p f a (min (i - 1) (lvA p f h e a))) o9
  refine ⟨_,_,rfl,e',some (.int i),o9',?_⟩
  rw [Th hf hf8 H hh hae hep i (by omega)]
  by_cases c:i<=lvA p f h e a
  ·rw [decide_eq_true c,if_pos rfl,show min (i + 1 - 1) (lvA p f h e a)=i by omega]
  ·rw [decide_eq_false c,if_neg aaW,show min (i + 1 - 1) (lvA p f h e a)=min (i - 1) (lvA p f h e a) by omega])
 have hm:lvA p f h e a<=h:=Hr _ _
 rw [Cu,show 0 + (((h + 1:Nat):Int) - 0).toNat=h + 1 by omega] at e'
 rw [show min (h + 1 - 1) (lvA p f h e a)=lvA p f h e a by omega] at e'
 exact ⟨o8',o9',e'⟩
theorem NY (b:D) (xs:List D) (hx:xs.length<=1000) (o6 o7 o8 o9:Option D):∃ o6' o7' o8' o9',exs AX [some (.int p),some (.int f),some b,some (.int e),some (.lst xs),some (.int a),o6,o7,o8,o9]=.nxt [some (.int p),some (.int f),some b,some (.int e),some (.lst (xs ++ [Aj (lvA p f h e a) (a / f ^ lvA p f h e a)])),some (.int (nxA p f h e a)),o6',o7',o8',o9']:=by
 obtain ⟨o8',o9',hl⟩:=Pj hf hf8 H hh hae hep b (.lst xs) o8 o9
 refine ⟨some (.int ((f ^ (h + 1):Nat):Int)),some (cvN p f a (lvA p f h e a)),o8',o9',?_⟩
 have hc:=Mu hf hf8 H hh (by omega)
 have hr:=Cv (a:=0) (b:=((h + 1:Nat):Int)) (by omega) (by omega) (by omega) (by omega)
 have hap:=A7 xs (Aj (lvA p f h e a) (a / f ^ lvA p f h e a)) (by omega)
 have hcut:=Re (lvA p f h e a) (a / f ^ lvA p f h e a) (min p (a + f ^ lvA p f h e a))
 unfold Bo at hc
 unfold cvN at *
 unfold nxA
 have hll:=C8 p f h
 unfold tri at *
 rw [show ((0:Nat):Int)=0 from rfl,show ((a + 1:Nat):Int)=(a:Int) + 1 by omega] at hl
 simp_arith [AX,hc,hll,aaa,hr,hl,hcut,hap,Ui,-CZ]
end
theorem IB {e:Nat} (hep:e<=p) (b:D):∀ (n m a:Nat) (xs:List D) (o6 o7 o8 o9:Option D),e - a<=n->n < m->a<=e->xs.length + n<=1000->∃ o6' o7' o8' o9',AI (tv (.cmp .lt (.nm 5) (.nm 3))) (exs AX) m [some (.int p),some (.int f),some b,some (.int e),some (.lst xs),some (.int a),o6,o7,o8,o9]=.nxt [some (.int p),some (.int f),some b,some (.int e),some (.lst (xs ++ F5 p f h e n a)),some (.int e),o6',o7',o8',o9']
 | n,m + 1,a,xs,o6,o7,o8,o9,h1,h2,h3,h4=>by
  by_cases hae:a < e
  ·obtain ⟨n,rfl⟩:∃ k,n=k + 1:=⟨n - 1,by omega⟩
   have c1:(a:Int) < e:=by omega
   have hn:=J4 (p:=p) (f:=f) (h:=h) (by omega) hae hep
   have hn2:=(F2 (p:=p) (f:=f) (h:=h) hae).2
   obtain ⟨q6,q7,q8,q9,ht⟩:=NY hf hf8 H hh hae hep b xs (by omega) o6 o7 o8 o9
   rw [Fv (by simp_arith [c1]) ht]
   obtain ⟨q6',q7',q8',q9',e'⟩:=IB hep b n m (nxA p f h e a) (xs ++ [Aj (lvA p f h e a) (a / f ^ lvA p f h e a)]) q6 q7 q8 q9 (by omega) (by omega) hn2 (by simp; omega)
   refine ⟨q6',q7',q8',q9',?_⟩
   rw [e',abI]
   unfold F5
   rw [cov,if_pos hae]
   rfl
  ·have ha:a=e:=by omega
   subst ha
   have c1:¬ (a:Int) < a:=by omega
   refine ⟨o6,o7,o8,o9,?_⟩
   rw [BR (by simp_arith [c1])]
   unfold F5
   cases n with
   | zero=>simp [cov]
   | succ n=>rw [cov,if_neg hae]; simp
theorem MC {a e:Nat} (hae:a<=e) (hep:e<=p) (hp:p<=200):Bl.den [.int p,.int f,.int a,.int e]=.ok (.lst (F5 p f h e 200 a)):=by
 obtain ⟨o6,o7,o8,o9,e'⟩:=IB hf hf8 H hh hep (.int a) 200 FU a [] none none none none (by omega) (by unfold FU; omega) hae (by simp)
 rw [aa0] at e'
 refine (EB _ rfl).trans (Ab ?_)
 simp_arith [Bu,e']
end
theorem Ia (p f a:Nat) (ha:a<=p):Ey.den [shD p f,.int a,.int a]=.ok (.lst []):=by
 have c1:¬ (a:Int) < 0:=by omega
 have c2:¬ (p:Int) < a:=by omega
 have c3:¬ (a:Int) < a:=by omega
 have hl:AI (tv (.cmp .lt (.nm 4) (.nm 2))) (exs Dj) FU [some (.tup [.int p,.int f]),some (.int a),some (.int a),some (.lst []),some (.int a),none]=.nxt [some (.tup [.int p,.int f]),some (.int a),some (.int a),some (.lst []),some (.int a),none]:=by
  unfold FU
  exact BR (by simp_arith [c3])
 refine (JS _ rfl).trans (Ab ?_)
 unfold shD
 simp_arith [Fc,c1,c2,c3,hl]
theorem Hv (p f a:Nat):Bl.den [.int p,.int f,.int a,.int a]=.ok (.lst []):=by
 have c3:¬ (a:Int) < a:=by omega
 have hl:AI (tv (.cmp .lt (.nm 5) (.nm 3))) (exs AX) FU [some (.int p),some (.int f),some (.int a),some (.int a),some (.lst []),some (.int a),none,none,none,none]=.nxt [some (.int p),some (.int f),some (.int a),some (.int a),some (.lst []),some (.int a),none,none,none,none]:=by
  unfold FU
  exact BR (by simp_arith [c3])
 refine (EB _ rfl).trans (Ab ?_)
 simp_arith [Bu,hl]
noncomputable def tw (es:List Bool) (i:Nat):Nat:=((es.drop i).takeWhile id).length
noncomputable def tv1 (es:List Bool) (i:Nat):Bool:=es.getD i false
noncomputable def st1 (es:List Bool) (i:Nat):Bool:=tv1 es i && (i==0 || !tv1 es (i - 1))
theorem Ib:∀ l:List Bool,(∀ t,t < (l.takeWhile id).length->l.getD t false=true)/\l.getD (l.takeWhile id).length false=false
 | []=>⟨fun t h=>by simp at h,rfl⟩
 | true :: r=>by
  obtain ⟨h1,h2⟩:=Ib r
  refine ⟨fun t h=>?_,by simpa using h2⟩
  cases t with
  | zero=>rfl
  | succ t=>simpa using h1 t (by simpa using h)
 | false :: r=>⟨fun t h=>by simp at h,rfl⟩
theorem IC (es:List Bool) (i t:Nat):(es.drop i).getD t false=tv1 es (i + t):=by
 unfold tv1
 rw [aas,aas,List.getElem?_drop]
theorem Fg {es:List Bool} {i t:Nat} (h:t < tw es i):tv1 es (i + t)=true:=by
 rw [<- IC]; exact (Ib (es.drop i)).1 t h
theorem J9 (es:List Bool) (i:Nat):tv1 es (i + tw es i)=false:=by
 rw [<- IC]; exact (Ib (es.drop i)).2
theorem Hw {es:List Bool} {i:Nat} (h:tv1 es i=true):i < es.length:=by
 apply Nat.lt_of_not_le
 intro z
 unfold tv1 at h
 rw [aas,abc z] at h
 cases h
theorem Uj {es:List Bool} {b k:Nat} (hbk:b<=k) (h1:∀ j,b<=j->j < k->tv1 es j=true) (h2:tv1 es k=false):b + tw es b=k:=by
 have l:¬ b + tw es b < k:=fun z=>by
  have:=h1 (b + tw es b) (by omega) z
  rw [J9] at this; cases this
 have r:¬ k < b + tw es b:=fun z=>by
  have:=Fg (es:=es) (i:=b) (t:=k - b) (by omega)
  rw [show b + (k - b)=k by omega,h2] at this; cases this
 omega
theorem Ls {es:List Bool} {b:Nat} (hb:b=0\/tv1 es (b - 1)=false):∀ m,(∀ j,b<=j->j < b + m->tv1 es j=true)->(aat (b + m)).filter (st1 es)=(aat b).filter (st1 es) ++ if m=0 then [] else [b]
 | 0,_=>by simp
 | m + 1,h=>by
  rw [<- Nat.add_assoc,abp,abq,Ls hb m fun j h1 h2=>h j h1 (by omega)]
  by_cases hm:m=0
  ·subst hm
   have:st1 es b=true:=by
    unfold st1
    rw [h b (aai _) (by omega),abm]
    rcases hb with z | z
    ·subst z; rfl
    ·rw [z]; simp
   simp [this]
  ·have:st1 es (b + m)=false:=by
    unfold st1
    rw [h (b + m - 1) (by omega) (by omega)]
    have:(b + m==0)=false:=by rw [beq_eq_false_iff_ne]; omega
    rw [this]; simp
   simp [this,hm]
noncomputable def Aq (es:List Bool) (m:Nat):List (Nat × Nat):=((aat m).filter (st1 es)).map fun i=>(i,i + tw es i)
noncomputable def EE (es:List Bool) (m:Nat):List Nat:=(Aq es m).flatMap fun q=>(aat (q.2 - q.1)).map (q.1 + ·)
structure Bg (es:List Bool) (k b:Nat):Prop where
 le:b<=k
 hb:b=0\/tv1 es (b - 1)=false
 tr:∀ j,b<=j->j < k->tv1 es j=true
 fl:EE es b=(aat b).filter (tv1 es)
theorem Rf (es:List Bool):Bg es 0 0:=⟨aai _,.inl rfl,fun j h1 h2=>absurd h2 (by omega),rfl⟩
theorem Rg {es:List Bool} {k b:Nat} (B:Bg es k b) (h:tv1 es k=true):Bg es (k + 1) b :=
 ⟨by have:=B.le; omega,B.hb,fun j h1 h2=>by
  by_cases z:j=k
  ·rw [z]; exact h
  ·exact B.tr j h1 (by omega),B.fl⟩
theorem Fh {es:List Bool} {k b:Nat} (B:Bg es k b) (h:tv1 es k=false):Aq es (k + 1)=Aq es b ++ (if b < k then [(b,k)] else [])/\Aq es k=Aq es b ++ (if b < k then [(b,k)] else []):=by
 have hle:=B.le
 have h1:=Ls B.hb (k - b) fun j h1 h2=>B.tr j h1 (by omega)
 rw [show b + (k - b)=k by omega] at h1
 have hs:st1 es k=false:=by unfold st1; rw [h]; rfl
 have e:Aq es k=Aq es b ++ (if b < k then [(b,k)] else []):=by
  unfold Aq
  rw [h1,aao]
  congr 1
  by_cases z:b < k
  ·rw [if_neg (by omega),if_pos z,aaE,abE,Uj hle B.tr h]
  ·rw [if_pos (by omega),if_neg z]; rfl
 refine ⟨?_,e⟩
 rw [<- e]
 unfold Aq
 rw [abp,abq]
 simp [hs]
theorem Ti {es:List Bool} {k b:Nat} (B:Bg es k b) (h:tv1 es k=false):EE es k=(aat k).filter (tv1 es):=by
 have hle:=B.le
 have e:=(Fh B h).2
 unfold EE at *
 rw [e,List.flatMap_append]
 have:=B.fl
 unfold EE at this
 rw [this]
 have e2:aat k=aat b ++ (aat (k - b)).map (b + ·):=by
  rw [<- List.range_add]; congr 1; omega
 rw [e2,abq]
 congr 1
 rw [List.filter_eq_self.mpr]
 ·by_cases z:b < k
  ·rw [if_pos z]; simp
  ·rw [if_neg z,show k - b=0 by omega]; rfl
 ·intro x hx
  obtain ⟨y,hy,rfl⟩:=aaC.mp hx
  have:=abG.mp hy
  exact B.tr (b + y) (by omega) (by omega)
theorem Pk {es:List Bool} {k b:Nat} (B:Bg es k b) (h:tv1 es k=false):Bg es (k + 1) (k + 1):=by
 refine ⟨aai _,.inr h,fun j h1 h2=>absurd h2 (by omega),?_⟩
 have e1:EE es (k + 1)=EE es k:=by
  unfold EE
  rw [(Fh B h).1,(Fh B h).2]
 rw [e1,Ti B h,abp,abq]
 simp [h]
noncomputable def blL (es:List Bool):D:=.lst (es.map .bl)
theorem Ka (es:List Bool):BH (es.map .bl)=(aat es.length).map fun i=>D.tup [.int (i:Nat),.bl (tv1 es i)]:=by
 apply ab8
 intro i
 unfold BH
 rw [aaj,abT,aaj,aaj]
 by_cases h:i < es.length
 ·rw [aah h,acv h]
  show some (D.tup [.int ((0 + i:Nat):Int),.bl es[i]])=some (D.tup [.int (i:Nat),.bl (tv1 es i)])
  unfold tv1
  rw [aar,aas,aah h]; rfl
 ·rw [abc (by omega),abc (by rw [aay]; omega)]; rfl
theorem Hx {es:List Bool} {i:Nat} (h:i < es.length):atD (es.map D.bl) (i:Int)=.ok (.bl (tv1 es i)):=by
 rw [Pg (by rw [aaa]; exact h),abO]
 unfold tv1
 rw [aas,aah h]; rfl
theorem Fx (es:List Bool) (m:Nat):(Aq es m).length<=m:=by
 unfold Aq
 rw [aaa]
 have:=acp (st1 es) (aat m)
 rw [aay] at this
 exact this
section
variable {es:List Bool} (hn:es.length<=200)
include hn
theorem Tj:tv1 es es.length=false:=by
 cases q:tv1 es es.length with
 | false=>rfl
 | true=>exact absurd (Hw q) (aaL _)
theorem Rh:∃ b o3 o4,Bg es es.length b/\A3 (.tp [3,4]) (exs Bc) (BH (es.map .bl)) [some (blL es),some (.lst []),some (.int 0),none,none]=.nxt [some (blL es),some (.lst ((Aq es b).map Al)),some (.int b),o3,o4]:=by
 obtain ⟨δ',e,b,o3,o4,rfl,B⟩:=Aw (tg:=.tp [3,4]) (b:=exs Bc) (fun k δ=>∃ b o3 o4,δ=[some (blL es),some (.lst ((Aq es b).map Al)),some (.int (b:Nat)),o3,o4]/\Bg es k b) (ds:=BH (es.map .bl)) (δ:=[some (blL es),some (.lst []),some (.int 0),none,none]) 0 ⟨0,none,none,rfl,Rf es⟩ (by
  rintro k d δ hd ⟨b,o3,o4,rfl,B⟩
  rw [Ka,aaj] at hd
  obtain ⟨i,h1,rfl⟩:=aam.mp hd
  obtain ⟨h2,h3⟩:=aaq.mp h1
  rw [abf] at h3
  subst h3
  rw [aay] at h2
  rw [aar] at B ⊢
  refine ⟨[some (blL es),some (.lst ((Aq es b).map Al)),some (.int (b:Nat)),some (.int (k:Nat)),some (.bl (tv1 es k))],?_⟩
  have hle:=B.le
  have hrl:=Fx es b
  cases q:tv1 es k with
  | true =>
   refine ⟨_,rfl,?_,b,some (.int k),some (.bl true),rfl,Rg B q⟩
   simp_arith [Bc]
  | false =>
   have hr:=(Fh B q).1
   have hap:=A7 ((Aq es b).map Al) (.tup [.int b,.int k]) (by rw [aaa]; omega)
   refine ⟨[some (blL es),some (.lst ((Aq es (k + 1)).map Al)),some (.int ((k + 1:Nat):Int)),some (.int (k:Nat)),some (.bl false)],rfl,?_,k + 1,some (.int k),some (.bl false),rfl,Pk B q⟩
   rw [hr,aao,abX,abY]
   by_cases c:b < k
   ·have c':(b:Int) < k:=by omega
    rw [if_pos c]
    show _=Out.nxt [some (blL es),some (.lst ((Aq es b).map Al ++ [.tup [.int b,.int k]])),some (.int ((k:Int) + 1)),some (.int (k:Nat)),some (.bl false)]
    generalize (Aq es b).map Al=rr at *
    simp_arith [Bc,c',hap]
   ·have c':¬ (b:Int) < k:=by omega
    rw [if_neg c,abE,aaJ]
    simp_arith [Bc,c'])
 have hl:(BH (es.map .bl)).length=es.length:=by rw [Ka,aaa,aay]
 rw [hl,aar] at B
 exact ⟨b,o3,o4,B,e⟩
theorem IO:BD.den [blL es]=.ok (.lst ((Aq es es.length).map Al)):=by
 obtain ⟨b,o3,o4,B,e⟩:=Rh hn
 have hr:=(Fh B (Tj hn)).2
 have hle:=B.le
 have hrl:=Fx es b
 have hap:=A7 ((Aq es b).map Al) (.tup [.int b,.int es.length]) (by rw [aaa]; omega)
 refine (JO _ rfl).trans (Ab ?_)
 rw [hr,aao]
 by_cases c:b < es.length
 ·have c':(b:Int) < es.length:=by omega
  rw [if_pos c]
  show _=Out.ret (.lst ((Aq es b).map Al ++ [.tup [.int b,.int es.length]]))
  generalize (Aq es b).map Al=rr at *
  unfold blL at *
  simp_arith [CI,LX,e,aaa,c',hap]
 ·have c':¬ (b:Int) < es.length:=by omega
  rw [if_neg c,abE,aaJ]
  generalize (Aq es b).map Al=rr at *
  unfold blL at *
  simp_arith [CI,LX,e,aaa,c']
theorem Ri (k:Nat) (hk:k < es.length) (fo:D):AI (tv (.bo true (.cons (.cmp .lt (.nm 3) (.bi .len (.cons (.nm 0) .nil))) (.cons (.ix (.nm 0) (.nm 3)) .nil)))) (exs Bv) FU [some (blL es),some fo,some (.int k),some (.int k)]=.nxt [some (blL es),some fo,some (.int k),some (.int ((k + tw es k:Nat):Int))]:=by
 have cd:∀ t:Nat,k + t<=es.length->tv (.bo true (.cons (.cmp .lt (.nm 3) (.bi .len (.cons (.nm 0) .nil))) (.cons (.ix (.nm 0) (.nm 3)) .nil))) [some (blL es),some fo,some (.int k),some (.int ((k + t:Nat):Int))]=.ok (tv1 es (k + t)):=fun t ht=>by
  unfold blL
  by_cases c:k + t < es.length
  ·have c':((k + t:Nat):Int) < es.length:=by omega
   have ha:=Hx c
   simp_arith [aaa,c',ha]
  ·have c':¬ ((k + t:Nat):Int) < es.length:=by omega
   have:tv1 es (k + t)=false:=by rw [show k + t=es.length by omega]; exact Tj hn
   rw [this]
   simp_arith [aaa,c']
 have hle:k + tw es k<=es.length:=by
  apply aaU
  intro z
  have:=Hw (Fg (es:=es) (i:=k) (t:=es.length - k) (by omega))
  omega
 obtain ⟨δ',e,rfl⟩:=Cf (c:=tv (.bo true (.cons (.cmp .lt (.nm 3) (.bi .len (.cons (.nm 0) .nil))) (.cons (.ix (.nm 0) (.nm 3)) .nil)))) (b:=exs Bv) (fun t δ=>δ=[some (blL es),some fo,some (.int k),some (.int ((k + t:Nat):Int))]) (tw es k) FU 0 (δ:=[some (blL es),some fo,some (.int k),some (.int k)]) rfl (by
   rintro t δ _ ht rfl
   refine ⟨by rw [cd t (by omega),Fg (by omega)],_,?_,rfl⟩
   rw [show ((k + (t + 1):Nat):Int)=((k + t:Nat):Int) + 1 by omega]
   simp_arith [Bv]) (by
   rintro δ rfl
   rw [aar,cd _ hle,J9]) (by unfold FU; omega)
 rw [e,aar]
theorem Rj (k:Nat) (hk:k < es.length) (o3:Option D):∃ o3',exs AY [some (blL es),some (.lst ((Aq es k).map Al)),some (.int k),o3]=.nxt [some (blL es),some (.lst ((Aq es (k + 1)).map Al)),some (.int k),o3']:=by
 have ha:=Hx hk
 have hrl:=Fx es k
 have hr:Aq es (k + 1)=Aq es k ++ if st1 es k then [(k,k + tw es k)] else []:=by
  unfold Aq
  rw [abp,abq,aao]
  congr 1
  cases q:st1 es k <;> simp [q]
 have hb:ev (.bo true (.cons (.ix (.nm 0) (.nm 2)) (.cons (.bo false (.cons (.cmp .eq (.nm 2) (.cI 0)) (.cons (.not (.ix (.nm 0) (.bin .sub (.nm 2) (.cI 1)))) .nil))) .nil))) [some (blL es),some (.lst ((Aq es k).map Al)),some (.int k),o3]=.ok (.bl (st1 es k)):=by
  unfold st1
  unfold blL
  cases q:tv1 es k with
  | false =>
   rw [q] at ha
   simp_arith [ha]
  | true =>
   rw [q] at ha
   by_cases c:k=0
   ·subst c
    rw [show ((0:Nat):Int)=0 from rfl] at *
    simp_arith [ha,Bool.true_or]
   ·have c1:(k==0)=false:=beq_eq_false_iff_ne.mpr c
    have c2:((k:Int)==0)=false:=by rw [beq_eq_false_iff_ne]; omega
    have ha2:=Hx (es:=es) (i:=k - 1) (by omega)
    rw [show ((k - 1:Nat):Int)=(k:Int) - 1 by omega] at ha2
    rw [c1]
    simp_arith [ha,c2,ha2,Bool.false_or]
 cases q:st1 es k with
 | true =>
  have hl:=Ri hn k hk (.lst ((Aq es k).map Al))
  have hap:=A7 ((Aq es k).map Al) (.tup [.int k,.int ((k + tw es k:Nat):Int)]) (by rw [aaa]; omega)
  rw [q] at hr hb
  rw [hr,if_pos rfl,aao]
  refine ⟨some (.int ((k + tw es k:Nat):Int)),?_⟩
  show _=Out.nxt [some (blL es),some (.lst ((Aq es k).map Al ++ [.tup [.int k,.int ((k + tw es k:Nat):Int)]])),some (.int k),some (.int ((k + tw es k:Nat):Int))]
  generalize (Aq es k).map Al=rr at *
  generalize k + tw es k=m at *
  rw [AY,exs,ex,tv,hb,Res.bind_ok]
  simp_arith [hl,hap]
 | false =>
  rw [q] at hr hb
  rw [hr,if_neg aaW,aaJ]
  refine ⟨o3,?_⟩
  rw [AY,exs,ex,tv,hb,Res.bind_ok]
  simp_arith []
theorem Ic:Bm.den [blL es]=.ok (.lst ((Aq es es.length).map Al)):=by
 have hr:=Cv (a:=0) (b:=(es.length:Int)) (by omega) (by omega) (by omega) (by omega)
 obtain ⟨δ',e,o2,o3,rfl⟩:=Aw (tg:=.nm 2) (b:=exs AY) (fun k δ=>∃ o2 o3,δ=[some (blL es),some (.lst ((Aq es k).map Al)),o2,o3]) (ds:=Av 0 (es.length:Int)) (δ:=[some (blL es),some (.lst []),none,none]) 0 ⟨none,none,rfl⟩ (by
  rintro k d δ hd ⟨o2,o3,rfl⟩
  obtain ⟨rfl,hk⟩:=BQ hd
  rw [abx,aar]
  obtain ⟨q3,e⟩:=Rj hn k (by omega) o3
  exact ⟨_,_,rfl,e,some (.int k),q3,rfl⟩)
 rw [Cu,show 0 + ((es.length:Int) - 0).toNat=es.length by omega] at e
 refine (GR _ rfl).trans (Ab ?_)
 generalize (Aq es es.length).map Al=rr at *
 unfold blL at *
 simp_arith [B8,aaa,hr,e]
end
section
variable {xs:List Int} {c0 c1 c2:Int} {s p m:D} (a0:atD (xs.map D.int) 0=.ok (.int c0)) (a1:atD (xs.map D.int) 1=.ok (.int c1)) (a2:atD (xs.map D.int) 2=.ok (.int c2)) (h0:c0<=200) (b0:0<=c1) (b1:c1 < 6)
include a0 a1 a2 h0 b0 b1
theorem Lu (k:Nat):∀ (n w:Nat) (es:List Bool) (y:Int),(y + 1).toNat<=n->n < w->(es.length:Int)<=c0->∃ es' y',(es'.length:Int)<=c0/\AI (tv (.bo true (.cons (.cmp .lt (.bi .len (.cons (.nm 4) .nil)) (.ixL (.nm 3) (.cI 0))) (.cons (.cmp .ge (.nm 6) (.cI 0)) .nil)))) (exs BM) w [some s,some p,some m,some (.lst (xs.map .int)),some (blL es),some (.int k),some (.int y)]=.nxt [some s,some p,some m,some (.lst (xs.map .int)),some (blL es'),some (.int k),some (.int y')]
 | n,w + 1,es,y,h1,h2,h3=>by
  have l2:(0:Int) < 2:=by decide
  by_cases cc:(es.length:Int) < c0
  ·by_cases cy:0<=y
   ·obtain ⟨n,rfl⟩:∃ k,n=k + 1:=⟨n - 1,by omega⟩
    have hap:=A7 (es.map D.bl) (.bl (((k:Int) + c2) % 2==0)) (by rw [aaa]; omega)
    have ht:exs BM [some s,some p,some m,some (.lst (xs.map .int)),some (blL es),some (.int k),some (.int y)]=.nxt [some s,some p,some m,some (.lst (xs.map .int)),some (blL (es ++ [((k:Int) + c2) % 2==0])),some (.int k),some (.int (y - 1))]:=by
     unfold blL
     rw [aao]
     simp_arith [BM,a2,l2,hap]
    rw [Fv (by unfold blL; simp_arith [aaa,a0,cc,cy]) ht]
    exact Lu k n w (es ++ [((k:Int) + c2) % 2==0]) (y - 1) (by omega) (by omega) (by rw [aav]; simp; omega)
   ·refine ⟨es,y,h3,?_⟩
    rw [BR (by unfold blL; simp_arith [aaa,a0,cc,cy])]
  ·refine ⟨es,y,h3,?_⟩
   rw [BR (by unfold blL; simp_arith [aaa,a0,cc])]
theorem Rk (k:Nat) {x:Int} (x1:x < 12) (ak:atD (xs.map D.int) (3 + (k:Int))=.ok (.int x)) (hk:(k:Int) < c0) (es:List Bool) (h3:(es.length:Int)<=c0) (h4:c1<=3->es.length=k) (o6:Option D):∃ es' o6',(es'.length:Int)<=c0/\(c1<=3->es'.length=k + 1)/\exs AF [some s,some p,some m,some (.lst (xs.map .int)),some (blL es),some (.int k),o6]=.nxt [some s,some p,some m,some (.lst (xs.map .int)),some (blL es'),some (.int k),o6']:=by
 have hap:=fun b=>A7 (es.map D.bl) (.bl b) (by rw [aaa]; omega)
 by_cases c3:c1=3
 ·subst c3
  have:=h4 (by omega)
  refine ⟨es ++ [c2==0],some (.int x),by rw [aav]; simp; omega,fun _=>by rw [aav]; simp; omega,?_⟩
  unfold blL
  rw [aao]
  simp_arith [AF,a1,a2,ak,hap]
 ·have d3:(c1==3)=false:=beq_eq_false_iff_ne.mpr c3
  by_cases c4:3 < c1
  ·obtain ⟨es',y',h5,e⟩:=Lu (s:=s) (p:=p) (m:=m) a0 a1 a2 h0 b0 b1 k 100 FU es x (by omega) (by unfold FU; omega) h3
   refine ⟨es',some (.int y'),h5,fun z=>absurd z (by omega),?_⟩
   unfold blL at *
   generalize es.map D.bl=w1 at *
   generalize es'.map D.bl=w2 at *
   simp_arith [AF,a1,ak,d3,c4,e]
  ·have:=h4 (by omega)
   obtain ⟨v,hv⟩:∃ v:Int,atD [.int 6,.int 1,.int 10] c1=.ok (.int v):=by
    have:c1=0\/c1=1\/c1=2:=by omega
    rcases this with rfl | rfl | rfl <;> exact ⟨_,rfl⟩
   refine ⟨es ++ [decide (v<=x)],some (.int x),by rw [aav]; simp; omega,fun _=>by rw [aav]; simp; omega,?_⟩
   unfold blL
   rw [aao]
   simp_arith [AF,a1,ak,d3,c4,hv,hap]
end
theorem KI (ns:List Int) (p:Int) (hp:0<=p) (m:Nat) (hm:m<=200):∃ es:List Bool,es.length<=m/\Cn.den [.lst (ns.map .int),.int p,.int m]=.ok (blL es):=by
 obtain ⟨xs,hrow,hl,hb⟩:=HX ns p hp ([(m:Int) + 1,6,2] ++ aag m 12) (by simp; omega) (by
  intro s hs
  rcases aaf.mp hs with h | h
  ·simp only [aal,acd,or_false] at h
   rcases h with rfl | rfl | rfl <;> omega
  ·rw [(abo.mp h).2]; decide)
 have hl:xs.length=m + 3:=by rw [hl,aav,aa2]; simp; omega
 have g:∀ i,i < m + 3->∃ x,xs[i]?=some x:=fun i hi=>⟨_,aah (by omega)⟩
 obtain ⟨c0,g0⟩:=g 0 (by omega)
 obtain ⟨c1,g1⟩:=g 1 (by omega)
 obtain ⟨c2,g2⟩:=g 2 (by omega)
 have b0:=hb 0 c0 ((m:Int) + 1) g0 (by simp)
 have b1:=hb 1 c1 6 g1 (by simp)
 have a0:atD (xs.map D.int) 0=.ok (.int c0):=Eh g0
 have a1:atD (xs.map D.int) 1=.ok (.int c1):=Eh g1
 have a2:atD (xs.map D.int) 2=.ok (.int c2):=Eh g2
 obtain ⟨q,rfl⟩:∃ q:Nat,c0=q:=⟨c0.toNat,by omega⟩
 obtain ⟨δ',e,es,o5,o6,rfl,hel,_⟩:=Aw (tg:=.nm 5) (b:=exs AF) (fun i δ=>∃ (es:List Bool) (o5 o6:Option D),δ=[some (.lst (ns.map .int)),some (.int p),some (.int m),some (.lst (xs.map .int)),some (blL es),o5,o6]/\(es.length:Int)<=q/\(c1<=3->es.length=i)) (ds:=Av 0 (q:Int)) (δ:=[some (.lst (ns.map .int)),some (.int p),some (.int m),some (.lst (xs.map .int)),some (blL []),none,none]) 0 ⟨[],none,none,rfl,by simp,fun _=>rfl⟩ (by
  rintro i d δ hd ⟨es,o5,o6,rfl,hel,h4⟩
  obtain ⟨rfl,hi⟩:=BQ hd
  rw [abx,aar]
  rw [aar] at h4
  obtain ⟨x,gx⟩:=g (3 + i) (by omega)
  have him:i < m:=by have:=b0.2; omega
  have hx:=hb (3 + i) x 12 gx (by rw [aaD (by simp)]; simp [him])
  have ak:=Eh gx
  rw [show ((3 + i:Nat):Int)=3 + (i:Int) by omega] at ak
  obtain ⟨es',o6',h5,h6,e⟩:=Rk (s:=.lst (ns.map .int)) (p:=.int p) (m:=.int m) a0 a1 a2 (by omega) b1.1 b1.2 i hx.2 ak (by omega) es hel h4 o6
  exact ⟨_,_,rfl,e,es',some (.int i),o6',rfl,h5,h6⟩)
 refine ⟨es,by omega,?_⟩
 have hr:=Cv (a:=0) (b:=(q:Int)) (by omega) (by omega) (by omega) (by omega)
 have hrep:=Tf (.int 12) m (by omega)
 have hadd:=Ll [.int ((m:Int) + 1),.int 6,.int 2] (aag m (.int 12)) (by simp; omega)
 rw [aao,abb] at hrow
 refine (HS _ rfl).trans (Ab ?_)
 generalize aag m (D.int 12)=zs at *
 simp only [abA,aa7,aa0] at hrow hadd
 have e:A3 (.nm 5) (exs AF) (Av 0 (q:Int)) [some (.lst (ns.map .int)),some (.int p),some (.int m),some (.lst (xs.map .int)),some (.lst []),none,none]=.nxt [some (.lst (ns.map .int)),some (.int p),some (.int m),some (.lst (xs.map .int)),some (blL es),o5,o6]:=e
 simp_arith [CU,hrep,hadd,hrow,a0,hr,e]
structure Bk where
 n:Int
 a:Int
 b:Int
 l:Int
noncomputable def Bk.d (x:Bk):D:=.tup [.int x.n,.int x.a,.int x.b,.int x.l]
noncomputable def jn (x y:Bk):Bk:=⟨x.n + y.n,if x.a=x.n then x.n + y.a else x.a,if y.b=y.n then y.n + x.b else y.b,max (max x.l y.l) (x.b + y.a)⟩
noncomputable def bst (x:Bk):Bool->Bk
 | true=>⟨x.n + 1,if x.a=x.n then x.n + 1 else x.a,x.b + 1,max x.l (x.b + 1)⟩
 | false=>⟨x.n + 1,x.a,0,x.l⟩
noncomputable def bk0:Bk:=⟨0,0,0,0⟩
noncomputable def bks (es:List Bool):Bk:=es.foldl bst bk0
theorem Ei (es:List Bool) (e:Bool):bks (es ++ [e])=bst (bks es) e:=by unfold bks; rw [List.foldl_append]; rfl
theorem GV {P:List Bool->Prop} (h0:P []) (h1:∀ es e,P es->P (es ++ [e])) (es:List Bool):P es:=by
 have:∀ r:List Bool,P r.reverse:=fun r=>by
  induction r with
  | nil=>exact h0
  | cons x r ih=>rw [abH]; exact h1 _ _ ih
 have:=this es.reverse
 rwa [acr] at this
structure BkI (es:List Bool) (x:Bk):Prop where
 n:x.n=es.length
 a0:0<=x.a
 a1:x.a<=x.n
 b0:0<=x.b
 b1:x.b<=x.n
 ab:x.a=x.n ↔ x.b=x.n
 bl:x.b<=x.l
 ta:∀ j:Nat,(j:Int) < x.a->tv1 es j=true
 te:tv1 es x.a.toNat=false
 sa:∀ j:Nat,(j:Int) < x.b->tv1 es (es.length - 1 - j)=true
 se:x.b=x.n\/tv1 es (es.length - 1 - x.b.toNat)=false
theorem BW (es:List Bool) (e:Bool) (j:Nat):tv1 (es ++ [e]) j=if j < es.length then tv1 es j else if j=es.length then e else false:=by
 unfold tv1
 rw [aas,aas]
 split
 ·rename_i h; rw [aaK h]
 ·rename_i h
  rw [aaD (by omega)]
  split
  ·rename_i h2; subst h2; simp
  ·rename_i h2
   rw [abc (by simp; omega)]; rfl
theorem NZ {es:List Bool} {j:Nat} (h:es.length<=j):tv1 es j=false:=by
 cases q:tv1 es j with
 | false=>rfl
 | true=>have:=Hw q; omega
theorem bki (es:List Bool):BkI es (bks es):=by
 refine GV (P:=fun es=>BkI es (bks es)) ?_ (fun es e I=>?_) es
 ·exact ⟨rfl,abD _,abD _,abD _,abD _,Iff.rfl,abD _,fun j h=>absurd h (by show ¬ (j:Int) < 0; omega),rfl,fun j h=>absurd h (by show ¬ (j:Int) < 0; omega),.inl rfl⟩
 ·rw [Ei]
  generalize bks es=x at *
  obtain ⟨n,a0,a1,b0,b1,ab,bl,ta,te,sa,se⟩:=I
  have hl:(es ++ [e]).length=es.length + 1:=by simp
  cases e with
  | false =>
   refine ⟨by rw [hl]; show x.n + 1=_; omega,a0,?_,abD _,?_,?_,?_,?_,?_,?_,?_⟩
   ·show x.a<=x.n + 1; omega
   ·show 0<=x.n + 1; omega
   ·show x.a=x.n + 1 ↔ (0:Int)=x.n + 1; omega
   ·show 0<=x.l; omega
   ·intro j hj
    have hj:(j:Int) < x.a:=hj
    rw [BW,if_pos (by omega)]; exact ta j hj
   ·show tv1 _ (Int.toNat x.a)=false
    rw [BW]
    split
    ·exact te
    ·split <;> rfl
   ·intro j hj
    have hj:(j:Int) < 0:=hj
    omega
   ·right
    show tv1 _ ((es ++ [false]).length - 1 - 0)=false
    rw [hl,BW,if_neg (by omega),if_pos (by omega)]
  | true =>
   refine ⟨by rw [hl]; show x.n + 1=_; omega,?_,?_,?_,?_,?_,?_,?_,?_,?_,?_⟩
   ·show (0:Int)<=(if x.a=x.n then x.n + 1 else x.a); split <;> omega
   ·show (if x.a=x.n then x.n + 1 else x.a)<=x.n + 1; split <;> omega
   ·show 0<=x.b + 1; omega
   ·show x.b + 1<=x.n + 1; omega
   ·show (if x.a=x.n then x.n + 1 else x.a)=x.n + 1 ↔ x.b + 1=x.n + 1
    by_cases c:x.a=x.n
    ·rw [if_pos c]; omega
    ·rw [if_neg c]; omega
   ·show x.b + 1<=max x.l (x.b + 1); omega
   ·intro j hj
    have hj:(j:Int) < (if x.a=x.n then x.n + 1 else x.a):=hj
    rw [BW]
    by_cases c:x.a=x.n
    ·rw [if_pos c] at hj
     split
     ·exact ta j (by omega)
     ·rw [if_pos (by omega)]
    ·rw [if_neg c] at hj
     rw [if_pos (by omega)]; exact ta j hj
   ·show tv1 _ (Int.toNat (if x.a=x.n then x.n + 1 else x.a))=false
    by_cases c:x.a=x.n
    ·rw [if_pos c]; exact NZ (by rw [hl]; omega)
    ·rw [if_neg c,BW,if_pos (by omega)]; exact te
   ·intro j hj
    have hj:(j:Int) < x.b + 1:=hj
    rw [hl,BW]
    cases j with
    | zero=>rw [if_neg (by omega),if_pos (by omega)]
    | succ j =>
     rw [if_pos (by omega),show es.length + 1 - 1 - (j + 1)=es.length - 1 - j by omega]
     exact sa j (by omega)
   ·rcases se with se | se
    ·left; show x.b + 1=x.n + 1; omega
    ·by_cases c:x.b=x.n
     ·left; show x.b + 1=x.n + 1; omega
     ·right
      show tv1 _ ((es ++ [true]).length - 1 - (x.b + 1).toNat)=false
      rw [hl,show es.length + 1 - 1 - (x.b + 1).toNat=es.length - 1 - x.b.toNat by omega,BW,if_pos (by omega)]
      exact se
noncomputable def bku (e:Bool):Bk:=if e then ⟨1,1,1,1⟩ else ⟨1,0,0,0⟩
theorem Bk.ext' {x y:Bk} (h1:x.n=y.n) (h2:x.a=y.a) (h3:x.b=y.b) (h4:x.l=y.l):x=y:=by
 cases x; cases y; simp only [Bk.mk.injEq]; exact ⟨h1,h2,h3,h4⟩
theorem Rl {x:Bk} (es:List Bool) (I:BkI es x) (e:Bool):jn x (bku e)=bst x e:=by
 have:=I.bl
 have:=I.b0
 cases e with
 | false =>
  apply Bk.ext'
  ·rfl
  ·show (if x.a=x.n then x.n + 0 else x.a)=x.a
   split <;> omega
  ·rfl
  ·show max (max x.l 0) (x.b + 0)=x.l; omega
 | true =>
  apply Bk.ext'
  ·rfl
  ·rfl
  ·show (1:Int) + x.b=x.b + 1; omega
  ·show max (max x.l 1) (x.b + 1)=max x.l (x.b + 1); omega
theorem Tk {x y:Bk} {xs ys:List Bool} (I:BkI xs x) (J:BkI ys y) (e:Bool):jn x (bst y e)=bst (jn x y) e:=by
 obtain ⟨-,xa0,xa1,xb0,xb1,xab,xbl,-,-,-,-⟩:=I
 obtain ⟨yn,ya0,ya1,yb0,yb1,yab,ybl,-,-,-,-⟩:=J
 cases e with
 | false =>
  apply Bk.ext'
  ·show x.n + (y.n + 1)=x.n + y.n + 1; omega
  ·rfl
  ·show (if (0:Int)=y.n + 1 then y.n + 1 + x.b else 0)=(0:Int)
   rw [if_neg (by omega)]
  ·rfl
 | true =>
  apply Bk.ext'
  ·show x.n + (y.n + 1)=x.n + y.n + 1; omega
  ·show (if x.a=x.n then x.n + (if y.a=y.n then y.n + 1 else y.a) else x.a)=(if (if x.a=x.n then x.n + y.a else x.a)=x.n + y.n then x.n + y.n + 1 else (if x.a=x.n then x.n + y.a else x.a))
   by_cases c:x.a=x.n
   ·rw [if_pos c,if_pos c]
    by_cases c2:y.a=y.n
    ·rw [if_pos c2,if_pos (by omega)]; omega
    ·rw [if_neg c2,if_neg (by omega)]
   ·rw [if_neg c,if_neg c,if_neg (by omega)]
  ·show (if y.b + 1=y.n + 1 then y.n + 1 + x.b else y.b + 1)=(if y.b=y.n then y.n + x.b else y.b) + 1
   by_cases c:y.b=y.n
   ·rw [if_pos (by omega),if_pos c]; omega
   ·rw [if_neg (by omega),if_neg c]
  ·show max (max x.l (max y.l (y.b + 1))) (x.b + (if y.a=y.n then y.n + 1 else y.a))=max (max (max x.l y.l) (x.b + y.a)) ((if y.b=y.n then y.n + x.b else y.b) + 1)
   by_cases c:y.b=y.n
   ·have c2:=yab.mpr c
    rw [if_pos c,if_pos c2]; omega
   ·have c2:¬ y.a=y.n:=fun z=>c (yab.mp z)
    rw [if_neg c,if_neg c2]; omega
theorem Tl (xs ys:List Bool):jn (bks xs) (bks ys)=bks (xs ++ ys):=by
 refine GV (P:=fun ys=>jn (bks xs) (bks ys)=bks (xs ++ ys)) ?_ (fun ys e ih=>?_) ys
 ·rw [aaJ]
  obtain ⟨-,xa0,xa1,xb0,xb1,xab,xbl,-,-,-,-⟩:=bki xs
  have hl:0<=(bks xs).l:=by omega
  generalize bks xs=x at *
  apply Bk.ext'
  ·show x.n + 0=x.n; omega
  ·show (if x.a=x.n then x.n + 0 else x.a)=x.a
   split <;> omega
  ·show (0:Int) + x.b=x.b; omega
  ·show max (max x.l 0) (x.b + 0)=x.l; omega
 ·rw [Ei,Tk (bki xs) (bki ys),ih,<- abI,Ei]
theorem Kb (a b c d:D):atD [a,b,c,d] 0=.ok a:=rfl
theorem MD (a b c d:D):atD [a,b,c,d] 1=.ok b:=rfl
theorem ME (a b c d:D):atD [a,b,c,d] 2=.ok c:=rfl
theorem Ke (a b c d:D):atD [a,b,c,d] 3=.ok d:=rfl
theorem Hy (x y:Bk):C7.den [x.d,y.d]=.ok (jn x y).d:=by
 refine (NM _ rfl).trans (Ab ?_)
 obtain ⟨n,a,b,l⟩:=x
 obtain ⟨n',a',b',l'⟩:=y
 show _=Out.ret (.tup [.int (n + n'),.int (if a=n then n + a' else a),.int (if b'=n' then n' + b else b'),.int (max (max l l') (b + a'))])
 unfold Bk.d
 by_cases c:a=n
 ·subst c
  by_cases c2:b'=n'
  ·subst c2
   simp_arith [C5,Kb,MD,ME,Ke,if_true]
  ·have e2:(b'==n')=false:=beq_eq_false_iff_ne.mpr c2
   simp_arith [C5,Kb,MD,ME,Ke,if_true,c2,e2,if_false]
 ·have e1:(a==n)=false:=beq_eq_false_iff_ne.mpr c
  by_cases c2:b'=n'
  ·subst c2
   simp_arith [C5,Kb,MD,ME,Ke,if_true,c,e1,if_false]
  ·have e2:(b'==n')=false:=beq_eq_false_iff_ne.mpr c2
   simp_arith [C5,Kb,MD,ME,Ke,if_true,c,e1,c2,e2,if_false]
theorem Rm (es:List Bool):CH.den [blL es]=.ok (bks es).d:=by
 obtain ⟨δ',e,o2,rfl⟩:=Aw (tg:=.nm 2) (b:=exs BT) (fun k δ=>∃ o2,δ=[some (blL es),some (bks (es.take k)).d,o2]) (ds:=es.map .bl) (δ:=[some (blL es),some bk0.d,none]) 0 ⟨none,rfl⟩ (by
  rintro k d δ hd ⟨o2,rfl⟩
  rw [aaj] at hd
  obtain ⟨b,hb,rfl⟩:=aam.mp hd
  rw [aar]
  have hj:=Hy (bks (es.take k)) (bku b)
  rw [Rl (es.take k) (bki _),<- Ei] at hj
  have ht:es.take (k + 1)=es.take k ++ [b]:=by
   obtain ⟨h,rfl⟩:=aaq.mp hb
   exact (abP h)
  rw [<- ht] at hj
  refine ⟨_,[some (blL es),some (bks (es.take (k + 1))).d,some (.bl b)],rfl,?_,some (.bl b),rfl⟩
  generalize (bks (es.take (k + 1))).d=w1 at *
  generalize (bks (es.take k)).d=w2 at *
  cases b with
  | true =>
   have hj:C7.den [w2,.tup [.int 1,.int 1,.int 1,.int 1]]=.ok w1:=hj
   simp_arith [BT,hj]
  | false =>
   have hj:C7.den [w2,.tup [.int 1,.int 0,.int 0,.int 0]]=.ok w1:=hj
   simp_arith [BT,hj])
 rw [aaa,aar,acg] at e
 refine (KA _ rfl).trans (Ab ?_)
 have e:A3 (.nm 2) (exs BT) (es.map .bl) [some (blL es),some (.tup [.int 0,.int 0,.int 0,.int 0]),none]=.nxt [some (blL es),some (bks es).d,o2]:=e
 generalize (bks es).d=w1 at *
 unfold blL at *
 simp_arith [D3,e]
noncomputable def wc1:E:=.bo true (.cons (.cmp .lt (.nm 1) (.bi .len (.cons (.nm 0) .nil))) (.cons (.ix (.nm 0) (.nm 1)) .nil))
noncomputable def wc2:E:=.bo true (.cons (.cmp .lt (.nm 2) (.bi .len (.cons (.nm 0) .nil))) (.cons (.ix (.nm 0) (.bin .sub (.bin .sub (.bi .len (.cons (.nm 0) .nil)) (.cI 1)) (.nm 2))) .nil))
section
variable {es:List Bool} (hn:es.length<=200)
include hn
theorem Tm:AI (tv wc1) (exs Co) FU [some (blL es),some (.int 0),none,none,none,none]=.nxt [some (blL es),some (.int (bks es).a),none,none,none,none]:=by
 obtain ⟨n,a0,a1,b0,b1,ab,bl,ta,te,sa,se⟩:=bki es
 have cd:∀ t:Nat,t<=es.length->tv wc1 [some (blL es),some (.int (t:Nat)),none,none,none,none]=.ok (tv1 es t):=fun t ht=>by
  unfold blL wc1
  by_cases c:t < es.length
  ·have c':(t:Int) < es.length:=by omega
   have ha:=Hx c
   simp_arith [aaa,c',ha]
  ·have c':¬ (t:Int) < es.length:=by omega
   rw [NZ (show es.length<=t by omega)]
   simp_arith [aaa,c']
 obtain ⟨δ',e,rfl⟩:=Cf (c:=tv wc1) (b:=exs Co) (fun t δ=>δ=[some (blL es),some (.int (t:Nat)),none,none,none,none]) (bks es).a.toNat FU 0 (δ:=[some (blL es),some (.int 0),none,none,none,none]) rfl (by
   rintro t δ _ ht rfl
   refine ⟨by rw [cd t (by omega),ta t (by omega)],_,?_,rfl⟩
   rw [abX,abY]
   simp_arith [Co]) (by
   rintro δ rfl
   rw [aar,cd _ (by omega),te]) (by unfold FU; omega)
 rw [e,aar,aba a0]
theorem Tn (x:D):AI (tv wc2) (exs Cp) FU [some (blL es),some x,some (.int 0),none,none,none]=.nxt [some (blL es),some x,some (.int (bks es).b),none,none,none]:=by
 obtain ⟨n,a0,a1,b0,b1,ab,bl,ta,te,sa,se⟩:=bki es
 have cd:∀ t:Nat,t<=es.length->tv wc2 [some (blL es),some x,some (.int (t:Nat)),none,none,none]=.ok (decide (t < es.length) && tv1 es (es.length - 1 - t)):=fun t ht=>by
  unfold blL wc2
  by_cases c:t < es.length
  ·have c':(t:Int) < es.length:=by omega
   have ha:=Hx (es:=es) (i:=es.length - 1 - t) (by omega)
   rw [show ((es.length - 1 - t:Nat):Int)=(es.length:Int) - 1 - t by omega] at ha
   rw [decide_eq_true c,abm]
   simp_arith [aaa,c',ha]
  ·have c':¬ (t:Int) < es.length:=by omega
   rw [decide_eq_false c,ab2]
   simp_arith [aaa,c']
 obtain ⟨δ',e,rfl⟩:=Cf (c:=tv wc2) (b:=exs Cp) (fun t δ=>δ=[some (blL es),some x,some (.int (t:Nat)),none,none,none]) (bks es).b.toNat FU 0 (δ:=[some (blL es),some x,some (.int 0),none,none,none]) rfl (by
   rintro t δ _ ht rfl
   refine ⟨by rw [cd t (by omega),sa t (by omega),decide_eq_true (by omega)]; rfl,_,?_,rfl⟩
   rw [abX,abY]
   simp_arith [Cp]) (by
   rintro δ rfl
   rw [aar,cd _ (by omega)]
   rcases se with se | se
   ·rw [decide_eq_false (by omega)]; rfl
   ·rw [se,ab3]) (by unfold FU; omega)
 rw [e,aar,aba b0]
theorem MF:Do.den [blL es]=.ok (bks es).d:=by
 have h1:=Tm hn
 have h2:=Tn hn (.int (bks es).a)
 obtain ⟨δ',e,o5,rfl⟩:=Aw (tg:=.nm 5) (b:=exs Cq) (fun k δ=>∃ o5,δ=[some (blL es),some (.int (bks es).a),some (.int (bks es).b),some (.int (bks (es.take k)).l),some (.int (bks (es.take k)).b),o5]) (ds:=es.map .bl) (δ:=[some (blL es),some (.int (bks es).a),some (.int (bks es).b),some (.int 0),some (.int 0),none]) 0 ⟨none,rfl⟩ (by
  rintro k d δ hd ⟨o5,rfl⟩
  rw [aaj] at hd
  obtain ⟨b,hb,rfl⟩:=aam.mp hd
  rw [aar]
  have ht:es.take (k + 1)=es.take k ++ [b]:=by
   obtain ⟨h,rfl⟩:=aaq.mp hb
   exact (abP h)
  rw [ht,Ei]
  obtain ⟨-,-,-,b0,-,-,bl,-,-,-,-⟩:=bki (es.take k)
  refine ⟨_,_,rfl,?_,some (.bl b),rfl⟩
  generalize bks (es.take k)=y at *
  cases b with
  | true =>
   have ha:atD [.int 0,.int (y.b + 1)] 1=.ok (.int (y.b + 1)):=rfl
   show _=Out.nxt [some (blL es),some (.int (bks es).a),some (.int (bks es).b),some (.int (max y.l (y.b + 1))),some (.int (y.b + 1)),some (.bl true)]
   simp_arith [Cq,ha]
  | false =>
   have ha:atD [.int 0,.int (y.b + 1)] 0=.ok (.int 0):=rfl
   have hm:max y.l 0=y.l:=by omega
   show _=Out.nxt [some (blL es),some (.int (bks es).a),some (.int (bks es).b),some (.int y.l),some (.int 0),some (.bl false)]
   simp_arith [Cq,ha,hm])
 rw [aaa,aar,acg] at e
 refine (JX _ rfl).trans (Ab ?_)
 have hnn:=(bki es).n
 unfold Bk.d
 unfold wc1 at h1
 unfold wc2 at h2
 generalize bks es=y at *
 rw [hnn]
 unfold blL at *
 simp_arith [DQ,h1,h2,e,aaa]
end
theorem Uk {xs:List D} {a b:Nat} (ha:a<=xs.length) (hb:b<=xs.length):cut xs (some (a:Int)) (some (b:Int))=(xs.drop a).take (b - a):=by
 have e1:sIx xs.length 0 (some (a:Int))=a:=by
  show (if (a:Int) < 0 then _ else _:Int).toNat=a
  rw [if_neg (by omega)]; omega
 have e2:sIx xs.length xs.length (some (b:Int))=b:=by
  show (if (b:Int) < 0 then _ else _:Int).toNat=b
  rw [if_neg (by omega)]; omega
 unfold cut
 rw [e1,e2]
noncomputable def bkN (es:List Bool) (f l j:Nat):Bk:=bks ((es.drop (j * f ^ l)).take (min es.length (j * f ^ l + f ^ l) - j * f ^ l))
noncomputable def Bz (es:List Bool) (f l n:Nat):List D:=(aat n).map fun j=>(bkN es f l j).d
noncomputable def AM (es:List Bool) (f n:Nat):List (List D):=(aat n).map fun l=>Bz es f l (cnt es.length f l)
noncomputable def tBD (es:List Bool) (f n:Nat):D:=.lst ((AM es f n).map .lst)
theorem MG (es:List Bool) (f n:Nat):AM es f (n + 1)=AM es f n ++ [Bz es f n (cnt es.length f n)]:=by
 unfold AM; rw [abp,aao]; rfl
theorem N0 {es:List Bool} {a b:Nat} (ha:a<=es.length) (hb:b<=es.length):CZ (blL es) (some (a:Int)) (some (b:Int))=.ok (blL ((es.drop a).take (b - a))):=by
 show Res.ok (D.lst (cut (es.map .bl) (some (a:Int)) (some (b:Int))))=_
 rw [Uk (by rw [aaa]; exact ha) (by rw [aaa]; exact hb)]
 unfold blL
 rw [abB,abC]
section
variable {es:List Bool} {f h:Nat} (S:Sp es.length f h)
include S
theorem UN {l j:Nat} (hl:l < nlv es.length h) (hj:j < cnt es.length f l):AZ es.length f h l j=true:=by
 unfold AZ
 rw [decide_eq_true_eq,aau]
 omega
theorem Rn (l:Nat) (hl:l < nlv es.length h) (o6:Option D):∃ o6',exs DJ [some (blL es),some (.int f),some (shD es.length f),some (tBD es f l),some (.int l),some (.int (cnt es.length f l)),o6]=.nxt [some (blL es),some (.int f),some (shD es.length f),some (tBD es f (l + 1)),some (.int l),some (.int (cnt es.length f l)),o6']:=by
 have hn:=S.hp
 have hcl:=NP (p:=es.length) (f:=f) (l:=l) (by have:=S.hf; omega)
 have hr:=Cv (a:=0) (b:=cnt es.length f l) (by omega) (by omega) (by omega) (by omega)
 have c1:=C6 (nl:=1) (fr:=[2,4]) (tg:=.nm 0) (it:=.r1 (.nm 5)) (elt:=.call AT (.cons (.nm 1) (.cons (.tup (.cons (.nm 2) (.cons (.nm 0) .nil))) .nil))) (δ:=[some (blL es),some (.int f),some (shD es.length f),some (tBD es f l),some (.int l),some (.int (cnt es.length f l)),o6]) (ds:=Av 0 (cnt es.length f l)) (g:=fun d=>match d with | .int j=>.tup [.int (spB f l j),.int (spE es.length f l j)] | d=>d) (by simp_arith [hr]) (fun d hd=>by
   obtain ⟨j,rfl,hj⟩:=Mp hd
   refine ⟨[some (.int j),some (shD es.length f),some (.int l)],rfl,?_⟩
   have hs:=F7 S (UN S hl (show j < cnt es.length f l by omega))
   generalize shD es.length f=s at *
   simp_arith [hs])
 have e1:(Av 0 (cnt es.length f l)).map (fun d=>match d with | .int j=>D.tup [.int (spB f l j),.int (spE es.length f l j)] | d=>d)=(aat (cnt es.length f l)).map fun j:Nat=>D.tup [.int (spB f l j),.int (spE es.length f l j)]:=by
  unfold Av
  rw [aaP,show ((cnt es.length f l:Int) - 0).toNat=cnt es.length f l by omega]
  apply aaZ
  intro j _
  show D.tup [.int (spB f l (0 + (j:Int))),.int (spE es.length f l (0 + (j:Int)))]=_
  rw [abx]
 rw [e1] at c1
 have c2:=C6 (nl:=1) (fr:=[0]) (tg:=.nm 0) (it:=.seqL (.nm 6)) (elt:=.call CH (.cons (.slc (.nm 1) (.ix (.nm 0) (.cI 0)) (.ix (.nm 0) (.cI 1))) .nil)) (δ:=[some (blL es),some (.int f),some (shD es.length f),some (tBD es f l),some (.int l),some (.int (cnt es.length f l)),some (.lst ((aat (cnt es.length f l)).map fun j:Nat=>D.tup [.int (spB f l j),.int (spE es.length f l j)]))]) (ds:=(aat (cnt es.length f l)).map fun j:Nat=>D.tup [.int (spB f l j),.int (spE es.length f l j)]) (g:=fun d=>match d with | .tup [.int a,.int b]=>(bks ((es.drop a.toNat).take (b.toNat - a.toNat))).d | d=>d) (by simp_arith []) (fun d hd=>by
   obtain ⟨j,hj,rfl⟩:=aaC.mp hd
   have hj:=abG.mp hj
   have hlt:=(Fe (show 1<=f by have:=S.hf; omega)).mp hj
   refine ⟨[some (.tup [.int (spB f l j),.int (spE es.length f l j)]),some (blL es)],rfl,?_⟩
   show ev _ _=Res.ok (bks ((es.drop (spB f l j).toNat).take ((spE es.length f l j).toNat - (spB f l j).toNat))).d
   unfold spB spE
   simp only [aau]
   have hc:=N0 (es:=es) (a:=j * f ^ l) (b:=min es.length (j * f ^ l + f ^ l)) (by omega) (by omega)
   have hb:=Rm ((es.drop (j * f ^ l)).take (min es.length (j * f ^ l + f ^ l) - j * f ^ l))
   generalize (es.drop (j * f ^ l)).take (min es.length (j * f ^ l + f ^ l) - j * f ^ l)=ys at *
   generalize ((min es.length (j * f ^ l + f ^ l):Nat):Int)=e at *
   generalize ((j * f ^ l:Nat):Int)=a at *
   unfold blL at hc ⊢
   generalize es.map D.bl=X at *
   have hb:CH.den [.lst (ys.map .bl)]=.ok (bks ys).d:=hb
   generalize ys.map D.bl=Y at *
   generalize (bks ys).d=B at *
   have hc:Res.ok (D.lst (cut X (some a) (some e)))=.ok (.lst Y):=hc
   have hc:cut X (some a) (some e)=Y:=by cases hc; rfl
   simp_arith [at0,at1,hc,hb])
 have e2:((aat (cnt es.length f l)).map fun j:Nat=>D.tup [.int (spB f l j),.int (spE es.length f l j)]).map (fun d=>match d with | .tup [.int a,.int b]=>(bks ((es.drop a.toNat).take (b.toNat - a.toNat))).d | d=>d)=Bz es f l (cnt es.length f l):=by
  unfold Bz
  rw [aaP]
  apply aaZ
  intro j _
  show (bks ((es.drop (spB f l j).toNat).take ((spE es.length f l j).toNat - (spB f l j).toNat))).d=(bkN es f l j).d
  unfold spB spE bkN
  simp only [aau]
 rw [e2] at c2
 have hh:=S.hh
 have hnl:nlv es.length h<=9:=by unfold nlv; split <;> omega
 have hap:=A7 ((AM es f l).map .lst) (.lst (Bz es f l (cnt es.length f l))) (by rw [aaa]; unfold AM; rw [aaa,aay]; omega)
 refine ⟨some (.lst ((aat (cnt es.length f l)).map fun j:Nat=>D.tup [.int (spB f l j),.int (spE es.length f l j)])),?_⟩
 have e3:tBD es f (l + 1)=.lst ((AM es f l).map .lst ++ [.lst (Bz es f l (cnt es.length f l))]):=by
  unfold tBD; rw [MG,aao]; rfl
 rw [e3]
 unfold tBD at *
 clear e1 e2 e3
 generalize ((aat (cnt es.length f l)).map fun j:Nat=>D.tup [.int (spB f l j),.int (spE es.length f l j)])=SP at *
 generalize Bz es f l (cnt es.length f l)=RB at *
 generalize (AM es f l).map D.lst=TB at *
 generalize shD es.length f=s at *
 unfold blL at *
 generalize es.map D.bl=X at *
 simp_arith [hr] at c1
 simp_arith [] at c2
 simp_arith [DJ,hr,c1,c2,hap]
theorem Hz:EQ.den [blL es,.int f]=.ok (tBD es f (nlv es.length h)):=by
 have hlv:=GD S
 have hll:=HZ es.length f h
 have hlen:(((es.map D.bl).length:Nat):Int)=(es.length:Int):=by rw [aaa]
 have hen:BH ((lvS es.length f h).map iN)=(aat (nlv es.length h)).map fun i=>D.tup [.int (i:Nat),.int (cnt es.length f i)]:=by
  have:=NX ((lvS es.length f h).map fun n:Nat=>(n:Int))
  rw [aaP,aaa,hll] at this
  refine this.trans ?_
  apply aaZ
  intro i hi
  have hi:=abG.mp hi
  congr 3
  have:=J8 S hi
  have h2:=J5 (xs:=lvS es.length f h) (i:=i) (by rw [hll]; exact hi)
  rw [h2] at this
  have h3:(((lvS es.length f h)[i]'(by rw [hll]; exact hi):Nat):Int)=(cnt es.length f i:Int):=by
   injection this with z
   injection z
  rw [aas,aaj,aah (by rw [hll]; exact hi)]
  exact congrArg D.int h3
 obtain ⟨δ',e,o4,o5,o6,rfl⟩:=Aw (tg:=.tp [4,5]) (b:=exs DJ) (fun l δ=>∃ o4 o5 o6,δ=[some (blL es),some (.int f),some (shD es.length f),some (tBD es f l),o4,o5,o6]) (ds:=BH ((lvS es.length f h).map iN)) (δ:=[some (blL es),some (.int f),some (shD es.length f),some (tBD es f 0),none,none,none]) 0 ⟨none,none,none,rfl⟩ (by
  rintro l d δ hd ⟨o4,o5,o6,rfl⟩
  rw [hen,aaj] at hd
  obtain ⟨i,hi,rfl⟩:=aam.mp hd
  obtain ⟨hi1,hi2⟩:=aaq.mp hi
  rw [aay] at hi1
  rw [abf] at hi2
  subst hi2
  rw [aar]
  obtain ⟨q6,e⟩:=Rn S l hi1 o6
  exact ⟨_,_,rfl,e,some (.int l),some (.int (cnt es.length f l)),q6,rfl⟩)
 rw [hen,aaa,aay,aar] at e
 rw [<- hen] at e
 refine (NN _ rfl).trans (Ab ?_)
 have e0:tBD es f 0=.lst []:=rfl
 rw [e0] at e
 unfold Bo at hlv
 unfold shD blL at *
 generalize tBD es f (nlv es.length h)=T at *
 generalize (lvS es.length f h).map iN=LV at *
 clear hen
 generalize es.map D.bl=X at *
 simp_arith [Fq,hlen,hlv,LX,e]
end
structure Eb where
 l:Int
 j:Int
 x:Bk
noncomputable def Eb.d (e:Eb):D:=.tup [.int e.l,.int e.j,e.x.d]
noncomputable def bkq (x y:Bk):Bool:=x.n==y.n && (x.a==y.a && (x.b==y.b && x.l==y.l))
theorem To (x y:Bk):D.eqv x.d y.d=bkq x y:=by
 unfold Bk.d bkq
 simp [D.eqv,D.eqvs]
theorem Ul (x y:Bk):c2 .eq x.d y.d=.ok (.bl (bkq x y))/\c2 .ne x.d y.d=.ok (.bl (!bkq x y)):=by
 rw [<- To]
 exact ⟨rfl,rfl⟩
theorem Kf (rw:List (List D)):Dh.den [.lst (rw.map .lst)]=.ok (Bo (rw.map abe)):=by
 have h2:=C6 (nl:=1) (fr:=[]) (tg:=.nm 0) (it:=.seq (.nm 0)) (elt:=.bi .len (.cons (.nm 0) .nil)) (δ:=[some (.lst (rw.map .lst))]) (ds:=rw.map .lst) (g:=fun d=>match d with | .lst ds=>.int ds.length | d=>d) (by simp_arith []) (fun d hd=>by
  obtain ⟨x,_,rfl⟩:=aaC.mp hd
  refine ⟨[some (.lst x)],rfl,?_⟩
  simp_arith [])
 have e:(rw.map D.lst).map (fun d=>match d with | .lst ds=>D.int ds.length | d=>d)=(rw.map abe).map iN:=by
  rw [aaP,aaP]; rfl
 rw [e] at h2
 refine (JP _ rfl).trans (Ab ?_)
 unfold Bo at *
 generalize rw.map D.lst=R at *
 generalize (rw.map abe).map iN=N at *
 simp_arith [] at h2
 simp_arith [DK,h2]
noncomputable def okB (es:List Bool) (f h:Nat) (e:Eb):Bool:=AZ es.length f h e.l e.j && bkq (bkN es f e.l.toNat e.j.toNat) e.x
section
variable {es:List Bool} {f h:Nat} (S:Sp es.length f h)
include S
theorem Tp:(AM es f (nlv es.length h)).map abe=lvS es.length f h:=by
 unfold AM lvS nlv
 rw [aaP]
 split
 ·rfl
 ·unfold lvD
  apply aaZ
  intro l _
  show (Bz es f l (cnt es.length f l)).length=_
  unfold Bz
  rw [aaa,aay]
theorem Pl (l j:Int):AG.den [Bo (lvS es.length f h),.tup [.int l,.int j]]=.ok (.bl (AZ es.length f h l j)):=by
 have hl:=HZ es.length f h
 have b1:=Bf l 0 (((lvS es.length f h).length:Int) - 1)
 rw [hl] at b1
 refine (Cb _ rfl).trans (Ab ?_)
 by_cases c1:0<=l/\l < nlv es.length h
 ·rw [decide_eq_true (by omega)] at b1
  have h3:=J8 S (l:=l.toNat) (by omega)
  rw [aba c1.1] at h3
  have b2:=Bf j 0 ((cnt es.length f l.toNat:Int) - 1)
  have e:AZ es.length f h l j=decide (0<=j/\j<=(cnt es.length f l.toNat:Int) - 1):=by
   unfold AZ
   rw [decide_eq_decide]; omega
  rw [e]
  unfold Bo
  simp_arith [Ax,aaa,hl,b1,h3,b2]
 ·rw [decide_eq_false (by omega)] at b1
  have e:AZ es.length f h l j=false:=by unfold AZ; rw [decide_eq_false_iff_not]; omega
  rw [e]
  unfold Bo
  simp_arith [Ax,aaa,hl,b1]
theorem Kg (l j:Int):DL.den [tBD es f (nlv es.length h),.tup [.int l,.int j]]=.ok (.bl (AZ es.length f h l j)):=by
 have h1:=Kf (AM es f (nlv es.length h))
 rw [Tp S] at h1
 have h1:Dh.den [tBD es f (nlv es.length h)]=.ok (Bo (lvS es.length f h)):=h1
 have h2:=Pl S l j
 refine (KC _ rfl).trans (Ab ?_)
 generalize Bo (lvS es.length f h)=u at *
 generalize tBD es f (nlv es.length h)=w at *
 simp_arith [D5,h1,h2]
theorem HA {l j:Int} (hn:AZ es.length f h l j=true):DA.den [tBD es f (nlv es.length h),.tup [.int l,.int j]]=.ok (bkN es f l.toNat j.toNat).d:=by
 have h3:=Kg S l j
 rw [hn] at h3
 have h4:Cy.den [tBD es f (nlv es.length h),.tup [.int l,.int j]]=.ok .non:=by
  refine (Gq _ rfl).trans (Lo (δ:=[some (tBD es f (nlv es.length h)),some (.tup [.int l,.int j])]) ?_)
  generalize tBD es f (nlv es.length h)=w at *
  simp_arith [BK,h3]
 have hd:=of_decide_eq_true hn
 obtain ⟨a,rfl⟩:∃ a:Nat,l=a:=⟨l.toNat,by omega⟩
 obtain ⟨b,rfl⟩:∃ b:Nat,j=b:=⟨j.toNat,by omega⟩
 simp only [aau] at hd ⊢
 have h5:atD ((AM es f (nlv es.length h)).map .lst) (a:Int)=.ok (.lst (Bz es f a (cnt es.length f a))):=by
  have:=Pg (xs:=(AM es f (nlv es.length h)).map D.lst) (i:=a) (by rw [aaa]; unfold AM; rw [aaa,aay]; omega)
  rw [this,abO]
  congr 2
  unfold AM
  rw [abO,abf]
 have h6:atD (Bz es f a (cnt es.length f a)) (b:Int)=.ok (bkN es f a b).d:=by
  have:=Pg (xs:=Bz es f a (cnt es.length f a)) (i:=b) (by unfold Bz; rw [aaa,aay]; omega)
  rw [this]
  congr 1
  unfold Bz
  rw [abO,abf]
 refine (O8 _ rfl).trans (Ab ?_)
 unfold tBD at *
 generalize (AM es f (nlv es.length h)).map D.lst=w at *
 generalize Bz es f a (cnt es.length f a)=u at *
 generalize (bkN es f a b).d=v at *
 simp_arith [Gm,h4,h5,h6,at0,at1]
theorem Kh (e:Eb):D6.den [tBD es f (nlv es.length h),e.d]=.ok (.bl (okB es f h e)):=by
 have h1:=Kg S e.l e.j
 refine (Mm _ rfl).trans (Ab ?_)
 unfold Eb.d okB
 cases q:AZ es.length f h e.l e.j with
 | false =>
  rw [q] at h1
  generalize tBD es f (nlv es.length h)=w at *
  generalize e.x.d=v at *
  simp_arith [DT,h1,My,Mz,MA]
 | true =>
  rw [q] at h1
  have h2:=HA S q
  have h3:=(Ul (bkN es f e.l.toNat e.j.toNat) e.x).1
  generalize tBD es f (nlv es.length h)=w at *
  generalize bkq (bkN es f e.l.toNat e.j.toNat) e.x=B at *
  generalize (bkN es f e.l.toNat e.j.toNat).d=u at *
  generalize e.x.d=v at *
  simp_arith [DT,h1,h2,h3,My,Mz,MA]
theorem Tq (qs:List Eb):AE.den [blL es,.int f,.lst (qs.map Eb.d)]=.ok (.bl (qs.all (okB es f h))):=by
 have hb:=Hz S
 have h2:=C6 (nl:=1) (fr:=[0]) (tg:=.nm 0) (it:=.seq (.nm 1)) (elt:=.call D6 (.cons (.nm 1) (.cons (.nm 0) .nil))) (δ:=[some (tBD es f (nlv es.length h)),some (.lst (qs.map Eb.d))]) (ds:=qs.map Eb.d) (g:=fun d=>match d with | .tup [.int a,.int b,.tup [.int n,.int x,.int y,.int l]]=>.bl (okB es f h ⟨a,b,⟨n,x,y,l⟩⟩) | d=>d) (by simp_arith []) (fun d hd=>by
  obtain ⟨e,_,rfl⟩:=aaC.mp hd
  refine ⟨[some e.d,some (tBD es f (nlv es.length h))],rfl,?_⟩
  have h3:=Kh S e
  show ev _ _=Res.ok (D.bl (okB es f h e))
  generalize e.d=u at *
  generalize tBD es f (nlv es.length h)=w at *
  simp_arith [h3])
 have e:(qs.map Eb.d).map (fun d=>match d with | .tup [.int a,.int b,.tup [.int n,.int x,.int y,.int l]]=>D.bl (okB es f h ⟨a,b,⟨n,x,y,l⟩⟩) | d=>d)=qs.map fun q=>.bl (okB es f h q):=by
  rw [aaP]; rfl
 rw [e] at h2
 have h3:=GC (okB es f h) qs
 have h4:(qs.map (okB es f h)).all id=qs.all (okB es f h):=by rw [List.all_map]; rfl
 have hho:FY.den [tBD es f (nlv es.length h),.lst (qs.map Eb.d)]=.ok (.bl (qs.all (okB es f h))):=by
  refine (NO _ rfl).trans (Ab ?_)
  rw [<- h4]
  clear e hb
  generalize tBD es f (nlv es.length h)=w at *
  generalize (qs.map fun q=>D.bl (okB es f h q))=G at *
  generalize qs.map (okB es f h)=bs at *
  generalize qs.map Eb.d=ds at *
  simp_arith [] at h2
  simp_arith [Fs,h2,h3,BG]
 refine (IL _ rfl).trans (Ab ?_)
 clear h2 e
 generalize tBD es f (nlv es.length h)=w at *
 generalize qs.all (okB es f h)=B at *
 generalize qs.map Eb.d=ds at *
 generalize blL es=X at *
 simp_arith [Dm,hb,hho]
end
noncomputable def pgE:Option Nat->D
 | none=>.non
 | some k=>.int k
theorem PN {p f h e:Nat} (hf:1<=f) (hep:e<=p):∀ n a,∀ q ∈ cov p f h e n a,q.1<=h/\q.2 < cnt p f q.1
 | 0,a=>fun q hq=>nomatch hq
 | n + 1,a=>by
  intro q hq
  rw [cov] at hq
  by_cases hae:a < e
  ·rw [if_pos hae] at hq
   rcases aal.mp hq with rfl | hq
   ·refine ⟨Hr _ _,?_⟩
    show a / f ^ lvA p f h e a < cnt p f (lvA p f h e a)
    rw [Fe hf]
    have:=acu a (f ^ lvA p f h e a)
    omega
   ·exact PN hf hep n _ q hq
  ·rw [if_neg hae] at hq; cases hq
noncomputable def At (p f h e:Nat):List (Nat × Nat):=if p=0 then [] else cov p f h e 200 0
noncomputable def Ai (es:List Bool) (f:Nat) (q:Nat × Nat):D:=.tup [.int q.1,.int q.2,(bkN es f q.1 q.2).d]
section
variable {es:List Bool} {f h:Nat} (S:Sp es.length f h)
include S
theorem UO:E0.den [tBD es f (nlv es.length h),.int f]=.ok (shD es.length f):=by
 have hro:∃ L:List D,EZ.den [tBD es f (nlv es.length h)]=.ok (.lst L)/\L.length=es.length:=by
  by_cases c:es.length=0
  ·refine ⟨[],?_,by rw [c]; rfl⟩
   have e0:tBD es f (nlv es.length h)=.lst []:=by unfold nlv; rw [if_pos c]; rfl
   rw [e0]
   have h1:=Mw (.lst []) rfl
   refine (GA _ rfl).trans (Ab ?_)
   simp_arith [Di,h1]
  ·refine ⟨Bz es f 0 (cnt es.length f 0),?_,?_⟩
   ·have e0:nlv es.length h=h + 1:=by unfold nlv; rw [if_neg c]
    rw [e0]
    have ha:atD ((AM es f (h + 1)).map .lst) 0=.ok (.lst (Bz es f 0 (cnt es.length f 0))):=by
     unfold AM
     rw [abK]
     unfold atD ixN
     rw [if_pos (by omega),if_pos (by simp)]; rfl
    have h1:=F3 ((AM es f (h + 1)).map D.lst) (by
     rw [aaF]
     intro d hd
     obtain ⟨r,hr,rfl⟩:=aaC.mp hd
     unfold AM at hr
     obtain ⟨l,_,rfl⟩:=aaC.mp hr
     show (Bz es f l (cnt es.length f l)).all (D.shp 6)=true
     rw [aaF]
     intro d hd
     unfold Bz at hd
     obtain ⟨j,_,rfl⟩:=aaC.mp hd
     rfl)
    rw [show ((AM es f (h + 1)).map D.lst).isEmpty=false by
     unfold AM; rw [abK]; rfl] at h1
    refine (GA _ rfl).trans (Ab ?_)
    unfold tBD
    generalize Bz es f 0 (cnt es.length f 0)=R0 at *
    generalize (AM es f (h + 1)).map D.lst=TT at *
    simp_arith [Di,h1,ha]
   ·unfold Bz cnt
    rw [aaa,aay]; simp
 obtain ⟨L,h1,h2⟩:=hro
 refine (KB _ rfl).trans (Ab ?_)
 unfold shD
 have hl:(L.length:Int)=(es.length:Int):=by rw [h2]
 generalize tBD es f (nlv es.length h)=T at *
 simp_arith [D4,h1,hl]
theorem Gp {e:Nat} (he:e<=es.length):∀ q ∈ At es.length f h e,AZ es.length f h q.1 q.2=true:=fun q hq=>by
 unfold At at hq
 by_cases c:es.length=0
 ·rw [if_pos c] at hq; cases hq
 ·rw [if_neg c] at hq
  have:=PN (p:=es.length) (f:=f) (h:=h) (e:=e) (by have:=S.hf; omega) he 200 0 q hq
  unfold AZ nlv
  rw [if_neg c,aau]
  exact decide_eq_true (by omega)
theorem ID {p f h e:Nat}:∀ n a,(cov p f h e n a).length<=n
 | 0,a=>aai _
 | n + 1,a=>by
  rw [cov]
  split
  ·have:=ID (p:=p) (f:=f) (h:=h) (e:=e) n (nxA p f h e a)
   simp only [aa5]; omega
  ·simp
theorem Uo {e:Nat} (he:e<=es.length):DW.den [tBD es f (nlv es.length h),.int f,.tup [.int 0,.int e]]=.ok (.lst ((At es.length f h e).map (Ai es f))):=by
 have hs:=UO S
 have hco:Ey.den [shD es.length f,.int 0,.int e]=.ok (.lst ((At es.length f h e).map Al)):=by
  unfold At
  by_cases c:es.length=0
  ·rw [if_pos c]
   have e0:e=0:=by omega
   subst e0
   exact Ia es.length f 0 (by omega)
  ·rw [if_neg c]
   have H:Hs es.length f h:=by
    rcases S.hs with z | z
    ·exact absurd z c
    ·exact z
   exact NU S.hf S.hf8 H S.hh (aaw e) he S.hp
 have hin:=Gp S he
 have hw:Ew.den [tBD es f (nlv es.length h),.lst ((At es.length f h e).map Al)]=.ok (.lst ((At es.length f h e).map (Ai es f))):=by
  have hc:=C6 (nl:=1) (fr:=[0]) (tg:=.nm 0) (it:=.seq (.nm 1)) (elt:=.tup (.cons (.ix (.nm 0) (.cI 0)) (.cons (.ix (.nm 0) (.cI 1)) (.cons (.call DA (.cons (.nm 1) (.cons (.nm 0) .nil))) .nil)))) (δ:=[some (tBD es f (nlv es.length h)),some (.lst ((At es.length f h e).map Al))]) (ds:=(At es.length f h e).map Al) (g:=fun d=>match d with | .tup [.int a,.int c]=>Ai es f (a.toNat,c.toNat) | d=>d) (by
    generalize (At es.length f h e).map Al=CV at *
    simp_arith []) (fun d hd=>by
   obtain ⟨⟨a,c⟩,hm,rfl⟩:=aaC.mp hd
   have ht:=HA S (hin _ hm)
   refine ⟨[some (.tup [.int a,.int c]),some (tBD es f (nlv es.length h))],rfl,?_⟩
   show _=Res.ok (D.tup [.int (((a:Int).toNat:Nat):Int),.int (((c:Int).toNat:Nat):Int),(bkN es f (a:Int).toNat (c:Int).toNat).d])
   simp only [aau] at ht ⊢
   generalize (bkN es f a c).d=B at *
   generalize tBD es f (nlv es.length h)=T at *
   simp_arith [ht])
  rw [aaP] at hc
  refine (JQ _ rfl).trans (Ab ?_)
  have ee:(At es.length f h e).map ((fun d=>match d with | D.tup [.int a,.int c]=>Ai es f (a.toNat,c.toNat) | d=>d) ∘ Al)=(At es.length f h e).map (Ai es f):=by
   apply aaZ
   intro q _
   show Ai es f (((q.1:Int)).toNat,((q.2:Int)).toNat)=_
   rw [aau,aau]
  rw [ee] at hc
  generalize hC:E.comp0 1 [0] (.nm 0) (.seq (.nm 1)) (.tup (.cons (.ix (.nm 0) (.cI 0)) (.cons (.ix (.nm 0) (.cI 1)) (.cons (.call DA (.cons (.nm 1) (.cons (.nm 0) .nil))) .nil))))=C at *
  rw [DM,hC]
  generalize (At es.length f h e).map (Ai es f)=PP at *
  generalize (At es.length f h e).map Al=CV at *
  generalize tBD es f (nlv es.length h)=T at *
  simp_arith [hc]
 refine (IK _ rfl).trans (Ab ?_)
 generalize (At es.length f h e).map (Ai es f)=PP at *
 generalize (At es.length f h e).map Al=CV at *
 generalize tBD es f (nlv es.length h)=T at *
 generalize shD es.length f=s at *
 simp_arith [Dk,hs,hco,hw]
theorem N1 {e:Nat} (he:e<=es.length):BP.den [blL es,.int f,.int e]=.ok (.lst ((At es.length f h e).map (Ai es f))):=by
 have hp:=S.hp
 have hlen:(((es.map D.bl).length:Nat):Int)=(es.length:Int):=by rw [aaa]
 have hco:Bl.den [.int es.length,.int f,.int 0,.int e]=.ok (.lst ((At es.length f h e).map Al)):=by
  unfold At
  by_cases c:es.length=0
  ·rw [if_pos c]
   have e0:e=0:=by omega
   subst e0
   exact Hv es.length f 0
  ·rw [if_neg c]
   have H:Hs es.length f h:=by
    rcases S.hs with z | z
    ·exact absurd z c
    ·exact z
   exact MC S.hf S.hf8 H S.hh (aaw e) he S.hp
 have hin:=Gp S he
 have hcl:(At es.length f h e).length<=200:=by
  unfold At
  split
  ·simp
  ·exact ID S 200 0
 obtain ⟨δ',e1,p4,p5,p6,p7,rfl⟩:=Aw (tg:=.tp [4,5]) (b:=exs Bx) (fun i δ=>∃ p4 p5 p6 p7,δ=[some (blL es),some (.int f),some (.int e),some (.lst (((At es.length f h e).take i).map (Ai es f))),p4,p5,p6,p7]) (ds:=(At es.length f h e).map Al) (δ:=[some (blL es),some (.int f),some (.int e),some (.lst []),none,none,none,none]) 0 ⟨none,none,none,none,rfl⟩ (by
  rintro i d δ hd ⟨p4,p5,p6,p7,rfl⟩
  rw [aaj] at hd
  obtain ⟨⟨l,j⟩,hq,rfl⟩:=aam.mp hd
  have hnd:=hin _ (aae hq)
  rw [aar]
  have hre:=MB S hnd
  obtain ⟨a,b,ea,eb,hah,hbc,hp0⟩:=F6 S hnd
  have ea:l=a:=by have z:((l:Nat):Int)=(a:Int):=ea; omega
  have eb:j=b:=by have z:((j:Nat):Int)=(b:Int):=eb; omega
  subst ea eb
  have hlt:=(Fe (show 1<=f by have:=S.hf; omega)).mp hbc
  have hc:=N0 (es:=es) (a:=j * f ^ l) (b:=min es.length (j * f ^ l + f ^ l)) (by omega) (by omega)
  have hb:=MF (es:=(es.drop (j * f ^ l)).take (min es.length (j * f ^ l + f ^ l) - j * f ^ l)) (by rw [aa3,aa4]; omega)
  have hb:Do.den [blL ((es.drop (j * f ^ l)).take (min es.length (j * f ^ l + f ^ l) - j * f ^ l))]=.ok (bkN es f l j).d:=hb
  have hap:=A7 (((At es.length f h e).take i).map (Ai es f)) (.tup [.int l,.int j,(bkN es f l j).d]) (by rw [aaa,aa3]; omega)
  have et:((At es.length f h e).take (i + 1)).map (Ai es f)=((At es.length f h e).take i).map (Ai es f) ++ [.tup [.int l,.int j,(bkN es f l j).d]]:=by
   rw [List.take_succ,hq,aao]; rfl
  rw [et]
  refine ⟨_,_,rfl,?_,some (.int l),some (.int j),some (.int (spB f l j)),some (.int (spE es.length f l j)),rfl⟩
  show exs Bx [some (blL es),some (.int f),some (.int e),some (.lst (((At es.length f h e).take i).map (Ai es f))),some (.int l),some (.int j),p6,p7]=_
  clear et hq hd hin hnd
  unfold spB spE at *
  simp only [aau] at *
  generalize (es.drop (j * f ^ l)).take (min es.length (j * f ^ l + f ^ l) - j * f ^ l)=ys at *
  generalize ((min es.length (j * f ^ l + f ^ l):Nat):Int)=hi at *
  generalize ((j * f ^ l:Nat):Int)=lo at *
  generalize ((At es.length f h e).take i).map (Ai es f)=PP at *
  unfold blL at *
  generalize es.map D.bl=X at *
  generalize ys.map D.bl=Y at *
  generalize (bkN es f l j).d=B at *
  have hc:Res.ok (D.lst (cut X (some lo) (some hi)))=.ok (.lst Y):=hc
  have hc:cut X (some lo) (some hi)=Y:=by cases hc; rfl
  simp_arith [Bx,hlen,hre,Ra,hc,hb,hap])
 rw [aaa,aar,acg] at e1
 refine (GS _ rfl).trans (Ab ?_)
 unfold blL at *
 generalize (At es.length f h e).map (Ai es f)=PP at *
 generalize (At es.length f h e).map Al=CV at *
 generalize es.map D.bl=X at *
 simp_arith [B9,hlen,hco,e1]
end
theorem a30 (a b c:D):atD [a,b,c] 0=.ok a:=rfl
theorem a31 (a b c:D):atD [a,b,c] 1=.ok b:=rfl
theorem a32 (a b c:D):atD [a,b,c] 2=.ok c:=rfl
theorem Ki (o:Option Nat):D.flat 9 0 (pgE o)=true:=by cases o <;> rfl
theorem p30:b2 .pow (.int 10) (.int 30)=.ok (.int 1000000000000000000000000000000):=by
 rw [ED _ _ (by decide) (by decide) (by decide)]; rfl
theorem UP {a b c d:Int} {y:Int} (h0:0<=y) (h1:y < 4):∃ v:Int,atD [.int a,.int b,.int c,.int d] y=.ok (.int v):=by
 have:y=0\/y=1\/y=2\/y=3:=by omega
 rcases this with rfl | rfl | rfl | rfl
 ·exact ⟨a,rfl⟩
 ·exact ⟨b,rfl⟩
 ·exact ⟨c,rfl⟩
 ·exact ⟨d,rfl⟩
theorem Up {xs:List Int} (h:xs.length=3):∃ a b c,xs=[a,b,c]:=by
 match xs,h with
 | [a,b,c],_=>exact ⟨a,b,c,rfl⟩
section
variable {es:List Bool} (hn:es.length<=200)
include hn
theorem UQ (ns lg ms:List Int) (hl:0 < lg.length) (hml:ms.length<=100) (hm:∀ m ∈ ms,1<=m) (k:Nat) (E:D) (o5:Option D):∃ (ms':List Int) (p5:Option D),ms'.length=ms.length + 1/\(∀ m ∈ ms',1<=m)/\exs BB [some (.lst (ns.map .int)),some E,some (.lst (lg.map .int)),some (.lst (ms.map .int)),some (.int k),o5]=.nxt [some (.lst (ns.map .int)),some E,some (.lst (lg.map .int)),some (.lst (ms'.map .int)),some (.int k),p5]:=by
 obtain ⟨ys,hrow,hyl,hyb⟩:=HX ns (3 + (k:Int)) (by omega) [200,4,30] (by decide) (by decide)
 obtain ⟨y0,y1,y2,rfl⟩:=Up hyl
 have h1:=hyb 1 y1 _ rfl rfl
 simp only [abA] at hrow
 obtain ⟨i,hi,ei⟩:=Rc (y:=y0) (n:=lg.length) hl
 have ha:=Uh hi
 obtain ⟨v,hv⟩:=UP (a:=0) (b:=1) (c:=-1) (d:=y2) h1.1 h1.2
 have hlen:(((lg.map D.int).length:Nat):Int)=(lg.length:Int):=by rw [aaa]
 have hp:0 < (lg.length:Int):=by omega
 have hap:=A7 (ms.map D.int) (.int (max 1 (lg.getD i 0 + v))) (by rw [aaa]; omega)
 refine ⟨ms ++ [max 1 (lg.getD i 0 + v)],some (.lst [.int y0,.int y1,.int y2]),by simp,fun m hm'=>?_,?_⟩
 ·rcases aaf.mp hm' with z | z
  ·exact hm m z
  ·rw [aaO.mp z]; omega
 ·rw [aao,List.map_singleton]
  generalize lg.getD i 0=g at *
  generalize lg.map D.int=L at *
  generalize ms.map D.int=M at *
  generalize ns.map D.int=N at *
  simp_arith [BB,hrow,a30,a31,a32,hlen,hp,ei,ha,hv,hap]
theorem Tr (ns:List Int):∃ ms:List Int,(∀ m ∈ ms,1<=m)/\ms.length<=100/\Bw.den [.lst (ns.map .int),blL es]=.ok (.lst (ms.map .int)):=by
 have hls:=Ic hn
 have hlen:(((es.map D.bl).length:Nat):Int)=(es.length:Int):=by rw [aaa]
 have hc:=C6 (nl:=2) (fr:=[]) (tg:=.tp [0,1]) (it:=.seq (.call Bm (.cons (.nm 1) .nil))) (elt:=.bin .sub (.nm 1) (.nm 0)) (δ:=[some (.lst (ns.map .int)),some (blL es),none,none,none,none]) (ds:=(Aq es es.length).map Al) (g:=fun d=>match d with | .tup [.int a,.int b]=>.int (b - a) | d=>d) (by
   generalize blL es=X at *
   generalize (Aq es es.length).map Al=N at *
   simp_arith [hls]) (fun d hd=>by
  obtain ⟨⟨a,b⟩,_,rfl⟩:=aaC.mp hd
  refine ⟨[some (.int a),some (.int b)],rfl,?_⟩
  show _=Res.ok (D.int ((b:Int) - (a:Int)))
  simp_arith [])
 rw [aaP] at hc
 have ee:(Aq es es.length).map ((fun d=>match d with | D.tup [.int a,.int b]=>D.int (b - a) | d=>d) ∘ Al)=((Aq es es.length).map fun q=>(q.2:Int) - q.1).map .int:=by
  rw [aaP]
  apply aaZ
  intro q _
  rfl
 rw [ee] at hc
 have hrl:=Fx es es.length
 have hadd:=Ll (((Aq es es.length).map fun q=>(q.2:Int) - q.1).map D.int) [.int 1] (by rw [aaa,aaa]; simp; omega)
 obtain ⟨lg,hlg⟩:∃ lg:List Int,lg=((Aq es es.length).map fun q=>(q.2:Int) - q.1) ++ [1]:=⟨_,rfl⟩
 have e2:((Aq es es.length).map fun q=>(q.2:Int) - q.1).map D.int ++ [.int 1]=lg.map .int:=by rw [hlg,aao]; rfl
 rw [e2] at hadd
 have hlp:0 < lg.length:=by rw [hlg]; simp
 have hmx:=Pf (ys:=lg) (fun z=>by rw [z] at hlp; simp at hlp)
 obtain ⟨M,hM⟩:∃ M,M=lg.max?.getD 0:=⟨_,rfl⟩
 rw [<- hM] at hmx
 have hM1:1<=M:=(acm.mp hmx).2 1 (by rw [hlg]; simp)
 have hii:BG (Bh (lg.map D.int))=.ok lg:=by rw [Hu]; rfl
 have hmm:BG lg.max?=.ok M:=by rw [hmx]; rfl
 have hr4:=Cv (a:=0) (b:=4) (by omega) (by omega) (by omega) (by omega)
 obtain ⟨δ',e1,ms,o4,o5,rfl,hml,hmb⟩:=Aw (tg:=.nm 4) (b:=exs BB) (fun i δ=>∃ (ms:List Int) (o4 o5:Option D),δ=[some (.lst (ns.map .int)),some (blL es),some (.lst (lg.map .int)),some (.lst (ms.map .int)),o4,o5]/\ms.length=7 + i/\∀ m ∈ ms,1<=m) (ds:=Av 0 4) (δ:=[some (.lst (ns.map .int)),some (blL es),some (.lst (lg.map .int)),some (.lst ([1,2,(es.length:Int) + 1,200,max 1 (es.length:Int),M,1000000000000000000000000000000].map .int)),none,none]) 0 ⟨_,none,none,rfl,rfl,fun m hm=>by
  simp only [aal,acd,or_false] at hm
  omega⟩ (by
  rintro i d δ hd ⟨ms,o4,o5,rfl,hml,hmb⟩
  obtain ⟨rfl,hi⟩:=BQ hd
  rw [abx]
  obtain ⟨ms',p5,h1,h2,h3⟩:=UQ hn ns lg ms hlp (by omega) hmb i (blL es) o5
  exact ⟨_,_,rfl,h3,ms',some (.int i),p5,rfl,by omega,h2⟩)
 refine ⟨ms,hmb,by rw [hml,Cu]; simp,(Hn _ rfl).trans (Ab ?_)⟩
 simp only [abA] at e1
 clear ee e2 hlg hM hmx hmb
 generalize hC:E.comp0 2 [] (.tp [0,1]) (.seq (.call Bm (.cons (.nm 1) .nil))) (.bin .sub (.nm 1) (.nm 0))=C at *
 rw [Cr,hC]
 generalize ((Aq es es.length).map fun q=>(q.2:Int) - q.1).map D.int=RR at *
 generalize hmsd:ms.map D.int=MS at *
 generalize lg.map D.int=LG at *
 generalize ns.map D.int=N at *
 unfold blL at *
 generalize es.map D.bl=X at *
 simp_arith [hc,hadd,hlen,hii,hmm,p30,hr4,e1]
end
noncomputable def IsF (es:List Bool) (m:Int):Option Nat->Prop
 | some b=>m<=(tw es b:Int)/\∀ c,c < b->(tw es c:Int) < m
 | none=>∀ c,(tw es c:Int) < m
theorem IsF.un {es:List Bool} {m:Int}:∀ {o p:Option Nat},IsF es m o->IsF es m p->o=p
 | none,none,_,_=>rfl
 | none,some b,h,k=>absurd k.1 (by have:=h b; omega)
 | some b,none,h,k=>absurd h.1 (by have:=k b; omega)
 | some b,some c,h,k=>by
  have h1:¬ b < c:=fun z=>by have:=k.2 b z; have:=h.1; omega
  have h2:¬ c < b:=fun z=>by have:=h.2 c z; have:=k.1; omega
  rw [show b=c by omega]
theorem Ja (es:List Bool) (i:Nat):tw es i<=es.length - i:=by
 unfold tw
 have:=(List.takeWhile_sublist (l:=es.drop i) (p:=id)).length_le
 rw [aa4] at this
 exact this
theorem Ro {es:List Bool} {i:Nat} (h:tv1 es i=true):tw es i=tw es (i + 1) + 1:=by
 have hi:=Hw h
 unfold tw
 rw [abi hi,List.takeWhile_cons]
 have:es[i]=true:=by
  unfold tv1 at h
  rw [aas,aah hi] at h
  exact h
 rw [this]; rfl
theorem Kj {es:List Bool} {m:Int} (hm:1<=m):∀ b,m<=(tw es b:Int)->∃ s,s<=b/\st1 es s=true/\m<=(tw es s:Int)
 | b,h=>by
  have ht:tv1 es b=true:=by
   have:=Fg (es:=es) (i:=b) (t:=0) (by omega)
   simpa using this
  cases q:st1 es b with
  | true=>exact ⟨b,aai _,q,h⟩
  | false =>
   unfold st1 at q
   rw [ht,abm,Bool.or_eq_false_iff] at q
   obtain ⟨q1,q2⟩:=q
   have hb:b ≠ 0:=beq_eq_false_iff_ne.mp q1
   obtain ⟨c,rfl⟩:∃ c,b=c + 1:=⟨b - 1,by omega⟩
   have hc:tv1 es c=true:=by simpa using q2
   have hs:=Ro hc
   obtain ⟨s,h1,h2,h3⟩:=Kj (es:=es) hm c (by omega)
   exact ⟨s,by omega,h2,h3⟩
theorem Kk:∀ (l:List Bool) (M:Nat),((l.take M).filter (·==true)).length=M ↔ M<=(l.takeWhile id).length
 | [],M=>by simp; omega
 | b :: r,0=>by simp
 | true :: r,M + 1=>by
  have:=Kk r M
  simp at this ⊢
  exact this
 | false :: r,M + 1=>by
  have:=acp (·==true) (r.take M)
  have h2:=List.length_take_le M r
  simp at this ⊢
  omega
theorem IE:∀ bs:List Bool,AA (bs.map .bl)=some bs
 | []=>rfl
 | b :: r=>by
  show (AA (r.map .bl)).map (b :: ·)=_
  rw [IE r]; rfl
theorem UR {es:List Bool} {b M:Nat} (hb:b<=es.length):cut (es.map D.bl) (some (b:Int)) (some ((b:Int) + (M:Nat)))=((es.drop b).take M).map .bl:=by
 unfold cut sIx
 rw [aaa]
 simp only
 rw [if_neg (by omega),if_neg (by omega),show (min (b:Int) (es.length:Int)).toNat=b by omega,<- abC,<- abB]
 congr 1
 by_cases c:b + M<=es.length
 ·rw [show (min ((b:Int) + (M:Nat)) (es.length:Int)).toNat - b=M by omega]
 ·rw [show (min ((b:Int) + (M:Nat)) (es.length:Int)).toNat=es.length by omega,abr (by rw [aa4]; omega),abr (by rw [aa4]; omega)]
theorem Lv {es:List Bool} {b:Nat} {m:Int} (hb:b<=es.length) (hm:1<=m):∃ k:Int,mtD .count (.lst (cut (es.map D.bl) (some (b:Int)) (some ((b:Int) + m)))) [.bl true]=.ok (.int k)/\(k==m)=decide (m<=(tw es b:Int)):=by
 obtain ⟨M,rfl⟩:∃ M:Nat,m=M:=⟨m.toNat,by omega⟩
 rw [UR hb]
 refine ⟨((((es.drop b).take M).filter (·==true)).length:Nat),?_,?_⟩
 ·unfold mtD
  simp only [IE,BG,Res.bind_ok]
 ·have:=Kk (es.drop b) M
  have e:(M<=((es.drop b).takeWhile id).length) ↔ ((M:Int)<=(tw es b:Nat)):=by unfold tw; omega
  rw [abZ,beq_iff_eq,decide_eq_true_iff,<- e,<- this]
  omega
noncomputable def lnR (q:Nat × Nat):Int:=(q.2:Int) - q.1
theorem Kl {es:List Bool} {q:Nat × Nat} (h:q ∈ Aq es es.length):st1 es q.1=true/\lnR q=(tw es q.1:Int):=by
 unfold Aq at h
 obtain ⟨i,hi,rfl⟩:=aaC.mp h
 refine ⟨(abn.mp hi).2,?_⟩
 show (((i + tw es i:Nat):Int)) - (i:Int)=(tw es i:Int)
 omega
theorem Lx {es:List Bool} {s:Nat} (h:st1 es s=true):(s,s + tw es s) ∈ Aq es es.length:=by
 unfold Aq
 refine aaC.mpr ⟨s,abn.mpr ⟨abG.mpr ?_,h⟩,rfl⟩
 unfold st1 at h
 rw [aak] at h
 exact Hw h.1
theorem Rp (es:List Bool) (n:Nat):(Aq es n).Pairwise fun a b=>a.1 < b.1:=by
 unfold Aq
 rw [List.pairwise_map]
 exact (List.pairwise_lt_range).filter _
noncomputable def EF (es:List Bool) (m:Int):List (Nat × Nat):=(Aq es es.length).filter fun q=>decide (m<=lnR q)
theorem Ts (es:List Bool) (m:Int):(EF es m).Pairwise fun a b=>a.1 < b.1:=(Rp es es.length).filter _
theorem F8 {es:List Bool} {m:Int} (hm:1<=m):IsF es m ((EF es m).head?.map Prod.fst):=by
 have up:=Ts es m
 have key:∀ b,m<=(tw es b:Int)->∃ q ∈ EF es m,q.1<=b:=fun b hb=>by
  obtain ⟨s,h1,h2,h3⟩:=Kj hm b hb
  refine ⟨(s,s + tw es s),abn.mpr ⟨Lx h2,decide_eq_true ?_⟩,h1⟩
  rw [(Kl (Lx h2)).2]; exact h3
 cases q:EF es m with
 | nil =>
  rw [q] at key
  show ∀ c,(tw es c:Int) < m
  intro c
  by_cases z:m<=(tw es c:Int)
  ·obtain ⟨_,h,_⟩:=key c z; cases h
  ·omega
 | cons w r =>
  rw [q] at key up
  have hw:w ∈ EF es m:=by rw [q]; exact aac
  have hw:=abn.mp hw
  have hl:=of_decide_eq_true hw.2
  rw [(Kl hw.1).2] at hl
  refine ⟨hl,fun c hc=>?_⟩
  by_cases z:m<=(tw es c:Int)
  ·obtain ⟨x,hx,h⟩:=key c z
   rcases aal.mp hx with rfl | hx
   ·omega
   ·have:=(List.pairwise_cons.mp up).1 x hx; omega
  ·omega
theorem Tt {es:List Bool} (hn:es.length<=200) (m:Int):Bq.den [blL es,.int m]=.ok (.lst ((EF es m).map Al)):=by
 have hs:=IO hn
 have hc:=Pa (nl:=1) (fr:=[1]) (tg:=.nm 0) (it:=.seq (.call BD (.cons (.nm 0) .nil))) (cond:=.cmp .ge (.bin .sub (.ix (.nm 0) (.cI 1)) (.ix (.nm 0) (.cI 0))) (.nm 1)) (elt:=.nm 0) (δ:=[some (blL es),some (.int m)]) (ds:=(Aq es es.length).map Al) (b:=fun d=>match d with | .tup [.int a,.int c]=>decide (m<=c - a) | _=>false) (g:=fun d=>d) (by
   generalize blL es=X at *
   generalize (Aq es es.length).map Al=N at *
   simp_arith [hs]) (fun d hd=>by
  obtain ⟨⟨a,c⟩,_,rfl⟩:=aaC.mp hd
  refine ⟨[some (.tup [.int a,.int c]),some (.int m)],rfl,?_,fun _=>?_⟩
  ·show _=Res.ok (decide (m<=(c:Int) - (a:Int)))
   simp_arith []
  ·show _=Res.ok (D.tup [.int a,.int c])
   simp_arith [])
 rw [List.filter_map,aaP] at hc
 have hc:ev (.comp1 1 [1] (.nm 0) (.seq (.call BD (.cons (.nm 0) .nil))) (.cmp .ge (.bin .sub (.ix (.nm 0) (.cI 1)) (.ix (.nm 0) (.cI 0))) (.nm 1)) (.nm 0)) [some (blL es),some (.int m)]=.ok (.lst ((EF es m).map Al)):=hc
 refine (Fz _ rfl).trans (Ab ?_)
 generalize hC:E.comp1 1 [1] (.nm 0) (.seq (.call BD (.cons (.nm 0) .nil))) (.cmp .ge (.bin .sub (.ix (.nm 0) (.cI 1)) (.ix (.nm 0) (.cI 0))) (.nm 1)) (.nm 0)=C at *
 rw [Bs,hC]
 generalize blL es=X at *
 generalize (EF es m).map Al=F at *
 simp_arith [hc]
theorem Ly {es:List Bool} (hn:es.length<=200) {m:Int} (hm:1<=m) (f:D):Bj.den [blL es,f,.int m]=.ok (pgE ((EF es m).head?.map Prod.fst)):=by
 have hro:=Tt hn m
 have hnil:=F3 ((EF es m).map Al) (NW _ 6)
 have c1:¬ m < 1:=by omega
 refine (JT _ rfl).trans (Ab ?_)
 cases q:EF es m with
 | nil =>
  rw [q] at hro hnil
  show _=Out.ret .non
  simp only [abE,List.isEmpty_nil] at hro hnil
  generalize blL es=X at *
  simp_arith [CJ,c1,hro,hnil]
 | cons w rs =>
  rw [q] at hro hnil
  have ha:atD (D.tup [.int w.1,.int w.2] :: rs.map Al) 0=.ok (.tup [.int w.1,.int w.2]):=by
   unfold atD ixN
   rw [if_pos (by omega),if_pos (by simp)]; rfl
  show _=Out.ret (.int w.1)
  have hro:Bq.den [blL es,.int m]=.ok (.lst (.tup [.int w.1,.int w.2] :: rs.map Al)):=hro
  have hnil:c2 .eq (.lst (.tup [.int w.1,.int w.2] :: rs.map Al)) (.lst [])=.ok (.bl false):=hnil
  generalize D.tup [.int w.1,.int w.2] :: rs.map Al=F at *
  generalize blL es=X at *
  simp_arith [CJ,c1,hro,hnil,ha]
noncomputable def Ti8 (p f:Nat):List (Nat × Nat)->Nat->Nat->Prop
 | [],a,e=>a=e
 | q :: r,a,e=>q.2 * f ^ q.1=a/\Ti8 p f r (min p (q.2 * f ^ q.1 + f ^ q.1)) e
theorem Lz {p f h e:Nat} (hf:1<=f) (hep:e<=p):∀ n a,e - a<=n->a<=e->Ti8 p f (cov p f h e n a) a e
 | 0,a,h1,h2=>by show a=e; omega
 | n + 1,a,h1,h2=>by
  rw [cov]
  by_cases hae:a < e
  ·rw [if_pos hae]
   have hs:a / f ^ lvA p f h e a * f ^ lvA p f h e a=a:=by
    have:=acj a (f ^ lvA p f h e a)
    rw [(F2 hae).1,acb] at this
    exact this
   have hn:=J4 (p:=p) (f:=f) (h:=h) hf hae hep
   have hn2:=(F2 (p:=p) (f:=f) (h:=h) hae).2
   refine ⟨hs,?_⟩
   show Ti8 p f _ (min p (a / f ^ lvA p f h e a * f ^ lvA p f h e a + f ^ lvA p f h e a)) e
   rw [hs]
   exact Lz hf hep n (nxA p f h e a) (by omega) hn2
  ·rw [if_neg hae]; show a=e; omega
noncomputable def Rw (xs:List Bool) (M:Nat):Prop:=∃ c,c + M<=xs.length/\∀ j,j < M->tv1 xs (c + j)=true
theorem Tu {M:Nat} (hM:1<=M) (xs:List Bool):(M:Int)<=(bks xs).l ↔ Rw xs M:=by
 refine GV (P:=fun xs=>(M:Int)<=(bks xs).l ↔ Rw xs M) ?_ (fun xs e ih=>?_) xs
 ·show (M:Int)<=0 ↔ _
  constructor
  ·intro h; omega
  ·rintro ⟨c,h,_⟩; simp at h; omega
 ·have I:=bki xs
  rw [Ei]
  have hin:Rw xs M->Rw (xs ++ [e]) M:=fun ⟨c,h1,h2⟩=>⟨c,by simp; omega,fun j hj=>by rw [BW,if_pos (by omega)]; exact h2 j hj⟩
  have hout:Rw (xs ++ [e]) M->Rw xs M\/(e=true/\M<=xs.length + 1/\∀ j,j < M - 1->tv1 xs (xs.length - 1 - j)=true):=fun ⟨c,h1,h2⟩=>by
   simp at h1
   by_cases z:c + M<=xs.length
   ·exact .inl ⟨c,z,fun j hj=>by have:=h2 j hj; rw [BW,if_pos (by omega)] at this; exact this⟩
   ·refine .inr ⟨?_,by omega,fun j hj=>?_⟩
    ·have:=h2 (M - 1) (by omega)
     rw [BW,if_neg (by omega),if_pos (by omega)] at this
     exact this
    ·have:=h2 (M - 2 - j) (by omega)
     rw [BW,if_pos (by omega),show c + (M - 2 - j)=xs.length - 1 - j by omega] at this
     exact this
  cases e with
  | false =>
   show (M:Int)<=(bks xs).l ↔ _
   rw [ih]
   exact ⟨hin,fun h=>(hout h).elim id fun z=>by cases z.1⟩
  | true =>
   show (M:Int)<=max (bks xs).l ((bks xs).b + 1) ↔ _
   constructor
   ·intro h
    by_cases c:(M:Int)<=(bks xs).l
    ·exact hin (ih.mp c)
    ·have hb:(M:Int)<=(bks xs).b + 1:=by omega
     have hn:=I.n
     have hb1:=I.b1
     refine ⟨xs.length + 1 - M,by simp; omega,fun j hj=>?_⟩
     rw [BW]
     split
     ·have:=I.sa (M - 2 - j) (by omega)
      rw [show xs.length - 1 - (M - 2 - j)=xs.length + 1 - M + j by omega] at this
      exact this
     ·rw [if_pos (by omega)]
   ·intro h
    rcases hout h with z | ⟨_,z1,z2⟩
    ·have:=ih.mpr z; omega
    ·have:(M:Int) - 1<=(bks xs).b:=by
      rcases I.se with q | q
      ·rw [q,I.n]; omega
      ·by_cases c:(M:Int) - 1<=(bks xs).b
       ·exact c
       ·have hb0:=I.b0
        have:=z2 (bks xs).b.toNat (by omega)
        rw [this] at q; cases q
     omega
theorem N2 {es:List Bool} {c M:Nat}:M<=tw es c ↔ ∀ j,j < M->tv1 es (c + j)=true:=by
 constructor
 ·exact fun h j hj=>Fg (by omega)
 ·intro h
  apply aaU
  intro z
  have:=h _ z
  rw [J9] at this; cases this
theorem LA {es:List Bool} {e j:Nat} (h:j < e):tv1 (es.take e) j=tv1 es j:=by
 unfold tv1
 rw [aas,aas,aca h]
theorem Rq {es:List Bool} {e M:Nat} (he:e<=es.length):Rw (es.take e) M ↔ ∃ c,c + M<=e/\M<=tw es c:=by
 have hl:(es.take e).length=e:=by rw [aa3]; omega
 constructor
 ·rintro ⟨c,h1,h2⟩
  rw [hl] at h1
  exact ⟨c,h1,N2.mpr fun j hj=>by have:=h2 j hj; rwa [LA (by omega)] at this⟩
 ·rintro ⟨c,h1,h2⟩
  exact ⟨c,by rw [hl]; exact h1,fun j hj=>by rw [LA (by omega)]; exact N2.mp h2 j hj⟩
theorem IF {es:List Bool} {e:Nat} {m:Int} (he:e<=es.length) (hm:1<=m):(bks (es.take e)).l < m ↔ ∀ c:Nat,(c:Int) + m<=e->(tw es c:Int) < m:=by
 obtain ⟨M,rfl⟩:∃ M:Nat,m=M:=⟨m.toNat,by omega⟩
 have h1:=Tu (M:=M) (by omega) (es.take e)
 rw [Rq he] at h1
 constructor
 ·intro h c hc
  apply Int.lt_of_not_ge
  intro z
  have:=h1.mpr ⟨c,by omega,by omega⟩
  omega
 ·intro h
  apply Int.lt_of_not_ge
  intro z
  obtain ⟨c,c1,c2⟩:=h1.mp z
  have:=h c (by omega)
  omega
section
variable {es:List Bool} {f h:Nat} (S:Sp es.length f h)
include S
theorem lo8 (pg pa:D):∀ (qs:List (Nat × Nat)) (a e:Nat) (o4 o5:Option D),(∀ q ∈ qs,AZ es.length f h q.1 q.2=true)->Ti8 es.length f qs a e->∃ o4' o5',A3 (.nm 4) (exs Bd) (qs.map (Ai es f)) [some (shD es.length f),some pg,some pa,some (.int a),o4,o5]=.nxt [some (shD es.length f),some pg,some pa,some (.int e),o4',o5']
 | [],a,e,o4,o5,_,ht=>by
  have ht:a=e:=ht
  subst ht
  exact ⟨o4,o5,rfl⟩
 | q :: qs,a,e,o4,o5,hv,ht=>by
  obtain ⟨t1,t2⟩:=ht
  have c1:=hv q aac
  have hn:=Ph S (q.1:Int) (q.2:Int)
  have hs:=F7 S c1
  rw [c1] at hn
  have c2:spB f (q.1:Int) (q.2:Int)=(a:Int):=by
   unfold spB
   rw [aau,aau,t1]
  have c3:spE es.length f (q.1:Int) (q.2:Int)=((min es.length (q.2 * f ^ q.1 + f ^ q.1):Nat):Int):=by
   unfold spE
   rw [aau,aau]
  rw [c2,c3] at hs
  obtain ⟨o4',o5',ih⟩:=lo8 pg pa qs _ e (some (Ai es f q)) (some (.tup [.int q.1,.int q.2])) (fun x hx=>hv x (aab _ hx)) t2
  refine ⟨o4',o5',?_⟩
  rw [aaE,A3]
  show (exs Bd [some (shD es.length f),some pg,some pa,some (.int a),some (Ai es f q),o5]).then _=_
  have st:exs Bd [some (shD es.length f),some pg,some pa,some (.int a),some (Ai es f q),o5]=.nxt [some (shD es.length f),some pg,some pa,some (.int ((min es.length (q.2 * f ^ q.1 + f ^ q.1):Nat):Int)),some (Ai es f q),some (.tup [.int q.1,.int q.2])]:=by
   unfold Ai
   generalize shD es.length f=s at *
   generalize (bkN es f q.1 q.2).d=B at *
   generalize min es.length (q.2 * f ^ q.1 + f ^ q.1)=E1 at *
   simp_arith [Bd,My,Mz,hn,hs]
  rw [st,Out.then_nxt]
  exact ih
theorem lt8 (pa:D):∀ (qs:List (Nat × Nat)) (a e:Nat) (o2:Option D),(∀ q ∈ qs,AZ es.length f h q.1 q.2=true)->Ti8 es.length f qs a e->a<=es.length->∃ o2',A3 (.nm 2) (exs AO) (qs.map (Ai es f)) [some pa,some (bks (es.take a)).d,o2]=.nxt [some pa,some (bks (es.take e)).d,o2']
 | [],a,e,o2,_,ht,_=>by
  have ht:a=e:=ht
  subst ht
  exact ⟨o2,rfl⟩
 | q :: qs,a,e,o2,hv,ht,ha=>by
  obtain ⟨t1,t2⟩:=ht
  obtain ⟨a',b',ea,eb,_,hbc,hp0⟩:=F6 S (hv q aac)
  have ea:q.1=a':=by omega
  have eb:q.2=b':=by omega
  obtain ⟨o2',ih⟩:=lt8 pa qs _ e (some (Ai es f q)) (fun x hx=>hv x (aab _ hx)) t2 (aaT _ _)
  refine ⟨o2',?_⟩
  have hj:=Hy (bks (es.take a)) (bkN es f q.1 q.2)
  have he:jn (bks (es.take a)) (bkN es f q.1 q.2)=bks (es.take (min es.length (q.2 * f ^ q.1 + f ^ q.1))):=by
   unfold bkN
   rw [Tl]
   congr 1
   rw [t1]
   have hle:a<=min es.length (a + f ^ q.1):=by omega
   conv=>rhs; rw [show min es.length (a + f ^ q.1)=a + (min es.length (a + f ^ q.1) - a) by omega,List.take_add]
  rw [he] at hj
  rw [aaE,A3]
  show (exs AO [some pa,some (bks (es.take a)).d,some (Ai es f q)]).then _=_
  have st:exs AO [some pa,some (bks (es.take a)).d,some (Ai es f q)]=.nxt [some pa,some (bks (es.take (min es.length (q.2 * f ^ q.1 + f ^ q.1)))).d,some (Ai es f q)]:=by
   unfold Ai
   generalize (bkN es f q.1 q.2).d=B at *
   generalize (bks (es.take (min es.length (q.2 * f ^ q.1 + f ^ q.1)))).d=B1 at *
   generalize (bks (es.take a)).d=B0 at *
   simp_arith [AO,MA,hj]
  rw [st,Out.then_nxt]
  exact ih
theorem Rr {e:Nat} (he:e<=es.length):Ti8 es.length f (At es.length f h e) 0 e:=by
 have hf:=S.hf
 have hp:=S.hp
 unfold At
 by_cases c:es.length=0
 ·rw [if_pos c]; show 0=e; omega
 ·rw [if_neg c]; exact Lz (by omega) he 200 0 (by omega) (by omega)
theorem US {q:Nat × Nat} (hq:AZ es.length f h q.1 q.2=true):Ez.den [shD es.length f,Ai es f q]=.ok (.int (bkN es f q.1 q.2).n):=by
 have hs:=F7 S hq
 obtain ⟨a,b,ea,eb,hah,hbc,hp0⟩:=F6 S hq
 have e1:(bkN es f q.1 q.2).n=spE es.length f (q.1:Int) (q.2:Int) - spB f (q.1:Int) (q.2:Int):=by
  have ea:q.1=a:=by omega
  have eb:q.2=b:=by omega
  unfold bkN spE spB
  rw [(bki _).n,aau,aau,aa3,aa4]
  rw [<- ea,<- eb] at hbc
  have:=(Fe (show 1<=f by have:=S.hf; omega)).mp hbc
  omega
 rw [e1]
 refine (O9 _ rfl).trans (Ab ?_)
 unfold Ai
 generalize (bkN es f q.1 q.2).d=B at *
 generalize shD es.length f=s at *
 simp_arith [Gn,My,Mz,hs]
theorem rs8 {e:Nat} (he:e<=es.length) (m:Int) (pg:D) (hpa:AU.den [.int es.length,.int m,pg]=.ok (.tup [.int 0,.int e])):AL.den [shD es.length f,.int m,pg,.lst ((At es.length f h e).map (Ai es f))]=.ok (.bl (decide ((bks (es.take e)).l < m))):=by
 have hin:=Gp S he
 have hti:=Rr S he
 obtain ⟨qs,hqs⟩:∃ qs,qs=At es.length f h e:=⟨_,rfl⟩
 rw [<- hqs] at hin hti ⊢
 obtain ⟨o4,o5,hlo⟩:=lo8 S (.tup [.int 0,.int e]) (.lst (qs.map (Ai es f))) qs 0 e none none hin hti
 have hlo:A3 (.nm 4) (exs Bd) (qs.map (Ai es f)) [some (shD es.length f),some (.tup [.int 0,.int e]),some (.lst (qs.map (Ai es f))),some (.int 0),none,none]=.nxt [some (shD es.length f),some (.tup [.int 0,.int e]),some (.lst (qs.map (Ai es f))),some (.int e),o4,o5]:=hlo
 have h1:Ex.den [shD es.length f,.tup [.int 0,.int e],.lst (qs.map (Ai es f))]=.ok (.bl true):=by
  refine (JR _ rfl).trans (Ab ?_)
  generalize shD es.length f=s at *
  generalize qs.map (Ai es f)=PP at *
  simp_arith [DN,hlo]
 obtain ⟨o2,hlt⟩:=lt8 S (.lst (qs.map (Ai es f))) qs 0 e none hin hti (aaw _)
 have hlt:A3 (.nm 2) (exs AO) (qs.map (Ai es f)) [some (.lst (qs.map (Ai es f))),some (.tup [.int 0,.int 0,.int 0,.int 0]),none]=.nxt [some (.lst (qs.map (Ai es f))),some (.tup [.int (bks (es.take e)).n,.int (bks (es.take e)).a,.int (bks (es.take e)).b,.int (bks (es.take e)).l]),o2]:=hlt
 have h2:Dl.den [.lst (qs.map (Ai es f))]=.ok (.int (bks (es.take e)).l):=by
  refine (Hm _ rfl).trans (Ab ?_)
  generalize qs.map (Ai es f)=PP at *
  generalize (bks (es.take e))=B at *
  simp_arith [Cl,hlt,Ke]
 have hc:=C6 (nl:=1) (fr:=[0]) (tg:=.nm 0) (it:=.seq (.nm 3)) (elt:=.cmp .eq (.ix (.ix (.nm 0) (.cI 2)) (.cI 0)) (.call Ez (.cons (.nm 1) (.cons (.nm 0) .nil)))) (δ:=[some (shD es.length f),some (.int m),some pg,some (.lst (qs.map (Ai es f)))]) (ds:=qs.map (Ai es f)) (g:=fun _=>.bl true) (by
   generalize shD es.length f=s at *
   generalize qs.map (Ai es f)=PP at *
   simp_arith []) (fun d hd=>by
  obtain ⟨q,hq,rfl⟩:=aaC.mp hd
  have hw:=US S (hin q hq)
  refine ⟨[some (Ai es f q),some (shD es.length f)],rfl,?_⟩
  unfold Ai at *
  unfold Bk.d at *
  generalize shD es.length f=s at *
  generalize bkN es f q.1 q.2=B at *
  simp_arith [MA,Kb,hw])
 have ee:(qs.map (Ai es f)).map (fun _=>D.bl true)=aag (qs.map (Ai es f)).length (D.bl true):=List.map_const' ..
 rw [ee] at hc
 have h3:(BG (AA (aag (qs.map (Ai es f)).length (D.bl true)))).bind (fun bs=>Res.ok (D.bl (bs.all id)))=.ok (.bl true):=by
  rw [GB]
  show Res.ok (D.bl ((aag _ true).all id))=_
  congr 2
  rw [aaF]
  intro b hb
  rw [(abo.mp hb).2]; rfl
 refine (JW _ rfl).trans (Ab ?_)
 clear ee hlo hlt hin hti hqs
 generalize hC:E.comp0 1 [0] (.nm 0) (.seq (.nm 3)) (.cmp .eq (.ix (.ix (.nm 0) (.cI 2)) (.cI 0)) (.call Ez (.cons (.nm 1) (.cons (.nm 0) .nil))))=C at *
 rw [DP,hC]
 generalize (bks (es.take e)).l=L at *
 unfold shD at *
 generalize aag (qs.map (Ai es f)).length (D.bl true)=RP at *
 generalize qs.map (Ai es f)=PP at *
 simp_arith [hpa,h1,hc,h3,h2]
theorem rh8 {e:Nat} (he:e<=es.length):AE.den [blL es,.int f,.lst ((At es.length f h e).map (Ai es f))]=.ok (.bl true):=by
 have hin:=Gp S he
 have h1:=Tq S ((At es.length f h e).map fun q=>⟨q.1,q.2,bkN es f q.1 q.2⟩)
 rw [aaP] at h1
 have h1:AE.den [blL es,.int f,.lst ((At es.length f h e).map (Ai es f))]=_:=h1
 rw [h1]
 congr 2
 rw [aaF]
 intro x hx
 obtain ⟨q,hq,rfl⟩:=aaC.mp hx
 unfold okB
 rw [hin q hq,aau,aau]
 unfold bkq
 simp
end
noncomputable def eo8 (n:Nat) (m:Int):Option Nat->Nat
 | none=>n
 | some b=>((b:Int) + m - 1).toNat
noncomputable def nb8 (x:Nat):Option Nat->Bool
 | none=>true
 | some b=>decide ((x:Int)<=b)
theorem pa8 (n:Nat) (m:Int) (hm:1<=m) (o:Option Nat):AU.den [.int n,.int m,pgE o]=.ok (.tup [.int 0,.int (eo8 n m o)]):=by
 refine (HN _ rfl).trans (Ab ?_)
 cases o with
 | none =>
  unfold pgE eo8
  simp_arith [BU]
 | some b =>
  have e1:(((b:Int) + m - 1).toNat:Int)=(b:Int) + m - 1:=aba (by omega)
  have e2:max ((b:Int) + m - 1) 0=(b:Int) + m - 1:=by omega
  unfold pgE eo8
  simp only
  rw [e1]
  simp_arith [BU,e2]
theorem MH {es:List Bool} {m:Int} {o:Option Nat} (hm:1<=m) (h:IsF es m o):eo8 es.length m o<=es.length:=by
 cases o with
 | none=>exact aai _
 | some b =>
  have:=h.1
  have:=Ja es b
  show ((b:Int) + m - 1).toNat<=es.length
  omega
theorem N3 (es:List Bool) (f:Nat) (qs:List (Nat × Nat)):D.flat 8 1 (.lst (qs.map (Ai es f)))=true:=by
 show (qs.map (Ai es f)).all (D.flat 7 0)=true
 rw [aaF]
 intro d hd
 obtain ⟨q,_,rfl⟩:=aaC.mp hd
 rfl
theorem MI (x y:Bool):c2 .ne (.bl x) (.bl y)=.ok (.bl (!(x==y))):=rfl
theorem Uq (x y:Bool):c2 .eq (.bl x) (.bl y)=.ok (.bl (x==y)):=rfl
section
variable {es:List Bool} {f h:Nat} (S:Sp es.length f h) {m:Int} (hm:1<=m)
include S hm
theorem rp8 {o:Option Nat} (ho:IsF es m o):Cd.den [blL es,.int f,.int m]=.ok (.tup [pgE o,.lst ((At es.length f h (eo8 es.length m o)).map (Ai es f))]):=by
 have h1:=Ly (es:=es) S.hp hm (.int f)
 rw [<- IsF.un ho (F8 hm)] at h1
 have hbl:=Hz S
 have hlen:(((es.map D.bl).length:Nat):Int)=(es.length:Int):=by rw [aaa]
 have d1:Bj.dep=0:=FZ
 have d2:AU.dep=0:=HP
 have f1:=Ki o
 have hpa:=pa8 es.length m hm o
 have hpo:=Uo S (MH hm ho)
 have f2:D.flat 9 0 (.tup [.int 0,.int (eo8 es.length m o)])=true:=rfl
 refine (JU _ rfl).trans (Ab ?_)
 clear ho
 unfold blL at *
 generalize (At es.length f h (eo8 es.length m o)).map (Ai es f)=PP at *
 generalize eo8 es.length m o=EO at *
 generalize tBD es f (nlv es.length h)=T at *
 generalize es.map D.bl=X at *
 generalize pgE o=pg at *
 simp_arith [DO,h1,d1,f1,hlen,hpa,d2,f2,hbl,hpo]
theorem sh8 {o:Option Nat} (ho:IsF es m o) {x:Nat} (hx:(x:Int) + m - 1<=es.length):decide ((bks (es.take ((x:Int) + m - 1).toNat)).l < m)=nb8 x o:=by
 have h1:=IF (es:=es) (e:=((x:Int) + m - 1).toNat) (by omega) hm
 cases o with
 | none=>exact decide_eq_true (h1.mpr fun c _=>ho c)
 | some b =>
  show _=decide ((x:Int)<=b)
  rw [decide_eq_decide,h1]
  constructor
  ·intro z
   apply Int.le_of_not_gt
   intro q
   have:=z b (by omega)
   have:=ho.1
   omega
  ·intro z c hc
   exact ho.2 c (by omega)
theorem Tv {o:Option Nat} (ho:IsF es m o):decide ((bks (es.take es.length)).l < m)=o.isNone:=by
 have h1:=IF (es:=es) (e:=es.length) (aai _) hm
 cases o with
 | none=>exact decide_eq_true (h1.mpr fun c _=>ho c)
 | some b =>
  refine decide_eq_false fun z=>?_
  have:=(h1.mp z) b (by have:=ho.1; have:=Ja es b; omega)
  have:=ho.1
  omega
theorem ot8 {o:Option Nat} (ho:IsF es m o) {x:Nat} (hx:(x:Int) + m - 1<=es.length) (o5 o7 o8 o9:Option D):∃ p7 p8 p9,exs A5 [some (blL es),some (.int f),some (.int m),some (pgE o),some (shD es.length f),o5,some (.int x),o7,o8,o9]=.nxt [some (blL es),some (.int f),some (.int m),some (pgE o),some (shD es.length f),o5,some (.int x),p7,p8,p9]:=by
 have he:((x:Int) + m - 1).toNat<=es.length:=by omega
 have e1:(((x:Int) + m - 1).toNat:Int)=(x:Int) + m - 1:=aba (by omega)
 have hlp:=N1 S he
 rw [e1] at hlp
 have hpa:=pa8 es.length m hm (some x)
 have hrs:=rs8 S he m (.int x) hpa
 rw [sh8 S hm ho hx] at hrs
 have hrh:=rh8 S he
 have d1:AL.dep=9:=EA
 have d2:AE.dep=9:=Fy
 have bb:∀ b:Bool,(b==b)=true:=fun b=>by cases b <;> rfl
 refine ⟨some (.lst ((At es.length f h ((x:Int) + m - 1).toNat).map (Ai es f))),some (.bl (nb8 x o)),some (.bl (nb8 x o)),?_⟩
 clear hpa
 unfold blL at *
 generalize (At es.length f h ((x:Int) + m - 1).toNat).map (Ai es f)=PP at *
 generalize es.map D.bl=X at *
 generalize shD es.length f=s at *
 cases o with
 | none =>
  unfold nb8 at hrs ⊢
  simp only at hrs ⊢
  unfold pgE
  simp_arith [A5,hlp,hrs,d1,Fd,MI,bb,hrh,d2]
 | some b =>
  unfold nb8 at hrs ⊢
  simp only at hrs ⊢
  unfold pgE
  by_cases cx:(x:Int)<=b
  ·rw [decide_eq_true cx] at *
   simp_arith [A5,cx,hlp,hrs,d1,Fd,MI,bb,hrh,d2]
  ·rw [decide_eq_false cx] at *
   simp_arith [A5,cx,hlp,hrs,d1,Fd,MI,bb,hrh,d2]
theorem Rt {o:Option Nat} (ho:IsF es m o):BV.den [blL es,.int f,.int m,pgE o]=.ok (.bl true):=by
 have hn:=S.hp
 have hlen:(((es.map D.bl).length:Nat):Int)=(es.length:Int):=by rw [aaa]
 obtain ⟨st,est⟩:∃ st:Nat,1 + (es.length:Int) / 12=(st:Int):=⟨(1 + (es.length:Int) / 12).toNat,by omega⟩
 have h1:1<=st:=by omega
 have h2:st<=100:=by omega
 have hN:r3N 0 ((es.length:Int) + 2 - m) st=(((es.length:Int) + 2 - m - 0 + st - 1) / st).toNat:=by
  unfold r3N; rw [if_pos (by omega)]
 have hi:∀ i:Nat,i < r3N 0 ((es.length:Int) + 2 - m) st->((i * st:Nat):Int) + m - 1<=es.length:=fun i hi=>by
  rw [hN] at hi
  have h3:((i:Int) + 1)<=((es.length:Int) + 2 - m - 0 + st - 1) / st:=by omega
  have h4:=(Int.le_ediv_iff_mul_le (show (0:Int) < st by omega)).mp h3
  rw [Int.add_mul] at h4
  have e:((i * st:Nat):Int)=(i:Int) * st:=by push_cast; rfl
  omega
 have hr3:LW (.int 0) (.int ((es.length:Int) + 2 - m)) (.int st)=.ok (Ek 0 st (r3N 0 ((es.length:Int) + 2 - m) st)):=by
  unfold LW
  refine if_pos ?_
  have h5:r3N 0 ((es.length:Int) + 2 - m) st<=16777216:=by
   apply aaU
   intro z
   have:=hi (r3N 0 ((es.length:Int) + 2 - m) st - 1) (by omega)
   have h6:(r3N 0 ((es.length:Int) + 2 - m) st - 1) * 1<=(r3N 0 ((es.length:Int) + 2 - m) st - 1) * st:=Nat.mul_le_mul_left _ h1
   omega
  have h6:DR (st:Int)=true:=by
   unfold DR
   rw [decide_eq_true (by omega),decide_eq_true (by omega)]; rfl
  have h7:decide ((st:Int) ≠ 0)=true:=decide_eq_true (by omega)
  rw [decide_eq_true h5,h6,h7]; rfl
 obtain ⟨δ',e1,p6,p7,p8,p9,rfl⟩:=Aw (tg:=.nm 6) (b:=exs A5) (fun _ δ=>∃ p6 p7 p8 p9,δ=[some (blL es),some (.int f),some (.int m),some (pgE o),some (shD es.length f),some (.int st),p6,p7,p8,p9]) (ds:=Ek 0 st (r3N 0 ((es.length:Int) + 2 - m) st)) (δ:=[some (blL es),some (.int f),some (.int m),some (pgE o),some (shD es.length f),some (.int st),none,none,none,none]) 0 ⟨none,none,none,none,rfl⟩ (by
  rintro i d δ hd ⟨p6,p7,p8,p9,rfl⟩
  unfold Ek at hd
  rw [aaj] at hd
  obtain ⟨k',hk,rfl⟩:=aam.mp hd
  obtain ⟨hk1,hk2⟩:=aaq.mp hk
  rw [abf] at hk2
  subst hk2
  rw [aay] at hk1
  have e:(0:Int) + (i:Nat) * (st:Int)=((i * st:Nat):Int):=by push_cast; omega
  rw [e]
  obtain ⟨q7,q8,q9,st8⟩:=ot8 S hm ho (hi i hk1) (some (.int st)) p7 p8 p9
  exact ⟨_,_,rfl,st8,some (.int ((i * st:Nat):Int)),q7,q8,q9,rfl⟩)
 have hlp:=N1 S (aai _)
 have hpa:=pa8 es.length m hm none
 have hrs:=rs8 S (aai _) m .non hpa
 rw [Tv S hm ho] at hrs
 have d1:AL.dep=9:=EA
 have l12:(0:Int) < 12:=by decide
 have bb:∀ b:Bool,(b==b)=true:=fun b=>by cases b <;> rfl
 have hiN:ev (.isN false (.nm 3)) [some (blL es),some (.int f),some (.int m),some (pgE o),some (shD es.length f),some (.int st),p6,some (.lst ((At es.length f h es.length).map (Ai es f))),p8,some (.bl o.isNone)]=.ok (.bl o.isNone):=by
  unfold blL
  generalize (At es.length f h es.length).map (Ai es f)=PP at *
  cases o with
  | none =>
   unfold pgE
   simp_arith [Option.isNone]
  | some b =>
   unfold pgE
   simp_arith [Option.isNone]
 refine (IM _ rfl).trans (Ab ?_)
 show exs Ce [some (blL es),some (.int f),some (.int m),some (pgE o),none,none,none,none,none,none]=_
 clear hpa ho hi hN
 generalize hE:E.isN false (.nm 3)=EN at *
 rw [Ce,hE]
 unfold blL at *
 unfold shD at *
 generalize (At es.length f h es.length).map (Ai es f)=PP at *
 generalize Ek 0 st (r3N 0 ((es.length:Int) + 2 - m) st)=RU at *
 generalize es.map D.bl=X at *
 generalize pgE o=PG at *
 generalize o.isNone=ON at *
 simp_arith [hlen,l12,est,hr3,e1,hlp,hrs,d1,Fd,hiN,Uq,bb]
theorem Ur {o:Option Nat} (ho:IsF es m o) (o0 o4 o5 o6 o7 o8:Option D):∃ p4 p5 p6 p7 p8,exs Dp [o0,some (blL es),some (.int f),some (.int m),o4,o5,o6,o7,o8]=.nxt [o0,some (blL es),some (.int f),some (.int m),p4,p5,p6,p7,p8]:=by
 have hn:=S.hp
 have hlen:(((es.map D.bl).length:Nat):Int)=(es.length:Int):=by rw [aaa]
 have h1:=Ly (es:=es) S.hp hm (.int f)
 rw [<- IsF.un ho (F8 hm)] at h1
 have d1:Bj.dep=0:=FZ
 have f1:=Ki o
 have hrp:=rp8 S hm ho
 have d2:Cd.dep=1:=JV
 have f2:D.flat 9 1 (.tup [pgE o,.lst ((At es.length f h (eo8 es.length m o)).map (Ai es f))])=true:=by
  show (D.flat 8 1 (pgE o) && (D.flat 8 1 (.lst ((At es.length f h (eo8 es.length m o)).map (Ai es f))) && true))=true
  rw [N3]
  cases o <;> rfl
 have hrh:=rh8 S (MH hm ho)
 have d3:AE.dep=9:=Fy
 have hrs:=rs8 S (MH hm ho) m (pgE o) (pa8 es.length m hm o)
 have hst:decide ((bks (es.take (eo8 es.length m o))).l < m)=true:=by
  cases o with
  | none=>exact (Tv S hm ho)
  | some b =>
   have:=sh8 S hm ho (x:=b) (by have:=ho.1; have:=Ja es b; omega)
   exact this.trans (decide_eq_true (abD _))
 rw [hst] at hrs
 have d4:AL.dep=9:=EA
 have hot:=Rt S hm ho
 have d5:BV.dep=9:=IN
 have hne:c2 .ne (pgE o) (pgE o)=.ok (.bl false):=Mx (pgE o) (by cases o <;> rfl)
 obtain ⟨en,hen,hend⟩:∃ en:Nat,en<=es.length/\ex (.iff (.isN true (.nm 4))
  (.cons (.asg 5 0 (.nm 4)) (.cons (.iff (.cmp .ne (.mt .count (.slc (.nm 1) (.nm 4) (.bin .add (.nm 4) (.nm 3))) (.cons (.cB true) .nil)) (.nm 3)) (.cons (.ret (.cB false)) .nil) .nil) .nil)) .nil) [o0,some (blL es),some (.int f),some (.int m),some (pgE o),some (.int es.length),o6,o7,o8]=.nxt [o0,some (blL es),some (.int f),some (.int m),some (pgE o),some (.int en),o6,o7,o8]/\∀ c,c < en->(tw es c:Int) < m:=by
  cases o with
  | none =>
   refine ⟨es.length,aai _,?_,fun c _=>ho c⟩
   unfold blL pgE
   simp_arith []
  | some b =>
   have hb:b<=es.length:=by have:=ho.1; have:=Ja es b; omega
   refine ⟨b,hb,?_,fun c hc=>ho.2 c hc⟩
   obtain ⟨ct,hct,hcm⟩:=Lv (es:=es) (b:=b) (m:=m) hb hm
   rw [decide_eq_true ho.1] at hcm
   clear hne hot hrs hrh hrp h1 f1 f2 hst
   unfold blL pgE
   generalize es.map D.bl=X at *
   simp_arith [hct,hcm]
 obtain ⟨hend,hlt⟩:=hend
 have hr:=Cv (a:=0) (b:=(en:Int)) (by omega) (by omega) (by omega) (by omega)
 obtain ⟨δ',e1,p6,rfl⟩:=Aw (tg:=.nm 6) (b:=exs EC) (fun _ δ=>∃ p6,δ=[o0,some (blL es),some (.int f),some (.int m),some (pgE o),some (.int en),p6,o7,o8]) (ds:=Av 0 (en:Int)) (δ:=[o0,some (blL es),some (.int f),some (.int m),some (pgE o),some (.int en),o6,o7,o8]) 0 ⟨o6,rfl⟩ (by
  rintro i d δ hd ⟨p6,rfl⟩
  obtain ⟨rfl,hi⟩:=BQ hd
  rw [abx]
  obtain ⟨ct,hct,hcm⟩:=Lv (es:=es) (b:=i) (m:=m) (by omega) hm
  rw [decide_eq_false (by have:=hlt i (by omega); omega)] at hcm
  refine ⟨[o0,some (blL es),some (.int f),some (.int m),some (pgE o),some (.int en),some (.int i),o7,o8],_,rfl,?_,some (.int i),rfl⟩
  clear hne hot hrs hrh hrp h1 f1 f2 hst hend
  unfold blL
  generalize es.map D.bl=X at *
  generalize pgE o=PG at *
  simp_arith [EC,hct,hcm])
 have hat2:∀ (a b:D) (δ:Fr),CN (.tp [7,8]) (.tup [a,b]) δ=some ((δ.set 7 (some a)).set 8 (some b)):=fun a b δ=>rfl
 refine ⟨some (pgE o),some (.int en),p6,some (pgE o),some (.lst ((At es.length f h (eo8 es.length m o)).map (Ai es f))),?_⟩
 generalize hS:Pu.S.iff (.isN true (.nm 4))
  (.cons (.asg 5 0 (.nm 4)) (.cons (.iff (.cmp .ne (.mt .count (.slc (.nm 1) (.nm 4) (.bin .add (.nm 4) (.nm 3))) (.cons (.cB true) .nil)) (.nm 3)) (.cons (.ret (.cB false)) .nil) .nil) .nil)) .nil=s1 at *
 rw [Dp,hS]
 clear hst ho hlt
 unfold blL at *
 unfold shD at *
 generalize (At es.length f h (eo8 es.length m o)).map (Ai es f)=PP at *
 generalize es.map D.bl=X at *
 generalize pgE o=PG at *
 have tt:(true != true)=false:=rfl
 simp_arith [tt,h1,d1,f1,hlen,hend,hr,e1,hrp,d2,f2,hat2,hne,hrh,d3,Fd,hrs,d4,hot,d5]
end
theorem Ru:∀ ns:List Int,ns.length<=63->Fu.den [.lst (ns.map .int)]=.ok (.bl true):=by
 intro ns _
 obtain ⟨es,hel,hem⟩:=KI ns 0 (by decide) 120 (by decide)
 have hem:Cn.den [.lst (ns.map .int),.int 0,.int 120]=.ok (blL es):=hem
 obtain ⟨f,hf,hf8,hfan⟩:=Rb ns 1 (by decide)
 have hel:es.length<=200:=by omega
 obtain ⟨ms,hms,hml,hmany⟩:=Tr hel ns
 obtain ⟨h,S⟩:=Ug (p:=es.length) (f:=f) hel hf hf8
 have d1:Bw.dep=2:=Ho
 have hfm:D.flat 9 2 (.lst (ms.map .int))=true:=by
  show (ms.map D.int).all (D.flat 8 1)=true
  rw [aaF]
  intro d hd
  obtain ⟨x,rfl⟩:=Hq hd
  rfl
 obtain ⟨δ',e1,p3,p4,p5,p6,p7,p8,rfl⟩:=Aw (tg:=.nm 3) (b:=exs Dp) (fun _ δ=>∃ p3 p4 p5 p6 p7 p8,δ=[some (.lst (ns.map .int)),some (blL es),some (.int f),p3,p4,p5,p6,p7,p8]) (ds:=ms.map .int) (δ:=[some (.lst (ns.map .int)),some (blL es),some (.int f),none,none,none,none,none,none]) 0 ⟨none,none,none,none,none,none,rfl⟩ (by
  rintro i d δ hd ⟨p3,p4,p5,p6,p7,p8,rfl⟩
  obtain ⟨m,hm,rfl⟩:=aaC.mp (aae hd)
  obtain ⟨q4,q5,q6,q7,q8,e⟩:=Ur S (hms m hm) (F8 (hms m hm)) (some (.lst (ns.map .int))) p4 p5 p6 p7 p8
  exact ⟨_,_,rfl,e,some (.int m),q4,q5,q6,q7,q8,rfl⟩)
 refine (Mn _ rfl).trans (Ab ?_)
 clear hms
 show exs DU [some (.lst (ns.map .int)),none,none,none,none,none,none,none,none]=_
 unfold blL at *
 generalize es.map D.bl=X at *
 generalize ms.map D.int=M at *
 generalize ns.map D.int=N at *
 simp_arith [DU,hem,hfan,hmany,d1,hfm,e1]
end Pu
end
namespace Pu
open PySem PySem.Spec PyProof.Rows PySem.W L2
noncomputable def top (i:Nat):Stmt:=PySem.Challenge.pw_ullage_k78_whole_no_row_ahead.main.body.getD i (.Pass ⟨0,0,0,0⟩)
theorem KJ:dfB ["thing"] ["thing"] (top 5) Hj 9=true:=by decide +kernel
theorem IP:dfB ["thing", "least", "most"] ["thing", "least", "most"] (top 6) Dd 9=true:=by decide +kernel
theorem N4:dfB ["shape", "fan", "counts", "many"] ["shape"] (top 8) Eu 1=true:=by decide +kernel
theorem F9:dfB ["counts", "thing"] ["counts", "thing"] (top 10) Ax 9=true:=by decide +kernel
theorem MJ:dfB ["shape", "thing"] ["shape", "thing"] (top 9) DS 9=true:=by decide +kernel
theorem IQ:dfB ["shape", "thing"] ["shape", "thing"] (top 11) Dg 9=true:=by decide +kernel
theorem Rv:dfB ["shape", "node", "width", "level", "begin"] ["shape", "node"] (top 12) Hl 0=true:=by decide +kernel
theorem Tw:dfB ["shape", "counts"] ["shape"] (top 14) IZ 1=true:=by decide +kernel
theorem N5:dfB ["shape", "node"] ["shape", "node"] (top 13) Ev 1=true:=by decide +kernel
theorem N6:dfB ["one", "other", "ahead", "behind"] ["one", "other"] (top 17) C5 0=true:=by decide +kernel
theorem KK:dfB ["empties", "block", "empty"] ["empties"] (top 16) D3 0=true:=by decide +kernel
theorem N7:dfB ["empties", "fan", "shape", "told", "level", "many", "spans"] ["empties", "fan"] (top 18) Fq 2=true:=by decide +kernel
theorem Km:dfB ["empties", "rows", "begin", "page", "empty"] ["empties"] (top 19) CI 1=true:=by decide +kernel
theorem Kn:dfB ["tree"] ["tree"] (top 21) DK 9=true:=by decide +kernel
theorem KM:dfB ["tree"] ["tree"] (top 22) Di 1=true:=by decide +kernel
theorem KN:dfB ["tree", "fan"] ["tree", "fan"] (top 23) D4 0=true:=by decide +kernel
theorem KO:dfB ["tree", "thing"] ["tree", "thing"] (top 24) D5 9=true:=by decide +kernel
theorem Gu:dfB ["tree", "thing"] ["tree", "thing"] (top 25) BK 9=true:=by decide +kernel
theorem Pm:dfB ["tree", "node"] ["tree", "node"] (top 26) Gm 0=true:=by decide +kernel
theorem Ko:dfB ["tree", "nodes"] ["tree", "nodes"] (top 27) DM 1=true:=by decide +kernel
theorem Kp:dfB ["shape", "pages", "paper", "reached", "entry", "node"] ["shape", "pages", "paper"] (top 29) DN 9=true:=by decide +kernel
theorem MK:dfB ["tree", "entry", "node"] ["tree", "entry"] (top 31) DT 9=true:=by decide +kernel
theorem N8:dfB ["tree", "paper"] ["tree", "paper"] (top 30) Fs 9=true:=by decide +kernel
theorem Id:dfB ["pages", "begin", "end"] ["pages", "begin", "end"] (top 35) CQ 9=true:=by decide +kernel
theorem Gv:dfB ["shape", "begin", "end", "node", "above"] ["shape", "begin", "end"] (top 34) BL 0=true:=by decide +kernel
theorem Pn:dfB ["shape", "begin", "end", "nodes", "at", "node"] ["shape", "begin", "end"] (top 33) Fc 1=true:=by decide +kernel
theorem IR:dfB ["tree", "fan", "pages"] ["tree", "fan", "pages"] (top 37) Dk 1=true:=by decide +kernel
theorem FA:dfB ["empties", "many"] ["empties", "many"] (top 40) Bs 1=true:=by decide +kernel
theorem Kq:dfB ["empties", "fan", "many", "fitting"] ["empties", "fan", "many"] (top 39) CJ 0=true:=by decide +kernel
theorem Ie:dfB ["pages", "many", "page"] ["pages", "many", "page"] (top 42) BU 0=true:=by decide +kernel
theorem Kr:dfB ["empties", "fan", "many", "page", "pages"] ["empties", "fan", "many"] (top 41) DO 1=true:=by decide +kernel
theorem HB:dfB ["paper", "block", "entry"] ["paper"] (top 45) Cl 0=true:=by decide +kernel
theorem Po:dfB ["shape", "entry", "pages"] ["shape", "entry"] (top 44) Gn 1=true:=by decide +kernel
theorem Ks:dfB ["shape", "many", "page", "paper"] ["shape", "many", "page", "paper"] (top 43) DP 9=true:=by decide +kernel
theorem IS:dfB ["empties", "fan", "paper"] ["empties", "fan", "paper"] (top 46) Dm 9=true:=by decide +kernel
theorem KP:dfB ["_law_script", "_law_place", "_law_seed", "_law_cell_here"] ["_law_script", "_law_place"] (top 48) Dn 0=true:=by decide +kernel
theorem Ig:dfB ["_law_cell_here", "_law_k", "_law_one", "_law_two"] ["_law_cell_here", "_law_k"] (top 49) CS 1=true:=by decide +kernel
theorem Ih:dfB ["_law_script", "_law_place", "_law_sizes", "_law_cell_here", "_law_left", "_law_some", "_law_k", "_law_other"] ["_law_script", "_law_place", "_law_sizes"] (top 50) CT 2=true:=by decide +kernel
theorem Ii:dfB ["_law_script", "_law_place", "_law_most", "_law_some", "_law_found", "_law_k", "_law_here"] ["_law_script", "_law_place", "_law_most"] (top 51) CU 2=true:=by decide +kernel
theorem Kt:dfB ["_law_empties_here", "_law_ahead", "_law_behind", "_law_longest", "_law_here", "_law_empty"] ["_law_empties_here"] (top 52) DQ 0=true:=by decide +kernel
theorem Ij:dfB ["_law_script", "_law_place"] ["_law_script", "_law_place"] (top 54) CW 1=true:=by decide +kernel
theorem Gw:dfB ["_law_pages", "_law_fan_here", "_law_found"] ["_law_pages", "_law_fan_here"] (top 55) BN 1=true:=by decide +kernel
theorem GW:dfB ["_law_pages", "_law_fan_here", "_law_level", "_law_place", "_law_wide", "_law_k"] ["_law_pages", "_law_fan_here", "_law_level", "_law_place"] (top 56) B7 1=true:=by decide +kernel
theorem GX:dfB ["_law_pages", "_law_fan_here", "_law_begin", "_law_end", "_law_found", "_law_at", "_law_wide", "_law_node", "_law_level", "_law_high"] ["_law_pages", "_law_fan_here", "_law_begin", "_law_end"] (top 58) Bu 2=true:=by decide +kernel
theorem GY:dfB ["_law_empties_here", "_law_found", "_law_begin", "_law_end"] ["_law_empties_here"] (top 59) B8 1=true:=by decide +kernel
theorem HC:dfB ["_law_script", "_law_empties_here", "_law_longs", "_law_found", "_law_k", "_law_some"] ["_law_script", "_law_empties_here"] (top 60) Cr 2=true:=by decide +kernel
theorem GZ:dfB ["_law_empties_here", "_law_fan_here", "_law_end", "_law_paper", "_law_level", "_law_place", "_law_low", "_law_high"] ["_law_empties_here", "_law_fan_here", "_law_end"] (top 62) B9 1=true:=by decide +kernel
theorem IU:dfB ["_law_empties_here", "_law_fan_here", "_law_many_here", "_law_page", "_law_shape", "_law_step", "_law_other", "_law_paper", "_law_due", "_law_found"] ["_law_empties_here", "_law_fan_here", "_law_many_here", "_law_page"] (top 63) Ce 9=true:=by decide +kernel
theorem ML:dfB ["_law_script", "_law_empties_here", "_law_fan_here", "_law_many_here", "_law_page", "_law_end", "_law_begin", "_law_told", "_law_paper"] ["_law_script"] (top 64) DU 9=true:=by decide +kernel
set_option maxHeartbeats 0 in
theorem Tx {l:PySem.W.OpenLaw} {w:World} {K:PySem.W.Frag} {h:Heap} {mg:Str->Option Value} {fa:Addr} {C2 C3:Addr} (X:K.In h) (G:h.Ns mainGlobals mg) (hfa:mg "law" = some (.ref fa)) (t0:Ar K "is_whole" (top 5)) (t1:Ar K "is_between" (top 6)) (t2:Ar K "levels" (top 8)) (t3:Ar K "is_counted_node" (top 10)) (t4:Ar K "is_node" (top 9)) (t5:Ar K "check_node" (top 11)) (t6:Ar K "span" (top 12)) (t7:Ar K "top" (top 14)) (t8:Ar K "parent" (top 13)) (t9:Ar K "joined" (top 17)) (t10:Ar K "block_of" (top 16)) (t11:Ar K "blocks" (top 18)) (t12:Ar K "stretches" (top 19)) (t13:Ar K "counts_of" (top 21)) (t14:Ar K "rooms_of" (top 22)) (t15:Ar K "shape_of" (top 23)) (t16:Ar K "has_node" (top 24)) (t17:Ar K "check_has_node" (top 25)) (t18:Ar K "tells" (top 26)) (t19:Ar K "with_told" (top 27)) (t20:Ar K "lies_over" (top 29)) (t21:Ar K "is_true" (top 31)) (t22:Ar K "honest" (top 30)) (t23:Ar K "lies_within" (top 35)) (t24:Ar K "highest_within" (top 34)) (t25:Ar K "cover" (top 33)) (t26:Ar K "paper_over" (top 37)) (t27:Ar K "rows_of_at_least" (top 40)) (t28:Ar K "row_first" (top 39)) (t29:Ar K "pages_ahead" (top 42)) (t30:Ar K "row_paper" (top 41)) (t31:Ar K "longest_told" (top 45)) (t32:Ar K "width" (top 44)) (t33:Ar K "row_shows" (top 43)) (t34:Ar K "row_honest" (top 46)) (t35:Ar K "_law_cell" (top 48)) (t36:Ar K "_law_mix" (top 49)) (t37:Ar K "_law_row" (top 50)) (t38:Ar K "_law_empties" (top 51)) (t39:Ar K "_law_block" (top 52)) (t40:Ar K "_law_fan" (top 54)) (t41:Ar K "_law_counts" (top 55)) (t42:Ar K "_law_reach" (top 56)) (t43:Ar K "_law_cover" (top 58)) (t44:Ar K "_law_stretches" (top 59)) (t45:Ar K "_law_many" (top 60)) (t46:Ar K "_law_row_paper" (top 62)) (t47:Ar K "_law_others" (top 63)) (t48:Ar K "law" (top 64)) (n_len:nsIn K mainGlobals "len" = some none) (n_min:nsIn K mainGlobals "min" = some none) (n_max:nsIn K mainGlobals "max" = some none) (n_abs:nsIn K mainGlobals "abs" = some none) (n_int:nsIn K mainGlobals "int" = some none) (n_list:nsIn K mainGlobals "list" = some none) (n_tuple:nsIn K mainGlobals "tuple" = some none) (n_all:nsIn K mainGlobals "all" = some none) (n_any:nsIn K mainGlobals "any" = some none) (n_sum:nsIn K mainGlobals "sum" = some none) (n_sorted:nsIn K mainGlobals "sorted" = some none) (n_isinstance:nsIn K mainGlobals "isinstance" = some none) (n_str:nsIn K mainGlobals "str" = some none) (n_range:nsIn K mainGlobals "range" = some none) (n_enumerate:nsIn K mainGlobals "enumerate" = some none) (n_zip:nsIn K mainGlobals "zip" = some none) (n_reversed:nsIn K mainGlobals "reversed" = some none) (n_bool:nsIn K mainGlobals "bool" = some none) (n_dict:nsIn K mainGlobals "dict" = some none) (n_ValueError:nsIn K mainGlobals "ValueError" = some none) (c2:ClsF K "NoNode" C2) (c3:ClsF K "NoPage" C3) (e2:excIn K C2 GG "ValueError.__new__" = true) (e3:excIn K C3 GG "ValueError.__new__" = true) (y2_2:kitOne K (.ref C2) (.ref C2)=some true) (y2_3:kitOne K (.ref C2) (.ref C3)=some false) (y3_2:kitOne K (.ref C3) (.ref C2)=some false) (y3_3:kitOne K (.ref C3) (.ref C3)=some true) (nl:noL K=true)
  (hden:∀ ns:List Int,ns.length<=63->Fu.den [.lst (ns.map .int)]=.ok (.bl true)) :
  ∃ fd:FuncData,(∀ (s:Shared) (v:Value),BindsTo s fd ⟨[v],[]⟩ [("_law_script",v)])/\∀ base:Heap,K.In base->base.Ns mainGlobals mg->FnOk l.prog w K mg base (CXe l.prog w) 11 fa fd ["_law_script"] (spL K):=by
 have O:∀ base:Heap,Lw.Ok ⟨⟨K,clA [(2,C2),(3,C3)],C4 [(2,C2),(3,C3)]⟩,l.prog,w,mg,base⟩:=fun base=>Uc rfl X G ⟨n_len,n_min,n_max,n_abs,n_int,n_list,n_tuple,n_all,n_any,n_sum,n_sorted,n_isinstance,n_str,n_range,n_enumerate,n_zip,n_reversed,n_bool,n_dict,n_ValueError,trivial⟩ ⟨c2,c3,trivial⟩ ⟨⟨y2_2,y2_3,trivial⟩,⟨y3_2,y3_3,trivial⟩,trivial⟩
 refine QZ (cs:=[(2,C2),(3,C3)]) (lv:=10) X G hfa t48 ML (fun _ _ _ _ _ _ s v=>.of_eq rfl) O (fun base=>?_) nl hden
 have rs2:=(⟨rfl,c2.q,e2⟩:NeedG ⟨⟨K,clA [(2,C2),(3,C3)],C4 [(2,C2),(3,C3)]⟩,l.prog,w,mg,base⟩ 0 (.rs 2))
 have cl2:=(⟨rfl,PySem.W.mg_of X G c2.q⟩:NeedG ⟨⟨K,clA [(2,C2),(3,C3)],C4 [(2,C2),(3,C3)]⟩,l.prog,w,mg,base⟩ 0 (.cl 2))
 have rs3:=(⟨rfl,c3.q,e3⟩:NeedG ⟨⟨K,clA [(2,C2),(3,C3)],C4 [(2,C2),(3,C3)]⟩,l.prog,w,mg,base⟩ 0 (.rs 3))
 have cl3:=(⟨rfl,PySem.W.mg_of X G c3.q⟩:NeedG ⟨⟨K,clA [(2,C2),(3,C3)],C4 [(2,C2),(3,C3)]⟩,l.prog,w,mg,base⟩ 0 (.cl 3))
 have h_is_whole:=Ah (lv:=0) (O base) (Ag X G t0 fun _ _ _ _ _ _=>ba1 fun _=>rfl) KJ trivial
 have h_is_between:=Ah (lv:=1) (O base) (Ag X G t1 fun _ _ _ _ _ _=>ba3 fun _ _ _=>rfl) IP ⟨⟨by decide,h_is_whole⟩,trivial⟩
 have h_levels:=Ah (lv:=0) (O base) (Ag X G t2 fun _ _ _ _ _ _=>ba1 fun _=>rfl) N4 trivial
 have h_is_counted_node:=Ah (lv:=2) (O base) (Ag X G t3 fun _ _ _ _ _ _=>ba2 fun _ _=>rfl) F9 ⟨⟨by decide,h_is_between⟩,⟨by decide,h_is_between⟩,trivial⟩
 have h_is_node:=Ah (lv:=3) (O base) (Ag X G t4 fun _ _ _ _ _ _=>ba2 fun _ _=>rfl) MJ ⟨⟨by decide,h_is_counted_node⟩,⟨by decide,h_levels⟩,trivial⟩
 have h_check_node:=Ah (lv:=4) (O base) (Ag X G t5 fun _ _ _ _ _ _=>ba2 fun _ _=>rfl) IQ ⟨⟨by decide,h_is_node⟩,rs2,trivial⟩
 have h_span:=Ah (lv:=5) (O base) (Ag X G t6 fun _ _ _ _ _ _=>ba2 fun _ _=>rfl) Rv ⟨⟨by decide,h_check_node⟩,trivial⟩
 have h_top:=Ah (lv:=1) (O base) (Ag X G t7 fun _ _ _ _ _ _=>ba1 fun _=>rfl) Tw ⟨⟨by decide,h_levels⟩,trivial⟩
 have h_parent:=Ah (lv:=5) (O base) (Ag X G t8 fun _ _ _ _ _ _=>ba2 fun _ _=>rfl) N5 ⟨⟨by decide,h_check_node⟩,⟨by decide,h_top⟩,trivial⟩
 have h_joined:=Ah (lv:=0) (O base) (Ag X G t9 fun _ _ _ _ _ _=>ba2 fun _ _=>rfl) N6 trivial
 have h_block_of:=Ah (lv:=1) (O base) (Ag X G t10 fun _ _ _ _ _ _=>ba1 fun _=>rfl) KK ⟨⟨by decide,h_joined⟩,trivial⟩
 have h_blocks:=Ah (lv:=6) (O base) (Ag X G t11 fun _ _ _ _ _ _=>ba2 fun _ _=>rfl) N7 ⟨⟨by decide,h_levels⟩,⟨by decide,h_span⟩,⟨by decide,h_block_of⟩,trivial⟩
 have h_stretches:=Ah (lv:=0) (O base) (Ag X G t12 fun _ _ _ _ _ _=>ba1 fun _=>rfl) Km trivial
 have h_counts_of:=Ah (lv:=0) (O base) (Ag X G t13 fun _ _ _ _ _ _=>ba1 fun _=>rfl) Kn trivial
 have h_rooms_of:=Ah (lv:=0) (O base) (Ag X G t14 fun _ _ _ _ _ _=>ba1 fun _=>rfl) KM trivial
 have h_shape_of:=Ah (lv:=1) (O base) (Ag X G t15 fun _ _ _ _ _ _=>ba2 fun _ _=>rfl) KN ⟨⟨by decide,h_rooms_of⟩,trivial⟩
 have h_has_node:=Ah (lv:=3) (O base) (Ag X G t16 fun _ _ _ _ _ _=>ba2 fun _ _=>rfl) KO ⟨⟨by decide,h_is_counted_node⟩,⟨by decide,h_counts_of⟩,trivial⟩
 have h_check_has_node:=Ah (lv:=4) (O base) (Ag X G t17 fun _ _ _ _ _ _=>ba2 fun _ _=>rfl) Gu ⟨⟨by decide,h_has_node⟩,rs2,trivial⟩
 have h_tells:=Ah (lv:=5) (O base) (Ag X G t18 fun _ _ _ _ _ _=>ba2 fun _ _=>rfl) Pm ⟨⟨by decide,h_check_has_node⟩,trivial⟩
 have h_with_told:=Ah (lv:=6) (O base) (Ag X G t19 fun _ _ _ _ _ _=>ba2 fun _ _=>rfl) Ko ⟨⟨by decide,h_tells⟩,trivial⟩
 have h_lies_over:=Ah (lv:=6) (O base) (Ag X G t20 fun _ _ _ _ _ _=>ba3 fun _ _ _=>rfl) Kp ⟨⟨by decide,h_is_node⟩,⟨by decide,h_span⟩,⟨by decide,h_span⟩,trivial⟩
 have h_is_true:=Ah (lv:=6) (O base) (Ag X G t21 fun _ _ _ _ _ _=>ba2 fun _ _=>rfl) MK ⟨⟨by decide,h_has_node⟩,⟨by decide,h_tells⟩,trivial⟩
 have h_honest:=Ah (lv:=7) (O base) (Ag X G t22 fun _ _ _ _ _ _=>ba2 fun _ _=>rfl) N8 ⟨⟨by decide,h_is_true⟩,trivial⟩
 have h_lies_within:=Ah (lv:=0) (O base) (Ag X G t23 fun _ _ _ _ _ _=>ba3 fun _ _ _=>rfl) Id trivial
 have h_highest_within:=Ah (lv:=6) (O base) (Ag X G t24 fun _ _ _ _ _ _=>ba3 fun _ _ _=>rfl) Gv ⟨⟨by decide,h_parent⟩,⟨by decide,h_lies_within⟩,⟨by decide,h_span⟩,⟨by decide,h_parent⟩,trivial⟩
 have h_cover:=Ah (lv:=7) (O base) (Ag X G t25 fun _ _ _ _ _ _=>ba3 fun _ _ _=>rfl) Pn ⟨rs3,⟨by decide,h_highest_within⟩,⟨by decide,h_span⟩,trivial⟩
 have h_paper_over:=Ah (lv:=8) (O base) (Ag X G t26 fun _ _ _ _ _ _=>ba3 fun _ _ _=>rfl) IR ⟨⟨by decide,h_with_told⟩,⟨by decide,h_cover⟩,⟨by decide,h_shape_of⟩,trivial⟩
 have h_rows_of_at_least:=Ah (lv:=1) (O base) (Ag X G t27 fun _ _ _ _ _ _=>ba2 fun _ _=>rfl) FA ⟨⟨by decide,h_stretches⟩,trivial⟩
 have h_row_first:=Ah (lv:=2) (O base) (Ag X G t28 fun _ _ _ _ _ _=>ba3 fun _ _ _=>rfl) Kq ⟨⟨by decide,h_rows_of_at_least⟩,trivial⟩
 have h_pages_ahead:=Ah (lv:=0) (O base) (Ag X G t29 fun _ _ _ _ _ _=>ba3 fun _ _ _=>rfl) Ie trivial
 have h_row_paper:=Ah (lv:=9) (O base) (Ag X G t30 fun _ _ _ _ _ _=>ba3 fun _ _ _=>rfl) Kr ⟨⟨by decide,h_row_first⟩,⟨by decide,h_pages_ahead⟩,⟨by decide,h_paper_over⟩,⟨by decide,h_blocks⟩,trivial⟩
 have h_longest_told:=Ah (lv:=1) (O base) (Ag X G t31 fun _ _ _ _ _ _=>ba1 fun _=>rfl) HB ⟨⟨by decide,h_joined⟩,trivial⟩
 have h_width:=Ah (lv:=6) (O base) (Ag X G t32 fun _ _ _ _ _ _=>ba2 fun _ _=>rfl) Po ⟨⟨by decide,h_span⟩,trivial⟩
 have h_row_shows:=Ah (lv:=7) (O base) (Ag X G t33 fun _ _ _ _ _ _=>ba4 fun _ _ _ _=>rfl) Ks ⟨⟨by decide,h_lies_over⟩,⟨by decide,h_pages_ahead⟩,⟨by decide,h_width⟩,⟨by decide,h_longest_told⟩,trivial⟩
 have h_row_honest:=Ah (lv:=8) (O base) (Ag X G t34 fun _ _ _ _ _ _=>ba3 fun _ _ _=>rfl) IS ⟨⟨by decide,h_honest⟩,⟨by decide,h_blocks⟩,trivial⟩
 have h_law_cell:=Ah (lv:=0) (O base) (Ag X G t35 fun _ _ _ _ _ _=>ba2 fun _ _=>rfl) KP trivial
 have h_law_mix_k11:=Ah (lv:=0) (O base) (Ag X G t36 fun _ _ _ _ _ _=>ba2 fun _ _=>rfl) Ig trivial
 have h_law_row_k11:=Ah (lv:=1) (O base) (Ag X G t37 fun _ _ _ _ _ _=>ba3 fun _ _ _=>rfl) Ih ⟨⟨by decide,h_law_cell⟩,⟨by decide,h_law_mix_k11⟩,⟨by decide,h_law_cell⟩,⟨by decide,h_law_mix_k11⟩,trivial⟩
 have h_law_empties:=Ah (lv:=2) (O base) (Ag X G t38 fun _ _ _ _ _ _=>ba3 fun _ _ _=>rfl) Ii ⟨⟨by decide,h_law_row_k11⟩,trivial⟩
 have h_law_block:=Ah (lv:=0) (O base) (Ag X G t39 fun _ _ _ _ _ _=>ba1 fun _=>rfl) Kt trivial
 have h_law_fan_k22:=Ah (lv:=2) (O base) (Ag X G t40 fun _ _ _ _ _ _=>ba2 fun _ _=>rfl) Ij ⟨⟨by decide,h_law_row_k11⟩,trivial⟩
 have h_law_counts_k11:=Ah (lv:=0) (O base) (Ag X G t41 fun _ _ _ _ _ _=>ba2 fun _ _=>rfl) Gw trivial
 have h_law_reach_k12:=Ah (lv:=0) (O base) (Ag X G t42 fun _ _ _ _ _ _=>ba4 fun _ _ _ _=>rfl) GW trivial
 have h_law_cover_k13:=Ah (lv:=1) (O base) (Ag X G t43 fun _ _ _ _ _ _=>ba4 fun _ _ _ _=>rfl) GX ⟨⟨by decide,h_law_counts_k11⟩,trivial⟩
 have h_law_stretches:=Ah (lv:=0) (O base) (Ag X G t44 fun _ _ _ _ _ _=>ba1 fun _=>rfl) GY trivial
 have h_law_many_k75:=Ah (lv:=2) (O base) (Ag X G t45 fun _ _ _ _ _ _=>ba2 fun _ _=>rfl) HC ⟨⟨by decide,h_law_stretches⟩,⟨by decide,h_law_row_k11⟩,trivial⟩
 have h_law_row_paper:=Ah (lv:=2) (O base) (Ag X G t46 fun _ _ _ _ _ _=>ba3 fun _ _ _=>rfl) GZ ⟨⟨by decide,h_law_cover_k13⟩,⟨by decide,h_law_reach_k12⟩,⟨by decide,h_law_block⟩,trivial⟩
 have h_law_others:=Ah (lv:=9) (O base) (Ag X G t47 fun _ _ _ _ _ _=>ba4 fun _ _ _ _=>rfl) IU ⟨⟨by decide,h_law_row_paper⟩,⟨by decide,h_row_shows⟩,⟨by decide,h_row_honest⟩,⟨by decide,h_law_row_paper⟩,⟨by decide,h_row_shows⟩,trivial⟩
 exact ⟨⟨by decide,h_law_empties⟩,⟨by decide,h_law_fan_k22⟩,⟨by decide,h_law_many_k75⟩,⟨by decide,h_row_first⟩,⟨by decide,h_row_paper⟩,⟨by decide,h_row_honest⟩,⟨by decide,h_row_shows⟩,⟨by decide,h_law_others⟩,trivial⟩
end Pu
open PySem PySem.W PyProof.Rows
noncomputable def PySem.W.Fast.tw8309401337509962047:Nat:=0
noncomputable def PySem.W.Fast.tw11401930108069036287:Nat:=0
noncomputable def PySem.W.Fast.tw1932986332707541675:Nat:=0
noncomputable def PySem.W.Fast.tw4484625001273873475:Nat:=0
noncomputable def PySem.W.Fast.tw12839208548030103229:Nat:=0
noncomputable def PySem.W.Fast.tw5601158082999720026:Nat:=0
noncomputable def PySem.W.Fast.tw8864187152441558721:Nat:=0
noncomputable def PySem.W.Fast.tw833947395326058851:Nat:=0
noncomputable def PySem.W.Fast.tw1784333117383977558:Nat:=0
noncomputable def PySem.W.Fast.tw4638495781871927920:Nat:=0
noncomputable def PySem.W.Fast.tw7489021807639167065:Nat:=0
noncomputable def PySem.W.Fast.tw8840536804808872445:Nat:=0
noncomputable def PySem.W.Fast.tw17543946707645682469:Nat:=0
noncomputable def PySem.W.Fast.tw10465727360936701174:Nat:=0
noncomputable def PySem.W.Fast.tw3139785171384946245:Nat:=0
noncomputable def PySem.W.Fast.tw7245015047391139743:Nat:=0
noncomputable def PySem.W.Fast.tw14619995171757773268:Nat:=0
noncomputable def PySem.W.Fast.tw266275703138483875:Nat:=0
noncomputable def PySem.W.Fast.tw8618735849742765535:Nat:=0
noncomputable def PySem.W.Fast.tw5128124343923399878:Nat:=0
noncomputable def PySem.W.Fast.tw15951261227670449276:Nat:=0
noncomputable def PySem.W.Fast.tw10385662720206975337:Nat:=0
noncomputable def PySem.W.Fast.tw14318979685764689898:Nat:=0
noncomputable def PySem.W.Fast.tw7204603187595701162:Nat:=0
noncomputable def PySem.W.Fast.tw15252243137576097135:Nat:=0
noncomputable def PySem.W.Fast.tw13790684509304545968:Nat:=0
noncomputable def PySem.W.Fast.tw5450495182043081243:Nat:=0
noncomputable def PySem.W.Fast.tw13681379428961710687:Nat:=0
noncomputable def PySem.W.Fast.tw5506009776354976964:Nat:=0
noncomputable def PySem.W.Fast.tw9746189968578704164:Nat:=0
noncomputable def PySem.W.Fast.tw17401141709254763939:Nat:=0
noncomputable def PySem.W.Fast.tw15800868301122041828:Nat:=0
noncomputable def PySem.W.Fast.tw14528686040693700234:Nat:=0
noncomputable def PySem.W.Fast.tw7853467195107408890:Nat:=0
noncomputable def PySem.W.Fast.tw6010144567505470800:Nat:=0
noncomputable def PySem.W.Fast.tw12925338078492042301:Nat:=0
noncomputable def PySem.W.Fast.tw8516711712848974237:Nat:=0
noncomputable def PySem.W.Fast.tw4335767703193428318:Nat:=0
noncomputable def PySem.W.Fast.tw14236136071350922346:Nat:=0
noncomputable def PySem.W.Fast.tw1765035644114872065:Nat:=0
noncomputable def PySem.W.Fast.tw13365661923281961407:Nat:=0
noncomputable def PySem.W.Fast.tw9465498115342319626:Nat:=0
noncomputable def PySem.W.Fast.tw14342302755441220772:Nat:=0
noncomputable def PySem.W.Fast.tw7722767175162582590:Nat:=0
noncomputable def PySem.W.Fast.tw1866621744076748714:Nat:=0
noncomputable def PySem.W.Fast.tw6741541728563033027:Nat:=0
noncomputable def PySem.W.Fast.tw1371504458894265834:Nat:=0
noncomputable def PySem.W.Fast.tw16023935352540736485:Nat:=0
noncomputable def PySem.W.Fast.tw9033194797739899518:Nat:=0
noncomputable def PySem.W.Fast.tw13699957700695362276:Nat:=0
noncomputable def PySem.W.Fast.tw16176803489466286690:Nat:=0
noncomputable def PySem.W.Fast.tw16178910622135179405:Nat:=0
noncomputable def PySem.W.Fast.tw7653158449368172973:Nat:=0
noncomputable def PySem.W.Fast.tw14645375312049997208:Nat:=0
noncomputable def PySem.W.Fast.tw5797443649043785681:Nat:=0
noncomputable def PySem.W.Fast.tw243428599765479977:Nat:=0
noncomputable def PySem.W.Fast.tw5445840029546255489:Nat:=0
noncomputable def PySem.W.Fast.tw15206969457313638109:Nat:=0
noncomputable def PySem.W.Fast.tw2052021654232223399:Nat:=0
noncomputable def PySem.W.Fast.tw6082888332750567533:Nat:=0
noncomputable def PySem.W.Fast.tw14897664439362610174:Nat:=0
noncomputable def PySem.W.Fast.tw5001015807026896767:Nat:=0
noncomputable def PySem.W.Fast.tw5399883541305617060:Nat:=0
noncomputable def PySem.W.Fast.tw4780932870516086083:Nat:=0
noncomputable def PySem.W.Fast.tw5245042381200563360:Nat:=0
noncomputable def PySem.W.Fast.tw13341582683294688872:Nat:=0
noncomputable def PySem.W.Fast.tw8451417462435153817:Nat:=0
noncomputable def PySem.W.Fast.tw12193443821787630628:Nat:=0
noncomputable def PySem.W.Fast.tw17199332546719987555:Nat:=0
noncomputable def PySem.W.Fast.tw17041611259268803721:Nat:=0
noncomputable def PySem.W.Fast.tw4437481347639549220:Nat:=0
noncomputable def PySem.W.Fast.tw2564712982232912214:Nat:=0
noncomputable def PySem.W.Fast.tw14351785355819693892:Nat:=0
noncomputable def PySem.W.Fast.tw3569171821140404167:Nat:=0
noncomputable def PySem.W.Fast.tw931869340815302593:Nat:=0
noncomputable def PySem.W.Fast.tw9609841161264208419:Nat:=0
noncomputable def PySem.W.Fast.tw5024889795992135036:Nat:=0
noncomputable def PySem.W.Fast.tw9598981627517881171:Nat:=0
noncomputable def PySem.W.Fast.tw15198287407363740267:Nat:=0
noncomputable def PySem.W.Fast.tw13721951057525642330:Nat:=0
noncomputable def PySem.W.Fast.tw9828547692825418693:Nat:=0
noncomputable def PySem.W.Fast.tw5179524426971866895:Nat:=0
noncomputable def PySem.W.Fast.tw5861701510758719863:Nat:=0
noncomputable def PySem.W.Fast.tw7379734070150765896:Nat:=0
noncomputable def PySem.W.Fast.tw10445264412453893348:Nat:=0
noncomputable def PySem.W.Fast.tw9519978900569263508:Nat:=0
noncomputable def PySem.W.Fast.tw1684760590856461033:Nat:=0
noncomputable def PySem.W.Fast.tw4158317193310174740:Nat:=0
noncomputable def PySem.W.Fast.tw5578024449875865194:Nat:=0
noncomputable def PySem.W.Fast.tw682832963631912676:Nat:=0
noncomputable def PySem.W.Fast.tw7620569381439053408:Nat:=0
noncomputable def PySem.W.Fast.tw12056679730976990184:Nat:=0
noncomputable def PySem.W.Fast.tw1796762033018163201:Nat:=0
noncomputable def PySem.W.Fast.tw3499599838201296841:Nat:=0
noncomputable def PySem.W.Fast.tw17983114407410039033:Nat:=0
noncomputable def PySem.W.Fast.tw14877638664103097811:Nat:=0
noncomputable def PySem.W.Fast.tw8779113004832986036:Nat:=0
noncomputable def PySem.W.Fast.tw11305791938246619243:Nat:=0
noncomputable def PySem.W.Fast.tw16235330742770435895:Nat:=0
noncomputable def PySem.W.Fast.tw9583851145453665209:Nat:=0
noncomputable def PySem.W.Fast.tw3772380750306753182:Nat:=0
noncomputable def PySem.W.Fast.tw7323368081306145255:Nat:=0
noncomputable def PySem.W.Fast.tw4380112925595498993:Nat:=0
noncomputable def PySem.W.Fast.tw14682347890052450464:Nat:=0
noncomputable def PySem.W.Fast.tw2686238222458504735:Nat:=0
noncomputable def PySem.W.Fast.tw12986351631808171378:Nat:=0
noncomputable def PySem.W.Fast.tw9359061652518578560:Nat:=0
noncomputable def PySem.W.Fast.tw15950398597256421386:Nat:=0
noncomputable def PySem.W.Fast.tw2730169972420978671:Nat:=0
noncomputable def PySem.W.Fast.tw1464672428772107580:Nat:=0
noncomputable def PySem.W.Fast.tw5533110955836304835:Nat:=0
noncomputable def PySem.W.Fast.tw6319507191376590206:Nat:=0
noncomputable def PySem.W.Fast.tw7783437563450261519:Nat:=0
noncomputable def PySem.W.Fast.tw16828071549708995484:Nat:=0
noncomputable def PySem.W.Fast.tw4806724275280913958:Nat:=0
noncomputable def PySem.W.Fast.tw4839476115690658900:Nat:=0
noncomputable def PySem.W.Fast.tw17295874070953605122:Nat:=0
noncomputable def PySem.W.Fast.tw8905667496649015678:Nat:=0
noncomputable def PySem.W.Fast.tw14677545404427295588:Nat:=0
noncomputable def PySem.W.Fast.tw8286328681921550187:Nat:=0
noncomputable def PySem.W.Fast.tw12673476609615190451:Nat:=0
noncomputable def PySem.W.Fast.tw14450442951916419469:Nat:=0
noncomputable def PySem.W.Fast.tw3595213649446766946:Nat:=0
noncomputable def PySem.W.Fast.tw3717665937094217756:Nat:=0
noncomputable def PySem.W.Fast.tw9000249451947990450:Nat:=0
noncomputable def PySem.W.Fast.tw4326725120797220660:Nat:=0
noncomputable def PySem.W.Fast.tw4105355826859006720:Nat:=0
noncomputable def PySem.W.Fast.tw10258384134032657715:Nat:=0
noncomputable def PySem.W.Fast.tw2224909881086582155:Nat:=0
noncomputable def PySem.W.Fast.tw10039743960290533431:Nat:=0
noncomputable def PySem.W.Fast.tw13730052133634063843:Nat:=0
noncomputable def PySem.W.Fast.tw8010458074247439954:Nat:=0
noncomputable def PySem.W.Fast.tw5579339391443001043:Nat:=0
noncomputable def PySem.W.Fast.tw2565897991348266471:Nat:=0
noncomputable def PySem.W.Fast.tw1344649160312620001:Nat:=0
noncomputable def PySem.W.Fast.tw11031702265004137050:Nat:=0
noncomputable def PySem.W.Fast.tw12777066219834104991:Nat:=0
noncomputable def PySem.W.Fast.tw8535646660887898675:Nat:=0
noncomputable def PySem.W.Fast.tw8293457883283622011:Nat:=0
noncomputable def PySem.W.Fast.tw8015433953889578404:Nat:=0
noncomputable def PySem.W.Fast.tw14334869667576698629:Nat:=0
noncomputable def PySem.W.Fast.tw4760796332003950454:Nat:=0
noncomputable def PySem.W.Fast.tw2641645771285763899:Nat:=0
noncomputable def PySem.W.Fast.tw8578724221744431290:Nat:=0
noncomputable def PySem.W.Fast.tw5962431616118184974:Nat:=0
noncomputable def PySem.W.Fast.tw17963868768350558804:Nat:=0
noncomputable def PySem.W.Fast.tw432196168244405041:Nat:=0
noncomputable def PySem.W.Fast.tw9831067586297402217:Nat:=0
local macro_rules | `(tactic| simp_arith!)=>`(tactic| (refine' Pu.As ?za ?zl ?zc ?zk; (case za=>k_is); (case zl=>k_is); (case zc=>k_is); (case zk=>k_is)))
local macro_rules | `(tactic| simp_all_arith)=>`(tactic| (refine' Pu.Tb ?zq ?zx1 ?zx2 ?zx3 ?zx4 ?zx5 ?zx6 ?zx7 ?zt1 ?zt2 ?zt3 ?zt4 ?zt5 ?zt6 ?zv; (case zq=>k_is); (case zx1=>k_is); (case zx2=>k_is); (case zx3=>k_is); (case zx4=>k_is); (case zx5=>k_is); (case zx6=>k_is); (case zx7=>k_is); (case zt1=>kit_is); (case zt2=>kit_is); (case zt3=>kit_is); (case zt4=>kit_is); (case zt5=>kit_is); (case zt6=>kit_is); (case zv=>kit_is)))
set_option maxRecDepth 100000 in
set_option maxHeartbeats 0 in
theorem PySem.Challenge.cw_ullage_k78_whole_no_row_ahead_holds : PySem.Challenge.rw_ullage_k78_whole_no_row_ahead.Holds := by
 w_on; o_law; k_head; (case hw=>w_witness2)
 k_fill
 refine Pu.Ua (l:=PySem.Challenge.rw_ullage_k78_whole_no_row_ahead) (k:=11) (x := "_law_script") rfl rfl ⟨rfl,by decide,by decide⟩ (fun w h Y=>PySem.W.kIn_of Y) ?F
 case F =>
  intro w mg fa h KX G hmg
  refine' Pu.Tx KX G hmg ?t0 ?t1 ?t2 ?t3 ?t4 ?t5 ?t6 ?t7 ?t8 ?t9 ?t10 ?t11 ?t12 ?t13 ?t14 ?t15 ?t16 ?t17 ?t18 ?t19 ?t20 ?t21 ?t22 ?t23 ?t24 ?t25 ?t26 ?t27 ?t28 ?t29 ?t30 ?t31 ?t32 ?t33 ?t34 ?t35 ?t36 ?t37 ?t38 ?t39 ?t40 ?t41 ?t42 ?t43 ?t44 ?t45 ?t46 ?t47 ?t48 ?n_len ?n_min ?n_max ?n_abs ?n_int ?n_list ?n_tuple ?n_all ?n_any ?n_sum ?n_sorted ?n_isinstance ?n_str ?n_range ?n_enumerate ?n_zip ?n_reversed ?n_bool ?n_dict ?n_ValueError ?c2 ?c3 ?e2 ?e3 ?y2_2 ?y2_3 ?y3_2 ?y3_3 ?nl Pu.Ru
  (case t0=>simp_arith!)
  (case t1=>simp_arith!)
  (case t2=>simp_arith!)
  (case t3=>simp_arith!)
  (case t4=>simp_arith!)
  (case t5=>simp_arith!)
  (case t6=>simp_arith!)
  (case t7=>simp_arith!)
  (case t8=>simp_arith!)
  (case t9=>simp_arith!)
  (case t10=>simp_arith!)
  (case t11=>simp_arith!)
  (case t12=>simp_arith!)
  (case t13=>simp_arith!)
  (case t14=>simp_arith!)
  (case t15=>simp_arith!)
  (case t16=>simp_arith!)
  (case t17=>simp_arith!)
  (case t18=>simp_arith!)
  (case t19=>simp_arith!)
  (case t20=>simp_arith!)
  (case t21=>simp_arith!)
  (case t22=>simp_arith!)
  (case t23=>simp_arith!)
  (case t24=>simp_arith!)
  (case t25=>simp_arith!)
  (case t26=>simp_arith!)
  (case t27=>simp_arith!)
  (case t28=>simp_arith!)
  (case t29=>simp_arith!)
  (case t30=>simp_arith!)
  (case t31=>simp_arith!)
  (case t32=>simp_arith!)
  (case t33=>simp_arith!)
  (case t34=>simp_arith!)
  (case t35=>simp_arith!)
  (case t36=>simp_arith!)
  (case t37=>simp_arith!)
  (case t38=>simp_arith!)
  (case t39=>simp_arith!)
  (case t40=>simp_arith!)
  (case t41=>simp_arith!)
  (case t42=>simp_arith!)
  (case t43=>simp_arith!)
  (case t44=>simp_arith!)
  (case t45=>simp_arith!)
  (case t46=>simp_arith!)
  (case t47=>simp_arith!)
  (case t48=>simp_arith!)
  (case n_len=>k_is)
  (case n_min=>k_is)
  (case n_max=>k_is)
  (case n_abs=>k_is)
  (case n_int=>k_is)
  (case n_list=>k_is)
  (case n_tuple=>k_is)
  (case n_all=>k_is)
  (case n_any=>k_is)
  (case n_sum=>k_is)
  (case n_sorted=>k_is)
  (case n_isinstance=>k_is)
  (case n_str=>k_is)
  (case n_range=>k_is)
  (case n_enumerate=>k_is)
  (case n_zip=>k_is)
  (case n_reversed=>k_is)
  (case n_bool=>k_is)
  (case n_dict=>k_is)
  (case n_ValueError=>k_is)
  (case c2=>simp_all_arith)
  (case c3=>simp_all_arith)
  (case e2=>k_exc)
  (case e3=>k_exc)
  (case y2_2=>kit_is)
  (case y2_3=>kit_is)
  (case y3_2=>kit_is)
  (case y3_3=>kit_is)
  (case nl=>exact rfl)

import PyProof.Rows.All
import Wide.All
import OpenK.AllK
import Wide.FinOn
import Lean
import PyProof.EqAt
import PyProof.EqKinds
import PyProof.TupleCall
import PyProof.ZipIter
import PyProof.LongRange
import PyProof.StrBlockL
import PyProof.SliceStr
import PyProof.StrWalks
import PyProof.StrLawsIn
import PyProof.StrOps2
import PyProof.DelItemList
import PyProof.ListOps
import PyProof.DictTable
import PyProof.DictKinds
import PyProof.DictStraight
import PySem.Challenge.RW_ullage_k41_first_paper
set_option Elab.async false
set_option linter.all false
set_option maxRecDepth 100000
open List renaming mem_cons_of_mem->aaa,length_map->aab,mem_cons_self->aac,mem_of_getElem?->aae,mem_append->aaf,getElem?_eq_getElem->aah,mem_cons->aai,mem_append_right->aak,size_toArray->aal,replicate->aam,getElem?_map->aan,map_append->aao,getElem?_set_ne->aap,getElem?_eq_some_iff->aaq,length_append->aav,all_eq_true->aaw,range->aax,getElem?_append_right->aay,mem_append_left->aaz,mem_map->aaA,length_set->aaB,nodup_cons->aaC,map_cons->aaF,mem_filterMap->aaH,all_cons->aaI,getD_eq_getElem?_getD->aaJ,getElem?_append_left->aaL,map_map->aaM,map_congr_left->aaN,getElem?_replicate->aaO,append_nil->aaR,eq_nil_iff_forall_not_mem->aaS,nil_append->aaT,mem_singleton->aaU,getElem?_cons_succ->aaY,length_replicate->aa1,length_cons->aa2,cons_append->aa4,getElem?_cons_zero->aa5,append_assoc->aa6,getElem?_set_self->aa8,length->aa9,map_replicate->abb,eq_nil_of_length_eq_zero->abd,filterMap_cons->abe,replicate_succ->abf,length_singleton->abh,drop_eq_getElem_cons->abi,length_take->abj,not_mem_nil->abk,mem_reverse->abm,length_reverse->abo,getElem_of_mem->abp,getElem?_set_self'->abq,flatten_cons->abu,length_range->abv,map_nil->abw,length_drop->aby,mem_of_mem_drop->abz,mem_of_mem_take->abA,map_reverse->abB,map->abC,range_succ->abE,mem_replicate->abH,find?_cons_of_pos->abJ,find?_cons_of_neg->abK,map_take->abL,map_drop->abM,eraseIdxIfInBounds_toArray->abO,foldl_cons->abP,dropLast_subset->abR,filterMap_map->abX,reverse_cons->ab0,mem_or_eq_of_mem_set->ab2,mem_of_find?_eq_some->ab3,map_set->ab6,set->ab8,mem_filter->acd,of_mem_zip->ace,take_of_length_le->aci,range_succ_eq_map->acj,mem_range->acm,max?_eq_some_iff->aco,eraseIdx_sublist->acq,getElem?_of_mem->act,any_cons->acw,getElem?_range->acC,getElem?_take->acF,getElem?_drop->acG,nodup_append->acH,map_dropLast->acI,range'->acJ,foldl->acL
open Nat renaming le_refl->aag,zero_le->aar,lt_of_lt_of_le->aas,le_trans->aaD,ne_of_lt->aaE,zero_add->aaK,lt_irrefl->aaP,min_le_right->aaV,min_le_left->aaZ,le_of_not_lt->aba,pow_pos->abc,mul_comm->abl,pow_succ->abn,min_eq_right->abD,le_of_lt->abF,lt_or_ge->abG,le_of_succ_le_succ->abI,succ_mul->abQ,pow_le_pow_right->abT,div_add_mod->abU,eq_zero_or_pos->abY,ne_of_gt->ab4,lt_succ_self->ab7,pow_zero->ab9,le_mul_of_pos_right->acb,le_antisymm->acf,min_eq_left->acg,le_succ->ach,div_div_eq_div_mul->ack,le_div_iff_mul_le->acr,sub_eq_zero_of_le->acs,mul_le_mul_right->acu,div_eq_of_lt_le->acz,pow_le_pow_left->acA,div_mul_le_self->acB,le_of_eq->acD
open Option renaming isSome_iff_exists->aat,map_eq_some_iff->aau,map_some->aaW,bind_some->aa3,getD->acl,getD_none->acK
open Bool renaming and_eq_true->aaj,false_ne_true->aaQ,false_eq_true->aaX,true_eq_false->abg,not_true->abr,not_false->abx,eq_iff_iff->abV,or_eq_true_iff->abW,true_and->abZ,not_eq_true'->ab1,false_and->acn,and_false->acp,and_self->acv,or_false->acx,and_true->acy
open Int renaming toNat_natCast->aaG,natCast_mul->aa0,emod_nonneg->aa7,emod_lt_of_pos->abt,natCast_zero->abN,zero_add->abS,sub_zero->ab5,natCast_ediv->aca,cast_ofNat_Int->acE
theorem nF {P:Prop} (h:false=true):P:=Bool.noConfusion h
theorem nE {P:Prop} (h:False):P:=h.elim
theorem bS {α β:Type _} {o:Option α} {f:α->Option β} {b:β} (h:o.bind f=some b):∃ a,o=some a/\f a=some b:=Option.bind_eq_some_iff.mp h
section
namespace L2
open PySem PySem.Spec PyProof.Rows
noncomputable abbrev Key:=Sum Int Str
noncomputable def Oe:Key->Value->Bool
 | .inl k,v=>Value.isInt k v
 | .inr x,v=>Value.isStrOf x v
noncomputable def SI (w:World):Key->Int
 | .inl k=>hashInt k
 | .inr x=>hashStr w x
theorem A3:∀ {k:Key} {v:Value},Oe k v=true->(∃ i t,k=Sum.inl i/\v=Value.int i t)\/(∃ x t,k=Sum.inr x/\v=Value.str x t)
 | .inl i,v,h=>by
  obtain ⟨t,e⟩:=Value.isInt_shape (k:=i) (v:=v) h
  exact .inl ⟨i,t,rfl,e⟩
 | .inr x,v,h=>by
  obtain ⟨t,e⟩:=Value.isStrOf_shape (x:=x) (v:=v) h
  exact .inr ⟨x,t,rfl,e⟩
theorem Qf (a b:Int):decide ((Sum.inl a:Key)=Sum.inl b)=(a==b):=by
 by_cases e:a=b
 ·subst e; simp
 ·have h:¬ (Sum.inl a:Key)=Sum.inl b:=fun q=>e (Sum.inl.inj q)
  rw [decide_eq_false h]
  exact (beq_eq_false_iff_ne.mpr e).symm
theorem Qg (a b:Str):decide ((Sum.inr a:Key)=Sum.inr b)=decide (a=b):=by
 by_cases e:a=b
 ·subst e; simp
 ·have h:¬ (Sum.inr a:Key)=Sum.inr b:=fun q=>e (Sum.inr.inj q)
  rw [decide_eq_false h,decide_eq_false e]
theorem Qh (a:Int) (b:Str):decide ((Sum.inl a:Key)=Sum.inr b)=false:=decide_eq_false (fun q=>nomatch q)
theorem Qi (a:Str) (b:Int):decide ((Sum.inr a:Key)=Sum.inl b)=false:=decide_eq_false (fun q=>nomatch q)
noncomputable def G2 (prog:Program) (w:World):PySem.KeyKind prog w Key where
 is:=Oe
 hash:=SI w
 inj:=fun v a b ha hb=>by
  rcases A3 ha with ⟨i,t,rfl,rfl⟩ | ⟨x,t,rfl,rfl⟩
  ·rcases A3 hb with ⟨j,u,rfl,e⟩ | ⟨y,u,rfl,e⟩
   ·injection e with e1 _; rw [e1]
   ·exact nomatch e
  ·rcases A3 hb with ⟨j,u,rfl,e⟩ | ⟨y,u,rfl,e⟩
   ·exact nomatch e
   ·injection e with e1 _; rw [e1]
 byValue:=fun k v h=>by
  rcases A3 h with ⟨i,t,rfl,rfl⟩ | ⟨x,t,rfl,rfl⟩ <;> rfl
 pyHash:=fun hv h=>by
  rcases A3 hv with ⟨i,t,rfl,rfl⟩ | ⟨x,t,rfl,rfl⟩
  ·exact wpAny_pyHash_int h
  ·exact wpAny_pyHash_str h
 eqBool:=fun hu hv h=>by
  rcases A3 hu with ⟨i,t,rfl,rfl⟩ | ⟨x,t,rfl,rfl⟩
  ·rcases A3 hv with ⟨j,u,rfl,rfl⟩ | ⟨y,u,rfl,rfl⟩
   ·rw [Qf] at h; exact wpAny_eqBool_int h
   ·rw [Qh] at h; exact SeqAt.EqAt.int_str i t y u _ _ _ _ h
  ·rcases A3 hv with ⟨j,u,rfl,rfl⟩ | ⟨y,u,rfl,rfl⟩
   ·rw [Qi] at h; exact SeqAt.EqAt.str_int x t j u _ _ _ _ h
   ·rw [Qg] at h; exact wpAny_eqBool_str h
 «strs»:=fun k x t v h=>by
  rcases A3 h with ⟨i,u,rfl,e⟩ | ⟨y,u,rfl,e⟩
  ·exact nomatch e
  ·injection e with e1 _
   subst e1
   cases v <;> rfl
end L2
namespace L2
open PySem PySem.Spec PyProof.Rows
inductive V where
 | non | bl (b:Bool) | int (i:Int) | str (x:Str) | byt (b:Array UInt8) | flt (b:UInt64) | ref (a:Addr) | ty (n:String)
 deriving DecidableEq
noncomputable def RelV:V->Value->Prop
 | .non,u=>u=Value.none
 | .bl b,u=>u=Value.bool b
 | .int i,u=>∃ t,u=Value.int i t
 | .str x,u=>∃ t,u=Value.str x t
 | .byt b,u=>∃ t,u=Value.bytes b t
 | .flt b,u=>∃ t,u=Value.float b t
 | .ref a,u=>u=Value.ref a
 | .ty n,u=>u=Value.type n
noncomputable abbrev Vals:List V->List Value->Prop:=Paired RelV
theorem Vals.length {xs:List V} {us:List Value} (r:Vals xs us):xs.length=us.length:=Paired.length r
theorem Vals.get:∀ {xs:List V} {us:List Value} {i:Nat} {x:V},Vals xs us->xs[i]?=some x->∃ u,us[i]?=some u/\RelV x u
 | _,_,_,_,.nil,e=>by simp at e
 | _,_,0,_,.cons r _,e=>by simp at e; subst e; exact ⟨_,rfl,r⟩
 | _,_,i + 1,x,.cons _ t,e=>by
  obtain ⟨u,h1,h2⟩:=Vals.get (i:=i) (x:=x) t (by simpa using e)
  exact ⟨u,by simpa using h1,h2⟩
theorem Vals.set {x:V} {u:Value} (r:RelV x u):∀ {xs:List V} {us:List Value} (i:Nat),Vals xs us->Vals (xs.set i x) (us.set i u)
 | _,_,_,.nil=>.nil
 | _,_,0,.cons _ t=>.cons r t
 | _,_,i + 1,.cons q t=>.cons q (Vals.set r i t)
theorem Vals.append:∀ {xs ys:List V} {us ws:List Value},Vals xs us->Vals ys ws->Vals (xs ++ ys) (us ++ ws)
 | _,_,_,_,.nil,s=>s
 | _,_,_,_,.cons r t,s=>.cons r (Vals.append t s)
theorem Vals.take:∀ {xs:List V} {us:List Value} (n:Nat),Vals xs us->Vals (xs.take n) (us.take n)
 | _,_,0,_=>.nil
 | _,_,_ + 1,.nil=>.nil
 | _,_,n + 1,.cons r t=>.cons r (Vals.take n t)
theorem Vals.drop:∀ {xs:List V} {us:List Value} (n:Nat),Vals xs us->Vals (xs.drop n) (us.drop n)
 | _,_,0,r=>r
 | _,_,_ + 1,.nil=>.nil
 | _,_,n + 1,.cons _ t=>Vals.drop n t
noncomputable def M7:Option V->Option Value->Prop
 | some v,some u=>RelV v u
 | none,none=>True
 | _,_=>False
noncomputable def KV {κ:Type}:List (κ × V)->List (κ × Value)->Prop:=Paired fun (p:κ × V) (q:κ × Value)=>p.1=q.1/\RelV p.2 q.2
noncomputable def kV:Key->V
 | .inl i=>.int i
 | .inr x=>.str x
inductive HO where
  | lst (xs:List V)
  | tup (xs:List V)
  | dK (kvs:List (Key × V)) | dT (kvs:List (List Key × V))
  | set (S:Int->Bool) (n:Nat)
  | ins (C dx:Addr) (fs:List (Str × V))
  | own (x:Addr)
  | xd (fs:List (Str × V))
  | met (f x:Addr)
  | rng (lo hi:Int)
  | frz (o:Obj) (u:HO)
  | tbl (ps:Array Value)
  | ext (φ:Heap->Prop)
noncomputable abbrev Hp:=Addr->Option HO
noncomputable def upd (H:Hp) (a:Addr) (o:HO):Hp:=fun b=>if b=a then some o else H b
theorem AW {H:Hp} {a:Addr} {o:HO}:upd H a o a=some o:=by unfold upd; rw [if_pos rfl]
theorem Ar {H:Hp} {a b:Addr} {o:HO} (h:b ≠ a):upd H a o b=H b:=by unfold upd; rw [if_neg h]
theorem AN {H:Hp} {a b:Addr} {o:HO} (h:H a=some o) (h':H b=none):a ≠ b:=by
 intro e; subst e; rw [h] at h'; cases h'
section
variable (P:Program) (w:World)
noncomputable def ObjOk (H:Hp) (h:Heap) (a:Addr):HO->Prop
 | .lst xs=>xs.length<=sizeLine/\∃ (its:List Value) (n:Nat),Vals xs its/\h.get? a=some { cls:=.type "list",data:=.seq its.toArray n }
 | .tup xs=>xs.length<=sizeLine/\∃ its:List Value,Vals xs its/\IsTup h a its.toArray
 | .dK kvs=>kvs.length<=sizeLine/\(a==sysModules)=false/\∃ vs,KV kvs vs/\h.DictOf (G2 P w) a vs
 | .dT kvs=>kvs.length<=sizeLine/\(a==sysModules)=false/\∃ xs:List (List Key × Addr × Value),
   Paired (fun (p:List Key × V) (q:List Key × Addr × Value)=>p.1=q.1/\H q.2.1=some (.tup (p.1.map kV))/\RelV p.2 q.2.2) kvs xs /\
   ∃ o es ep,h.get? a=some o/\o.ExactDict/\o.data=.dict es ep/\es.toList=xs.map (entryOfKey (tupleKind (G2 P w)))/\(xs.map (·.1)).Nodup
 | .set S n=>h.SetOf (intKind P w) a S n
 | .ins C dx fs=>H dx=some (.own a)/\fs.length<=1000/\dx ≠ a/\h.get? a=some (PySem.W.instObj C dx) /\
   ∃ mA,h.Ns1 dx mA/\(∀ f,M7 (fs.lookup f) (mA f))/\PySem.Within mA (fs.map (·.1))
 | .own _=>∃ o,h.get? a=some o
 | .xd fs=>∃ mA,h.Ns1 a mA/\∀ f,M7 (fs.lookup f) (mA f)
 | .rng lo hi=>∃ t u v,h.get? a=some { cls:=.type "range",data:=.fields #[.int lo t,.int hi u,.int 1 v] }
 | .frz o u=>h.get? a=some o/\ObjOk H h a u
 | .tbl ps=>h.get? a=some { cls:=.none,data:=.fields ps }
 | .met f x=>h.get? a=some (PySem.W.methodObj (.ref f) (.ref x))
 | .ext φ=>φ h/\(∃ o,h.get? a=some o)/\∀ h1 h2:Heap,φ h1->(∀ o,h1.get? a=some o->h2.get? a=some o)->φ h2
noncomputable def HOk (H:Hp) (h:Heap):Prop:=∀ a o,H a=some o->ObjOk P w H h a o
end
section
variable {P:Program} {w:World} {H H':Hp} {h h':Heap} {a:Addr} {o:HO}
theorem ObjOk.lt (x:ObjOk P w H h a o):a < h.objs.size:=by
 cases o with
 | lst xs=>obtain ⟨_,_,_,_,e⟩:=x; exact Heap.lt_size e
 | tup xs=>obtain ⟨_,_,_,p⟩:=x; exact p.lt
 | dK kvs=>obtain ⟨_,_,_,_,o,_,_,e,_⟩:=x; exact Heap.lt_size e
 | dT kvs=>obtain ⟨_,_,_,_,o,_,_,e,_⟩:=x; exact Heap.lt_size e
 | set S n=>obtain ⟨o,_,_,_,e,_⟩:=x; exact Heap.lt_size e
 | ins C dx fs=>obtain ⟨_,_,_,e,_⟩:=x; exact Heap.lt_size e
 | own y=>obtain ⟨_,e⟩:=x; exact Heap.lt_size e
 | xd fs=>obtain ⟨_,⟨_,_,_,e,_⟩,_⟩:=x; exact Heap.lt_size e
 | rng lo hi=>obtain ⟨_,_,_,e⟩:=x; exact Heap.lt_size e
 | frz ob u=>obtain ⟨e,_⟩:=x; exact Heap.lt_size e
 | tbl ps=>exact Heap.lt_size (show h.get? a=some _ from x)
 | met f y=>exact Heap.lt_size (show h.get? a=some _ from x)
 | ext φ=>obtain ⟨_,⟨_,e⟩,_⟩:=x; exact Heap.lt_size e
theorem Paired.mapP {α β:Type} {F G:α->β->Prop}:∀ {l₁:List α} {l₂:List β},Paired F l₁ l₂->(∀ a b,F a b->G a b)->Paired G l₁ l₂
 | _,_,.nil,_=>.nil
 | _,_,.cons r t,f=>.cons (f _ _ r) (Paired.mapP t f)
theorem ObjOk.stay (x:ObjOk P w H h a o) (k:∀ b u,(b=a\/H b=some (.own a))->h.get? b=some u->h'.get? b=some u)
  (ho:∀ b,H b=some (.own a)->H' b=some (.own a)) (ht:∀ b xs,H b=some (.tup xs)->H' b=some (.tup xs)):ObjOk P w H' h' a o:=by
 induction o with
 | lst xs=>obtain ⟨z,its,n,r,e⟩:=x; exact ⟨z,its,n,r,k _ _ (.inl rfl) e⟩
 | tup xs=>obtain ⟨z,its,r,ob,e,c⟩:=x; exact ⟨z,its,r,ob,k _ _ (.inl rfl) e,c⟩
 | dK kvs=>obtain ⟨z,y,vs,r,ob,es,ep,e,c⟩:=x; exact ⟨z,y,vs,r,ob,es,ep,k _ _ (.inl rfl) e,c⟩
 | dT kvs =>
  obtain ⟨z,y,xs,r,ob,es,ep,e,c⟩:=x
  exact ⟨z,y,xs,Paired.mapP r fun p q z=>⟨z.1,ht _ _ z.2.1,z.2.2⟩,ob,es,ep,k _ _ (.inl rfl) e,c⟩
 | set S n=>obtain ⟨ob,es,ep,t,e,c⟩:=x; exact ⟨ob,es,ep,t,k _ _ (.inl rfl) e,c⟩
 | ins C dx fs =>
  obtain ⟨d,z,ne,e,mA,⟨od,es,ep,e2,c⟩,r⟩:=x
  exact ⟨ho _ d,z,ne,k _ _ (.inl rfl) e,mA,⟨od,es,ep,k _ _ (.inr d) e2,c⟩,r⟩
 | own y=>obtain ⟨ob,e⟩:=x; exact ⟨ob,k _ _ (.inl rfl) e⟩
 | xd fs=>obtain ⟨mA,⟨od,es,ep,e,c⟩,r⟩:=x; exact ⟨mA,⟨od,es,ep,k _ _ (.inl rfl) e,c⟩,r⟩
 | rng lo hi=>obtain ⟨t,u,v,e⟩:=x; exact ⟨t,u,v,k _ _ (.inl rfl) e⟩
 | frz ob u ih=>obtain ⟨e,q⟩:=x; exact ⟨k _ _ (.inl rfl) e,ih q⟩
 | tbl ps =>
  have e:h.get? a=some { cls:=.none,data:=.fields ps }:=x
  show h'.get? a=some { cls:=.none,data:=.fields ps }
  exact k a _ (.inl rfl) e
 | met f y =>
  have e:h.get? a=some (PySem.W.methodObj (.ref f) (.ref y)):=x
  show h'.get? a=some (PySem.W.methodObj (.ref f) (.ref y))
  exact k a _ (.inl rfl) e
 | ext φ=>obtain ⟨p,⟨o,e⟩,st⟩:=x; exact ⟨st _ _ p fun o q=>k _ _ (.inl rfl) q,⟨o,k _ _ (.inl rfl) e⟩,st⟩
theorem HOk.lt (x:HOk P w H h) (e:H a=some o):a < h.objs.size:=(x a o e).lt
theorem HOk.fresh (x:HOk P w H h) (e:h.objs.size<=a):H a=none:=by
 cases q:H a with
 | none=>rfl
 | some u=>exact absurd (aas (x.lt q) e) (aaP _)
theorem HOk.kept (x:HOk P w H h) (k:∀ b u,h.get? b=some u->h'.get? b=some u):HOk P w H h':=fun a o e =>
 (x a o e).stay (fun b u _ q=>k b u q) (fun _ q=>q) fun _ _ q=>q
theorem HOk.laid (x:HOk P w H h) (k:∀ b u,h.get? b=some u->h'.get? b=some u) (hp:h.objs.size<=a) (new:ObjOk P w (upd H a o) h' a o):HOk P w (upd H a o) h':=fun b u e=>by
 have hn:=x.fresh hp
 by_cases hb:b=a
 ·subst hb; rw [AW] at e; cases e; exact new
 ·rw [Ar hb] at e
  exact (x b u e).stay (fun c v _ q=>k c v q) (fun c q=>by rw [Ar (AN q hn)]; exact q) fun c xs q=>by rw [Ar (AN q hn)]; exact q
end
noncomputable def Rd (H:Hp) (a:Addr) (u:HO):Prop:=H a=some u\/∃ o,H a=some (.frz o u)
theorem Rd.ok {P:Program} {w:World} {H:Hp} {h:Heap} {a:Addr} {u:HO} (r:Rd H a u) (x:HOk P w H h):ObjOk P w H h a u:=by
 rcases r with r | ⟨o,r⟩
 ·exact x a u r
 ·obtain ⟨_,q⟩:=x a _ r
  exact q
noncomputable def Mut:Option HO->Prop
 | some (.lst _)=>True
 | some (.dK _)=>True
 | some (.dT _)=>True
 | some (.set _ _)=>True
 | some (.ins _ _ _)=>True
 | some (.ext _)=>True
 | _=>False
section
variable {P:Program} {w:World} {H:Hp} {h h':Heap} {x e:Addr} {o':HO}
theorem HOk.write (ok:HOk P w H h) (mu:Mut (H x)) (he:e=x\/H e=some (.own x)) (k:∀ b u,b ≠ e->h.get? b=some u->h'.get? b=some u) (heo:∃ u,h'.get? e=some u)
  (new:ObjOk P w (upd H x o') h' x o'):HOk P w (upd H x o') h':=fun b u q=>by
 have nown:∀ c y,H c=some (.own y)->c ≠ x:=fun c y r z=>by subst z; rw [r] at mu; exact mu
 have ntup:∀ c xs,H c=some (.tup xs)->c ≠ x:=fun c xs r z=>by subst z; rw [r] at mu; exact mu
 by_cases hb:b=x
 ·subst hb; rw [AW] at q; cases q; exact new
 ·rw [Ar hb] at q
  by_cases hbe:b=e
  ·have q':H b=some (.own x):=by
    rcases he with z | z
    ·exact absurd (hbe.trans z) hb
    ·rw [hbe]; exact z
   rw [q] at q'; cases q'
   obtain ⟨v,hv⟩:=heo
   exact ⟨v,by rw [hbe]; exact hv⟩
  ·refine (ok b u q).stay (fun c v hc r=>k c v ?_ r) (fun c r=>by rw [Ar (nown c b r)]; exact r) fun c xs r=>by rw [Ar (ntup c xs r)]; exact r
   rcases hc with rfl | hc
   ·exact hbe
   ·rintro rfl
    rcases he with z | z
    ·exact nown c b hc z
    ·rw [hc] at z; cases z; exact hb rfl
end
structure Un (fs ex:List Addr) (H H':Hp) (h h':Heap):Prop where
 keep:∀ b o,h.get? b=some o->H b=none->b ∉ fs->b ∉ ex->h'.get? b=some o
 slot:∀ b o,h.get? b=some o->H b=none->b ∈ fs->b ∉ ex->∃ sl,h'.get? b=some { o with slots:=sl }
 free:∀ b o,h.get? b=some o->H b=none->b ∉ ex->H' b=none
 there:∀ b o,h.get? b=some o->b ∉ ex->∃ o',h'.get? b=some o'
 tups:∀ b xs,H b=some (.tup xs)->H' b=some (.tup xs)
 frzs:∀ b o u,H b=some (.frz o u)->H' b=some (.frz o u)
 tbls:∀ b ps,H b=some (.tbl ps)->∃ more,H' b=some (.tbl (ps ++ more))
section
variable {fs fs' ex ex':List Addr} {H H1 H2:Hp} {h h1 h2 h':Heap} {a x e:Addr} {o:HO}
theorem Un.any (u:Un fs ex H H1 h h1) {b:Addr} {ob:Obj} (q:h.get? b=some ob) (n:H b=none) (hx:b ∉ ex):∃ sl,h1.get? b=some { ob with slots:=sl }:=by
 by_cases hb:b ∈ fs
 ·exact u.slot b ob q n hb hx
 ·exact ⟨ob.slots,u.keep b ob q n hb hx⟩
theorem Un.kept (k:∀ b u,h.get? b=some u->h'.get? b=some u):Un fs ex H H h h' :=
 ⟨fun b ob q _ _ _=>k b ob q,fun b ob q _ _ _=>⟨ob.slots,k b ob q⟩,fun _ _ _ n _=>n,fun b ob q _=>⟨ob,k b ob q⟩,fun _ _ q=>q,fun _ _ _ q=>q,fun _ ps q=>⟨#[],by rw [q]; simp⟩⟩
theorem Un.refl:Un fs ex H H h h:=Un.kept fun _ _ q=>q
theorem Un.laid (k:∀ b u,h.get? b=some u->h'.get? b=some u) (hp:h.objs.size<=a) (hn:H a=none):Un fs ex H (upd H a o) h h' where
 keep:=fun b u q _ _ _=>k b u q
 slot:=fun b u q _ _ _=>⟨u.slots,k b u q⟩
 free:=fun b u q n _=>by rw [Ar (aaE (aas (Heap.lt_size q) hp))]; exact n
 there:=fun b u q _=>⟨u,k b u q⟩
 tups:=fun b xs q=>by rw [Ar (AN q hn)]; exact q
 frzs:=fun b u xs q=>by rw [Ar (AN q hn)]; exact q
 tbls:=fun b ps q=>⟨#[],by rw [Ar (AN q hn),q]; simp⟩
theorem Un.write (mu:Mut (H x)) (he:e=x\/H e=some (.own x)) (k:∀ b u,b ≠ e->h.get? b=some u->h'.get? b=some u) (heo:∃ u,h'.get? e=some u):Un fs ex H (upd H x o) h h':=by
 have hx:∀ b,H b=none->b ≠ x:=fun b n z=>by subst z; rw [n] at mu; exact mu
 have hb:∀ b,H b=none->b ≠ e:=fun b n z=>by
  subst z
  rcases he with r | r
  ·exact hx b n r
  ·rw [n] at r; cases r
 have hm:∀ b u,H b=some u->¬ Mut (some u)->b ≠ x:=fun b u q nm z=>by subst z; rw [q] at mu; exact nm mu
 refine ⟨fun b u q n _ _=>k b u (hb b n) q,fun b u q n _ _=>⟨u.slots,k b u (hb b n) q⟩,fun b u q n _=>by rw [Ar (hx b n)]; exact n,fun b u q _=>?_,
  fun b xs q=>by rw [Ar (hm b _ q fun z=>z)]; exact q,fun b u xs q=>by rw [Ar (hm b _ q fun z=>z)]; exact q,fun b ps q=>⟨#[],by rw [Ar (hm b _ q fun z=>z),q]; simp⟩⟩
 by_cases hbe:b=e
 ·subst hbe; exact heo
 ·exact ⟨u,k b u hbe q⟩
end
noncomputable def trk (h:Heap) (H:Hp):List Addr:=(aax h.objs.size).filter fun a=>(H a).isSome
noncomputable def EQ (h:Heap) (H:Hp):Heap:=PySem.W.hideAll h (trk h H)
theorem LH (h:Heap) (H:Hp):(EQ h H).objs.size=h.objs.size:=PySem.W.hideAll_size _ _
theorem M8 {h:Heap} {H:Hp} {b:Addr} {o:Obj} (e:h.get? b=some o) (n:H b=none):(EQ h H).get? b=some o :=
 PySem.W.hideAll_get _ e fun hm=>by
  have q:(H b).isSome=true:=(acd.mp hm).2
  rw [n] at q; simp at q
theorem Oz {h:Heap} {H:Hp} {b:Addr} {o:Obj} (e:(EQ h H).get? b=some o):h.get? b=some o/\H b=none:=by
 have e':h.get? b=some o:=PySem.W.of_hideAll (trk h H) e
 refine ⟨e',?_⟩
 cases q:H b with
 | none=>rfl
 | some x =>
  have hm:b ∈ trk h H:=acd.mpr ⟨acm.mpr (Heap.lt_size e'),by simp [q]⟩
  have z:(EQ h H).get? b=none:=PySem.W.hideAll_none (trk h H) hm
  rw [z] at e; cases e
structure Mod (K:PySem.W.Frag) (mg:Str->Option Value) (base:Heap):Prop where
 kin:K.In base
 glob:base.Ns mainGlobals mg
 blt:∃ mb,base.Ns builtinsNs mb/\∀ x:Str,x ≠ "__name__" -> mb x=bootBuiltins x
 nolimit:base.NoLimit
structure Cx where
 prog:Program
 w:World
 K:PySem.W.Frag
 mg:Str->Option Value
 base:Heap
 A:Around
 N:List Str
 s₀:Shared
 H₀:Hp
 env:Env
 outer:List Env
 stack:List Env
 ex:List Addr
 fn:Str->Bool
 calm:Bool
 pn:List (Addr × Obj)
 xe:Value->Shared->Prop
noncomputable def frs (l:List Env):List Addr:=l.filterMap (·.frame)
noncomputable abbrev Cx.fs (X:Cx):List Addr:=frs X.outer
noncomputable def Vis (sc:Scope) (x:Str):Prop:=sc.names.lookup x=some .local\/sc.names.lookup x=some .cell\/sc.names.lookup x=some .free
noncomputable def Loc (sc:Scope) (x:Str):Prop:=sc.names.lookup x=some .local\/sc.names.lookup x=some .cell
noncomputable def SJ (env:Env) (h:Heap) (m:Str->Option Value) (x:Str) (u:Value):Prop :=
 (env.kindOf x=some .local/\m x=some u)\/((env.kindOf x=some .cell\/env.kindOf x=some .free)/\∃ c,env.cells.lookup x=some c/\h.IsCell c (some u))
structure Cx.Ok (X:Cx):Prop where
 mod:Mod X.K X.mg X.base
 kind:X.env.scope.kind=.function
 glob:X.env.globals=mainGlobals
 blt:X.env.builtins=builtinsNs
 above:X.s₀.heap.objs.size<=X.env.locals
 inj:∀ x y c,X.env.cells.lookup x=some c->X.env.cells.lookup y=some c->x=y
 has:∀ x,(X.env.kindOf x=some .cell\/X.env.kindOf x=some .free)->∃ c,X.env.cells.lookup x=some c
 cab:∀ x c,X.fn x=true->X.env.cells.lookup x=some c->X.s₀.heap.objs.size<=c
 hd:X.calm=true->X.A.handled=none
 frames:X.A.frames=some X.stack
 stk:X.stack=X.outer\/(X.stack=X.env :: X.outer/\X.env.frame=some X.env.locals)
 exf:∀ b ∈ X.ex,b ≠ X.env.locals/\∀ x c,X.env.cells.lookup x=some c->c ≠ b
 bs:∀ b o,X.base.get? b=some o->X.s₀.heap.get? b=some o/\X.H₀ b=none
 bsz:X.base.objs.size<=X.s₀.heap.objs.size
 noex:∀ b o,X.base.get? b=some o->b ∉ X.ex
 exfs:∀ b ∈ X.ex,b ∉ X.fs
 funs:X.s₀.heap.FunFrames X.base X.outer
 frf:∀ b ∈ X.fs,X.H₀ b=none
structure Inv (X:Cx) (pins:List (Addr × Obj)) (σ:List (Option V)) (H:Hp) (s:Shared):Prop where
 ok:X.Ok
 os:s.os=X.s₀.os
 bare:AllBare s.gens
 base:Un X.fs X.ex X.H₀ H X.s₀.heap s.heap
 loc:∃ m,s.heap.Ns X.env.locals m/\∀ (i:Nat) (x:Str) (v:V),X.N[i]?=some x->σ[i]?=some (some v)->Vis X.env.scope x->∃ u,RelV v u/\SJ X.env s.heap m x u
 cell:∀ x c,X.env.cells.lookup x=some c->∃ v,s.heap.IsCell c v
 free:H X.env.locals=none
 freeC:∀ x c,X.env.cells.lookup x=some c->H c=none
 pin:∀ p ∈ X.pn ++ pins,s.heap.get? p.1=some p.2/\H p.1=none/\p.1 ≠ X.env.locals/\p.1 ∉ X.fs/\∀ v,p.2.data ≠ .cell v
 hok:HOk X.prog X.w H s.heap
 len:σ.length=X.N.length
section
variable {X:Cx} {pins:List (Addr × Obj)} {σ:List (Option V)} {H H':Hp} {s:Shared} {h':Heap}
theorem Cx.Ok.nofr (ok:X.Ok) {b:Addr} {o:Obj} (e:X.base.get? b=some o):b ∉ X.fs:=fun hb=>by
 have:=(ok.funs.mem hb).1
 rw [e] at this; cases this
theorem Inv.bs (I:Inv X pins σ H s):∀ b o,X.base.get? b=some o->s.heap.get? b=some o/\H b=none:=fun b o e =>
 ⟨I.base.keep b o (I.ok.bs b o e).1 (I.ok.bs b o e).2 (I.ok.nofr e) (I.ok.noex b o e),I.base.free b o (I.ok.bs b o e).1 (I.ok.bs b o e).2 (I.ok.noex b o e)⟩
theorem Inv.bk (I:Inv X pins σ H s):∀ b o,X.base.get? b=some o->s.heap.get? b=some o:=fun b o e=>(I.bs b o e).1
theorem Inv.mod (I:Inv X pins σ H s):Mod X.K X.mg X.base:=I.ok.mod
theorem Inv.kIn (I:Inv X pins σ H s):X.K.In s.heap:=I.ok.mod.kin.keeps I.bk
theorem Inv.fr (I:Inv X pins σ H s):∃ m,Fr X.base X.env.locals s.heap m :=
 let ⟨m,hn,_⟩:=I.loc
 ⟨m,hn,I.bk,aaD I.ok.bsz I.ok.above⟩
theorem Inv.lt (I:Inv X pins σ H s):X.env.locals < s.heap.objs.size:=let ⟨_,hn,_⟩:=I.loc; hn.lt
theorem Inv.sz (I:Inv X pins σ H s):X.s₀.heap.objs.size<=s.heap.objs.size:=aaD I.ok.above (abF I.lt)
theorem Inv.nofs (I:Inv X pins σ H s) {a:Addr} (h:s.heap.objs.size<=a):a ∉ X.fs:=fun hb=>by
 obtain ⟨_,o,ho,_⟩:=I.ok.funs.mem hb
 exact absurd (aas (Heap.lt_size ho) (aaD I.sz h)) (aaP _)
theorem Inv.cne (I:Inv X pins σ H s):∀ x c,X.env.cells.lookup x=some c->c ≠ X.env.locals:=fun x c e z=>by
 obtain ⟨v,o,ho,hd⟩:=I.cell x c e
 obtain ⟨m,⟨o',es,ep,ho',hd',_⟩,_⟩:=I.loc
 rw [z,ho'] at ho; cases ho; rw [hd'] at hd; cases hd
theorem Inv.funs (I:Inv X pins σ H s):s.heap.FunFrames X.base X.outer:=by
 have all:∀ (l:List Env),(∀ b ∈ frs l,b ∈ X.fs)->X.s₀.heap.FunFrames X.base l->s.heap.FunFrames X.base l:=by
  intro l
  induction l with
  | nil=>intro _ _; trivial
  | cons env r ih =>
   intro hs hl
   obtain ⟨hk,⟨L,o,hf,hn,ho,hd⟩,hr⟩:=hl
   have hL:L ∈ X.fs:=hs L (by unfold frs; rw [abe,hf]; exact aac)
   obtain ⟨sl,e⟩:=I.base.slot L o ho (I.ok.frf L hL) hL fun z=>I.ok.exfs L z hL
   exact ⟨hk,⟨L,_,hf,hn,e,hd⟩,ih (fun b hb=>hs b (by unfold frs; rw [abe,hf]; exact aaa _ hb)) hr⟩
 exact all X.outer (fun _ hb=>hb) I.ok.funs
theorem Inv.stack (I:Inv X pins σ H s):s.heap.FunFrames X.base X.stack:=by
 rcases I.ok.stk with e | ⟨e,hf⟩
 ·rw [e]; exact I.funs
 ·rw [e]
  obtain ⟨m,hn,_⟩:=I.loc
  refine .cons (by rw [I.ok.kind]; decide) hf hn ?_ I.funs
  exact Heap.get?_none_of_le (aaD I.ok.bsz I.ok.above)
theorem Inv.stkSub (I:Inv X pins σ H s):∀ b ∈ frs X.stack,b ∈ X.env.locals :: X.fs:=fun b hb=>by
 rcases I.ok.stk with e | ⟨e,hf⟩
 ·rw [e] at hb; exact aaa _ hb
 ·rw [e] at hb
  unfold frs at hb
  rw [abe,hf] at hb
  exact hb
theorem Inv.stkFree (I:Inv X pins σ H s):∀ b ∈ frs X.stack,H b=none:=fun b hb=>by
 rcases aai.mp (I.stkSub b hb) with e | hb
 ·rw [e]; exact I.free
 ·obtain ⟨_,o,ho,_⟩:=I.ok.funs.mem hb
  exact I.base.free b o ho (I.ok.frf b hb) fun z=>I.ok.exfs b z hb
theorem Inv.step {g':Array GenState} {t':Nat} {d':Drawn} {ch:List Addr} (I:Inv X pins σ H s)
  (hch:∀ b ∈ ch,(b ∈ X.ex\/X.s₀.heap.objs.size<=b)/\b ≠ X.env.locals/\(∀ x c,X.env.cells.lookup x=some c->c ≠ b)/\∀ p ∈ X.pn ++ pins,p.1 ≠ b)
  (keep:∀ b o,b ≠ X.env.locals->b ∉ X.fs->b ∉ ch->s.heap.get? b=some o->H b=none->h'.get? b=some o)
  (slot:∀ b o,b ≠ X.env.locals->b ∈ X.fs->b ∉ ch->s.heap.get? b=some o->H b=none->∃ sl,h'.get? b=some { o with slots:=sl }) (free:∀ b o,b ∉ ch->s.heap.get? b=some o->H b=none->H' b=none)
  (there:∀ b o,b ∉ ch->s.heap.get? b=some o->∃ o',h'.get? b=some o')
  (tups:∀ b xs,H b=some (.tup xs)->H' b=some (.tup xs)) (frzs:∀ b o u,H b=some (.frz o u)->H' b=some (.frz o u)) (tbls:∀ b ps,H b=some (.tbl ps)->∃ more,H' b=some (.tbl (ps ++ more)))
  (ns:∀ m,s.heap.Ns X.env.locals m->h'.Ns X.env.locals m) (hok:HOk X.prog X.w H' h') (hg:AllBare g') :
  Inv X pins σ H' { s with heap:=h',gens:=g',drawn:=d',toks:=t' }:=by
 have neL:∀ b o,X.s₀.heap.get? b=some o->b ≠ X.env.locals:=fun b o e=>aaE (aas (Heap.lt_size e) I.ok.above)
 have neC:∀ b o,X.s₀.heap.get? b=some o->b ∉ X.ex->b ∉ ch:=fun b o e hx hb=>by
  rcases (hch b hb).1 with z | z
  ·exact hx z
  ·exact absurd (aas (Heap.lt_size e) z) (aaP _)
 have cellK:∀ x c,X.env.cells.lookup x=some c->∀ v,s.heap.IsCell c v->h'.IsCell c v:=fun x c e v ⟨o,ho,hd⟩=>by
  have nch:c ∉ ch:=fun z=>(hch c z).2.2.1 x c e rfl
  by_cases hc:c ∈ X.fs
  ·obtain ⟨sl,q⟩:=slot c o (I.cne x c e) hc nch ho (I.freeC x c e)
   exact ⟨_,q,hd⟩
  ·exact ⟨o,keep c o (I.cne x c e) hc nch ho (I.freeC x c e),hd⟩
 refine ⟨I.ok,I.os,hg,⟨fun b o e n hb hx=>?_,fun b o e n hb hx=>?_,fun b o e n hx=>?_,fun b o e hx=>?_,fun b xs e=>tups b xs (I.base.tups b xs e),fun b o xs e=>frzs b o xs (I.base.frzs b o xs e),fun b ps e=>?_⟩,?_,fun x c e=>?_,?_,fun x c e=>?_,fun p hp=>?_,hok,I.len⟩
 ·exact keep b o (neL b o e) hb (neC b o e hx) (I.base.keep b o e n hb hx) (I.base.free b o e n hx)
 ·obtain ⟨sl,e1⟩:=I.base.slot b o e n hb hx
  obtain ⟨sl',e2⟩:=slot b _ (neL b o e) hb (neC b o e hx) e1 (I.base.free b o e n hx)
  exact ⟨sl',e2⟩
 ·obtain ⟨o',e1⟩:=I.base.there b o e hx
  exact free b o' (neC b o e hx) e1 (I.base.free b o e n hx)
 ·obtain ⟨o',e1⟩:=I.base.there b o e hx
  exact there b o' (neC b o e hx) e1
 ·obtain ⟨m1,e1⟩:=I.base.tbls b ps e
  obtain ⟨m2,e2⟩:=tbls b _ e1
  exact ⟨m1 ++ m2,by rw [e2,Array.append_assoc]⟩
 ·obtain ⟨m,hn,hl⟩:=I.loc
  refine ⟨m,ns m hn,fun i x v e1 e2 e3=>?_⟩
  obtain ⟨u,r,l⟩:=hl i x v e1 e2 e3
  refine ⟨u,r,?_⟩
  rcases l with l | ⟨k,c,e,z⟩
  ·exact .inl l
  ·exact .inr ⟨k,c,e,cellK x c e _ z⟩
 ·obtain ⟨v,z⟩:=I.cell x c e
  exact ⟨v,cellK x c e v z⟩
 ·obtain ⟨m,⟨o,_,_,ho,_⟩,_⟩:=I.loc
  exact free _ o (fun z=>(hch _ z).2.1 rfl) ho I.free
 ·obtain ⟨v,o,ho,hd⟩:=I.cell x c e
  exact free c o (fun z=>(hch c z).2.2.1 x c e rfl) ho (I.freeC x c e)
 ·obtain ⟨e,n,ne,nf,d⟩:=I.pin p hp
  have nch:p.1 ∉ ch:=fun z=>(hch p.1 z).2.2.2 p hp rfl
  exact ⟨keep p.1 p.2 ne nf nch e n,free p.1 p.2 nch e n,ne,nf,d⟩
theorem Inv.un {t':Nat} (I:Inv X pins σ H s) (u:Un X.fs [] H H' s.heap h') (hok:HOk X.prog X.w H' h'):Inv X pins σ H' { s with heap:=h',toks:=t' }:=by
 obtain ⟨m,⟨o,es,ep,ho,r⟩,_⟩:=id I.loc
 obtain ⟨sl,hL⟩:=u.any ho I.free (by simp)
 exact I.step (g':=s.gens) (d':=s.drawn) (ch:=[]) (fun _ z=>nomatch z) (fun b o _ hb _ e n=>u.keep b o e n hb (by simp)) (fun b o _ hb _ e n=>u.slot b o e n hb (by simp)) (fun b o _ e n=>u.free b o e n (by simp)) (fun b o _ e=>u.there b o e (by simp)) u.tups u.frzs u.tbls (fun m' hm=>by
  obtain ⟨o',es',ep',ho',r'⟩:=hm
  rw [ho] at ho'; cases ho'
  exact ⟨_,es',ep',hL,r'⟩) hok I.bare
theorem Inv.call {g':Array GenState} {t':Nat} {d':Drawn} {ch:List Addr} (I:Inv X pins σ H s) (u:Un (frs X.stack) ch H H' s.heap h') (hok:HOk X.prog X.w H' h') (hg:AllBare g')
  (hch:∀ b ∈ ch,(b ∈ X.ex\/X.s₀.heap.objs.size<=b)/\b ≠ X.env.locals/\(∀ x c,X.env.cells.lookup x=some c->c ≠ b)/\∀ p ∈ X.pn ++ pins,p.1 ≠ b) :
  Inv X pins σ H' { s with heap:=h',gens:=g',drawn:=d',toks:=t' }:=by
 obtain ⟨m,⟨o,es,ep,ho,r⟩,_⟩:=id I.loc
 obtain ⟨sl,hL⟩:=u.any ho I.free fun z=>(hch _ z).2.1 rfl
 exact I.step (ch:=ch) hch (fun b o hL hb hc e n=>u.keep b o e n (fun z=>(aai.mp (I.stkSub b z)).elim hL hb) hc) (fun b o _ _ hc e n=>u.any e n hc) (fun b o hc e n=>u.free b o e n hc) (fun b o hc e=>u.there b o e hc) u.tups u.frzs u.tbls (fun m' hm=>by
  obtain ⟨o',es',ep',ho',r'⟩:=hm
  rw [ho] at ho'; cases ho'
  exact ⟨_,es',ep',hL,r'⟩) hok hg
theorem Inv.turned {t':Nat} {it:Addr} (I:Inv X pins σ H s) (k:∀ b o,b ≠ it->s.heap.get? b=some o->h'.get? b=some o) (hn:H it=none) (hL:it ≠ X.env.locals)
  (h1:it ∈ X.ex\/X.s₀.heap.objs.size<=it) (h2:∀ x c,X.env.cells.lookup x=some c->c ≠ it) (h3:∀ p ∈ X.pn ++ pins,p.1 ≠ it):Inv X pins σ H { s with heap:=h',toks:=t' }:=by
 have nit:∀ b u,H b=some u->b ≠ it:=fun b u e z=>by rw [z,hn] at e; cases e
 refine I.step (g':=s.gens) (d':=s.drawn) (ch:=[it]) (fun b hb=>?_) (fun b o _ _ hc e _=>k b o (fun z=>hc (by simp [z])) e) (fun b o _ _ hc e _=>⟨o.slots,k b o (fun z=>hc (by simp [z])) e⟩) (fun _ _ _ _ n=>n)
  (fun b o hc e=>⟨o,k b o (fun z=>hc (by simp [z])) e⟩) (fun _ _ e=>e) (fun _ _ _ e=>e) (fun b ps e=>⟨#[],by rw [e]; simp⟩) (fun m hm=>?_) (fun b u e=>?_) I.bare
 ·have e:b=it:=by simpa using hb
  subst e
  exact ⟨h1,hL,h2,h3⟩
 ·obtain ⟨o,es,ep,ho,r⟩:=hm
  exact ⟨o,es,ep,k _ o (Ne.symm hL) ho,r⟩
 ·refine (I.hok b u e).stay (fun c v hc q=>k c v ?_ q) (fun _ q=>q) fun _ _ q=>q
  rcases hc with z | z
  ·rw [z]; exact nit b u e
  ·exact nit c _ z
theorem Inv.tok (I:Inv X pins σ H s) (t:Nat):Inv X pins σ H { s with toks:=t }:=I.un (h':=s.heap) (t':=t) Un.refl I.hok
theorem Inv.kept {t':Nat} (I:Inv X pins σ H s) (k:∀ b u,s.heap.get? b=some u->h'.get? b=some u):Inv X pins σ H { s with heap:=h',toks:=t' }:=I.un (Un.kept k) (I.hok.kept k)
theorem Inv.laid {a:Addr} {o:HO} {t':Nat} (I:Inv X pins σ H s) (k:∀ b u,s.heap.get? b=some u->h'.get? b=some u) (hp:s.heap.objs.size<=a) (new:ObjOk X.prog X.w (upd H a o) h' a o) :
  Inv X pins σ (upd H a o) { s with heap:=h',toks:=t' }:=I.un (Un.laid k hp (I.hok.fresh hp)) (I.hok.laid k hp new)
theorem Inv.write {x e:Addr} {o:HO} {t':Nat} (I:Inv X pins σ H s) (mu:Mut (H x)) (he:e=x\/H e=some (.own x)) (k:∀ b u,b ≠ e->s.heap.get? b=some u->h'.get? b=some u) (heo:∃ u,h'.get? e=some u)
  (new:ObjOk X.prog X.w (upd H x o) h' x o):Inv X pins σ (upd H x o) { s with heap:=h',toks:=t' }:=I.un (Un.write mu he k heo) (I.hok.write mu he k heo new)
theorem Inv.weak {σ':List (Option V)} (I:Inv X pins σ H s) (hl:σ'.length=σ.length) (w:∀ (i:Nat) v,σ'[i]?=some (some v)->σ[i]?=some (some v)):Inv X pins σ' H s :=
 ⟨I.ok,I.os,I.bare,I.base,let ⟨m,hn,hl'⟩:=I.loc; ⟨m,hn,fun i x v e1 e2 e3=>hl' i x v e1 (w i v e2) e3⟩,I.cell,I.free,I.freeC,I.pin,I.hok,hl.trans I.len⟩
theorem Inv.pins_of {pins':List (Addr × Obj)} (I:Inv X pins σ H s) (h:∀ p ∈ pins',s.heap.get? p.1=some p.2/\H p.1=none/\p.1 ≠ X.env.locals/\p.1 ∉ X.fs/\∀ v,p.2.data ≠ .cell v):Inv X pins' σ H s :=
 ⟨I.ok,I.os,I.bare,I.base,I.loc,I.cell,I.free,I.freeC,fun p hp=>(aaf.mp hp).elim (fun z=>I.pin p (aaz _ z)) (h p),I.hok,I.len⟩
theorem Ip {N:List Str} (hN:N.Nodup) {i j:Nat} {x:Str} (a:N[i]?=some x) (b:N[j]?=some x):i=j:=by
 obtain ⟨h1,e1⟩:=aaq.mp a
 obtain ⟨h2,e2⟩:=aaq.mp b
 exact (List.getElem_inj hN).mp (e1.trans e2.symm)
theorem Hw {M:Model} {A:Around} {E:Value->Shared->Prop} {i:Nat} {x:Str} {v:V} {u:Value} {Q:Unit->Shared->Prop} (I:Inv X pins σ H s) (hN:X.N.Nodup) (hi:X.N[i]?=some x) (hx:Loc X.env.scope x) (r:RelV v u)
  (h:∀ s',Inv X pins (σ.set i (some v)) H s'->(∃ a,Heap.SameBut a s.heap s'.heap/\(a=X.env.locals\/X.env.cells.lookup x=some a))->Q () s') (hf:X.fn x=true\/X.env.scope.names.lookup x=some .local:=by first | exact .inl rfl | exact .inr rfl | assumption):wpAny M A (storeName X.env x u) Q E s:=by
 obtain ⟨m,hn,hl⟩:=id I.loc
 have hcls:(X.env.scope.kind==.class || (X.env.scope.kind==.module && X.env.locals != X.env.globals))=false:=by rw [I.ok.kind]; rfl
 have hiσ:i < σ.length:=by rw [I.len]; exact (aaq.mp hi).1
 have cne:=I.cne
 have tracked:∀ {a:Addr} {h':Heap},(∃ o,s.heap.get? a=some o/\H a=none)->Heap.SameBut a s.heap h'->HOk X.prog X.w H h':=fun {a h'} ha hs b ob e=>by
  obtain ⟨_,_,hfree⟩:=ha
  refine (I.hok b ob e).stay (fun c w' hc q=>(hs.2 c ?_).trans q) (fun _ q=>q) fun _ _ q=>q
  rintro rfl
  rcases hc with rfl | hc
  ·rw [hfree] at e; cases e
  ·rw [hfree] at hc; cases hc
 rcases hx with hk | hk
 ·refine wpAny_storeName_local hk hn (fun h' hn' hs=>?_) hcls
  obtain ⟨oL,_,_,hoL,_⟩:=id hn
  refine h _ ⟨I.ok,I.os,I.bare,⟨fun b o e n hb hx=>?_,fun b o e n hb hx=>?_,I.base.free,fun b o e hx=>?_,I.base.tups,I.base.frzs,I.base.tbls⟩,⟨_,hn',fun j y v' e1 e2 e3=>?_⟩,fun y c e=>?_,I.free,I.freeC,fun p hp=>?_,tracked ⟨oL,hoL,I.free⟩ hs,by simpa using I.len⟩ ⟨_,hs,.inl rfl⟩
  ·exact (hs.2 b (aaE (aas (Heap.lt_size e) I.ok.above))).trans (I.base.keep b o e n hb hx)
  ·obtain ⟨sl,e1⟩:=I.base.slot b o e n hb hx
   exact ⟨sl,(hs.2 b (aaE (aas (Heap.lt_size e) I.ok.above))).trans e1⟩
  ·obtain ⟨o',e1⟩:=I.base.there b o e hx
   exact ⟨o',(hs.2 b (aaE (aas (Heap.lt_size e) I.ok.above))).trans e1⟩
  ·by_cases hj:j=i
   ·subst hj
    rw [hi] at e1; cases e1
    rw [aa8 hiσ] at e2
    cases e2
    exact ⟨u,r,.inl ⟨hk,by simp⟩⟩
   ·rw [aap (Ne.symm hj)] at e2
    obtain ⟨u',r',q⟩:=hl j y v' e1 e2 e3
    refine ⟨u',r',?_⟩
    rcases q with ⟨k,e⟩ | ⟨k,c,e,z⟩
    ·refine .inl ⟨k,?_⟩
     have:y ≠ x:=fun e=>hj (Ip hN e1 (e ▸ hi))
     simp [this,e]
    ·exact .inr ⟨k,c,e,z.sameBut hs (cne y c e)⟩
  ·obtain ⟨w',z⟩:=I.cell y c e
   exact ⟨w',z.sameBut hs (cne y c e)⟩
  ·obtain ⟨e,n,ne,nf,d⟩:=I.pin p hp
   exact ⟨(hs.2 p.1 ne).trans e,n,ne,nf,d⟩
 ·have hfn:X.fn x=true:=by
   rcases hf with z | z
   ·exact z
   ·rw [z] at hk; cases hk
  obtain ⟨c,hc⟩:=I.ok.has x (.inl hk)
  obtain ⟨w',z⟩:=I.cell x c hc
  refine wpAny_storeName_cell I.ok.kind hk hc z (fun h' hc' hs=>?_)
  obtain ⟨oc,hoc,hocd⟩:=id z
  refine h { s with heap:=h' } ⟨I.ok,I.os,I.bare,⟨fun b o e n hb hx=>?_,fun b o e n hb hx=>?_,I.base.free,fun b o e hx=>?_,I.base.tups,I.base.frzs,I.base.tbls⟩,⟨m,hn.sameBut hs (Ne.symm (cne x c hc)),fun j y v' e1 e2 e3=>?_⟩,fun y c' e=>?_,I.free,I.freeC,fun p hp=>?_,tracked ⟨oc,hoc,I.freeC x c hc⟩ hs,by simpa using I.len⟩ ⟨c,hs,.inr hc⟩
  ·exact (hs.2 b (aaE (aas (Heap.lt_size e) (I.ok.cab x c hfn hc)))).trans (I.base.keep b o e n hb hx)
  ·obtain ⟨sl,e1⟩:=I.base.slot b o e n hb hx
   exact ⟨sl,(hs.2 b (aaE (aas (Heap.lt_size e) (I.ok.cab x c hfn hc)))).trans e1⟩
  ·obtain ⟨o',e1⟩:=I.base.there b o e hx
   exact ⟨o',(hs.2 b (aaE (aas (Heap.lt_size e) (I.ok.cab x c hfn hc)))).trans e1⟩
  ·by_cases hj:j=i
   ·subst hj
    rw [hi] at e1; cases e1
    rw [aa8 hiσ] at e2
    cases e2
    exact ⟨u,r,.inr ⟨.inl hk,c,hc,hc'⟩⟩
   ·rw [aap (Ne.symm hj)] at e2
    obtain ⟨u',r',q⟩:=hl j y v' e1 e2 e3
    refine ⟨u',r',?_⟩
    rcases q with q | ⟨k,c',e,z'⟩
    ·exact .inl q
    ·refine .inr ⟨k,c',e,z'.sameBut hs ?_⟩
     rintro rfl
     exact hj (Ip hN e1 (I.ok.inj _ _ _ e hc ▸ hi))
  ·by_cases hcc:c'=c
   ·subst hcc; exact ⟨_,hc'⟩
   ·obtain ⟨w2,z2⟩:=I.cell y c' e
    exact ⟨w2,z2.sameBut hs hcc⟩
  ·obtain ⟨e,n,ne,nf,d⟩:=I.pin p hp
   refine ⟨(hs.2 p.1 ?_).trans e,n,ne,nf,d⟩
   intro q
   rw [q,hoc] at e
   have q':oc=p.2:=Option.some.inj e
   exact d w' (by rw [<- q']; exact hocd)
theorem Iq {M:Model} {A:Around} {E:Value->Shared->Prop} {i:Nat} {x:Str} {v:V} {u:Value} {Q:Unit->Shared->Prop} (I:Inv X pins σ H s) (hN:X.N.Nodup) (hi:X.N[i]?=some x) (hx:Loc X.env.scope x) (r:RelV v u)
  (h:∀ s',Inv X pins (σ.set i (some v)) H s'->Q () s') (hf:X.fn x=true\/X.env.scope.names.lookup x=some .local:=by first | exact .inl rfl | exact .inr rfl | assumption):wpAny M A (storeName X.env x u) Q E s :=
 Hw I hN hi hx r (fun s' I' _=>h s' I') hf
theorem Inv.call' {s':Shared} {ch:List Addr} (I:Inv X pins σ H s) (ho:s'.os=s.os) (u:Un (frs X.stack) ch H H' s.heap s'.heap) (hok:HOk X.prog X.w H' s'.heap) (hg:AllBare s'.gens)
  (hch:∀ b ∈ ch,(b ∈ X.ex\/X.s₀.heap.objs.size<=b)/\b ≠ X.env.locals/\(∀ x c,X.env.cells.lookup x=some c->c ≠ b)/\∀ p ∈ X.pn ++ pins,p.1 ≠ b):Inv X pins σ H' s':=by
 obtain ⟨h',g',d',t',o'⟩:=s'
 have e:o'=s.os:=ho
 subst e
 exact I.call (g':=g') (t':=t') (d':=d') u hok hg hch
end
noncomputable abbrev XK:=Value->Option Addr->Hp->Prop
noncomputable abbrev St:=List (Option V)
noncomputable abbrev VK:=V->Hp->Prop
noncomputable abbrev TE:=St->Hp->VK->Prop
noncomputable abbrev TT:=St->Hp->(Bool->Hp->Prop)->Prop
noncomputable abbrev TA:=St->Hp->(List V->Hp->Prop)->Prop
structure Ends where
 nx:St->Hp->Prop
 rt:VK
 bk:St->Hp->Prop:=fun _ _=>False
 ct:St->Hp->Prop:=fun _ _=>False
noncomputable abbrev TS:=Ends->St->Hp->Prop
noncomputable def EP (X:Cx) (pins:List (Addr × Obj)) (σ:St) (Q:VK) (u:Value) (s':Shared):Prop:=∃ v H',Inv X pins σ H' s'/\RelV v u/\Q v H'
noncomputable def TP (X:Cx) (pins:List (Addr × Obj)) (σ:St) (Q:Bool->Hp->Prop) (b:Bool) (s':Shared):Prop:=∃ H',Inv X pins σ H' s'/\Q b H'
noncomputable def AP (X:Cx) (pins:List (Addr × Obj)) (σ:St) (Q:List V->Hp->Prop) (us:List Value) (s':Shared):Prop:=∃ vs H',Inv X pins σ H' s'/\Vals vs us/\Q vs H'
noncomputable def SP (X:Cx) (pins:List (Addr × Obj)) (D:Ends) (f:Flow) (s':Shared):Prop :=
 match f with
 | .next=>∃ σ' H',Inv X pins σ' H' s'/\D.nx σ' H'
 | .brk=>∃ σ' H',Inv X pins σ' H' s'/\D.bk σ' H'
 | .cont=>∃ σ' H',Inv X pins σ' H' s'/\D.ct σ' H'
 | .ret u=>∃ v σ' H',Inv X pins σ' H' s'/\RelV v u/\D.rt v H'
noncomputable def PE (X:Cx) (e:Expr) (t:TE):Prop :=
 ∀ (pins:List (Addr × Obj)) (s:Shared) (σ:St) (H:Hp) (Q:VK),Inv X pins σ H s->t σ H Q->wpAny (model X.prog X.w) X.A (eval e X.env) (EP X pins σ Q) X.xe s
noncomputable def PT (X:Cx) (e:Expr) (t:TT):Prop :=
 ∀ (pins:List (Addr × Obj)) (s:Shared) (σ:St) (H:Hp) (Q:Bool->Hp->Prop),Inv X pins σ H s->t σ H Q->wpAny (model X.prog X.w) X.A (isTrue e X.env (eval e X.env)) (TP X pins σ Q) X.xe s
noncomputable def PW (X:Cx) (e:Expr) (t:TT):Prop :=
 ∀ (whole:Sem Value) (pins:List (Addr × Obj)) (s:Shared) (σ:St) (H:Hp) (Q:Bool->Hp->Prop),Inv X pins σ H s->t σ H Q->wpAny (model X.prog X.w) X.A (isTrue e X.env whole) (TP X pins σ Q) X.xe s
theorem PW.pt {X:Cx} {e:Expr} {t:TT} (h:PW X e t):PT X e t:=h _
noncomputable def PA (X:Cx) (es:List Expr) (t:TA):Prop :=
 ∀ (pos:Pos) (pins:List (Addr × Obj)) (s:Shared) (σ:St) (H:Hp) (Q:List V->Hp->Prop),Inv X pins σ H s->t σ H Q->wpAny (model X.prog X.w) X.A (spliced (backTo pos (starEach es X.env))) (AP X pins σ Q) X.xe s
noncomputable def PS (X:Cx) (st:Stmt) (t:TS):Prop :=
 ∀ (pins:List (Addr × Obj)) (s:Shared) (σ:St) (H:Hp) (D:Ends),Inv X pins σ H s->t D σ H->wpAny (model X.prog X.w) X.A (exec st X.env) (SP X pins D) X.xe s
noncomputable def PSs (X:Cx) (st:List Stmt) (t:TS):Prop :=
 ∀ (pins:List (Addr × Obj)) (s:Shared) (σ:St) (H:Hp) (D:Ends),Inv X pins σ H s->t D σ H->wpAny (model X.prog X.w) X.A (execs st X.env) (SP X pins D) X.xe s
theorem thn {α:Type} {t:Sem α} {Q Q':α->Shared->Prop} {M:Model} {A:Around} {E:Value->Shared->Prop} {s:Shared} (h:wpAny M A t Q E s) (hQ:∀ a s,Q a s->Q' a s):wpAny M A t Q' E s:=wpAny_mono h hQ fun _ _ x=>x
section
variable {X:Cx}
theorem bin {a b:Expr} {ta tb:TE} (ha:PE X a ta) (hb:PE X b tb) {pins:List (Addr × Obj)} {s:Shared} {σ:St} {H:Hp} {R:V->V->Hp->Prop} (I:Inv X pins σ H s) (h:ta σ H fun x H1=>tb σ H1 fun y H2=>R x y H2)
  {α:Type} {Q:α->Shared->Prop} {f:Value->Value->Sem α}
  (hf:∀ v u s2 x y H2,Inv X pins σ H2 s2->RelV x v->RelV y u->R x y H2->wpAny (model X.prog X.w) X.A (f v u) Q X.xe s2) :
  wpAny (model X.prog X.w) X.A (eval a X.env) (fun v s₁=>wpAny (model X.prog X.w) X.A (eval b X.env) (fun u s₂=>wpAny (model X.prog X.w) X.A (f v u) Q X.xe s₂) X.xe s₁) X.xe s:=by
 refine thn (ha pins s σ H _ I h) fun v s1 ⟨x,H1,I1,r1,q1⟩=>?_
 refine thn (hb pins s1 σ H1 _ I1 q1) fun u s2 ⟨y,H2,I2,r2,q2⟩=>?_
 exact hf v u s2 x y H2 I2 r1 r2 q2
noncomputable def KJ (i:Nat):TE:=fun σ H Q=>∃ v,σ[i]?=some (some v)/\Q v H
noncomputable def tC (v:V):TE:=fun _ H Q=>Q v H
theorem CP {i:Nat} {x:Str} {pos:Pos} (hN:X.N[i]?=some x) (hv:Vis X.env.scope x) (hd:(x==("__debug__" : Str))=false:=by decide) (hcd:(x==("__classdict__" : Str))=false:=by decide):PE X (.Name x pos) (KJ i):=by
 intro pins s σ H Q I h
 obtain ⟨v,e,h⟩:=h
 obtain ⟨m,hn,hl⟩:=I.loc
 obtain ⟨u,r,l⟩:=hl i x v hN e hv
 have fin:EP X pins σ Q u s:=⟨v,H,I,r,h⟩
 rcases l with ⟨hk,hm⟩ | ⟨hk,c,hc,hcell⟩
 ·exact wpAny_Name (wpAny_loadName_local I.ok.kind hk hn hm fin) hd
 ·rcases hk with hk | hk
  ·exact wpAny_Name (wpAny_loadName_cell I.ok.kind hk hc hcell fin) hd
  ·exact wpAny_Name (wpAny_loadName_free I.ok.kind hk hc hcell fin hcd) hd
theorem LJ {i j pos}:PE X (.Constant (.int i) j pos) (tC (.int i)):=fun _ _ _ H _ I h=>wpAny_Constant_int ⟨.int i,H,I.tok _,⟨_,rfl⟩,h⟩
theorem RW {b j pos}:PE X (.Constant (.bool b) j pos) (tC (.bl b)):=fun _ _ _ H _ I h=>Constant_bool ⟨.bl b,H,I,rfl,h⟩
theorem Qj {j pos}:PE X (.Constant .none j pos) (tC .non):=fun _ _ _ H _ I h=>Constant_none ⟨.non,H,I,rfl,h⟩
theorem Qk {x j pos}:PE X (.Constant (.str x) j pos) (tC (.str x)):=fun _ _ _ H _ I h=>Calls.Constant_str ⟨.str x,H,I.tok _,⟨_,rfl⟩,h⟩
noncomputable def Gl (X:Cx) (x:Str):Prop:=X.env.kindOf x=some .globalImplicit
theorem G3 {E:Value->Shared->Prop} {pins:List (Addr × Obj)} {s:Shared} {σ:St} {H:Hp} {x:Str} {u:Value} {pos:Pos} {Q:Value->Shared->Prop} (I:Inv X pins σ H s) (hg:Gl X x) (hm:X.mg x=some u) (h:Q u s)
  (hd:(x==("__debug__" : Str))=false:=by decide):wpAny (model X.prog X.w) X.A (eval (.Name x pos) X.env) Q E s :=
 Calls.Name_function_global I.ok.kind hg (Calls.loadGlobal_global (by rw [I.ok.glob]; exact I.mod.glob.keeps I.bk) hm h) hd
theorem Eu {E:Value->Shared->Prop} {pins:List (Addr × Obj)} {s:Shared} {σ:St} {H:Hp} {x:Str} {u:Value} {pos:Pos} {Q:Value->Shared->Prop} (I:Inv X pins σ H s) (hg:Gl X x) (hm:X.mg x=none) (hv:bootBuiltins x=some u) (h:Q u s)
  (hn:x ≠ "__name__" := by decide) (hd:(x==("__debug__" : Str))=false:=by decide):wpAny (model X.prog X.w) X.A (eval (.Name x pos) X.env) Q E s:=by
 obtain ⟨mb,h1,h2⟩:=I.mod.blt
 exact Calls.Name_function_global I.ok.kind hg (Calls.loadGlobal_builtin (by rw [I.ok.glob]; exact I.mod.glob.keeps I.bk) hm (by rw [I.ok.blt]; exact h1.keeps I.bk) ((h2 x hn).trans hv) h) hd
theorem JZ {x:Str} {v:V} {u:Value} {pos:Pos} (hg:Gl X x) (hm:X.mg x=some u) (r:RelV v u) (hd:(x==("__debug__" : Str))=false:=by decide):PE X (.Name x pos) (tC v) :=
 fun _ _ _ H _ I h=>G3 I hg hm ⟨v,H,I,r,h⟩ hd
theorem OA {x:Str} {v:V} {u:Value} {pos:Pos} (hg:Gl X x) (hm:X.mg x=none) (hv:bootBuiltins x=some u) (r:RelV v u) (hn:x ≠ "__name__" := by decide) (hd:(x==("__debug__" : Str))=false:=by decide):PE X (.Name x pos) (tC v) :=
 fun _ _ _ H _ I h=>Eu I hg hm hv ⟨v,H,I,r,h⟩ hn hd
variable {a b:Expr} {ta tb:TE} {pos:Pos}
noncomputable def PC (X:Cx) (op:CmpOp) (a b:Expr) (t:TE):Prop :=
 ∀ (pins:List (Addr × Obj)) (s:Shared) (σ:St) (H:Hp) (Q:VK),Inv X pins σ H s->t σ H Q ->
  wpAny (model X.prog X.w) X.A (eval a X.env) (fun v s₁=>wpAny (model X.prog X.w) X.A (eval b X.env) (fun u s₂=>wpAny (model X.prog X.w) X.A (compareOp op v u) (EP X pins σ Q) X.xe s₂) X.xe s₁) X.xe s
theorem Ir (b:Expr) {op:CmpOp} (h:op ≠ .In) (h2:op ≠ .NotIn):behindInMarks op b=false:=by
 have e1:(op==CmpOp.In)=false:=by cases op <;> first | rfl | exact absurd rfl h
 have e2:(op==CmpOp.NotIn)=false:=by cases op <;> first | rfl | exact absurd rfl h2
 cases b <;> simp [behindInMarks,e1,e2]
noncomputable def SK (ta:TE):TE:=fun σ H Q=>ta σ H fun x H1=>Q (.bl (decide (x=.non))) H1
noncomputable def RX (ta:TE):TE:=fun σ H Q=>ta σ H fun x H1=>Q (.bl (!decide (x=.non))) H1
theorem RelV.none_iff {x:V} {v:Value} (r:RelV x v):(v==Value.none)=decide (x=.non):=by
 cases x with
 | non=>cases r; rfl
 | bl _=>cases r; rfl
 | int _=>obtain ⟨t,rfl⟩:=r; rfl
 | str _=>obtain ⟨t,rfl⟩:=r; rfl
 | byt _=>obtain ⟨t,rfl⟩:=r; rfl
 | flt _=>obtain ⟨t,rfl⟩:=r; rfl
 | ref _=>cases r; rfl
 | ty _=>cases r; rfl
theorem LK {j pos'} (ha:PE X a ta):PC X .Is a (.Constant .none j pos') (SK ta):=by
 intro pins s σ H Q I h
 refine thn (ha pins s σ H _ I h) fun v s1 ⟨x,H1,I1,r1,q1⟩=>?_
 exact Constant_none (is_none_gen ⟨.bl _,H1,I1,by rw [r1.none_iff]; rfl,q1⟩)
theorem J0 {j pos'} (ha:PE X a ta):PC X .IsNot a (.Constant .none j pos') (RX ta):=by
 intro pins s σ H Q I h
 refine thn (ha pins s σ H _ I h) fun v s1 ⟨x,H1,I1,r1,q1⟩=>?_
 exact Constant_none (isnot_none_gen ⟨.bl _,H1,I1,by rw [r1.none_iff]; rfl,q1⟩)
noncomputable def tB (t:TE):TT:=fun σ H Q=>t σ H fun x H1=>∃ c,x=.bl c/\Q c H1
theorem LL {op:CmpOp} {t:TE} (h:PC X op a b t) (h1:behindInMarks op b=false:=by first | exact Ir _ (by decide) (by decide) | rfl):PE X (.Compare a [op] [b] pos) t:=fun pins s σ H Q I hw=>wpAny_Compare1 (h pins s σ H Q I hw) h1
theorem LM {op:CmpOp} {t:TE} (h:PC X op a b t) (h1:behindInMarks op b=false:=by first | exact Ir _ (by decide) (by decide) | rfl):PT X (.Compare a [op] [b] pos) (tB t):=by
 intro pins s σ H Q I hw
 refine wpAny_isTrue_Compare1 (thn (h pins s σ H _ I hw) fun v s1 h1=>thn h1 fun u s2 h2=>thn h2 fun c s3 ⟨x,H1,I1,r1,q1⟩=>?_) h1
 obtain ⟨d,rfl,q⟩:=q1
 cases r1
 exact wpAny_truthy_bool ⟨H1,I1,q⟩
variable {tA tB':TT} {rest:List Expr}
noncomputable def SL (t u:TT):TT:=fun σ H Q=>t σ H fun c H1=>if c=true then u σ H1 Q else Q false H1
noncomputable def tOr (t u:TT):TT:=fun σ H Q=>t σ H fun c H1=>if c=true then Q true H1 else u σ H1 Q
noncomputable def SM (t:TT):TT:=fun σ H Q=>t σ H fun c H1=>Q (!c) H1
theorem OB (ha:PT X a tA):PW X (.BoolOp .And [a] pos) tA:=by
 intro wh pins s σ H Q I h
 refine isTrue_and (thn (ha pins s σ H Q I h) fun c s1 e=>?_)
 cases c with
 | true=>exact isTrue_and_nil e
 | false=>exact e
theorem Ql (ha:PT X a tA):PW X (.BoolOp .Or [a] pos) tA:=by
 intro wh pins s σ H Q I h
 refine isTrue_or (thn (ha pins s σ H Q I h) fun c s1 e=>?_)
 cases c with
 | false=>exact isTrue_or_nil e
 | true=>exact e
theorem Qm (ha:PT X a tA) (hb:PW X (.BoolOp .And (b :: rest) pos) tB'):PW X (.BoolOp .And (a :: b :: rest) pos) (SL tA tB'):=by
 intro wh pins s σ H Q I h
 refine isTrue_and (thn (ha pins s σ H _ I h) fun c s1 ⟨H1,I1,q1⟩=>?_)
 cases c with
 | true=>exact hb wh pins s1 σ H1 Q I1 q1
 | false=>exact ⟨H1,I1,q1⟩
theorem RY (ha:PT X a tA) (hb:PW X (.BoolOp .Or (b :: rest) pos) tB'):PW X (.BoolOp .Or (a :: b :: rest) pos) (tOr tA tB'):=by
 intro wh pins s σ H Q I h
 refine isTrue_or (thn (ha pins s σ H _ I h) fun c s1 ⟨H1,I1,q1⟩=>?_)
 cases c with
 | true=>exact ⟨H1,I1,q1⟩
 | false=>exact hb wh pins s1 σ H1 Q I1 q1
theorem Qn (ha:PT X a tA):PT X (.UnaryOp .Not a pos) (SM tA):=by
 intro pins s σ H Q I h
 exact isTrue_not (ha pins s σ H (fun c H1=>Q (!c) H1) I h)
noncomputable def RZ (ta tb:TE):TE:=fun σ H Q=>ta σ H fun x H1=>∃ c,x=.bl c/\if c=true then tb σ H1 Q else Q (.bl false) H1
noncomputable def SN (ta tb:TE):TE:=fun σ H Q=>ta σ H fun x H1=>∃ c,x=.bl c/\if c=true then Q (.bl true) H1 else tb σ H1 Q
noncomputable def R0 (ta:TE):TE:=fun σ H Q=>ta σ H fun x H1=>∃ c,x=.bl c/\Q (.bl (!c)) H1
theorem Qo {op} {t:TE} (h:PE X a t):PE X (.BoolOp op [a] pos) t:=fun pins s σ H Q I hw=>BoolOp_one (h pins s σ H Q I hw)
theorem Qp (ha:PE X a ta) (hb:PE X (.BoolOp .And (b :: rest) pos) tb):PE X (.BoolOp .And (a :: b :: rest) pos) (RZ ta tb):=by
 intro pins s σ H Q I h
 refine BoolOp_and (thn (ha pins s σ H _ I h) fun v s1 ⟨x,H1,I1,r1,q1⟩=>?_)
 obtain ⟨c,rfl,q1⟩:=q1
 cases r1
 refine wpAny_truthy_bool ?_
 cases c with
 | true=>exact hb pins s1 σ H1 Q I1 q1
 | false=>exact ⟨.bl false,H1,I1,rfl,q1⟩
theorem R1 (ha:PE X a ta) (hb:PE X (.BoolOp .Or (b :: rest) pos) tb):PE X (.BoolOp .Or (a :: b :: rest) pos) (SN ta tb):=by
 intro pins s σ H Q I h
 refine BoolOp_or (thn (ha pins s σ H _ I h) fun v s1 ⟨x,H1,I1,r1,q1⟩=>?_)
 obtain ⟨c,rfl,q1⟩:=q1
 cases r1
 refine wpAny_truthy_bool ?_
 cases c with
 | false=>exact hb pins s1 σ H1 Q I1 q1
 | true=>exact ⟨.bl true,H1,I1,rfl,q1⟩
theorem Qq (ha:PE X a ta):PE X (.UnaryOp .Not a pos) (R0 ta):=by
 intro pins s σ H Q I h
 refine UnaryOp_ (thn (ha pins s σ H _ I h) fun v s1 ⟨x,H1,I1,r1,q1⟩=>?_)
 obtain ⟨c,rfl,q1⟩:=q1
 cases r1
 exact not_of (wpAny_truthy_bool ⟨.bl (!c),H1,I1,rfl,q1⟩)
end
noncomputable def SqL (K:PySem.W.Frag) (H:Hp) (a:Addr) (xs:List V):Prop :=
 Rd H a (.lst xs) \/
  ∃ (o:Obj) (its:Array Value) (n:Nat),K.lookup a=some o/\o.cls=.type "list" /\ o.dict=none/\o.data=.seq its n/\its.size<=sizeLine/\Vals xs its.toList
noncomputable def SqT (K:PySem.W.Frag) (H:Hp) (a:Addr) (xs:List V):Prop :=
 Rd H a (.tup xs) \/
  ∃ (o:Obj) (its:Array Value) (n:Nat),K.lookup a=some o/\o.cls=.type "tuple" /\ o.data=.seq its n/\its.size<=sizeLine/\Vals xs its.toList
noncomputable def SO:Value->Option V
 | .none=>some .non
 | .bool b=>some (.bl b)
 | .int i _=>some (.int i)
 | .str x _=>some (.str x)
 | .bytes b _=>some (.byt b)
 | .float b _=>some (.flt b)
 | .ref a=>some (.ref a)
 | .type n=>some (.ty n)
 | _=>none
theorem RelV.abs {x:V} {u:Value} (r:RelV x u):SO u=some x:=by
 cases x with
 | non=>cases r; rfl
 | bl _=>cases r; rfl
 | int _=>obtain ⟨t,rfl⟩:=r; rfl
 | str _=>obtain ⟨t,rfl⟩:=r; rfl
 | byt _=>obtain ⟨t,rfl⟩:=r; rfl
 | flt _=>obtain ⟨t,rfl⟩:=r; rfl
 | ref _=>cases r; rfl
 | ty _=>cases r; rfl
theorem RelV.inj {x y:V} {u:Value} (r:RelV x u) (q:RelV y u):x=y:=Option.some.inj (r.abs.symm.trans q.abs)
theorem Vals.inj:∀ {xs ys:List V} {us:List Value},Vals xs us->Vals ys us->xs=ys
 | _,_,_,.nil,.nil=>rfl
 | _,_,_,.cons r t,.cons r' t'=>by rw [r.inj r',Vals.inj t t']
section
variable {X:Cx} {pins:List (Addr × Obj)} {σ:St} {H:Hp} {s:Shared} {a:Addr} {xs ys:List V}
theorem SqL.of {K:PySem.W.Frag} (h:H a=some (.lst xs)):SqL K H a xs:=.inl (.inl h)
theorem SqT.of {K:PySem.W.Frag} (h:H a=some (.tup xs)):SqT K H a xs:=.inl (.inl h)
theorem Inv.list (I:Inv X pins σ H s) (h:SqL X.K H a xs):∃ its:List Value,Vals xs its/\PlainL s.heap a its.toArray/\xs.length<=sizeLine:=by
 rcases h with h | ⟨o,its,n,hk,hc,hd,hs,hz,r⟩
 ·obtain ⟨z,its,n,r,e⟩:=h.ok I.hok
  exact ⟨its,r,⟨_,n,e,rfl,rfl,rfl⟩,z⟩
 ·refine ⟨its.toList,r,⟨o,n,I.kIn a o hk,hc,hd,by simpa using hs⟩,?_⟩
  have e:=r.length
  simp only [Array.length_toList] at e
  omega
theorem Inv.tuple (I:Inv X pins σ H s) (h:SqT X.K H a xs):∃ its:List Value,Vals xs its/\IsTup s.heap a its.toArray/\xs.length<=sizeLine:=by
 rcases h with h | ⟨o,its,n,hk,hc,hs,hz,r⟩
 ·obtain ⟨z,its,r,p⟩:=h.ok I.hok
  exact ⟨its,r,p,z⟩
 ·refine ⟨its.toList,r,⟨o,I.kIn a o hk,hc,n,by simpa using hs⟩,?_⟩
  have e:=r.length
  simp only [Array.length_toList] at e
  omega
theorem Inv.list_inj (I:Inv X pins σ H s) (h:SqL X.K H a xs) (h':SqL X.K H a ys):xs=ys:=by
 obtain ⟨its,r,⟨o,n,e,_,_,d⟩,_⟩:=I.list h
 obtain ⟨its',r',⟨o',n',e',_,_,d'⟩,_⟩:=I.list h'
 rw [e] at e'; cases e'
 rw [d] at d'
 injection d' with d1 _
 have:its=its':=by simpa using congrArg Array.toList d1
 subst this
 exact r.inj r'
theorem Inv.tuple_inj (I:Inv X pins σ H s) (h:SqT X.K H a xs) (h':SqT X.K H a ys):xs=ys:=by
 obtain ⟨its,r,⟨o,e,_,n,d⟩,_⟩:=I.tuple h
 obtain ⟨its',r',⟨o',e',_,n',d'⟩,_⟩:=I.tuple h'
 rw [e] at e'; cases e'
 rw [d] at d'
 injection d' with d1 _
 have:its=its':=by simpa using congrArg Array.toList d1
 subst this
 exact r.inj r'
end
section
variable {X:Cx} {st:Stmt} {rest:List Stmt} {t u:TS} {e:Expr} {te:TE} {pos:Pos}
noncomputable def R3:TS:=fun D σ H=>D.nx σ H
noncomputable def SQ (t u:TS):TS:=fun D σ H=>t { D with nx:=u D } σ H
theorem OC:PSs X [] R3:=fun _ _ σ H _ I h=>wpAny_execs_nil ⟨σ,H,I,h⟩
theorem M9 (h1:PS X st t) (h2:PSs X rest u):PSs X (st :: rest) (SQ t u):=by
 intro pins s σ H D I h
 refine wpAny_execs_cons (thn (h1 pins s σ H { D with nx:=u D } I h) fun f s1 q=>?_)
 cases f with
 | next =>
  obtain ⟨σ',H',I',q⟩:=q
  exact h2 pins s1 σ' H' D I' q
 | ret v=>exact q
 | brk=>exact q
 | cont=>exact q
theorem OD (h1:PS X st t):PSs X [st] t:=by
 intro pins s σ H D I h
 refine wpAny_execs_cons (thn (h1 pins s σ H D I h) fun f s1 q=>?_)
 cases f with
 | next=>exact wpAny_execs_nil q
 | ret v=>exact q
 | brk=>exact q
 | cont=>exact q
theorem Inv.quiet {pins:List (Addr × Obj)} {σ:St} {H:Hp} {s:Shared} (I:Inv X pins σ H s):interactive X.env=false:=by simp [interactive,I.ok.kind]
noncomputable def Of (te:TE):TS:=fun D σ H=>te σ H fun _ H1=>D.nx σ H1
theorem Cg (he:PE X e te) (hs:swapsWith e none pos.line X.env=pure false:=by rfl):PS X (.Expr e pos) (Of te):=by
 intro pins s σ H D I h
 exact wpAny_Expr_any (thn (he pins s σ H _ I h) fun v s1 ⟨x,H1,I1,r1,q1⟩=>⟨σ,H1,I1,q1⟩) I.quiet hs
noncomputable def SR (te:TE):TS:=fun D σ H=>te σ H D.rt
theorem Iu (he:PE X e te):PS X (.Return (some e) pos) (SR te):=by
 intro pins s σ H D I h
 exact wpAny_Return_some (thn (he pins s σ H _ I h) fun v s1 ⟨x,H1,I1,r1,q1⟩=>⟨x,σ,H1,I1,r1,q1⟩)
noncomputable def Qr (c:TT) (t u:TS):TS:=fun D σ H=>c σ H fun b H1=>if b=true then t D σ H1 else u D σ H1
theorem R4 {c:Expr} {a b:List Stmt} {tc:TT} (hc:PT X c tc) (ha:PSs X a t) (hb:PSs X b u):PS X (.If c a b pos) (Qr tc t u):=by
 intro pins s σ H D I h
 refine wpAny_If (thn (hc pins s σ H _ I h) fun d s1 ⟨H1,I1,q1⟩=>?_)
 cases d with
 | true=>exact ha pins s1 σ H1 D I1 q1
 | false=>exact hb pins s1 σ H1 D I1 q1
end
noncomputable abbrev TG:=V->St->Hp->(St->Hp->Prop)->Prop
noncomputable abbrev TGs:=List V->St->Hp->(St->Hp->Prop)->Prop
noncomputable def PG (X:Cx) (target:Expr) (t:TG):Prop :=
 ∀ (pins:List (Addr × Obj)) (s:Shared) (σ:St) (H:Hp) (v:V) (u:Value) (Q:St->Hp->Prop),Inv X pins σ H s->RelV v u->t v σ H Q ->
  wpAny (model X.prog X.w) X.A (assign target X.env u) (fun _ s'=>∃ σ' H',Inv X pins σ' H' s'/\Q σ' H') X.xe s
noncomputable def PGs (X:Cx) (ts:List Expr) (t:TGs):Prop :=
 ∀ (pins:List (Addr × Obj)) (s:Shared) (σ:St) (H:Hp) (vs:List V) (us:List Value) (Q:St->Hp->Prop),Inv X pins σ H s->Vals vs us->t vs σ H Q ->
  wpAny (model X.prog X.w) X.A (assignInOrder ((assignEach ts X.env).map (·.2)) us) (fun _ s'=>∃ σ' H',Inv X pins σ' H' s'/\Q σ' H') X.xe s
section
variable {X:Cx} {pos:Pos}
noncomputable def ER (i:Nat):TG:=fun v σ H Q=>Q (σ.set i (some v)) H
theorem J1 {i:Nat} {x:Str} (hN:X.N.Nodup) (hi:X.N[i]?=some x) (hx:Loc X.env.scope x) (hf:X.fn x=true\/X.env.scope.names.lookup x=some .local:=by first | exact .inl rfl | exact .inr rfl | assumption):PG X (.Name x pos) (ER i):=by
 intro pins s σ H v u Q I r h
 exact wpAny_assign_Name (Iq I hN hi hx r (fun s' I'=>⟨_,H,I',h⟩) hf)
noncomputable def Qs:TGs:=fun vs σ H Q=>vs=[]/\Q σ H
noncomputable def Og (t:TG) (u:TGs):TGs:=fun vs σ H Q=>∃ v r,vs=v :: r/\t v σ H fun σ' H'=>u r σ' H' Q
theorem OE:PGs X [] Qs:=by
 intro pins s σ H vs us Q I r h
 obtain ⟨e,h⟩:=h
 subst e
 cases r
 exact assignInOrder_nil ⟨σ,H,I,h⟩
theorem Na {e:Expr} {es:List Expr} {t:TG} {u:TGs} (h1:PG X e t) (h2:PGs X es u)
  (hs:(assignEach (e :: es) X.env).map (·.2)=assign e X.env :: (assignEach es X.env).map (·.2):=by rfl):PGs X (e :: es) (Og t u):=by
 intro pins s σ H vs us Q I r h
 obtain ⟨v,vr,e1,h⟩:=h
 subst e1
 cases r with
 | cons r rr =>
  rw [hs]
  refine assignInOrder_cons (thn (h1 pins s σ H _ _ _ I r h) fun _ s1 ⟨σ1,H1,I1,q1⟩=>?_)
  exact h2 pins s1 σ1 H1 _ _ Q I1 rr q1
noncomputable def Qt (K:PySem.W.Frag) (n:Nat) (t:TGs):TG:=fun v σ H Q=>∃ a xs,v=.ref a/\SqT K H a xs/\xs.length=n/\t xs σ H Q
theorem Qu {es:List Expr} {k:Nat} {t:TGs} {n:Nat} (hc:X.calm=true) (h:PGs X es t)
  (hn:(assignEach es X.env).length=n:=by rfl) (hst:(assignEach es X.env).findIdx? (·.1)=none:=by rfl):PG X (.Tuple es k pos) (Qt X.K n t):=by
 intro pins s σ H v u Q I r hw
 obtain ⟨a,xs,e1,hq,hl,hw⟩:=hw
 subst e1
 cases r
 obtain ⟨its,rv,ht,hz⟩:=I.tuple hq
 refine assign_Tuple_tuple (I.ok.hd hc) ht (by simp [hn,<- hl,rv.length]) hst fun h' hx=>?_
 have I1:Inv X pins σ H { s with heap:=h' }:=I.kept (t':=s.toks) fun b o e=>hx b o (aaE (Heap.lt_size e)) e
 exact h pins _ σ H xs _ Q I1 (by simpa using rv) hw
noncomputable def G4 (te:TE) (g:TG):TS:=fun D σ H=>te σ H fun x H1=>g x σ H1 D.nx
theorem LO {tg e:Expr} {te:TE} {g:TG} (he:PE X e te) (hg:PG X tg g) (hs:swapsWithSole [tg] e pos.line X.env=pure false:=by rfl) (hw:swappedStores [tg] e X.env=pure none:=by rfl)
  (h1:(assignEach [tg] X.env).map (·.2)=[assign tg X.env]:=by rfl):PS X (.Assign [tg] e pos) (G4 te g):=by
 intro pins s σ H D I h
 refine wpAny_Assign_stores (thn (he pins s σ H _ I h) fun v s1 ⟨x,H1,I1,r1,q1⟩=>?_) hs hw
 rw [h1]
 exact thn (hg pins s1 σ H1 x v _ I1 r1 q1) fun _ s2 q=>q
theorem LP {i:Nat} {x:Str} {e:Expr} {te:TE} {pos':Pos} (hN:X.N.Nodup) (hi:X.N[i]?=some x) (hx:Loc X.env.scope x) (he:PE X e te) (hs:swapsWith e (some (.Name x pos')) pos.line X.env=pure false:=by rfl) (hf:X.fn x=true\/X.env.scope.names.lookup x=some .local:=by first | exact .inl rfl | exact .inr rfl | assumption) :
  PS X (.Assign [.Name x pos'] e pos) (G4 te (ER i)):=by
 intro pins s σ H D I h
 refine wpAny_Assign_Name (thn (he pins s σ H _ I h) fun v s1 ⟨y,H1,I1,r1,q1⟩=>?_) hs
 exact Iq I1 hN hi hx r1 (fun s2 I2=>⟨_,H1,I2,q1⟩) hf
end
section
variable {X:Cx} {pos:Pos}
noncomputable def LQ (c:TT) (tb:TS):TS:=fun D σ H=>∃ W:Nat->St->Hp->Prop,(∃ m,W m σ H)/\∀ m σ H,W m σ H ->
 c σ H fun b H1=>if b=true then ∃ N:St->Hp->Prop,(∀ σ' H',N σ' H'->∃ m',m' < m/\W m' σ' H')/\tb { D with nx:=N,ct:=N,bk:=D.nx } σ H1 else D.nx σ H1
theorem Nb {c:Expr} {body:List Stmt} {tc:TT} {tb:TS} (hp:PassesOwn (model X.prog X.w) X.A X.env X.xe) (hc:PT X c tc) (hb:PSs X body tb):PS X (.While c body [] pos) (LQ tc tb):=by
 intro pins s σ H D I h
 obtain ⟨W,⟨m0,w0⟩,turn⟩:=h
 refine wpAny_While (codeAny_whileLoop (fun n s'=>∃ σ' H',Inv X pins σ' H' s'/\W n σ' H') ?_ m0 ⟨σ,H,I,w0⟩)
 rintro n s1 ⟨σ1,H1,I1,w1⟩
 refine wpAny_passesOwn hp (thn (hc pins s1 σ1 H1 _ I1 (turn n σ1 H1 w1)) fun b s2 ⟨H2,I2,q2⟩=>?_)
 cases b with
 | true =>
  obtain ⟨N,hN,q2⟩:=q2
  rw [if_pos rfl]
  refine wpAny_passesOwn hp (thn (hb pins s2 σ1 H2 _ I2 q2) fun f s3 q3=>?_)
  cases f with
  | next =>
   obtain ⟨σ3,H3,I3,n3⟩:=q3
   obtain ⟨m',hm,w3⟩:=hN σ3 H3 n3
   exact ⟨m',hm,σ3,H3,I3,w3⟩
  | cont =>
   obtain ⟨σ3,H3,I3,n3⟩:=q3
   obtain ⟨m',hm,w3⟩:=hN σ3 H3 n3
   exact ⟨m',hm,σ3,H3,I3,w3⟩
  | brk=>exact q3
  | ret v=>exact q3
 | false =>
  rw [if_neg aaQ]
  exact wpAny_execs_nil ⟨σ1,H2,I2,q2⟩
end
structure It where
 go:Nat->Hp->Prop
 yld:Nat->Hp->V->Hp->Prop
 stop:Nat->Hp->Prop
noncomputable def El (X:Cx) (pins:List (Addr × Obj)) (H:Hp) (b:Addr):Prop :=
 H b=none/\b ≠ X.env.locals/\b ∉ X.fs/\(b ∈ X.ex\/X.s₀.heap.objs.size<=b)/\(∀ x c,X.env.cells.lookup x=some c->c ≠ b)/\∀ p ∈ X.pn ++ pins,p.1 ≠ b
theorem Inv.fpOk {X:Cx} {pins:List (Addr × Obj)} {σ:St} {H H':Hp} {s:Shared} {b:Addr} (I:Inv X pins σ H s) (hb:s.heap.objs.size<=b) (hn:H' b=none):El X pins H' b:=by
 refine ⟨hn,ab4 (aas I.lt hb),I.nofs hb,.inr (aaD I.sz hb),fun x c e z=>?_,fun p hp z=>?_⟩
 ·obtain ⟨v,q⟩:=I.cell x c e
  exact absurd (aas q.lt (by rw [z]; exact hb)) (aaP _)
 ·exact absurd (aas (Heap.lt_size (I.pin p hp).1) (by rw [z]; exact hb)) (aaP _)
structure Turn (P:Program) (w:World) (K:PySem.W.Frag) (tg:Expr) (J:It) (fp:List Addr) (it:Addr) (tn:Nat->Heap->Prop):Prop where
 mem:it ∈ fp
 obj:∀ i h,tn i h->∀ b ∈ fp,∃ o,h.get? b=some o/\∀ v,o.data ≠ .cell v
 keep:∀ i h h',tn i h->(∀ b ∈ fp,∀ o,h.get? b=some o->h'.get? b=some o)->tn i h'
 item:∀ (X:Cx),X.prog=P->X.w=w->X.K=K->X.calm=true->∀ (i:Nat) (pins:List (Addr × Obj)) (s:Shared) (σ:St) (H:Hp) (E:Value->Shared->Prop),Inv X pins σ H s->(∀ b ∈ fp,El X pins H b)->tn i s.heap->J.go i H ->
  wpAny (model P w) X.A (pyNext (.ref it)) (fun r s1=>∃ u,r=some u /\
   wpAny (model P w) X.A (letOwnedTupleGo tg (.ref it) u) (fun _ s2=>∃ x H',Inv X pins σ H' s2/\RelV x u/\J.yld i H x H'/\tn (i + 1) s2.heap/\∀ b ∈ fp,H' b=none) E s1) E s
 done:∀ (X:Cx),X.prog=P->X.w=w->X.K=K->X.calm=true->∀ (i:Nat) (pins:List (Addr × Obj)) (s:Shared) (σ:St) (H:Hp) (E:Value->Shared->Prop),Inv X pins σ H s->(∀ b ∈ fp,El X pins H b)->tn i s.heap->J.stop i H ->
  wpAny (model P w) X.A (pyNext (.ref it)) (fun r s1=>r=none/\Inv X pins σ H s1) E s
 self:∀ (A:Around) (i:Nat) (s:Shared) (Q:Value->Shared->Prop) (E:Value->Shared->Prop),tn i s.heap->Q (.ref it) s->wpAny (model P w) A (pyIter (.ref it)) Q E s
noncomputable abbrev TI:=St->Hp->(It->Hp->Prop)->Prop
noncomputable def PIE (X:Cx) (pins:List (Addr × Obj)) (σ:St) (tg:Expr) (R:It->Hp->Prop) (itv:Value) (s2:Shared):Prop :=
 ∃ (it:Addr) (fp:List Addr) (tn:Nat->Heap->Prop) (J:It) (H':Hp),itv=.ref it/\Inv X pins σ H' s2/\Turn X.prog X.w X.K tg J fp it tn/\tn 0 s2.heap/\(∀ b ∈ fp,El X pins H' b)/\R J H'
noncomputable def PI (X:Cx) (tg iter:Expr) (wi:TI):Prop :=
 ∀ (pins:List (Addr × Obj)) (s:Shared) (σ:St) (H:Hp) (R:It->Hp->Prop),Inv X pins σ H s->wi σ H R ->
  wpAny (model X.prog X.w) X.A (eval iter X.env) (fun v s1=>wpAny (model X.prog X.w) X.A (pyIter v) (PIE X pins σ tg R) X.xe s1) X.xe s
theorem KK {M:Model} {A:Around} {E:Value->Shared->Prop} {s:Shared} {tg:Expr} {it:Addr} {u:Value} {o:Obj} {n:String} {vs:Array Value} {Q:Unit->Shared->Prop} (ho:s.heap.get? it=some o) (hc:o.cls=.type n) (hd:o.data=.fields vs)
  (hn:["enumerate", "zip", "dict_itemiterator", "dict_reverseitemiterator", "odict_iterator", "itertools.zip_longest", "itertools.pairwise"].contains n=false) (hQ:Q () s):wpAny M A (letOwnedTupleGo tg (.ref it) u) Q E s:=by
 unfold letOwnedTupleGo
 cases tg <;> first
  | exact wpAny_pure hQ
  | (cases u <;> first
    | exact wpAny_pure hQ
    | (refine wpAny_bind (wpAny_load ho ?_)
       rw [hc,hd]
       show wpAny M A (if (["enumerate", "zip", "dict_itemiterator", "dict_reverseitemiterator", "odict_iterator", "itertools.zip_longest", "itertools.pairwise"].contains n && vs[0]?==some (rawInt _))=true then _ else _) Q E s
       rw [if_neg (by intro h; rw [hn,acn] at h; cases h)]
       exact wpAny_pure hQ))
noncomputable def Itl (K:PySem.W.Frag) (a:Addr):It :=
 ⟨fun i H=>∃ xs x,SqL K H a xs/\xs[i]?=some x,fun i H x H'=>H'=H/\∀ xs,SqL K H a xs->xs[i]?=some x,fun i H=>∃ xs,SqL K H a xs/\xs.length<=i⟩
noncomputable def Itt (K:PySem.W.Frag) (a:Addr):It :=
 ⟨fun i H=>∃ xs x,SqT K H a xs/\xs[i]?=some x,fun i H x H'=>H'=H/\∀ xs,SqT K H a xs->xs[i]?=some x,fun i H=>∃ xs,SqT K H a xs/\xs.length<=i⟩
noncomputable def Itr (lo:Int) (n:Nat):It:=⟨fun i _=>i < n,fun i H x H'=>H'=H/\x=.int (lo + i),fun i _=>n<=i⟩
theorem LR {P:Program} {w:World} {K:PySem.W.Frag} {tg:Expr} (a it:Addr):Turn P w K tg (Itl K a) [it] it (fun i h=>h.IsListIter it a i) where
 mem:=by simp
 obj:=fun i h st b hb=>by
  have e:b=it:=by simpa using hb
  subst e
  obtain ⟨o,e,c,d⟩:=st
  exact ⟨o,e,fun v z=>by rw [d] at z; cases z⟩
 keep:=fun i h h' st k=>st.at fun o e=>k it (by simp) o e
 item:=by
  intro X hP hw hK hc i pins s σ H E I hf st hg
  subst hP hw hK
  obtain ⟨xs,x,hq,hx⟩:=hg
  obtain ⟨its,rv,p,hz⟩:=I.list hq
  obtain ⟨u,hu,ru⟩:=rv.get hx
  obtain ⟨f0,f1,f2,f3,f4,f5⟩:=hf it (by simp)
  refine wpAny_pyNext_list_item st p.isList (x:=u) (by simpa using hu) fun h' st' sb=>?_
  have I1:Inv X pins σ H { s with heap:=h' }:=I.turned (t':=s.toks) (fun b o hb e=>(sb.2 b hb).trans e) f0 f1 f3 f4 f5
  obtain ⟨o,e,c,d⟩:=id st'
  exact ⟨u,rfl,KK (s:={ s with heap:=h' }) e c d (by decide) ⟨x,H,I1,ru,⟨rfl,fun ys hy=>by rw [I.list_inj hy hq]; exact hx⟩,st',fun b hb=>(hf b hb).1⟩⟩
 done:=by
  intro X hP hw hK hc i pins s σ H E I hf st hg
  subst hP hw hK
  obtain ⟨xs,hq,hx⟩:=hg
  obtain ⟨its,rv,p,hz⟩:=I.list hq
  obtain ⟨f0,f1,f2,f3,f4,f5⟩:=hf it (by simp)
  have hl:=rv.length
  exact wpAny_pyNext_list_end (I.ok.hd hc) st p.isList (by simp; omega) fun h' eb=>⟨rfl,I.turned (t':=s.toks) (fun b o hb e=>eb b o hb e) f0 f1 f3 f4 f5⟩
 self:=fun _ _ _ _ _ st h=>wpAny_pyIter_listiter st h
theorem KM {P:Program} {w:World} {K:PySem.W.Frag} {tg:Expr} (a it:Addr):Turn P w K tg (Itt K a) [it] it (fun i h=>h.IsTupleIter it a i) where
 mem:=by simp
 obj:=fun i h st b hb=>by
  have e:b=it:=by simpa using hb
  subst e
  obtain ⟨o,e,c,d⟩:=st
  exact ⟨o,e,fun v z=>by rw [d] at z; cases z⟩
 keep:=fun i h h' st k=>st.at fun o e=>k it (by simp) o e
 item:=by
  intro X hP hw hK hc i pins s σ H E I hf st hg
  subst hP hw hK
  obtain ⟨xs,x,hq,hx⟩:=hg
  obtain ⟨its,rv,p,hz⟩:=I.tuple hq
  obtain ⟨u,hu,ru⟩:=rv.get hx
  obtain ⟨f0,f1,f2,f3,f4,f5⟩:=hf it (by simp)
  refine wpAny_pyNext_tuple_item st (show s.heap.IsTuple a its.toArray from p) (x:=u) (by simpa using hu) fun h' st' sb=>?_
  have I1:Inv X pins σ H { s with heap:=h' }:=I.turned (t':=s.toks) (fun b o hb e=>(sb.2 b hb).trans e) f0 f1 f3 f4 f5
  obtain ⟨o,e,c,d⟩:=id st'
  exact ⟨u,rfl,KK (s:={ s with heap:=h' }) e c d (by decide) ⟨x,H,I1,ru,⟨rfl,fun ys hy=>by rw [I.tuple_inj hy hq]; exact hx⟩,st',fun b hb=>(hf b hb).1⟩⟩
 done:=by
  intro X hP hw hK hc i pins s σ H E I hf st hg
  subst hP hw hK
  obtain ⟨xs,hq,hx⟩:=hg
  obtain ⟨its,rv,p,hz⟩:=I.tuple hq
  obtain ⟨f0,f1,f2,f3,f4,f5⟩:=hf it (by simp)
  have hl:=rv.length
  exact wpAny_pyNext_tuple_end (I.ok.hd hc) st (show s.heap.IsTuple a its.toArray from p) (by simp; omega) fun h' eb=>⟨rfl,I.turned (t':=s.toks) (fun b o hb e=>eb b o hb e) f0 f1 f3 f4 f5⟩
 self:=fun _ _ _ _ _ st h=>wpAny_pyIter_tupleiter st h
theorem KN {P:Program} {w:World} {K:PySem.W.Frag} {tg:Expr} (it:Addr) (lo:Int) (n:Nat):Turn P w K tg (Itr lo n) [it] it (fun i h=>IsRangeIter h it (lo + (i:Nat) * 1) ((n:Int) - (i:Nat)) 1) where
 mem:=by simp
 obj:=fun i h st b hb=>by
  have e:b=it:=by simpa using hb
  subst e
  exact ⟨_,st,fun v z=>by
   have z':Data.fields _=Data.cell v:=z
   cases z'⟩
 keep:=fun i h h' st k=>k it (by simp) _ st
 item:=by
  intro X hP hw hK hc i pins s σ H E I hf st hg
  subst hP hw hK
  obtain ⟨f0,f1,f2,f3,f4,f5⟩:=hf it (by simp)
  have W:=Walks.range (prog:=X.prog) (w:=X.w) (I.ok.hd hc) it lo 1 n
  refine W.item i s _ _ hg st fun v h' tk hv st' kk=>?_
  obtain ⟨t,rfl⟩:=hv
  have I1:Inv X pins σ H { s with heap:=h',toks:=tk }:=I.turned (fun b o hb e=>kk b o (by simpa using hb) e) f0 f1 f3 f4 f5
  refine ⟨_,rfl,KK (s:={ s with heap:=h',toks:=tk }) (n := "range_iterator") st' rfl rfl (by decide) ⟨.int (lo + i),H,I1,⟨t,?_⟩,⟨rfl,rfl⟩,st',fun b hb=>(hf b hb).1⟩⟩
  rw [Int.mul_one]
 done:=by
  intro X hP hw hK hc i pins s σ H E I hf st hg
  subst hP hw hK
  obtain ⟨f0,f1,f2,f3,f4,f5⟩:=hf it (by simp)
  exact wpAny_pyNext_range_end (I.ok.hd hc) st (by have:n<=i:=hg; omega) fun h' eb=>⟨rfl,I.turned (t':=s.toks) (fun b o hb e=>eb b o hb e) f0 f1 f3 f4 f5⟩
 self:=fun _ _ _ _ _ st h=>wpAny_pyIter_rangeiter st h
section
variable {X:Cx} {tg:Expr}
theorem Iv {pins:List (Addr × Obj)} {σ:St} {H:Hp} {s:Shared} {R:It->Hp->Prop} {E:Value->Shared->Prop} {lo hi:Int} {t u v:Tok} {tk:Nat} (I:Inv X pins σ H s) (h1:-(2 ^ 62)<=lo) (h2:lo < 2 ^ 62) (h3:-(2 ^ 62)<=hi) (h4:hi < 2 ^ 62)
  (q:R (Itr lo (hi - lo).toNat) H):wpAny (model X.prog X.w) X.A (pyIter (.ref s.heap.objs.size)) (PIE X pins σ tg R) E { s with heap:=s.heap.push { cls:=.type "range",data:=.fields #[.int lo t,.int hi u,.int 1 v] },toks:=tk }:=by
 refine wpAny_pyIter_range (IsRange.new ..) (small_one h1 h2 h3 h4) ?_
 have I1:Inv X pins σ H { s with heap:=s.heap.push { cls:=.type "range",data:=.fields #[.int lo t,.int hi u,.int 1 v] },toks:=tk }:=I.kept fun b o e=>Heap.get?_push_of_some _ e
 refine ⟨(s.heap.push { cls:=.type "range",data:=.fields #[.int lo t,.int hi u,.int 1 v] }).objs.size,[(s.heap.push { cls:=.type "range",data:=.fields #[.int lo t,.int hi u,.int 1 v] }).objs.size],_,_,H,rfl,
  I1.kept (t':=tk) fun b o e=>Heap.get?_push_of_some _ e,KN _ lo (hi - lo).toNat,?_,fun b hb=>?_,q⟩
 ·have e1:lo + ((0:Nat):Int) * 1=lo:=by simp
  have e2:(((hi - lo).toNat:Nat):Int) - ((0:Nat):Int)=Builtin.Range.rangeSize lo hi 1:=by rw [rangeSize_one]; split <;> omega
  show IsRangeIter _ _ (lo + ((0:Nat):Int) * 1) ((((hi - lo).toNat:Nat):Int) - ((0:Nat):Int)) 1
  rw [e1,e2]
  exact Heap.get?_push_size _ rfl
 ·have e:b=(s.heap.push { cls:=.type "range",data:=.fields #[.int lo t,.int hi u,.int 1 v] }).objs.size:=by simpa using hb
  subst e
  exact I1.fpOk (aag _) (I1.hok.fresh (aag _))
noncomputable def R5 (ta:TA):TI:=fun σ H R=>ta σ H fun vs H1=>∃ j:Int,vs=[.int j]/\-(2 ^ 62)<=j/\j < 2 ^ 62/\R (Itr 0 j.toNat) H1
noncomputable def R6 (ta:TA):TI:=fun σ H R=>ta σ H fun vs H1=>∃ i j:Int,vs=[.int i,.int j]/\(-(2 ^ 62)<=i/\i < 2 ^ 62/\-(2 ^ 62)<=j/\j < 2 ^ 62)/\R (Itr i (j - i).toNat) H1
theorem LT {a:Expr} {ta:TA} {p pos:Pos} (hg:Gl X "range") (hm:X.mg "range" = none) (ha:PA X [a] ta) (hs:starEach [a] X.env=[(false,eval a X.env)]:=by rfl):PI X tg (.Call (.Name "range" p) [a] [] pos) (R5 ta):=by
 intro pins s σ H R I h
 refine Call_ (Eu I hg hm boot_range (PyProof.Rows.callWith_type1 (thn (ha pos pins s σ H _ I h) fun us s1 ⟨vs,H1,I1,r1,q1⟩=>?_) hs rfl))
 obtain ⟨j,e,q1,q2,q⟩:=q1
 subst e
 cases r1 with
 | cons r rr =>
  cases rr
  obtain ⟨t,rfl⟩:=r
  exact call_range_1 (Iv I1 (by omega) (by omega) q1 q2 (by simpa using q))
theorem LU {a b:Expr} {ta:TA} {p pos:Pos} (hg:Gl X "range") (hm:X.mg "range" = none) (ha:PA X [a,b] ta) (hs:starEach [a,b] X.env=[(false,eval a X.env),(false,eval b X.env)]:=by rfl) (hs2:starEach [b] X.env=[(false,eval b X.env)]:=by rfl) :
  PI X tg (.Call (.Name "range" p) [a,b] [] pos) (R6 ta):=by
 intro pins s σ H R I h
 refine Call_ (Eu I hg hm boot_range (PyProof.Rows.callWith_type1 (thn (ha pos pins s σ H _ I h) fun us s1 ⟨vs,H1,I1,r1,q1⟩=>?_) (by rw [hs,hs2]) (by rw [hs2]; rfl)))
 obtain ⟨i,j,e,⟨q1,q2,q3,q4⟩,q⟩:=q1
 subst e
 cases r1 with
 | cons r rr =>
  cases rr with
  | cons r' rr =>
   cases rr
   obtain ⟨t,rfl⟩:=r
   obtain ⟨t',rfl⟩:=r'
   exact call_range_2 (Iv I1 q1 q2 q3 q4 q)
noncomputable def Qv (wi:TI) (g:TG) (tb:TS):TS:=fun D σ H=>wi σ H fun J H1=>∃ W:Nat->Nat->St->Hp->Prop,(∃ m,W 0 m σ H1)/\∀ i m σ H,W i m σ H ->
 (J.stop i H/\D.nx σ H)\/(J.go i H/\∃ N:St->Hp->Prop,(∀ σ' H',N σ' H'->∃ m',m' < m/\W (i + 1) m' σ' H')/\∀ x H',J.yld i H x H'->g x σ H' fun σ2 H2=>tb { D with nx:=N,ct:=N,bk:=D.nx } σ2 H2)
noncomputable def Ev (fp:List Addr) (h:Heap):List (Addr × Obj):=fp.filterMap fun b=>(h.get? b).map fun o=>(b,o)
theorem Ch {fp:List Addr} {h:Heap} {b:Addr} {o:Obj} (hb:b ∈ fp) (e:h.get? b=some o):(b,o) ∈ Ev fp h:=aaH.mpr ⟨b,hb,by rw [e]; rfl⟩
theorem LV {fp:List Addr} {h:Heap} {p:Addr × Obj} (hp:p ∈ Ev fp h):p.1 ∈ fp/\h.get? p.1=some p.2:=by
 obtain ⟨b,hb,e⟩:=aaH.mp hp
 cases q:h.get? b with
 | none=>rw [q] at e; cases e
 | some o =>
  rw [q] at e
  have e':(b,o)=p:=Option.some.inj e
  subst e'
  exact ⟨hb,q⟩
theorem Inv.pinned {pins:List (Addr × Obj)} {σ:St} {H:Hp} {s:Shared} {fp:List Addr} (I:Inv X pins σ H s) (hf:∀ b ∈ fp,El X pins H b) (ho:∀ b ∈ fp,∃ o,s.heap.get? b=some o/\∀ v,o.data ≠ .cell v):Inv X (pins ++ Ev fp s.heap) σ H s :=
 I.pins_of fun p hp=>(aaf.mp hp).elim (fun z=>I.pin p (aak _ z)) fun z=>by
  obtain ⟨hb,e⟩:=LV z
  obtain ⟨f0,f1,f2,_⟩:=hf p.1 hb
  obtain ⟨o,e',d⟩:=ho p.1 hb
  rw [e] at e'; cases e'
  exact ⟨e,f0,f1,f2,d⟩
theorem Inv.unpinned {pins pl:List (Addr × Obj)} {σ:St} {H:Hp} {s:Shared} (I:Inv X (pins ++ pl) σ H s):Inv X pins σ H s:=I.pins_of fun p hp=>I.pin p (aak _ (aaz _ hp))
theorem Iw {iter:Expr} {body:List Stmt} {wi:TI} {g:TG} {tb:TS} {pos:Pos} (hp:PassesOwn (model X.prog X.w) X.A X.env X.xe) (hc:X.calm=true) (hi:PI X tg iter wi) (hg:PG X tg g) (hb:PSs X body tb)
  (hs:∀ x,foldedSetIterable iter X.env x=pure x:=by intro _; rfl):PS X (.For tg iter body [] pos) (Qv wi g tb):=by
 intro pins s σ H D I h
 refine wpAny_For (thn (hi pins s σ H _ I h) fun v s1 h1=>thn h1 fun itv s2 h2=>?_) hs
 obtain ⟨it,fp,tn,J,H2,e,I2,T,st2,f2,W,⟨m0,w0⟩,turn⟩:=h2
 subst e
 have stat:∀ {H':Hp},(∀ b ∈ fp,H' b=none)->∀ b ∈ fp,El X pins H' b:=fun hn b hb=>⟨hn b hb,(f2 b hb).2⟩
 refine codeAny_forLoop_any (fun n s'=>∃ i σ' H',Inv X pins σ' H' s'/\tn i s'.heap/\(∀ b ∈ fp,H' b=none)/\W i n σ' H') ?_ m0 ⟨0,σ,H2,I2,st2,fun b hb=>(f2 b hb).1,w0⟩
 rintro n s3 ⟨i,σ3,H3,I3,st3,fr3,w3⟩
 rcases turn i n σ3 H3 w3 with ⟨stop,qn⟩ | ⟨go,N,hN,step⟩
 ·refine wpAny_passesOwn hp (thn (T.done X rfl rfl rfl hc i pins s3 σ3 H3 X.xe I3 (stat fr3) st3 stop) fun r s4 ⟨hr,I4⟩=>?_)
  subst hr
  exact wpAny_execs_nil ⟨σ3,H3,I4,qn⟩
 ·refine wpAny_passesOwn hp (thn (T.item X rfl rfl rfl hc i pins s3 σ3 H3 X.xe I3 (stat fr3) st3 go) fun r s4 ⟨u,hr,h4⟩=>?_)
  subst hr
  refine wpAny_passesOwn hp (thn h4 fun _ s5 ⟨x,H5,I5,r5,y5,st5,fr5⟩=>?_)
  have I5':=I5.pinned (stat fr5) (T.obj _ _ st5)
  refine wpAny_passesOwn hp (thn (hg _ s5 σ3 H5 x u _ I5' r5 (step x H5 y5)) fun _ s6 ⟨σ6,H6,I6,q6⟩=>?_)
  refine wpAny_passesOwn hp (thn (hb _ s6 σ6 H6 _ I6 q6) fun f s7 q7=>?_)
  have again:∀ {σ7:St} {H7:Hp},Inv X (pins ++ Ev fp s5.heap) σ7 H7 s7->N σ7 H7->∃ m,m < n/\∃ i σ' H',Inv X pins σ' H' s7/\tn i s7.heap/\(∀ b ∈ fp,H' b=none)/\W i m σ' H':=fun {σ7 H7} I7 n7=>by
   obtain ⟨m',hm,w7⟩:=hN σ7 H7 n7
   refine ⟨m',hm,i + 1,σ7,H7,I7.unpinned,T.keep _ _ _ st5 fun b hb o e=>(I7.pin (b,o) (aak _ (aak _ (Ch hb e)))).1,fun b hb=>?_,w7⟩
   obtain ⟨o,e,d⟩:=T.obj _ _ st5 b hb
   exact (I7.pin (b,o) (aak _ (aak _ (Ch hb e)))).2.1
  cases f with
  | next=>obtain ⟨σ7,H7,I7,n7⟩:=q7; exact again I7 n7
  | cont=>obtain ⟨σ7,H7,I7,n7⟩:=q7; exact again I7 n7
  | brk=>obtain ⟨σ7,H7,I7,q7⟩:=q7; exact ⟨σ7,H7,I7.unpinned,q7⟩
  | ret v=>obtain ⟨x7,σ7,H7,I7,r7,q7⟩:=q7; exact ⟨x7,σ7,H7,I7.unpinned,r7,q7⟩
end
noncomputable abbrev R2:=V->V->Hp->VK->Prop
noncomputable def OpR (X:Cx) (f:Value->Value->Sem Value) (r:R2):Prop :=
 ∀ (pins:List (Addr × Obj)) (s:Shared) (σ:St) (H:Hp) (x y:V) (v u:Value) (Q:VK),Inv X pins σ H s->RelV x v->RelV y u->r x y H Q ->
  wpAny (model X.prog X.w) X.A (f v u) (EP X pins σ Q) X.xe s
noncomputable def UnR (X:Cx) (f:Value->Sem Value) (r:V->Hp->VK->Prop):Prop :=
 ∀ (pins:List (Addr × Obj)) (s:Shared) (σ:St) (H:Hp) (x:V) (v:Value) (Q:VK),Inv X pins σ H s->RelV x v->r x H Q ->
  wpAny (model X.prog X.w) X.A (f v) (EP X pins σ Q) X.xe s
noncomputable def DF (X:Cx) (f:Value) (r:List V->Hp->VK->Prop):Prop :=
 ∀ (pins:List (Addr × Obj)) (s:Shared) (σ:St) (H:Hp) (xs:List V) (us:List Value) (Q:VK),Inv X pins σ H s->Vals xs us->r xs H Q ->
  wpAny (model X.prog X.w) X.A (call f us) (EP X pins σ Q) X.xe s
noncomputable def SS (X:Cx) (r:V->Hp->(Bool->Hp->Prop)->Prop):Prop :=
 ∀ (pins:List (Addr × Obj)) (s:Shared) (σ:St) (H:Hp) (x:V) (v:Value) (Q:Bool->Hp->Prop),Inv X pins σ H s->RelV x v->r x H Q ->
  wpAny (model X.prog X.w) X.A (truthy v) (TP X pins σ Q) X.xe s
noncomputable def tOp (r:R2) (ta tb:TE):TE:=fun σ H Q=>ta σ H fun x H1=>tb σ H1 fun y H2=>r x y H2 Q
noncomputable def tUn (r:V->Hp->VK->Prop) (ta:TE):TE:=fun σ H Q=>ta σ H fun x H1=>r x H1 Q
noncomputable def rI (C:Int->Int->Prop) (g:Int->Int->V):R2:=fun x y H Q=>∃ i j,x=.int i/\y=.int j/\C i j/\Q (g i j) H
noncomputable def rI0 (g:Int->Int->V):R2:=fun x y H Q=>∃ i j,x=.int i/\y=.int j/\Q (g i j) H
noncomputable def rU (g:Int->V):V->Hp->VK->Prop:=fun x H Q=>∃ i,x=.int i/\Q (g i) H
section
variable {X:Cx} {a b c:Expr} {ta tb tc:TE} {pos:Pos}
theorem Nc (ha:PE X a ta) (hb:PE X b tb) {pins:List (Addr × Obj)} {s:Shared} {σ:St} {H:Hp} {R:V->V->Hp->Prop} (I:Inv X pins σ H s)
  (h:ta σ H fun x H1=>tb σ H1 fun y H2=>R x y H2) {Q:Value->Shared->Prop} {f:Value->Value->Sem Value}
  (hf:∀ v u s2 x y H2,Inv X pins σ H2 s2->RelV x v->RelV y u->R x y H2->wpAny (model X.prog X.w) X.A (f v u) Q X.xe s2) :
  wpAny (model X.prog X.w) X.A (eval a X.env) (fun v s₁=>wpAny (model X.prog X.w) X.A (eval b X.env) (fun u s₂=>wpAny (model X.prog X.w) X.A (f v u) Q X.xe s₂) X.xe s₁) X.xe s:=by
 refine thn (ha pins s σ H _ I h) fun v s1 ⟨x,H1,I1,r1,q1⟩=>?_
 refine thn (hb pins s1 σ H1 _ I1 q1) fun u s2 ⟨y,H2,I2,r2,q2⟩=>?_
 exact hf v u s2 x y H2 I2 r1 r2 q2
theorem R7 {op:Operator} {r:R2} (ho:OpR X (binaryOp op) r) (ha:PE X a ta) (hb:PE X b tb):PE X (.BinOp a op b pos) (tOp r ta tb):=by
 intro pins s σ H Q I h
 exact wpAny_BinOp (Nc ha hb I h fun v u s2 x y H2 I2 rx ry q=>ho pins s2 σ H2 x y v u Q I2 rx ry q)
theorem R8 {op:UnaryOp} {r:V->Hp->VK->Prop} (ho:UnR X (unaryOp op) r) (ha:PE X a ta):PE X (.UnaryOp op a pos) (tUn r ta):=by
 intro pins s σ H Q I h
 exact UnaryOp_ (thn (ha pins s σ H _ I h) fun v s1 ⟨x,H1,I1,r1,q1⟩=>ho pins s1 σ H1 x v Q I1 r1 q1)
theorem opI {f:Value->Value->Sem Value} {C:Int->Int->Prop} {g:Int->Int->Int}
  (rule:∀ (i j:Int) (t u:Tok) (s:Shared) (Q:Value->Shared->Prop) (E:Value->Shared->Prop),C i j->Q (.int (g i j) s.toks) { s with toks:=s.toks + 1 }->wpAny (model X.prog X.w) X.A (f (.int i t) (.int j u)) Q E s) :
  OpR X f (rI C fun i j=>.int (g i j)):=by
 intro pins s σ H x y v u Q I rx ry h
 obtain ⟨i,j,rfl,rfl,hc,q⟩:=h
 obtain ⟨t,rfl⟩:=rx
 obtain ⟨t',rfl⟩:=ry
 exact rule i j t t' s _ _ hc ⟨.int (g i j),H,I.tok _,⟨_,rfl⟩,q⟩
theorem Qw {f:Value->Value->Sem Value} {g:Int->Int->Int}
  (rule:∀ (i j:Int) (t u:Tok) (s:Shared) (Q:Value->Shared->Prop) (E:Value->Shared->Prop),Q (.int (g i j) s.toks) { s with toks:=s.toks + 1 }->wpAny (model X.prog X.w) X.A (f (.int i t) (.int j u)) Q E s) :
  OpR X f (rI0 fun i j=>.int (g i j)):=by
 intro pins s σ H x y v u Q I rx ry h
 obtain ⟨i,j,rfl,rfl,q⟩:=h
 obtain ⟨t,rfl⟩:=rx
 obtain ⟨t',rfl⟩:=ry
 exact rule i j t t' s _ _ ⟨.int (g i j),H,I.tok _,⟨_,rfl⟩,q⟩
theorem KO {f:Value->Value->Sem Value} {g:Int->Int->Bool}
  (rule:∀ (i j:Int) (t u:Tok) (s:Shared) (Q:Value->Shared->Prop) (E:Value->Shared->Prop),Q (.bool (g i j)) s->wpAny (model X.prog X.w) X.A (f (.int i t) (.int j u)) Q E s) :
  OpR X f (rI0 fun i j=>.bl (g i j)):=by
 intro pins s σ H x y v u Q I rx ry h
 obtain ⟨i,j,rfl,rfl,q⟩:=h
 obtain ⟨t,rfl⟩:=rx
 obtain ⟨t',rfl⟩:=ry
 exact rule i j t t' s _ _ ⟨.bl (g i j),H,I,rfl,q⟩
noncomputable def Qx (i j:Int):Prop:=0<=j/\j<=1000000/\i.natAbs < 2 ^ 64
noncomputable def CMul (i j:Int):Prop:=(-(2 ^ 64) < i/\i < 2 ^ 64)\/(-(2 ^ 64) < j/\j < 2 ^ 64)
theorem CMul.ok {i j:Int} (h:CMul i j):IntMulOk i j:=by
 rcases h with ⟨h1,h2⟩ | ⟨h1,h2⟩
 ·exact .of_left (intBits_le_64 h1 h2)
 ·exact .of_right (intBits_le_64 h1 h2)
theorem Qy:OpR X (binaryOp .Add) (rI0 fun i j=>.int (i + j)):=Qw fun _ _ _ _ _ _ _ q=>add_int q
theorem Qz:OpR X (binaryOp .Sub) (rI0 fun i j=>.int (i - j)):=Qw fun _ _ _ _ _ _ _ q=>sub_int q
theorem QA:OpR X (binaryOp .Mod) (rI (fun _ j=>0 < j) fun i j=>.int (i % j)):=opI fun i j _ _ _ _ _ hc q=>by
 have h1:(0:Int) < j:=hc
 exact mod_int' (by omega) (by rw [Int.fmod_eq_emod_of_nonneg i (by omega)]; exact q)
theorem QB:OpR X (binaryOp .Pow) (rI Qx fun i j=>.int (i ^ j.toNat)):=opI fun _ _ _ _ _ _ _ hc q=>pow_int_small hc.1 hc.2.1 hc.2.2 q
theorem unI {f:Value->Sem Value} {g:Int->Int}
  (rule:∀ (i:Int) (t:Tok) (s:Shared) (Q:Value->Shared->Prop) (E:Value->Shared->Prop),Q (.int (g i) s.toks) { s with toks:=s.toks + 1 }->wpAny (model X.prog X.w) X.A (f (.int i t)) Q E s) :
  UnR X f (rU fun i=>.int (g i)):=by
 intro pins s σ H x v Q I rx h
 obtain ⟨i,rfl,q⟩:=h
 obtain ⟨t,rfl⟩:=rx
 exact rule i t s _ _ ⟨.int (g i),H,I.tok _,⟨_,rfl⟩,q⟩
theorem QC:UnR X (unaryOp .USub) (rU fun i=>.int (-i)):=unI fun _ _ _ _ _ q=>neg_int q
end
section
variable {X:Cx} {a b c:Expr} {ta tb tc:TE} {pos:Pos}
theorem R9:OpR X (compareOp .Lt) (rI0 fun i j=>.bl (decide (i < j))):=KO fun _ _ _ _ _ _ _ q=>lt_int q
theorem Sa:OpR X (compareOp .LtE) (rI0 fun i j=>.bl (decide (i<=j))):=KO fun _ _ _ _ _ _ _ q=>le_int q
theorem Sb:OpR X (compareOp .Gt) (rI0 fun i j=>.bl (decide (j < i))):=KO fun _ _ _ _ _ _ _ q=>gt_int q
theorem Sd:OpR X (compareOp .GtE) (rI0 fun i j=>.bl (decide (j<=i))):=KO fun _ _ _ _ _ _ _ q=>ge_int q
theorem OpR.or {f:Value->Value->Sem Value} {r r':R2} (h:OpR X f r) (h':OpR X f r'):OpR X f (fun x y H Q=>r x y H Q\/r' x y H Q):=by
 intro pins s σ H x y v u Q I rx ry q
 rcases q with q | q
 ·exact h pins s σ H x y v u Q I rx ry q
 ·exact h' pins s σ H x y v u Q I rx ry q
theorem OF {op:CmpOp} {r:R2} (ho:OpR X (compareOp op) r) (ha:PE X a ta) (hb:PE X b tb) (hm:behindInMarks op b=false):PE X (.Compare a [op] [b] pos) (tOp r ta tb):=by
 intro pins s σ H Q I h
 exact wpAny_Compare1 (Nc ha hb I h fun v u s2 x y H2 I2 rx ry q=>ho pins s2 σ H2 x y v u Q I2 rx ry q) hm
noncomputable def Oh (t:TE):TT:=fun σ H Q=>t σ H fun x H'=>∃ k,x=.bl k/\Q k H'
theorem OG {op:CmpOp} {r:R2} (ho:OpR X (compareOp op) r) (ha:PE X a ta) (hb:PE X b tb) (hm:behindInMarks op b=false):PT X (.Compare a [op] [b] pos) (Oh (tOp r ta tb)):=by
 intro pins s σ H Q I h
 refine wpAny_isTrue_Compare1 (thn (ha pins s σ H _ I h) fun v s1 ⟨x,H1,I1,r1,q1⟩=>thn (hb pins s1 σ H1 _ I1 q1) fun u s2 ⟨y,H2,I2,r2,q2⟩ =>
  thn (ho pins s2 σ H2 x y v u _ I2 r1 r2 q2) fun c s3 ⟨z,H3,I3,r3,k,e,q3⟩=>?_) hm
 subst e
 cases r3
 exact wpAny_truthy_bool ⟨H3,I3,q3⟩
noncomputable def Ix (r r':R2) (ta tb tc:TE):TE:=fun σ H Q=>ta σ H fun x H1=>tb σ H1 fun y H2=>r x y H2 fun z H3=>∃ k,z=.bl k /\
 (if k=true then tc σ H3 fun w' H4=>r' y w' H4 Q else Q (.bl false) H3)
theorem Nf {op op':CmpOp} {r r':R2} (ho:OpR X (compareOp op) r) (ho':OpR X (compareOp op') r') (ha:PE X a ta) (hb:PE X b tb) (hc:PE X c tc)
  (hm:lastMarks [op,op'] [b,c]=false:=by with_unfolding_all rfl):PE X (.Compare a [op,op'] [b,c] pos) (Ix r r' ta tb tc):=by
 intro pins s σ H Q I h
 refine Compare_chain (thn (ha pins s σ H _ I h) fun v s1 ⟨x,H1,I1,r1,q1⟩=>chain_link (thn (hb pins s1 σ H1 _ I1 q1) fun u s2 ⟨y,H2,I2,r2,q2⟩ =>
  thn (ho pins s2 σ H2 x y v u _ I2 r1 r2 q2) fun d s3 ⟨z,H3,I3,r3,k,e,q3⟩=>?_)) hm
 subst e
 cases r3
 refine wpAny_truthy_bool ?_
 cases k with
 | false=>exact ite_ff ⟨.bl false,H3,I3,rfl,q3⟩
 | true=>exact ite_tt (chain_last (thn (hc pins s3 σ H3 _ I3 q3) fun w' s4 ⟨z',H4,I4,r4,q4⟩=>ho' pins s4 σ H4 y z' u w' Q I4 r2 r4 q4))
theorem Ng {op op':CmpOp} {r r':R2} (ho:OpR X (compareOp op) r) (ho':OpR X (compareOp op') r') (ha:PE X a ta) (hb:PE X b tb) (hc:PE X c tc)
  (hm:lastMarks [op,op'] [b,c]=false:=by with_unfolding_all rfl):PT X (.Compare a [op,op'] [b,c] pos) (Oh (Ix r r' ta tb tc)):=by
 intro pins s σ H Q I h
 refine isTrue_chain (thn (ha pins s σ H _ I h) fun v s1 ⟨x,H1,I1,r1,q1⟩=>test_link (thn (hb pins s1 σ H1 _ I1 q1) fun u s2 ⟨y,H2,I2,r2,q2⟩ =>
  thn (ho pins s2 σ H2 x y v u _ I2 r1 r2 q2) fun d s3 ⟨z,H3,I3,r3,k,e,q3⟩=>?_)) hm
 subst e
 cases r3
 refine wpAny_truthy_bool ?_
 cases k with
 | false =>
  obtain ⟨k',e',q'⟩:=q3
  cases e'
  exact ite_ff ⟨H3,I3,q'⟩
 | true =>
  refine ite_tt (test_last (thn (hc pins s3 σ H3 _ I3 q3) fun w' s4 ⟨z',H4,I4,r4,q4⟩=>thn (ho' pins s4 σ H4 y z' u w' _ I4 r2 r4 q4) fun d' s5 ⟨z2,H5,I5,r5,k2,e2,q5⟩=>?_))
  subst e2
  cases r5
  exact wpAny_truthy_bool ⟨H5,I5,q5⟩
noncomputable def Nh (K:PySem.W.Frag) (x:V) (H:Hp) (k:Bool):Prop :=
 match x with
 | .non=>k=false
 | .bl b=>k=b
 | .int i=>k=(i != 0)
 | .str y=>y.length<=sizeLine/\k=((y.length:Int) != 0)
 | .byt y=>y.size<=sizeLine/\k=((y.size:Int) != 0)
 | .ref p=>(∃ xs,SqL K H p xs/\k=!xs.isEmpty)\/(∃ xs,SqT K H p xs/\k=!xs.isEmpty)\/∃ kvs,H p=some (.dK kvs)/\k=!kvs.isEmpty
 | _=>False
theorem KP {κ:Type} {kvs:List (κ × V)} {vs:List (κ × Value)} (r:KV kvs vs):(!vs.isEmpty)=!kvs.isEmpty:=by
 cases r <;> rfl
theorem Gr {xs:List V} {its:List Value} (r:Vals xs its):(!its.toArray.isEmpty)=!xs.isEmpty:=by
 cases r <;> simp
theorem Gs:(sizeLine:Nat) < 2 ^ 63:=by rw [sizeLine_eq]; decide
theorem QD:SS X (fun x H Q=>∃ k,Nh X.K x H k/\Q k H):=by
 intro pins s σ H x v Q I rx h
 obtain ⟨k,e,q⟩:=h
 have hl:=Gs
 have hs:sizeLine=16777216:=sizeLine_eq
 cases x with
 | non =>
  cases rx
  have e':k=false:=e
  subst e'
  exact truthy_none ⟨H,I,q⟩
 | bl b =>
  cases rx
  have e':k=b:=e
  subst e'
  exact wpAny_truthy_bool ⟨H,I,q⟩
 | int i =>
  obtain ⟨t,rfl⟩:=rx
  have e':k=(i != 0):=e
  subst e'
  exact PySem.P.truthy_int ⟨H,I,q⟩
 | str y =>
  obtain ⟨t,rfl⟩:=rx
  obtain ⟨hy,e'⟩:y.length<=sizeLine/\k=((y.length:Int) != 0):=e
  subst e'
  exact PySem.P.truthy_str (by omega) ⟨H,I.tok _,q⟩
 | byt y =>
  obtain ⟨t,rfl⟩:=rx
  obtain ⟨hy,e'⟩:y.size<=sizeLine/\k=((y.size:Int) != 0):=e
  subst e'
  exact PySem.W.truthy_bytes (by omega) ⟨H,I.tok _,q⟩
 | ref p =>
  cases rx
  have e':(∃ xs,SqL X.K H p xs/\k=!xs.isEmpty)\/(∃ xs,SqT X.K H p xs/\k=!xs.isEmpty)\/∃ kvs,H p=some (.dK kvs)/\k=!kvs.isEmpty:=e
  rcases e' with ⟨xs,hx,e'⟩ | ⟨xs,hx,e'⟩ | ⟨kvs,hx,e'⟩
  ·subst e'
   obtain ⟨its,r,pl,hz⟩:=I.list hx
   have hlen:=r.length
   exact wpAny_truthy_list pl.isList (by simp only [aal]; omega) ⟨H,I.tok _,by rw [Gr r]; exact q⟩
  ·subst e'
   obtain ⟨its,r,pl,hz⟩:=I.tuple hx
   have hlen:=r.length
   exact truthy_tuple pl (by simp only [aal]; omega) ⟨H,I.tok _,by rw [Gr r]; exact q⟩
  ·subst e'
   obtain ⟨hz,hS,vs,r,m⟩:kvs.length<=sizeLine/\(p==sysModules)=false/\∃ vs,KV kvs vs/\s.heap.DictOf (G2 X.prog X.w) p vs:=I.hok p _ hx
   have hlen:kvs.length=vs.length:=Paired.length r
   exact wpAny_truthy_dict hS m (by omega) ⟨H,I.tok _,by rw [KP r]; exact q⟩
 | _=>exact nE e
theorem Ni (ha:PE X a ta) (he:∀ whole,isTrue a X.env whole=(do let v <- whole; standAt a.pos; holding [v] (truthy v))) :
  PT X a (fun σ H Q=>ta σ H fun x H'=>∃ k,Nh X.K x H' k/\Q k H'):=by
 intro pins s σ H Q I h
 exact isTrue_plain (thn (ha pins s σ H _ I h) fun v s1 ⟨x,H1,I1,r1,q1⟩=>QD pins s1 σ H1 x v Q I1 r1 q1) (he _)
theorem KQ:OpR X (binaryOp .Add) (fun x y H Q=>∃ i j,x=.str i/\y=.str j/\i.length + j.length<=sizeLine/\Q (.str (i ++ j)) H):=by
 intro pins s σ H x y v u Q I rx ry h
 obtain ⟨i,j,rfl,rfl,hz,q⟩:=h
 obtain ⟨t,rfl⟩:=rx
 obtain ⟨t',rfl⟩:=ry
 exact add_str (fun t' tk=>⟨.str (i ++ j),H,I.tok _,⟨_,rfl⟩,q⟩) hz
theorem Gu {x:V} {us:List Value} (r:Vals [x] us):∃ u,us=[u]/\RelV x u:=by
 cases r with
 | cons r1 r2=>cases r2; exact ⟨_,rfl,r1⟩
theorem KR {x y:V} {us:List Value} (r:Vals [x,y] us):∃ u w',us=[u,w']/\RelV x u/\RelV y w':=by
 cases r with
 | cons r1 r2 =>
  cases r2 with
  | cons r3 r4=>cases r4; exact ⟨_,_,rfl,r1,r3⟩
theorem LW (hc:X.calm=true):DF X (.builtin "max") (fun xs H Q=>∃ i j,xs=[.int i,.int j]/\Q (.int (if j > i then j else i)) H):=by
 intro pins s σ H xs us Q I r h
 obtain ⟨i,j,rfl,q⟩:=h
 obtain ⟨u,w',rfl,⟨t,rfl⟩,⟨t',rfl⟩⟩:=KR r
 refine max_two_ints (I.ok.hd hc) fun h' tk k=>⟨_,H,I.kept k,?_,q⟩
 by_cases hj:j > i
 ·rw [if_pos hj,if_pos hj]; exact ⟨_,rfl⟩
 ·rw [if_neg hj,if_neg hj]; exact ⟨_,rfl⟩
theorem LX (hc:X.calm=true):DF X (.builtin "min") (fun xs H Q=>∃ i j,xs=[.int i,.int j]/\Q (.int (if j < i then j else i)) H):=by
 intro pins s σ H xs us Q I r h
 obtain ⟨i,j,rfl,q⟩:=h
 obtain ⟨u,w',rfl,⟨t,rfl⟩,⟨t',rfl⟩⟩:=KR r
 refine min_two_ints (I.ok.hd hc) fun h' tk k=>⟨_,H,I.kept k,?_,q⟩
 by_cases hj:j < i
 ·rw [if_pos hj,if_pos hj]; exact ⟨_,rfl⟩
 ·rw [if_neg hj,if_neg hj]; exact ⟨_,rfl⟩
theorem LY:DF X (.type "int") (fun xs H Q=>(∃ i,xs=[.int i]/\Q (.int i) H)\/∃ k,xs=[.bl k]/\Q (.int (if k then 1 else 0)) H):=by
 intro pins s σ H xs us Q I r h
 rcases h with ⟨i,rfl,q⟩ | ⟨k,rfl,q⟩
 ·obtain ⟨u,rfl,t,rfl⟩:=Gu r
  exact call_int_int ⟨.int i,H,I,⟨_,rfl⟩,q⟩
 ·obtain ⟨u,rfl,r1⟩:=Gu r
  cases r1
  exact call_int_bool ⟨.int (if k then 1 else 0),H,I.tok _,⟨_,rfl⟩,q⟩
end
structure ObjM (h:Heap) (x dx C:Addr) (mA:Str->Option Value):Prop where
 obj:h.get? x=some (PySem.W.instObj C dx)
 ns:h.Ns1 dx mA
 ne:dx ≠ x
theorem LZ {h:Heap} {dx:Addr} {mA:Str->Option Value} (n:h.Ns1 dx mA):∃ od,h.get? dx=some od/\∀ name,PySem.W.lookIn name od=some (mA name):=by
 obtain ⟨o,es,ep,ho,hd,hk,_,hm⟩:=n
 refine ⟨o,ho,fun name=>?_⟩
 have e:=hm name
 unfold nsFind findBy at e
 rw [<- Array.find?_toList] at e
 unfold PySem.W.lookIn
 rw [hd]
 dsimp only
 split
 ·rename_i y q
  rw [q] at e
  exact congrArg some e
 ·rename_i q
  rw [q] at e
  have a:es.toList.any (·.refKey)=false:=by
   rw [List.any_eq_false]
   intro y hy
   obtain ⟨z,t,hkey⟩:=hk y (Array.mem_toList_iff.mp hy)
   simp [DictEntry.refKey,hkey]
  have a':¬ es.toList.any (·.refKey)=true:=by rw [a]; exact aaQ
  rw [if_neg a']
  exact congrArg some e
theorem ObjM.look {h:Heap} {x dx C:Addr} {mA:Str->Option Value} (I:ObjM h x dx C mA):∃ od,PySem.W.InstAt h x (PySem.W.instObj C dx) C (some od)/\∀ name,PySem.W.lookIn name od=some (mA name) :=
 let ⟨od,ho,hl⟩:=LZ I.ns
 ⟨od,⟨I.obj,rfl,rfl,ho⟩,hl⟩
section
variable {P:Program} {w:World} {H H':Hp} {h h':Heap} {a C dx:Addr} {fs fs':List (Str × V)}
theorem OH (hok:HOk P w H h) (e:H a=some (.ins C dx fs)):∃ mA,ObjM h a dx C mA/\(∀ f,M7 (fs.lookup f) (mA f))/\PySem.Within mA (fs.map (·.1))/\fs.length<=1000/\H dx=some (.own a):=by
 obtain ⟨d,z,ne,ob,mA,n,r,q⟩:=(show ObjOk P w H h a (.ins C dx fs) from hok a _ e)
 exact ⟨mA,⟨ob,n,ne⟩,r,q,z,d⟩
end
structure Cls (K:PySem.W.Frag) (C:Addr):Prop where
 pg:PySem.W.plainGet K C Str.empty=true
 hd:PySem.W.hasDictIn K C=true
 po:PySem.W.plainOver K C=true
 sa:PySem.W.findIn K (.ref C) "__setattr__" = some (some (.builtin "object.__setattr__"))
theorem Cls.get {K:PySem.W.Frag} {C:Addr} (c:Cls K C) (f:Str):PySem.W.plainGet K C f=true:=c.pg
section
variable {X:Cx} {pins:List (Addr × Obj)} {σ:St} {H:Hp} {s:Shared} {A:Around} {E:Value->Shared->Prop} {Q:Value->Shared->Prop} {c:Value} {b:Bool}
inductive TyOf (K:PySem.W.Frag) (H:Hp):V->Value->Prop where
 | non:TyOf K H .non (.type "NoneType")
 | bl (x:Bool):TyOf K H (.bl x) (.type "bool")
 | int (i:Int):TyOf K H (.int i) (.type "int")
 | str (x:Str):TyOf K H (.str x) (.type "str")
 | flt (x:UInt64):TyOf K H (.flt x) (.type "float")
 | lst {a:Addr} {xs:List V} (e:H a=some (.lst xs)):TyOf K H (.ref a) (.type "list")
 | frz {a:Addr} {o:Obj} {xs:List V} (e:H a=some (.frz o (.lst xs))):TyOf K H (.ref a) (.type "list")
 | tup {a:Addr} {xs:List V} (e:H a=some (.tup xs)):TyOf K H (.ref a) (.type "tuple")
 | dK {a:Addr} {kvs:List (Key × V)} (e:H a=some (.dK kvs)):TyOf K H (.ref a) (.type "dict")
 | dT {a:Addr} {kvs:List (List Key × V)} (e:H a=some (.dT kvs)):TyOf K H (.ref a) (.type "dict")
 | ins {a C dx:Addr} {fs:List (Str × V)} (e:H a=some (.ins C dx fs)) (cl:Cls K C) (ha:PySem.W.findIn K (.ref C) "__class__" = some (some (.builtin "object.__class__")))
   (hn:PySem.W.specialIn K (.builtin "object.__class__") "__get__" = some (some (.builtin "getset_descriptor.__get__"))) (htk:PySem.W.takesIn K (.builtin "object.__class__")=some true)
   (hm:PySem.W.mroIn K C (.type "object")=some true):TyOf K H (.ref a) (.ref C)
theorem L3 {x:V} {u t:Value} (I:Inv X pins σ H s) (rx:RelV x u) (ty:TyOf X.K H x t) (e:PySem.W.kitOne X.K t c=some b) (h:∀ tk,Q (.bool b) { s with toks:=tk }) :
  wpAny (model X.prog X.w) A (call (.builtin "isinstance") [u,c]) Q E s:=by
 cases ty with
 | non=>cases (show u=Value.none from rx); exact PySem.W.kia_one PySem.W.kitx_none I.kIn True.intro e (fun z=>nomatch z) h
 | bl y=>cases (show u=Value.bool y from rx); exact PySem.W.kia_one PySem.W.kitx_bool I.kIn True.intro e (fun z=>nomatch z) h
 | int i=>obtain ⟨t,q⟩:=(show ∃ t,u=Value.int i t from rx); cases q; exact PySem.W.kia_one PySem.W.kitx_int I.kIn True.intro e (fun z=>nomatch z) h
 | str y=>obtain ⟨t,q⟩:=(show ∃ t,u=Value.str y t from rx); cases q; exact PySem.W.kia_one PySem.W.kitx_str I.kIn True.intro e (fun z=>nomatch z) h
 | flt y=>obtain ⟨t,q⟩:=(show ∃ t,u=Value.float y t from rx); cases q; exact PySem.W.kia_one PySem.W.kitx_float I.kIn True.intro e (fun z=>nomatch z) h
 | @lst a xs ea =>
  cases (show u=Value.ref a from rx)
  obtain ⟨_,_,n,_,h1⟩:=(show ObjOk X.prog X.w H s.heap a (.lst xs) from I.hok a _ ea)
  exact PySem.W.kia_one PySem.W.kitx_list I.kIn ⟨_,h1,rfl⟩ e (fun z=>nomatch z) h
 | @frz a ob xs ea =>
  cases (show u=Value.ref a from rx)
  obtain ⟨_,_,_,n,_,h1⟩:=(show ObjOk X.prog X.w H s.heap a (.frz ob (.lst xs)) from I.hok a _ ea)
  exact PySem.W.kia_one PySem.W.kitx_list I.kIn ⟨_,h1,rfl⟩ e (fun z=>nomatch z) h
 | @tup a xs ea =>
  cases (show u=Value.ref a from rx)
  obtain ⟨_,_,_,p⟩:=(show ObjOk X.prog X.w H s.heap a (.tup xs) from I.hok a _ ea)
  obtain ⟨o,h1,h2,_⟩:=p
  exact PySem.W.kia_one PySem.W.kitx_tuple I.kIn ⟨o,h1,h2⟩ e (fun z=>nomatch z) h
 | @dK a kvs ea =>
  cases (show u=Value.ref a from rx)
  obtain ⟨_,_,vs,_,p⟩:=(show ObjOk X.prog X.w H s.heap a (.dK kvs) from I.hok a _ ea)
  obtain ⟨o,es,ep,h1,h2,_⟩:=p
  exact PySem.W.kia_one PySem.W.kitx_dict I.kIn ⟨o,h1,h2.1⟩ e (fun z=>nomatch z) h
 | @dT a kvs ea =>
  cases (show u=Value.ref a from rx)
  obtain ⟨_,_,xs,_,o,es,ep,h1,h2,_⟩:=(show ObjOk X.prog X.w H s.heap a (.dT kvs) from I.hok a _ ea)
  exact PySem.W.kia_one PySem.W.kitx_dict I.kIn ⟨o,h1,h2.1⟩ e (fun z=>nomatch z) h
 | @ins a C dx fs ea cl ha hn htk hm =>
  cases (show u=Value.ref a from rx)
  obtain ⟨mA,O,_⟩:=OH I.hok ea
  obtain ⟨od,J,_⟩:=O.look
  exact PySem.W.kia_one (PySem.W.kitx_own (cl.get _) cl.hd ha hn htk hm) I.kIn J e (fun z=>nomatch z) h
end
structure Room (k:Nat) (A:Around):Prop where
 hd:A.handled=none
 dp:A.depth + 3 * k + 5 < recursionLimit
 un:A.units + 16 * k + 200 < cLine
theorem Room.mono {j k:Nat} {A:Around} (r:Room k A) (h:j<=k):Room j A:=⟨r.hd,by have:=r.dp; omega,by have:=r.un; omega⟩
theorem Room.deeper {k:Nat} {A:Around} (r:Room (k + 1) A) (env:Env):Room k (A.deeper env) :=
 ⟨r.hd,by have:=r.dp; show A.depth + 1 + 3 * k + 5 < _; omega,by have:=r.un; show A.units + 3 + 16 * k + 200 < _; omega⟩
theorem Room.depth {k:Nat} {A:Around} (r:Room k A):A.depth < recursionLimit:=by have:=r.dp; omega
theorem Room.units {k:Nat} {A:Around} (r:Room k A):A.units + 64 < cLine:=by have:=r.un; omega
noncomputable def QE:TA:=fun _ H Q=>Q [] H
noncomputable def Oi (ta:TE) (tr:TA):TA:=fun σ H Q=>ta σ H fun x H1=>tr σ H1 fun xs H2=>Q (x :: xs) H2
section
variable {X:Cx} {e:Expr} {es:List Expr} {te:TE} {t:TA} {pos:Pos}
theorem DW:PA X [] QE:=fun _ _ _ _ H Q I h=>Calls.spliced_nil ⟨[],H,I,.nil,h⟩
theorem Bz (ha:PE X e te) (hr:PA X es t) (hs:starEach (e :: es) X.env=(false,eval e X.env) :: starEach es X.env:=by rfl):PA X (e :: es) (Oi te t):=by
 intro pos pins s σ H Q I h
 rw [hs]
 show wpAny _ _ (spliced ((false,eval e X.env) :: backTo pos (starEach es X.env))) _ _ s
 refine Calls.spliced_cons (thn (ha pins s σ H _ I h) fun u s1 ⟨x,H1,I1,r1,q1⟩=>?_)
 exact thn (hr pos pins s1 σ H1 _ I1 q1) fun us s2 ⟨xs,H2,I2,r2,q2⟩=>⟨x :: xs,H2,I2,.cons r1 r2,q2⟩
noncomputable def QF (t:TA):TE:=fun σ H Q=>t σ H fun xs H1=>xs.length<=sizeLine/\∀ p,H1 p=none->Q (.ref p) (upd H1 p (.tup xs))
noncomputable def ST (t:TA):TE:=fun σ H Q=>t σ H fun xs H1=>xs.length<=sizeLine/\∀ p,H1 p=none->Q (.ref p) (upd H1 p (.lst xs))
theorem L4 {x1} (h:PA X es t):PE X (.Tuple es x1 pos) (QF t):=by
 intro pins s σ H Q I hq
 refine wpAny_Tuple_spliced (thn (h pos pins s σ H _ I hq) fun us s1 ⟨xs,H1,I1,r,z,q⟩=>⟨by rw [<- r.length]; exact z,?_⟩)
 have hf:H1 s1.heap.objs.size=none:=I1.hok.fresh (aag _)
 refine ⟨.ref s1.heap.objs.size,upd H1 s1.heap.objs.size (.tup xs),I1.laid (t':=s1.toks) (fun b u e=>Heap.get?_push_of_some _ e) (aag _) ?_,rfl,q _ hf⟩
 exact ⟨z,us,r,⟨_,Heap.get?_push_size _ rfl,rfl,_,rfl⟩⟩
theorem QG (h:PA X es t):PE X (.List es pos) (ST t):=by
 intro pins s σ H Q I hq
 refine wpAny_List_spliced (thn (h pos pins s σ H _ I hq) fun us s1 ⟨xs,H1,I1,r,z,q⟩=>⟨by rw [<- r.length]; exact z,?_⟩)
 have hf:H1 s1.heap.objs.size=none:=I1.hok.fresh (aag _)
 refine ⟨.ref s1.heap.objs.size,upd H1 s1.heap.objs.size (.lst xs),I1.laid (t':=s1.toks) (fun b u e=>Heap.get?_push_of_some _ e) (aag _) ?_,rfl,q _ hf⟩
 exact ⟨z,us,0,r,Heap.get?_push_size _ rfl⟩
end
noncomputable abbrev Sp:=List V->Hp->VK->XK->Prop
noncomputable abbrev CXT:=List Env->Hp->Shared->XK->Value->Shared->Prop
structure Env0 (P:Program) (w:World) (K:PySem.W.Frag) (mg:Str->Option Value) (base:Heap) (A:Around) (outer:List Env) (s:Shared) (H:Hp):Prop where
 frames:A.frames=some outer
 mod:Mod K mg base
 bs:∀ b o,base.get? b=some o->s.heap.get? b=some o/\H b=none
 bsz:base.objs.size<=s.heap.objs.size
 funs:s.heap.FunFrames base outer
 frf:∀ b ∈ frs outer,H b=none
 hok:HOk P w H s.heap
 bare:AllBare s.gens
noncomputable def CE (outer:List Env) (P:Program) (w:World) (H:Hp) (s:Shared) (Q:VK) (u:Value) (s':Shared):Prop :=
 ∃ v H',s'.os=s.os/\AllBare s'.gens/\Un (frs outer) [] H H' s.heap s'.heap/\HOk P w H' s'.heap/\RelV v u/\Q v H'
noncomputable def CR (CX:CXT) (outer:List Env) (P:Program) (w:World) (H:Hp) (s:Shared) (Q:VK) (E:XK) (r:Result) (s':Shared):Prop :=
 match r with
 | .ok (.ret u)=>CE outer P w H s Q u s'
 | .ok _=>False
 | .error e=>CX outer H s E e s'
structure FnOk (P:Program) (w:World) (K:PySem.W.Frag) (mg:Str->Option Value) (base:Heap) (CX:CXT) (k:Nat) (f:Addr) (fd:FuncData) (ps:List Str) (sp:Sp):Prop where
 len:∀ vs H Q E,sp vs H Q E->vs.length=ps.length
 run:∀ (A:Around) (outer:List Env) (s:Shared) (H:Hp) (args:Args) (us:List Value) (vs:List V) (Q:VK) (E:XK),Room k A->Env0 P w K mg base A outer s H->BindsTo s fd args (ps.zip us)->Vals vs us->sp vs H Q E ->
  codeAny (model P w) A (.call (.ref f) args) (CR CX outer P w H s Q E) s
theorem FnOk.imp {P:Program} {w:World} {K:PySem.W.Frag} {mg:Str->Option Value} {base:Heap} {CX:CXT} {k:Nat} {f:Addr} {fd:FuncData} {ps:List Str} {sp sp':Sp} (F:FnOk P w K mg base CX k f fd ps sp)
  (h:∀ vs H Q E,sp' vs H Q E->sp vs H Q E):FnOk P w K mg base CX k f fd ps sp' :=
 ⟨fun vs H Q E q=>F.len vs H Q E (h _ _ _ _ q),fun A outer s H args us vs Q E hr he hb hv hs=>F.run A outer s H args us vs Q E hr he hb hv (h _ _ _ _ hs)⟩
section
variable {X:Cx} {pins:List (Addr × Obj)} {σ:St} {H:Hp} {s s':Shared}
theorem Inv.env0 (I:Inv X pins σ H s):Env0 X.prog X.w X.K X.mg X.base X.A X.stack s H :=
 ⟨I.ok.frames,I.ok.mod,I.bs,aaD I.ok.bsz I.sz,I.stack,I.stkFree,I.hok,I.bare⟩
theorem Inv.after {Q:VK} {u:Value} (I:Inv X pins σ H s) (h:CE X.stack X.prog X.w H s Q u s'):EP X pins σ Q u s':=by
 obtain ⟨v,H',os,bare,un,hok,r,q⟩:=h
 obtain ⟨hh,g,d,t,os'⟩:=s'
 obtain rfl:os'=s.os:=os
 exact ⟨v,H',I.call (h':=hh) (g':=g) (d':=d) (t':=t) (ch:=[]) un hok bare (fun b z=>absurd z (by simp)),r,q⟩
end
noncomputable def Binds (K:PySem.W.Frag) (fd:FuncData) (ps:List Str) (ds:List Value):Prop :=
 ∀ (s:Shared) (us:List Value),K.In s.heap->(us ++ ds).length=ps.length->BindsTo s fd ⟨us,[]⟩ (ps.zip (us ++ ds))
theorem Binds.all {K:PySem.W.Frag} {fd:FuncData} {ps:List Str} (h:∀ us:List Value,us.length=ps.length->bindArgs fd ⟨us,[]⟩=pure (ps.zip us)):Binds K fd ps []:=fun s us _ hl=>by
 rw [aaR] at hl ⊢
 exact .of_eq (h us hl)
noncomputable def QH (CX:CXT) (X:Cx) (E:XK):Prop:=∀ (pins:List (Addr × Obj)) (σ:St) (H:Hp) (s:Shared) (e:Value) (s':Shared),Inv X pins σ H s->CX X.stack H s E e s'->X.xe e s'
structure FnScope (N P:List Str) (sc:Scope):Prop where
 kind:sc.kind=.function
 co:sc.isCoroutine=false
 gen:sc.isGenerator=false
 nd:N.Nodup
 pre:N.take P.length=P
 par:∀ x ∈ P,sc.names.lookup x=some .local\/sc.names.lookup x=some .cell
 nofree:∀ y ∈ sc.names,y.2 ≠ .free
theorem Hx {kindOf:Str->Option NameKind} {x:Str}:∀ {binds:List (Str × Value)} {m:Str->Option Value},(∀ v,(x,v) ∉ binds)->bindL kindOf binds m x=m x
 | [],_,_=>rfl
 | (n,v) :: r,m,h=>by
  unfold bindL
  rw [Hx fun w hw=>h w (aaa _ hw)]
  split
  ·have:x ≠ n:=by rintro rfl; exact h v aac
   simp [this]
  ·rfl
theorem Hy {kindOf:Str->Option NameKind} {x:Str}:∀ {binds:List (Str × Value)} {m:Str->Option Value},(∀ v,(x,v) ∉ binds)->bindC kindOf binds m x=m x
 | [],_,_=>rfl
 | (n,v) :: r,m,h=>by
  unfold bindC
  rw [Hy fun w hw=>h w (aaa _ hw)]
  split
  ·rfl
  ·have:x ≠ n:=by rintro rfl; exact h v aac
   simp [this]
theorem Hz {kindOf:Str->Option NameKind} {x:Str} {v:Value}:∀ {P:List Str} {vs:List Value} {i:Nat} {m:Str->Option Value},P.Nodup->P[i]?=some x->vs[i]?=some v->kindOf x=some .local ->
  bindL kindOf (P.zip vs) m x=some v
 | [],_,_,_,_,h,_,_=>by simp at h
 | _ :: _,[],_,_,_,_,h,_=>by simp at h
 | p :: P,w :: vs,0,m,nd,h1,h2,hk=>by
  simp at h1 h2; subst h1; subst h2
  show bindL kindOf ((p,w) :: P.zip vs) m p=_
  unfold bindL
  rw [Hx fun v hv=>(aaC.mp nd).1 (ace hv).1,if_pos hk]
  simp
 | p :: P,w :: vs,i + 1,m,nd,h1,h2,hk=>by
  show bindL kindOf ((p,w) :: P.zip vs) m x=_
  unfold bindL
  exact Hz (i:=i) (aaC.mp nd).2 (by simpa using h1) (by simpa using h2) hk
theorem HA {kindOf:Str->Option NameKind} {x:Str} {v:Value}:∀ {P:List Str} {vs:List Value} {i:Nat} {m:Str->Option Value},P.Nodup->P[i]?=some x->vs[i]?=some v->kindOf x ≠ some .local ->
  bindC kindOf (P.zip vs) m x=some v
 | [],_,_,_,_,h,_,_=>by simp at h
 | _ :: _,[],_,_,_,_,h,_=>by simp at h
 | p :: P,w :: vs,0,m,nd,h1,h2,hk=>by
  simp at h1 h2; subst h1; subst h2
  show bindC kindOf ((p,w) :: P.zip vs) m p=_
  unfold bindC
  rw [Hy fun v hv=>(aaC.mp nd).1 (ace hv).1,if_neg hk]
  simp
 | p :: P,w :: vs,i + 1,m,nd,h1,h2,hk=>by
  show bindC kindOf ((p,w) :: P.zip vs) m x=_
  unfold bindC
  exact HA (i:=i) (aaC.mp nd).2 (by simpa using h1) (by simpa using h2) hk
noncomputable def AL (N:List Str) (vs:List V):St:=vs.map some ++ aam (N.length - vs.length) none
noncomputable def BL (CX:CXT) (P:Program) (w:World) (K:PySem.W.Frag) (mg:Str->Option Value) (base:Heap) (N:List Str) (qual:Str) (scope:Scope) (f:Addr) (cd:Value) (A:Around) (outer:List Env) (s:Shared) (H:Hp) (E:XK):Cx where
 prog:=P
 w:=w
 K:=K
 mg:=mg
 base:=base
 A:=A.deeper (envOfC qual scope s.heap.objs.size f cd)
 N:=N
 s₀:=s
 H₀:=H
 env:=envOfC qual scope s.heap.objs.size f cd
 outer:=outer
 stack:=envOfC qual scope s.heap.objs.size f cd :: outer
 ex:=[]
 calm:=true
 fn:=fun _=>true
 pn:=[]
 xe:=fun e s'=>wpAny (model P w) (A.deeper (envOfC qual scope s.heap.objs.size f cd)) (leaving (envOfC qual scope s.heap.objs.size f cd) e) (fun _ s''=>CX outer H s E e s'') (fun e' s''=>CX outer H s E e' s'') s'
theorem Iy {sc:Scope} {n:Nat} {x:Str} (h:sc.names.lookup x=some .cell):∃ c,(cellsFrom n sc.names []).lookup x=some c:=by
 have q:=PySem.W.cellsFrom_some sc.names n [] (.inl h)
 exact aat.mp q
theorem L5 {CX:CXT} {P:Program} {w:World} {K:PySem.W.Frag} {mg:Str->Option Value} {base:Heap} {N ps:List Str} {qual:Str} {scope:Scope} {f:Addr} {cd:Value} {A:Around} {outer:List Env} {s s1:Shared} {H:Hp} {E:XK} {us:List Value} {vs:List V}
  (S:FnScope N ps scope) (hd:A.handled=none) (e0:Env0 P w K mg base A outer s H) (hl:vs.length=ps.length) (r:Vals vs us)
  (x:InCallC s s.heap.objs.size (bindL (envOfC qual scope s.heap.objs.size f cd).kindOf (ps.zip us) fun _=>none) (cellsFrom (s.heap.objs.size + 1) scope.names []) (bindC (envOfC qual scope s.heap.objs.size f cd).kindOf (ps.zip us) fun _=>none) s1) :
  Inv (BL CX P w K mg base N qual scope f cd A outer s H E) [] (AL N vs) H s1:=by
 have hpl:ps.length<=N.length:=by have:=congrArg aa9 S.pre; rw [abj] at this; omega
 obtain ⟨h1,tk,rfl,hk⟩:=x.done
 have noA:∀ b:Addr,b ∉ (BL CX P w K mg base N qual scope f cd A outer s H E).ex:=fun b z=>absurd (show b ∈ ([]:List Addr) from z) (by simp)
 refine ⟨⟨e0.mod,S.kind,rfl,rfl,aag _,fun y z c h1 h2=>?_,fun y hy=>?_,fun y c _ h=>?_,fun _=>hd,Around.frames_deeper e0.frames,.inr ⟨rfl,rfl⟩,fun b z=>absurd z (noA b),e0.bs,e0.bsz,fun b _ _=>noA b,fun b z=>absurd z (noA b),e0.funs,e0.frf⟩,
  rfl,e0.bare,Un.kept hk,⟨_,x.toInCall.ns,fun i y v h1 h2 h3=>?_⟩,fun y c h=>⟨_,x.cell y c h⟩,e0.hok.fresh (aag _),fun y c h=>?_,fun p hp=>absurd (show p ∈ ([]:List (Addr × Obj)) from hp) (by simp),e0.hok.kept hk,?_⟩
 ·exact name_of_addr x.apart (PySem.mem_of_lookup h1) (PySem.mem_of_lookup h2)
 ·have hy:scope.names.lookup y=some .cell\/scope.names.lookup y=some .free:=hy
  rcases hy with hy | hy
  ·exact Iy hy
  ·exact absurd rfl (S.nofree _ (PySem.mem_of_lookup hy))
 ·exact abF (x.above y c (PySem.mem_of_lookup h))
 ·have hi:i < vs.length:=by
   unfold AL at h2
   by_cases hi:i < vs.length
   ·exact hi
   ·rw [aay (by simpa using hi)] at h2
    rw [aaO] at h2
    split at h2 <;> cases h2
  have ha:vs[i]?=some v:=by
   unfold AL at h2
   rw [aaL (by simpa using hi),aan] at h2
   cases e:vs[i]? with
   | none=>rw [e] at h2; cases h2
   | some a=>rw [e] at h2; cases h2; rfl
  obtain ⟨u,hu,rv⟩:=r.get ha
  have hp:ps[i]?=some y:=by
   rw [<- S.pre,List.getElem?_take_of_lt (by omega)]; exact h1
  have ndP:ps.Nodup:=by rw [<- S.pre]; exact S.nd.sublist (List.take_sublist _ _)
  refine ⟨u,rv,?_⟩
  rcases S.par y (aae hp) with k | k
  ·exact .inl ⟨k,Hz ndP hp hu k⟩
  ·obtain ⟨c,e⟩:=Iy (n:=s.heap.objs.size + 1) k
   refine .inr ⟨.inl k,c,e,?_⟩
   have q:=x.cell y c e
   rw [HA ndP hp hu (by show scope.names.lookup y ≠ _; rw [k]; decide)] at q
   exact q
 ·exact e0.hok.fresh (abF (x.above y c (PySem.mem_of_lookup h)))
 ·unfold AL
  show _=N.length
  rw [aav,aab,aa1]
  omega
theorem Se {CX:CXT} {P:Program} {w:World} {K:PySem.W.Frag} {mg:Str->Option Value} {base:Heap} {k:Nat} {f:Addr} {name qual:Str} {params:Arguments} {body:List Stmt} {scope:Scope} {dV kV doc pm cdv ct oc:Value} {an od:Option Addr}
  {osl:Array (Option Value)} {N ps:List Str} {sp:Sp} (lk:K.lookup f=some ⟨oc,od,.func (PySem.W.fnOf name qual params body scope dV kV doc pm an cdv ct),osl⟩) (hcd:PySem.W.codeIn K cdv qual=true) (S:FnScope N ps scope)
  (len:∀ vs H Q E,sp vs H Q E->vs.length=ps.length)
  (hbody:∀ (A:Around) (outer:List Env) (s:Shared) (H:Hp) (vs:List V) (Q:VK) (E:XK),Room k (A.deeper (envOfC qual scope s.heap.objs.size f cdv))->sp vs H Q E ->
   ∃ t,PSs (BL CX P w K mg base N qual scope f cdv A outer s H E) body t/\t { nx:=fun _ H'=>Q .non H',rt:=Q } (AL N vs) H) :
  FnOk P w K mg base CX (k + 1) f (PySem.W.fnOf name qual params body scope dV kV doc pm an cdv ct) ps sp:=by
 refine ⟨len,fun A outer s H args us vs Q E hr e0 hb r hsp=>?_⟩
 have hl:=len _ _ _ _ hsp
 have KX:K.In s.heap:=e0.mod.kin.keeps fun b o e=>(e0.bs b o e).1
 have lim:s.heap.NoLimit:=e0.mod.nolimit.keeps fun b o e=>(e0.bs b o e).1
 have hkind:∀ y ∈ ps.zip us,scope.names.lookup y.1=some .local\/(scope.names.lookup y.1=some .cell/\((cellsFrom (s.heap.objs.size + 1) scope.names []).lookup y.1).isSome=true):=fun ⟨n,v⟩ hy=>by
  rcases S.par n (ace hy).1 with q | q
  ·exact .inl q
  ·exact .inr ⟨q,PySem.W.cellsFrom_some _ _ _ (.inl q)⟩
 refine codeAny_call_function hr.depth (KX _ _ lk) rfl S.co S.gen rfl (PySem.W.codeRec_of KX hcd) (hb _ _ _ _ ?_)
 refine wpAny_newFunctionEnv_cells S.kind hkind fun env he s1 x=>?_
 subst he
 refine ⟨lim.keeps x.toInCall.keep,codeAny_func ?_⟩
 obtain ⟨t,ht,hq⟩:=hbody A outer s H vs Q E (hr.deeper _) hsp
 have I:Inv (BL CX P w K mg base N qual scope f cdv A outer s H E) [] (AL N vs) H s1:=L5 S hr.hd e0 hl r x
 refine wpAny_mono (ht [] s1 (AL N vs) H _ I hq) (fun fl s' hs=>?_) fun e s' hs=>hs
 have fin:∀ {σ':St} {H':Hp} {v:V} {u:Value},Inv (BL CX P w K mg base N qual scope f cdv A outer s H E) [] σ' H' s'->RelV v u->Q v H'->CE outer P w H s Q u s' :=
  fun {σ' H' v u} J rv q=>⟨v,H',J.os,J.bare,J.base,J.hok,rv,q⟩
 cases fl with
 | ret u =>
  obtain ⟨v,σ',H',J,rv,q⟩:=hs
  exact fin J rv q
 | next =>
  obtain ⟨σ',H',J,q⟩:=hs
  exact fin (v:=V.non) (u:=Value.none) J rfl q
 | brk =>
  obtain ⟨_,_,_,q⟩:=hs
  exact False.elim q
 | cont =>
  obtain ⟨_,_,_,q⟩:=hs
  exact False.elim q
section
variable {X:Cx} {x:Str} {p pos:Pos} {e:Expr} {es:List Expr} {t:TA} {id T:String} {r:List V->Hp->VK->Prop}
noncomputable def tCB (r:List V->Hp->VK->Prop) (t:TA):TE:=fun σ H Q=>t σ H fun vs H1=>r vs H1 Q
theorem DX (hc:DF X (.builtin id) r) (hg:Gl X x) (hm:X.mg x=none) (hv:bootBuiltins x=some (.builtin id)) (ha:PA X (e :: es) t) (hn:x ≠ "__name__" := by decide) (hdb:(x==("__debug__" : Str))=false:=by decide)
  (he:starEach (e :: es) X.env=(false,eval e X.env) :: starEach es X.env:=by rfl) (hpl:(backTo pos (starEach es X.env)).any (·.1)=false:=by rfl):PE X (.Call (.Name x p) (e :: es) [] pos) (tCB r t):=by
 intro pins s σ H Q I h
 refine wpAny_Call_Name_kw (Eu I hg hm hv ?_ hn hdb)
 exact PyProof.Rows.callWith_builtin1 (thn (ha pos pins s σ H _ I h) fun us s1 ⟨vs,H1,I1,r1,q1⟩=>hc pins s1 σ H1 vs us Q I1 r1 q1) he hpl
theorem HB (hc:DF X (.type T) r) (hg:Gl X x) (hm:X.mg x=none) (hv:bootBuiltins x=some (.type T)) (ha:PA X (e :: es) t) (hn:x ≠ "__name__" := by decide) (hdb:(x==("__debug__" : Str))=false:=by decide)
  (he:starEach (e :: es) X.env=(false,eval e X.env) :: starEach es X.env:=by rfl) (hpl:(backTo pos (starEach es X.env)).any (·.1)=false:=by rfl):PE X (.Call (.Name x p) (e :: es) [] pos) (tCB r t):=by
 intro pins s σ H Q I h
 refine wpAny_Call_Name_kw (Eu I hg hm hv ?_ hn hdb)
 exact PyProof.Rows.callWith_type1 (thn (ha pos pins s σ H _ I h) fun us s1 ⟨vs,H1,I1,r1,q1⟩=>hc pins s1 σ H1 vs us Q I1 r1 q1) he hpl
end
end L2
namespace HT
open PySem PyProof.Rows
section
variable {prog:Program} {w:World} {A:Around} {E:Value->Shared->Prop} {s:Shared}
noncomputable def sIx (n d:Nat):Option Int->Nat
 | none=>d
 | some v=>if v < 0 then (v + (n:Int)).toNat else min v.toNat n
theorem QI (n d:Nat) (hd:d<=n) (o:Option Int):sIx n d o<=n:=by
 cases o with
 | none=>exact hd
 | some v =>
  show (if v < 0 then (v + (n:Int)).toNat else min v.toNat n)<=n
  by_cases hv:v < 0
  ·rw [if_pos hv]; omega
  ·rw [if_neg hv]; exact aaV _ _
theorem clip_eq (v:Int) (n d:Nat):(if v < 0 then max (v + (n:Int)) 0 else min v (n:Int))=((sIx n d (some v):Nat):Int):=by
 show (if v < 0 then max (v + (n:Int)) 0 else min v (n:Int))=(((if v < 0 then (v + (n:Int)).toNat else min v.toNat n):Nat):Int)
 by_cases hv:v < 0
 ·simp only [if_pos hv]; omega
 ·simp only [if_neg hv]; omega
theorem KS (lo hi:Option Int) (n:Nat):Builtin.Slice.sliceAdjust lo hi 1 (n:Int)=(((sIx n 0 lo:Nat):Int),((sIx n n hi:Nat):Int)):=by
 have h1:¬ ((1:Int) < 0):=by omega
 unfold Builtin.Slice.sliceAdjust
 simp only [h1,if_false]
 refine Prod.ext ?_ ?_
 ·cases lo with
  | none=>rfl
  | some v=>exact clip_eq v n 0
 ·cases hi with
  | none=>rfl
  | some v=>exact clip_eq v n n
theorem KT (i j:Nat):Builtin.Slice.slicePlaces (i:Int) (j:Int) 1=j - i:=by
 unfold Builtin.Slice.slicePlaces
 have h1:(1:Int) > 0:=by omega
 simp only [h1,if_true,Int.ediv_one]
 split <;> omega
theorem Gv {v:Value} {o:Option Int} {Q:Option Int->Shared->Prop} (p:IsPart v o) (h:Q o s):wpAny (model prog w) A (Builtin.Slice.slicePartIndex v) Q E s:=by
 cases p with
 | none=>exact slicePart_none h
 | int i t=>exact slicePart_int h
theorem F7 {sl:Addr} {vl vu:Value} {lo hi:Option Int} {n:Nat} {Q:Int × Int × Nat->Shared->Prop} (hs:s.heap.IsSliceOf sl vl vu .none) (pl:IsPart vl lo) (pu:IsPart vu hi)
  (h:Q (((sIx n 0 lo:Nat):Int),1,sIx n n hi - sIx n 0 lo) s):wpAny (model prog w) A (Builtin.Slice.sliceApplied (.ref sl) (pure (n:Int))) Q E s:=by
 obtain ⟨os,hos,hcs,hds⟩:=id hs
 unfold Builtin.Slice.sliceApplied Builtin.Slice.sliceFields
 refine wpAny_bind (wpAny_bind (wpAny_field hos hds (x:=vl) rfl (wpAny_bind (wpAny_field hos hds (x:=vu) rfl (wpAny_bind (wpAny_field hos hds (x:=.none) rfl (wpAny_pure ?_)))))))
 refine wpAny_bind (slicePart_none ?_)
 show wpAny _ _ (if ((1:Int)==0)=true then _ else _) _ _ s
 rw [if_neg (by decide)]
 refine wpAny_bind (Gv pl (wpAny_bind (Gv pu (wpAny_bind (wpAny_pure ?_)))))
 show wpAny _ _ (match Builtin.Slice.sliceAdjust lo hi 1 (n:Int) with | (lo,hi)=>pure (lo,(1:Int),Builtin.Slice.slicePlaces lo hi 1)) _ _ s
 rw [KS lo hi n]
 show wpAny _ _ (pure (((sIx n 0 lo:Nat):Int),(1:Int),Builtin.Slice.slicePlaces ((sIx n 0 lo:Nat):Int) ((sIx n n hi:Nat):Int) 1)) _ _ s
 rw [KT]
 exact wpAny_pure h
theorem Nj (xs:Array Value) (i k:Nat):((aax k).filterMap fun (m:Nat)=>xs[((i:Int) + (m:Int) * 1).toNat]?).toArray=((xs.toList.drop i).take k).toArray:=by
 have e:(fun (m:Nat)=>xs[((i:Int) + (m:Int) * 1).toNat]?)=fun m=>xs[i + m]?:=by
  funext m
  have:((i:Int) + (m:Int) * 1).toNat=i + m:=by omega
  rw [this]
 rw [e]
 have:=pick_run xs i k
 rw [abX] at this
 have e2:((fun x=>xs[x]?) ∘ fun x=>i + x)=fun m=>xs[i + m]?:=rfl
 rw [e2] at this
 rw [this]
theorem getItem_tuple_cut {t sl:Addr} {items:Array Value} {vl vu:Value} {lo hi:Option Int} {Q:Value->Shared->Prop} (ht:IsTup s.heap t items) (hs:s.heap.IsSliceOf sl vl vu .none) (pl:IsPart vl lo) (pu:IsPart vu hi)
  (hw:¬ (sIx items.size 0 lo=0/\sIx items.size items.size hi=items.size))
  (h:Q (.ref s.heap.objs.size) { s with heap:=s.heap.push { cls:=.type "tuple",data:=.seq ((items.toList.drop (sIx items.size 0 lo)).take (sIx items.size items.size hi - sIx items.size 0 lo)).toArray } })
  (hsz:items.size<=sizeLine):wpAny (model prog w) A (getItem (.ref t) (.ref sl)) Q E s:=by
 have htake:sizeOk (.seq ((items.toList.drop (sIx items.size 0 lo)).take (sIx items.size items.size hi - sIx items.size 0 lo)).toArray):=by
  show ((items.toList.drop (sIx items.size 0 lo)).take (sIx items.size items.size hi - sIx items.size 0 lo)).toArray.size<=sizeLine
  rw [aal,abj,aby,Array.length_toList]
  omega
 have hj:sIx items.size items.size hi<=items.size:=QI _ _ (aag _) hi
 obtain ⟨os,hos,hcs,hds⟩:=id hs
 have hTs:s.TypeIs (.ref sl) "slice" := ⟨os,hos,hcs⟩
 unfold getItem
 try with_reducible refine wpAny_holding ?_
 first | refine wpAny_bind (wpAny_pure ?_) | skip
 refine wpAny_bind (wpAny_sequenceKey ht.typeIs (by decide) ?_)
 refine wpAny_bind (wpAny_callSpecial?_slot (name:=Str.ofString "__getitem__") ht.typeIs PyProof.Rows.slot_tuple_getitem
  (wpAny_call_entry PyProof.Rows.slot_tuple_getitem ht.typeIs entry_tuple_getitem ?_ (args_tuple_getitem _ _)))
 show wpAny _ _ (Builtin.Tuple.tupleItemsOf (.ref t) >>= _) _ _ s
 refine wpAny_bind (tupleItemsOf_ ht ?_)
 refine wpAny_bind (wpAny_typeOf hTs ?_)
 rw [if_pos (by decide)]
 refine wpAny_bind (F7 hs pl pu ?_)
 have hno:¬ ((((sIx items.size 0 lo:Nat):Int)==0 && (1:Int)==1 && (sIx items.size items.size hi - sIx items.size 0 lo)==items.size)=true):=by
  intro q
  rw [aaj,aaj] at q
  have q1:((sIx items.size 0 lo:Nat):Int)=0:=eq_of_beq q.1.1
  have q2:sIx items.size items.size hi - sIx items.size 0 lo=items.size:=eq_of_beq q.2
  exact hw ⟨by omega,by omega⟩
 show wpAny _ _ (if (((sIx items.size 0 lo:Nat):Int)==0 && (1:Int)==1 && (sIx items.size items.size hi - sIx items.size 0 lo)==items.size)=true then _ else _) _ _ s
 rw [if_neg hno,Nj]
 first
  | exact wpAny_bind (m:=Builtin.Tuple.tupleExact _) (wpAny_newObj_type (wpAny_pure ⟨_,rfl,wpAny_pure h⟩) htake)
  | exact wpAny_bind (m:=Builtin.Tuple.tupleExact _) (wpAny_newObj_type (wpAny_bind (wpAny_pure (wpAny_pure ⟨_,rfl,wpAny_pure h⟩))) htake)
  | exact wpAny_bind (wpAny_bind (m:=Builtin.Tuple.tupleExact _) (wpAny_newObj_type (wpAny_pure (wpAny_pure ⟨_,rfl,wpAny_pure h⟩)) htake))
  | exact wpAny_bind (wpAny_bind (m:=Builtin.Tuple.tupleExact _) (wpAny_newObj_type (wpAny_pure ⟨_,rfl,wpAny_pure h⟩) htake))
end
end HT
namespace L2
open PySem PySem.Spec PyProof.Rows
noncomputable abbrev TO:=St->Hp->(Option Int->Hp->Prop)->Prop
noncomputable def PO (X:Cx) (e:Option Expr) (t:TO):Prop :=
 ∀ (pins:List (Addr × Obj)) (s:Shared) (σ:St) (H:Hp) (Q:Option Int->Hp->Prop),Inv X pins σ H s->t σ H Q ->
  wpAny (model X.prog X.w) X.A (evalPart e X.env) (fun u s'=>∃ o H',Inv X pins σ H' s'/\IsPart u o/\Q o H') X.xe s
noncomputable def OI:TO:=fun _ H Q=>Q none H
noncomputable def Sg (t:TE):TO:=fun σ H Q=>t σ H fun x H1=>∃ i,x=.int i/\Q (some i) H1
theorem KU {ns:List Int}:∀ {us:List Value},Vals (ns.map V.int) us->IntsAre us ns:=by
 induction ns with
 | nil=>intro us r; rw [abw] at r; cases r; exact .nil
 | cons n ns ih =>
  intro us r
  rw [aaF] at r
  cases r with
  | cons r1 r2 =>
   obtain ⟨t,e⟩:=r1
   subst e
   exact .cons n t (ih r2)
section
variable {X:Cx} {e:Expr} {te:TE} {lo hi:Option Expr} {tl th:TO} {pos p2:Pos}
theorem OJ:PO X none OI:=by
 intro pins s σ H Q I h
 rw [evalPart_none]
 exact wpAny_pure ⟨none,H,I,.none,h⟩
theorem J2 (h:PE X e te):PO X (some e) (Sg te):=by
 intro pins s σ H Q I hw
 rw [evalPart_some]
 refine thn (h pins s σ H _ I hw) fun u s1 ⟨x,H1,I1,r1,q1⟩=>?_
 obtain ⟨i,rfl,q⟩:=q1
 obtain ⟨t,rfl⟩:=r1
 exact ⟨some i,H1,I1,.int i t,q⟩
noncomputable def SlR (X:Cx) (r:V->Option Int->Option Int->Hp->VK->Prop):Prop :=
 ∀ (pins:List (Addr × Obj)) (s:Shared) (σ:St) (H:Hp) (x:V) (v vl vu:Value) (lo hi:Option Int) (sl:Addr) (Q:VK),Inv X pins σ H s->RelV x v->s.heap.IsSliceOf sl vl vu .none->IsPart vl lo->IsPart vu hi->r x lo hi H Q ->
  ∃ T id,typeLookup (.type T) "__getitem__" = pure (some (.builtin id))/\s.TypeIs v T/\wpAny (model X.prog X.w) X.A (getItem v (.ref sl)) (EP X pins σ Q) X.xe s
theorem SlR.or {r r':V->Option Int->Option Int->Hp->VK->Prop} (h:SlR X r) (h':SlR X r'):SlR X (fun x lo hi H Q=>r x lo hi H Q\/r' x lo hi H Q):=by
 intro pins s σ H x v vl vu lo hi sl Q I rx hs pl pu q
 rcases q with q | q
 ·exact h pins s σ H x v vl vu lo hi sl Q I rx hs pl pu q
 ·exact h' pins s σ H x v vl vu lo hi sl Q I rx hs pl pu q
noncomputable def tSl (r:V->Option Int->Option Int->Hp->VK->Prop) (te:TE) (tl th:TO):TE:=fun σ H Q=>te σ H fun x H1=>tl σ H1 fun l H2=>th σ H2 fun u H3=>r x l u H3 Q
theorem Nk {r:V->Option Int->Option Int->Hp->VK->Prop} (hr:SlR X r) (he:PE X e te) (hl:PO X lo tl) (hu:PO X hi th):PE X (.Subscript e (.Slice lo hi none p2) pos) (tSl r te tl th):=by
 intro pins s σ H Q I h
 refine Subscript_ (thn (he pins s σ H _ I h) fun v s1 ⟨x,H1,I1,r1,q1⟩=>?_)
 refine wpAny_Slice (thn (hl pins s1 σ H1 _ I1 q1) fun vl s2 ⟨l,H2,I2,pl,q2⟩=>thn (hu pins s2 σ H2 _ I2 q2) fun vu s3 ⟨u,H3,I3,pu,q3⟩=>?_)
 rw [evalPart_none]
 refine wpAny_pure ?_
 have I4:Inv X pins σ H3 { s3 with heap:=s3.heap.push { cls:=.type "slice",data:=.fields #[vl,vu,.none] } }:=I3.kept (t':=s3.toks) fun b ob q=>Heap.get?_push_of_some _ q
 obtain ⟨T,id,hT,ht,hg⟩:=hr pins { s3 with heap:=s3.heap.push { cls:=.type "slice",data:=.fields #[vl,vu,.none] } } σ H3 x v vl vu l u s3.heap.objs.size Q I4 r1 (Heap.IsSliceOf.new ..) pl pu q3
 show wpAny (model X.prog X.w) X.A (subscriptTail e (.Slice lo hi none p2) v (.ref s3.heap.objs.size)) (EP X pins σ Q) X.xe { s3 with heap:=s3.heap.push { cls:=.type "slice",data:=.fields #[vl,vu,.none] } }
 exact tail_any (ops:=[.ref s3.heap.objs.size,v]) ht hT hg (by with_unfolding_all rfl)
noncomputable def Fc (xs:List V) (lo hi:Option Int):List V:=(xs.drop (HT.sIx xs.length 0 lo)).take (HT.sIx xs.length xs.length hi - HT.sIx xs.length 0 lo)
theorem FZ (xs:List V) (lo hi:Option Int):(Fc xs lo hi).length<=xs.length:=by
 unfold Fc
 rw [abj,aby]
 omega
noncomputable def SU (K:PySem.W.Frag):V->Option Int->Option Int->Hp->VK->Prop:=fun x lo hi H Q=>∃ a xs,x=.ref a/\SqT K H a xs /\
 ¬ (HT.sIx xs.length 0 lo=0/\HT.sIx xs.length xs.length hi=xs.length)/\∀ p,H p=none->Q (.ref p) (upd H p (.tup (Fc xs lo hi)))
theorem QJ:SlR X (SU X.K):=by
 intro pins s σ H x v vl vu lo hi sl Q I rx hs pl pu h
 obtain ⟨a,xs,rfl,hx,hw,q⟩:=h
 cases rx
 obtain ⟨its,r,ht,hz⟩:=I.tuple hx
 have hlen:its.toArray.size=xs.length:=by rw [aal]; exact r.length.symm
 refine ⟨"tuple",_,PyProof.Rows.slot_tuple_getitem.lookup,ht.typeIs,?_⟩
 refine HT.getItem_tuple_cut ht hs pl pu (by rw [hlen]; exact hw) ?_ (by rw [hlen]; exact hz)
 rw [hlen]
 refine ⟨.ref s.heap.objs.size,_,I.laid (t':=s.toks) (o:=.tup (Fc xs lo hi)) (fun b ob q=>Heap.get?_push_of_some _ q) (aag _) ?_,rfl,q _ (I.hok.fresh (aag _))⟩
 exact ⟨aaD (FZ xs lo hi) hz,_,(r.drop (HT.sIx xs.length 0 lo)).take (HT.sIx xs.length xs.length hi - HT.sIx xs.length 0 lo),IsTup.new _ _⟩
end
noncomputable def ixN (n:Nat) (i:Int):Option Nat:=if 0<=i then (if i < n then some i.toNat else none) else if -(n:Int)<=i then some (i + n).toNat else none
noncomputable def atI {α:Type} (xs:List α) (i:Int):Option α:=(ixN xs.length i).bind fun j=>xs[j]?
theorem J3 {n:Nat} {i:Int} {j:Nat} (h:ixN n i=some j):seqIndex? i n=some j/\j < n/\-(n:Int)<=i/\i < n:=by
 unfold ixN at h
 by_cases h0:0<=i
 ·rw [if_pos h0] at h
  by_cases h1:i < n
  ·rw [if_pos h1] at h
   have e:i.toNat=j:=Option.some.inj h
   exact ⟨by rw [seqIndex_of h0 h1,e],by omega,by omega,h1⟩
  ·rw [if_neg h1] at h; cases h
 ·rw [if_neg h0] at h
  by_cases h1:-(n:Int)<=i
  ·rw [if_pos h1] at h
   have e:(i + n).toNat=j:=Option.some.inj h
   exact ⟨by rw [seqIndex_neg (by omega) h1,e],by omega,h1,by omega⟩
  ·rw [if_neg h1] at h; cases h
theorem J4 {α:Type} {xs:List α} {i:Int} {v:α} (h:atI xs i=some v):∃ j,seqIndex? i xs.length=some j/\xs[j]?=some v/\j < xs.length/\-(xs.length:Int)<=i/\i < xs.length:=by
 unfold atI at h
 cases e:ixN xs.length i with
 | none=>rw [e] at h; cases h
 | some j =>
  rw [e] at h
  obtain ⟨h1,h2,h3,h4⟩:=J3 e
  exact ⟨j,h1,h,h2,h3,h4⟩
noncomputable def J5 (b:Expr):Prop:=∀ o i,subscripted b false o i=operate [o,i] (getItem o i)
noncomputable def IxR (X:Cx) (r:R2):Prop :=
 ∀ (value slice:Expr) (pins:List (Addr × Obj)) (s:Shared) (σ:St) (H:Hp) (x y:V) (v u:Value) (Q:VK),Inv X pins σ H s->RelV x v->RelV y u->r x y H Q ->
  subscripted slice false v u=operate [v,u] (getItem v u)->wpAny (model X.prog X.w) X.A (subscriptTail value slice v u) (EP X pins σ Q) X.xe s
noncomputable def MtR (X:Cx) (id:String) (r:V->List V->Hp->VK->Prop):Prop :=
 ∀ (pins:List (Addr × Obj)) (s:Shared) (σ:St) (H:Hp) (x:V) (xs:List V) (v:Value) (us:List Value) (Q:VK),Inv X pins σ H s->RelV x v->Vals xs us->r x xs H Q ->
  wpAny (model X.prog X.w) X.A (call (.builtin id) (v :: us)) (EP X pins σ Q) X.xe s
section
variable {X:Cx} {a b:Expr} {ta tb:TE} {pos:Pos}
theorem IxR.or {r r':R2} (h:IxR X r) (h':IxR X r'):IxR X (fun x y H Q=>r x y H Q\/r' x y H Q):=by
 intro value slice pins s σ H x y v u Q I rx ry q hs
 rcases q with q | q
 ·exact h value slice pins s σ H x y v u Q I rx ry q hs
 ·exact h' value slice pins s σ H x y v u Q I rx ry q hs
theorem KW {r:R2} (hr:IxR X r) (ha:PE X a ta) (hb:PE X b tb) (hs:J5 b):PE X (.Subscript a b pos) (tOp r ta tb):=by
 intro pins s σ H Q I h
 exact Subscript_ (Nc ha hb I h fun v u s2 x y H2 I2 rx ry q=>hr a b pins s2 σ H2 x y v u Q I2 rx ry q (hs _ _))
noncomputable def QK (K:PySem.W.Frag):R2:=fun x y H Q=>∃ p xs i v,x=.ref p/\y=.int i/\SqL K H p xs/\atI xs i=some v/\Q v H
noncomputable def QL (K:PySem.W.Frag):R2:=fun x y H Q=>∃ p xs i v,x=.ref p/\y=.int i/\SqT K H p xs/\atI xs i=some v/\Q v H
theorem G5:IxR X (QK X.K):=by
 intro value slice pins s σ H x y v u Q I rx ry h hs
 obtain ⟨p,xs,i,z,rfl,rfl,hq,he,q⟩:=h
 cases rx
 obtain ⟨t,rfl⟩:=ry
 obtain ⟨its,r,pl,hz⟩:=I.list hq
 obtain ⟨j,h1,h2,h3,h4,h5⟩:=J4 he
 obtain ⟨w,ew,rw'⟩:=r.get h2
 have hl:=r.length
 have hn:=Gs
 have fin:EP X pins σ Q w s:=⟨z,H,I,rw',q⟩
 by_cases h0:0<=i
 ·have hj:i.toNat=j:=by
   rw [seqIndex_of h0 h5] at h1
   exact Option.some.inj h1
  exact item_listR pl.isList h0 (by omega) (by rw [hj]; simpa using ew) fin hs
 ·have hj:(i + (its.toArray.size:Int)).toNat=j:=by
   rw [seqIndex_neg (by omega) h4] at h1
   rw [aal,<- hl]
   exact Option.some.inj h1
  exact subscriptTail_builtinR (x:=w) pl.isList.typeIs slot_list_getitem.lookup
   (wpAny_getItem_list_neg (Q:=fun r s'=>r=w/\EP X pins σ Q r s') pl.isList (by omega) (by rw [aal] <;> omega) (by omega) (by rw [hj]; simpa using ew) ⟨rfl,fin⟩) hs
theorem L6:IxR X (QL X.K):=by
 intro value slice pins s σ H x y v u Q I rx ry h hs
 obtain ⟨p,xs,i,z,rfl,rfl,hq,he,q⟩:=h
 cases rx
 obtain ⟨t,rfl⟩:=ry
 obtain ⟨its,r,pl,hz⟩:=I.tuple hq
 obtain ⟨j,h1,h2,h3,h4,h5⟩:=J4 he
 obtain ⟨w,ew,rw'⟩:=r.get h2
 have hl:=r.length
 have hn:=Gs
 have fin:EP X pins σ Q w s:=⟨z,H,I,rw',q⟩
 exact subscriptTail_builtinR (x:=w) pl.typeIs slot_tuple_getitem.lookup
  (getItem_tuple (j:=j) (Q:=fun r s'=>r=w/\EP X pins σ Q r s') pl (by omega) (by omega) (by rw [aal,<- hl]; exact h1) (by simpa using ew) ⟨rfl,fin⟩) hs
theorem Inv.lst {pins:List (Addr × Obj)} {σ:St} {H:Hp} {s:Shared} {p:Addr} {xs:List V} (I:Inv X pins σ H s) (h:H p=some (.lst xs)) :
  ∃ (its:List Value) (n:Nat),Vals xs its/\s.heap.get? p=some { cls:=.type "list",data:=.seq its.toArray n }/\xs.length<=sizeLine:=by
 obtain ⟨z,its,n,r,e⟩:=I.hok p _ h
 exact ⟨its,n,r,e,z⟩
theorem Inv.lstUpd {pins:List (Addr × Obj)} {σ:St} {H:Hp} {s:Shared} {p:Addr} {xs ys:List V} {its its':List Value} {n n':Nat} {f:Obj->Obj} (I:Inv X pins σ H s) (h:H p=some (.lst xs))
  (ho:s.heap.get? p=some { cls:=.type "list",data:=.seq its.toArray n }) (hf:f { cls:=.type "list",data:=.seq its.toArray n }={ cls:=.type "list",data:=.seq its'.toArray n' }) (r:Vals ys its') (hz:ys.length<=sizeLine) (t:Nat) :
  Inv X pins σ (upd H p (.lst ys)) { s with heap:=s.heap.update p f,toks:=t }:=by
 have e:(s.heap.update p f).get? p=some { cls:=.type "list",data:=.seq its'.toArray n' }:=by
  rw [Heap.get?_update_self f ho (by rw [hf] <;> rfl),hf]
 refine I.write (x:=p) (e:=p) (by rw [h]; trivial) (.inl rfl) (fun b u hb q=>(Heap.get?_update_other _ _ (Ne.symm hb)).trans q) ⟨_,e⟩ ?_
 exact ⟨hz,its',n',r,e⟩
theorem Iz (lo hi:Option Int) (n:Nat):(sliceBounds lo hi none n).1=((HT.sIx n 0 lo:Nat):Int)/\(sliceBounds lo hi none n).2.1=((HT.sIx n n hi:Nat):Int)/\(sliceBounds lo hi none n).2.2=1:=by
 refine ⟨?_,?_,rfl⟩
 ·cases lo with
  | none=>simp [sliceBounds,HT.sIx]
  | some i =>
   simp only [sliceBounds,HT.sIx,acK,show (1:Int) > 0 by decide,if_true]
   by_cases h:i < 0
   ·simp only [h,if_true] <;> omega
   ·simp only [h,if_false] <;> omega
 ·cases hi with
  | none=>simp [sliceBounds,HT.sIx]
  | some i =>
   simp only [sliceBounds,HT.sIx,acK,show (1:Int) > 0 by decide,if_true]
   by_cases h:i < 0
   ·simp only [h,if_true] <;> omega
   ·simp only [h,if_false] <;> omega
theorem HX (its:List Value) (lo hi:Option Int):slicePick its.toArray lo hi none=((its.drop (HT.sIx its.length 0 lo)).take (HT.sIx its.length its.length hi - HT.sIx its.length 0 lo)).toArray:=by
 obtain ⟨h1,h2,h3⟩:=Iz lo hi its.toArray.size
 unfold slicePick
 rw [h1,h2,h3]
 simp only [sliceRange_one,pick_run,aal] <;> rfl
noncomputable def SV (K:PySem.W.Frag):V->Option Int->Option Int->Hp->VK->Prop:=fun x lo hi H Q=>∃ a xs,x=.ref a/\SqL K H a xs/\∀ p,H p=none->Q (.ref p) (upd H p (.lst (Fc xs lo hi)))
theorem OK:SlR X (SV X.K):=by
 intro pins s σ H x v vl vu lo hi sl Q I rx hs pl pu h
 obtain ⟨a,xs,rfl,hx,q⟩:=h
 cases rx
 obtain ⟨its,r,ht,hz⟩:=I.list hx
 have hlen:=r.length
 refine ⟨"list",_,slot_list_getitem.lookup,ht.isList.typeIs,?_⟩
 refine wpAny_getItem_list_slice ht.isList hs pl pu .none (by simp) ?_ (by rw [aal] <;> omega)
 rw [HX,<- hlen]
 refine ⟨.ref s.heap.objs.size,_,I.laid (t':=s.toks) (o:=.lst (Fc xs lo hi)) (fun b ob q=>Heap.get?_push_of_some _ q) (aag _) ?_,rfl,q _ (I.hok.fresh (aag _))⟩
 exact ⟨aaD (FZ xs lo hi) hz,_,0,(r.drop (HT.sIx xs.length 0 lo)).take (HT.sIx xs.length xs.length hi - HT.sIx xs.length 0 lo),Heap.get?_push_size _ rfl⟩
theorem IA:DF X (.builtin "len") (fun xs H Q=>∃ p ys,xs=[.ref p]/\(SqL X.K H p ys\/SqT X.K H p ys)/\Q (.int ys.length) H):=by
 intro pins s σ H xs us Q I r h
 obtain ⟨p,ys,rfl,hq,q⟩:=h
 obtain ⟨u,rfl,rx⟩:=Gu r
 cases rx
 have hn:=Gs
 rcases hq with hq | hq
 ·obtain ⟨its,r',pl,hz⟩:=I.list hq
  have hlen:=r'.length
  exact Calls.call_len_list pl.isList (by simp only [aal] <;> omega) ⟨.int ys.length,H,I.tok _,⟨s.toks + 1,by rw [aal,hlen]⟩,q⟩
 ·obtain ⟨its,r',pl,hz⟩:=I.tuple hq
  have hlen:=r'.length
  exact len_tuple pl (by simp only [aal] <;> omega) ⟨.int ys.length,H,I.tok _,⟨s.toks + 1,by rw [aal,hlen]⟩,q⟩
theorem IB:DF X (.type "list") (fun xs H Q=>∃ p ys,xs=[.ref p]/\(SqL X.K H p ys\/SqT X.K H p ys)/\∀ l,H l=none->Q (.ref l) (upd H l (.lst ys))):=by
 intro pins s σ H xs us Q I r h
 obtain ⟨p,ys,rfl,hq,q⟩:=h
 obtain ⟨u,rfl,rx⟩:=Gu r
 cases rx
 have fin:∀ (its:List Value),Vals ys its->ys.length<=sizeLine->∀ (h':Heap) (c':Nat),(∀ b o',s.heap.get? b=some o'->h'.get? b=some o') ->
   h'.get? s.heap.objs.size=some { cls:=.type "list",dict:=none,data:=.seq its.toArray c',slots:=#[] }->EP X pins σ Q (.ref s.heap.objs.size) { s with heap:=h' }:=fun its r' hz h' c' kp e =>
  ⟨.ref s.heap.objs.size,_,I.laid (t':=s.toks) kp (aag _) (show ObjOk X.prog X.w _ h' _ (.lst ys) from ⟨hz,its,c',r',e⟩),rfl,q _ (I.hok.fresh (aag _))⟩
 rcases hq with hq | hq
 ·obtain ⟨its,r',pl,hz⟩:=I.list hq
  have hlen:=r'.length
  obtain ⟨o,ho,hc,n,hd⟩:=pl.isList
  exact call_list_seq p (.inl rfl) ho hc hd (fun h' c' kp e=>fin its r' hz h' c' kp e) (by simp only [aal] <;> omega)
 ·obtain ⟨its,r',pl,hz⟩:=I.tuple hq
  have hlen:=r'.length
  obtain ⟨o,ho,hc,n,hd⟩:=pl
  exact call_list_seq p (.inr rfl) ho hc hd (fun h' c' kp e=>fin its r' hz h' c' kp e) (by simp only [aal] <;> omega)
noncomputable def tyV (K:PySem.W.Frag) (T:String) (x:V) (H:Hp):Prop:=match x with
 | .str _=>T = "str"
 | .int _=>T = "int"
 | .ref p=>(T = "list" /\ ∃ xs,SqL K H p xs)\/(T = "tuple" /\ ∃ o,K.lookup p=some o/\o.cls=.type "tuple" /\ o.dict=none) \/
   (T = "dict" /\ ((∃ kvs,H p=some (.dK kvs))\/∃ kvs,H p=some (.dT kvs)))\/(T = "set" /\ ∃ S n,H p=some (.set S n))
 | _=>False
theorem L7 {pins:List (Addr × Obj)} {σ:St} {H:Hp} {s:Shared} {T:String} {x:V} {v:Value} (I:Inv X pins σ H s) (r:RelV x v) (ty:tyV X.K T x H) :
  s.TypeIs v T/\∀ a,v=.ref a->∃ ob,s.heap.get? a=some ob/\ob.dict=none:=by
 cases x with
 | str z =>
  obtain ⟨t,rfl⟩:=r
  cases (show T = "str" from ty)
  exact ⟨typeIs_str s z t,fun _ e=>nomatch e⟩
 | int i =>
  obtain ⟨t,rfl⟩:=r
  cases (show T = "int" from ty)
  exact ⟨typeIs_int s i t,fun _ e=>nomatch e⟩
 | ref p =>
  cases r
  rcases ty with ⟨rfl,xs,hq⟩ | ⟨rfl,o,hk,hc,hd⟩ | ⟨rfl,hk⟩ | ⟨rfl,S,n,hk⟩
  ·obtain ⟨its,_,pl,_⟩:=I.list hq
   refine ⟨pl.isList.typeIs,fun a e=>?_⟩
   cases e
   obtain ⟨o,n,e,c,hd,_⟩:=pl
   exact ⟨o,e,hd⟩
  ·refine ⟨⟨o,I.kIn p o hk,hc⟩,fun a e=>?_⟩
   cases e
   exact ⟨o,I.kIn _ o hk,hd⟩
  ·have z:∃ o,s.heap.get? p=some o/\o.ExactDict:=by
    rcases hk with ⟨kvs,hk⟩ | ⟨kvs,hk⟩
    ·obtain ⟨_,_,_,_,o,_,_,e,ex,_⟩:=I.hok p _ hk
     exact ⟨o,e,ex⟩
    ·obtain ⟨_,_,_,_,o,_,_,e,ex,_⟩:=I.hok p _ hk
     exact ⟨o,e,ex⟩
   obtain ⟨o,e,ex⟩:=z
   refine ⟨⟨o,e,ex.1⟩,fun a e2=>?_⟩
   cases e2
   exact ⟨o,e,ex.2.1⟩
  ·obtain ⟨o,_,_,_,e,ex,_⟩:=I.hok p _ hk
   refine ⟨⟨o,e,ex.1⟩,fun a e2=>?_⟩
   cases e2
   exact ⟨o,e,ex.2.1⟩
 | _=>exact False.elim ty
noncomputable def SW (K:PySem.W.Frag) (T:String) (r:V->List V->Hp->VK->Prop) (to:TE):TE:=fun σ H Q=>to σ H fun x H1=>tyV K T x H1/\r x [] H1 Q
noncomputable def tBM (K:PySem.W.Frag) (T:String) (r:V->List V->Hp->VK->Prop) (to:TE) (t:TA):TE:=fun σ H Q=>to σ H fun x H1=>tyV K T x H1/\t σ H1 fun xs H2=>r x xs H2 Q
variable {o e:Expr} {es:List Expr} {to:TE} {t:TA} {name:Str} {apos cpos:Pos} {T id:String} {r:V->List V->Hp->VK->Prop}
theorem IC (pa:PlainAttrs T) (slot:Slot T name id) (hty:typeOf (.builtin id)=pure (.type "method_descriptor")) (hm:MtR X id r) (ho:PE X o to)
  (hbase:attributeBase o name X.env (eval o X.env)=eval o X.env:=by rfl) (hline:(apos.endLine==cpos.line)=true:=by rfl):PE X (.Call (.Attribute o name apos) [] [] cpos) (SW X.K T r to):=by
 intro pins s σ H Q I h
 refine wpAny_Call_method0_late hbase hline (thn (ho pins s σ H _ I h) fun v s1 ⟨x,H1,I1,r1,ty,q1⟩=>?_)
 obtain ⟨h1,h2⟩:=L7 I1 r1 ty
 exact ⟨T,id,pa,slot,hty,h1,h2,Calls.callWith_builtin rfl (PySem.evalArgs_none (hm pins s1 σ H1 x [] v [] Q I1 r1 .nil q1))⟩
theorem Gw (pa:PlainAttrs T) (slot:Slot T name id) (hty:typeOf (.builtin id)=pure (.type "method_descriptor")) (hm:MtR X id r) (ho:PE X o to) (ha:PA X (e :: es) t)
  (hbase:attributeBase o name X.env (eval o X.env)=eval o X.env:=by rfl)
  (hfew:((backTo cpos (starEach (e :: es) X.env)).all (fun x=>!x.1) && (backToKw cpos (keywordEach [] X.env)).all (fun x=>x.1.isSome)
   && decide ((e :: es).length + ([]:List Keyword).length + (if ([]:List Keyword).isEmpty then 0 else 1) < 30))=true:=by rfl)
  (hline:(apos.endLine==cpos.line)=true:=by rfl) (hs:starEach (e :: es) X.env=(false,eval e X.env) :: starEach es X.env:=by rfl) (hplain:(backTo cpos (starEach es X.env)).any (·.1)=false:=by rfl) :
  PE X (.Call (.Attribute o name apos) (e :: es) [] cpos) (tBM X.K T r to t):=by
 intro pins s σ H Q I h
 refine wpAny_Call_method_late hbase hfew hline rfl (thn (ho pins s σ H _ I h) fun v s1 ⟨x,H1,I1,r1,ty,q1⟩=>?_)
 obtain ⟨h1,h2⟩:=L7 I1 r1 ty
 refine ⟨T,id,pa,slot,hty,h1,h2,?_⟩
 have hA:=ha cpos pins s1 σ H1 _ I1 q1
 rw [hs] at hA ⊢
 refine Calls.callWith_builtin (by show (false || (backTo cpos (starEach es X.env)).any (·.1))=false; rw [hplain] <;> rfl) (Calls.evalArgs_plain ?_)
 exact thn hA fun us s2 ⟨vs,H2,I2,r2,q2⟩=>hm pins s2 σ H2 x vs v us Q I2 r1 r2 q2
/- xs.append(e),list.index on a module's tuple .. are MtR facts of 06m -/
end
noncomputable def MtM (X:Cx) (id:String) (r:V->List V->Hp->VK->Prop):Prop :=
 ∀ (pins:List (Addr × Obj)) (s:Shared) (σ:St) (H:Hp) (x:V) (xs:List V) (v:Value) (us:List Value) (Q:VK),Inv X pins σ H s->RelV x v->Vals xs us->r x xs H Q ->
  wpAny (model X.prog X.w) X.A (call (.builtin id) (v :: us)) (EP X pins σ Q) X.xe s
theorem Vals.one:∀ {x:V} {us:List Value},Vals [x] us->∃ u,us=[u]/\RelV x u
 | _,_,.cons r .nil=>⟨_,rfl,r⟩
theorem Vals.zero:∀ {us:List Value},Vals [] us->us=[]
 | _,.nil=>rfl
theorem Vals.dropLast {xs:List V} {us:List Value} (h:Vals xs us):Vals xs.dropLast us.dropLast:=by
 induction h with
 | nil=>exact .nil
 | cons r t ih =>
  cases t with
  | nil=>exact .nil
  | cons q t'=>exact .cons r ih
theorem Vals.eraseIdx:∀ {xs:List V} {us:List Value} (i:Nat),Vals xs us->Vals (xs.eraseIdx i) (us.eraseIdx i)
 | _,_,_,.nil=>.nil
 | _,_,0,.cons _ t=>t
 | _,_,i + 1,.cons r t=>.cons r (Vals.eraseIdx i t)
theorem Vals.reverse {xs:List V} {us:List Value} (h:Vals xs us):Vals xs.reverse us.reverse:=by
 induction h with
 | nil=>exact .nil
 | cons r t ih=>rw [ab0,ab0]; exact Vals.append ih (.cons r .nil)
theorem Vals.rep {xs:List V} {us:List Value} (h:Vals xs us):∀ k:Nat,Vals (aam k xs).flatten (aam k us).flatten
 | 0=>.nil
 | k + 1=>by
  rw [abf,abf,abu,abu]
  exact Vals.append h (Vals.rep h k)
theorem KY {α:Type} (l:List α):l.eraseIdx (l.length - 1)=l.dropLast:=by
 induction l with
 | nil=>rfl
 | cons a r ih =>
  cases r with
  | nil=>rfl
  | cons b r =>
   have e:(a :: b :: r).length - 1=((b :: r).length - 1) + 1:=by
    have h1:(a :: b :: r).length=r.length + 2:=rfl
    have h2:(b :: r).length=r.length + 1:=rfl
    omega
   rw [e,List.eraseIdx_cons_succ,ih]
   all_goals rfl
theorem HC {α:Type}:∀ (l:List α) (i:Nat),(l.eraseIdx i).length<=l.length
 | [],_=>aag _
 | _ :: _,0=>ach _
 | _ :: r,i + 1=>Nat.succ_le_succ (HC r i)
theorem HD (its:List Value):∀ (k:Nat) (acc:List Value),
  acL (fun x1 x2=>x1 ++ x2) acc.toArray (aam k its.toArray)=(acc ++ (aam k its).flatten).toArray
 | 0,acc=>by simp
 | k + 1,acc=>by
  have e:acc.toArray ++ its.toArray=(acc ++ its).toArray:=by simp
  have e2:(acc ++ its) ++ (aam k its).flatten=acc ++ (aam (k + 1) its).flatten:=by
   rw [abf,abu,aa6]
  rw [<- e2,<- HD its k (acc ++ its),<- e,abf,abP]
section
variable {X:Cx} {pins:List (Addr × Obj)} {σ:St} {H:Hp} {s:Shared} {l b:Addr} {xs ys zs:List V}
theorem Inv.lset {its its':List Value} {n:Nat} {f:Array Value->Array Value} {t':Nat} (I:Inv X pins σ H s) (hH:H l=some (.lst xs))
  (e:s.heap.get? l=some { cls:=.type "list",data:=.seq its.toArray n }) (hf:f its.toArray=its'.toArray) (hv:Vals ys its') (hz:ys.length<=sizeLine) :
  Inv X pins σ (upd H l (.lst ys)) { s with heap:=s.heap.update l (Obj.mapSeq f),toks:=t' }:=by
 have q:=PySem.IsL.update e f
 rw [hf] at q
 refine I.write (x:=l) (e:=l) (by rw [hH]; exact trivial) (.inl rfl) (fun b' u hb hu=>(Heap.get?_update_other s.heap (Obj.mapSeq f) (Ne.symm hb)).trans hu) ⟨_,q⟩ ?_
 exact ⟨hz,its',_,hv,q⟩
theorem Inv.lnew {its:List Value} {t':Nat} (I:Inv X pins σ H s) (hv:Vals ys its) (hz:ys.length<=sizeLine) :
  Inv X pins σ (upd H s.heap.objs.size (.lst ys)) { s with heap:=s.heap.push { cls:=.type "list",data:=.seq its.toArray },toks:=t' } :=
 I.laid (fun _ _ q=>Heap.get?_push_of_some _ q) (aag _) ⟨hz,its,0,hv,Heap.get?_push_size _ rfl⟩
theorem Inv.fresh (I:Inv X pins σ H s):H s.heap.objs.size=none:=I.hok.fresh (aag _)
theorem Inv.lstM (I:Inv X pins σ H s) (hH:H l=some (.lst xs)):xs.length<=sizeLine/\∃ (its:List Value) (n:Nat),Vals xs its/\xs.length=its.length/\s.heap.get? l=some { cls:=.type "list",data:=.seq its.toArray n }:=by
 obtain ⟨z,its,n,r,e⟩:=I.hok l _ hH
 exact ⟨z,its,n,r,r.length,e⟩
theorem ID {n:Nat} (h:n<=sizeLine):Builtin.List.listTooLong n=false:=by
 unfold Builtin.List.listTooLong
 exact decide_eq_false (by omega)
end
section
variable {X:Cx}
noncomputable def FI:V->List V->Hp->VK->Prop:=fun x vs H Q=>∃ l xs y,x=.ref l/\vs=[y]/\H l=some (.lst xs)/\xs.length < sizeLine/\Q .non (upd H l (.lst (xs ++ [y])))
theorem Ea:MtM X "list.append" FI:=by
 intro pins s σ H x vs v us Q I rx rv h
 obtain ⟨l,xs,y,rfl,rfl,hH,hz,q⟩:=h
 cases rx
 obtain ⟨u,rfl,ru⟩:=rv.one
 obtain ⟨z,its,n,r,hl,e⟩:=I.lstM hH
 refine call_meets F.slot_list_append ⟨_,e,rfl⟩ F.entry_list_append (F.args_list_append_2 _ _) (PySem.list_append l its.toArray n u (by rw [aal]; omega)) ⟨e,?_⟩
 refine ⟨.non,_,I.lset (its':=its ++ [u]) hH e (by simp) (r.append (.cons ru .nil)) ?_,rfl,q⟩
 rw [aav,abh]
 omega
noncomputable def QM:V->List V->Hp->VK->Prop:=fun x vs H Q=>∃ l xs y,x=.ref l/\vs=[]/\H l=some (.lst xs)/\xs[xs.length - 1]?=some y/\Q y (upd H l (.lst xs.dropLast))
theorem QN:MtM X "list.pop" QM:=by
 intro pins s σ H x vs v us Q I rx rv h
 obtain ⟨l,xs,y,rfl,rfl,hH,hy,q⟩:=h
 cases rx
 have hus:=rv.zero
 subst hus
 obtain ⟨z,its,n,r,hl,e⟩:=I.lstM hH
 obtain ⟨u,hu,ru⟩:=r.get hy
 have hy':its.toArray[its.toArray.size - 1]?=some u:=by
  show its.toArray[its.length - 1]?=some u
  rw [<- Array.getElem?_toList,<- hl]
  exact hu
 refine call_meets F.slot_list_pop ⟨_,e,rfl⟩ F.entry_list_pop (F.args_list_pop_1 _) (MeetsSeq.list_pop_last l its.toArray n u hy' (by rw [aal]; omega)) ⟨e,?_⟩
 refine ⟨y,_,I.lset (its':=its.dropLast) hH e ?_ r.dropLast ?_,ru,q⟩
 ·show its.toArray.eraseIdxIfInBounds (its.toArray.size - 1)=its.dropLast.toArray
  rw [aal,abO,KY]
 ·rw [List.length_dropLast]
  omega
noncomputable def L8:V->List V->Hp->VK->Prop:=fun x vs H Q=>∃ l xs i k y,x=.ref l/\vs=[.int i]/\H l=some (.lst xs)/\-(2 ^ 63)<=i/\i < 2 ^ 63/\seqIndex? i xs.length=some k/\xs[k]?=some y/\Q y (upd H l (.lst (xs.eraseIdx k)))
theorem Nl:MtM X "list.pop" L8:=by
 intro pins s σ H x vs v us Q I rx rv h
 obtain ⟨l,xs,i,k,y,rfl,rfl,hH,h1,h2,hk,hy,q⟩:=h
 cases rx
 obtain ⟨u,rfl,ru⟩:=rv.one
 obtain ⟨t,rfl⟩:=ru
 obtain ⟨z,its,n,r,hl,e⟩:=I.lstM hH
 obtain ⟨w,hw,rw'⟩:=r.get hy
 refine call_meets F.slot_list_pop ⟨_,e,rfl⟩ F.entry_list_pop (F.args_list_pop_2 _ _)
  (MeetsSeq.list_pop_at l its.toArray n i t k w (fitsIndex_both h1 h2) (by rw [aal,<- hl]; exact hk) (by rw [<- Array.getElem?_toList]; exact hw) (by rw [aal]; omega)) ⟨e,?_⟩
 refine ⟨y,_,I.lset (its':=its.eraseIdx k) hH e ?_ (r.eraseIdx k) ?_,rw',q⟩
 ·show its.toArray.eraseIdxIfInBounds k=(its.eraseIdx k).toArray
  rw [abO]
 ·have:=HC xs k
  omega
noncomputable def IE:V->List V->Hp->VK->Prop:=fun x vs H Q=>∃ l xs,x=.ref l/\vs=[]/\H l=some (.lst xs)/\Q .non (upd H l (.lst xs.reverse))
theorem KZ:MtM X "list.reverse" IE:=by
 intro pins s σ H x vs v us Q I rx rv h
 obtain ⟨l,xs,rfl,rfl,hH,q⟩:=h
 cases rx
 have hus:=rv.zero
 subst hus
 obtain ⟨z,its,n,r,hl,e⟩:=I.lstM hH
 refine call_meets F.slot_list_reverse ⟨_,e,rfl⟩ F.entry_list_reverse (F.args_list_reverse_1 _) (AutoSeq1.list_reverse_list_0 l its.toArray n (by rw [aal]; omega)) ⟨e,?_⟩
 refine ⟨.non,_,I.lset (its':=its.reverse) hH e (by simp) r.reverse ?_,rfl,q⟩
 rw [abo]
 omega
noncomputable def L9:V->List V->Hp->VK->Prop:=fun x vs H Q=>∃ l xs,x=.ref l/\vs=[]/\H l=some (.lst xs)/\Q .non (upd H l (.lst []))
theorem Nm:MtM X "list.clear" L9:=by
 intro pins s σ H x vs v us Q I rx rv h
 obtain ⟨l,xs,rfl,rfl,hH,q⟩:=h
 cases rx
 have hus:=rv.zero
 subst hus
 obtain ⟨z,its,n,r,hl,e⟩:=I.lstM hH
 refine call_meets F.slot_list_clear ⟨_,e,rfl⟩ F.entry_list_clear (F.args_list_clear_1 _) (AutoSeq1.list_clear_list_0 l its.toArray n (by rw [aal]; omega)) ⟨e,?_⟩
 exact ⟨.non,_,I.lset (its':=[]) (ys:=[]) hH e rfl .nil (aar _),rfl,q⟩
theorem OL {α:Type} (xs:List α) (k:Nat):(aam k xs).flatten.length=k * xs.length:=by
 induction k with
 | zero=>simp
 | succ k ih=>rw [abf,abu,aav,ih,abQ,Nat.add_comm]
end
end L2
namespace Att
open PySem PySem.W PySem.Calls PyProof.Rows
theorem Gx {P:Params} {h:Heap}:∀ (ns:List Int) (vs:List Value),WellAll P h vs (ns.map WData.int)->IntsAre vs ns:=by
 intro ns
 induction ns with
 | nil =>
  intro vs w
  rw [abw] at w
  cases w
  exact .nil
 | cons n ns ih =>
  intro vs w
  rw [aaF] at w
  cases w with
  | cons a b =>
   cases a
   exact .cons _ _ (ih _ b)
theorem Ma {l:OpenLaw} {n:Nat} (hn:l.most=some n) {P:Params} {h:Heap} {args:List WData} {vals:List Value}
  (hpre:l.row.toRowW.claim.pre args=true) (hwl:WellAll P h vals args) :
  ∃ a vs ns,vals=[Value.ref a]/\args=[WData.list (ns.map WData.int)]/\h.get? a=some { cls:=.type "list",data:=.seq vs.toArray }/\IntsAre vs ns/\ns.length<=n:=by
 have hsh:WShape.hasAll [] args [.list .int]=true:=(pre_splitW hpre).1
 have hc:l.pre.holds [] { args:=args }=true:=(pre_splitW hpre).2
 obtain ⟨d,r,rfl,h1,h2⟩:=hasAllW_cons hsh
 obtain rfl:=hasAllW_nil h2
 obtain ⟨xs,rfl,h3⟩:=hasW_list h1
 obtain ⟨ns,rfl⟩:=items_int h3
 have hlen:ns.length<=n:=by
  unfold OpenLaw.pre at hc
  have h4:(WTm.not (.lt (.lit (.int (n:Int))) (.len (.arg 0)))).holds [] { args:=[.list (ns.map .int)] }=true:=by
   have h4:=(holds_andW hc).1
   rw [hn] at h4
   exact h4
  have h5:=condW_of h4 (w_not (w_lt w_lit (w_len_list (w_arg rfl))))
  rw [aab] at h5
  refine aba fun q=>?_
  have q':(n:Int) < ((ns.length:Nat):Int):=by omega
  first
   | (rw [decide_eq_true q'] at h5; exact absurd h5 (by decide))
   | (simp at h5; omega)
 cases hwl with
 | cons w1 w2 =>
  cases w2
  cases w1 with
  | list ho hall=>exact ⟨_,_,ns,rfl,rfl,ho,Gx ns _ hall,hlen⟩
theorem Mb (l:OpenLaw) (args:List WData):l.row.toRowW.claim.post args (.bool true) args=true :=
 postW_of (r:=l.row.toRowW) (X:=(true==true))
  (show WShape.has [] (.bool true) .bool=true by first | rfl | decide | simp [WShape.has,WShape.arms,WShape.armsAll])
  (show (WTm.eq .res (.lit (.bool true))).value [] { args:=args,res:=some (.bool true),after:=args }=some (.bool (true==true)) from w_eq_bool (w_res rfl) w_lit) rfl
theorem attach_call {l:OpenLaw} {n:Nat} {q:Program} {loose:List Str} {XP:(Str->Option Value)->Heap->Prop} {YP:World->Heap->Prop} {d:DefRec}
  (hn:l.most=some n) (hdf:d.params.defaults=[])
  (call:∀ (w:World) (s₀ s₁:Shared) (mg mb:Str->Option Value) (fa:Addr) (o:Obj) (pm cd doc:Value) (a:Addr) (vs:List Value) (ns:List Int),
   Ground q loose [] XP w s₀ mg mb s₁.heap->YP w s₁.heap ->
   s₁.heap.get? fa=some o->o.data=.func (docDef d.name d.params d.body d.scope pm cd doc)->s₁.heap.CodeRec cd d.name->mg d.name=some (.ref fa) ->
   s₁.heap.get? a=some { cls:=.type "list",data:=.seq vs.toArray }->IntsAre vs ns->ns.length<=n->s₁.gens=#[] ->
   codeAny (model l.prog w) callerA (.call (.ref fa) ⟨[.ref a],[]⟩) (fun r s'=>r=.ok (.ret (.bool true))/\OldK s₁.heap s'.heap/\s'.os=s₁.os/\AllBare s'.gens) s₁) :
  WalkO q loose XP YP l.row.toRowW d [] (fun f vs=>PySem.call f vs):=by
 intro w s₀ s₁ mg mb G Y fa o pm cd doc dV kV ho hd hcd hD hmg hg args vals as hpre hlay hrd hwl hlo
 obtain rfl:dV=.none:=Dflts.none hD hdf
 obtain rfl:kV=.none:=Dflts.noKw hD
 obtain ⟨a,vs,ns,rfl,rfl,hobj,hints,hlen⟩:=Ma hn hpre hwl
 refine enter_call (codeAny_mono (call w s₀ s₁ mg mb fa o pm cd doc a vs ns G Y ho (fd_plain hd) hcd hmg hobj hints hlen hg) fun r s' hq=>?_)
 obtain ⟨rfl,h2,h3,h4⟩:=hq
 exact ⟨.inl ⟨.bool true,.bool true,[],rfl,fun _=>rfl,.bool true,Mb l _,fun _=>⟨List.Pairwise.nil,fun _ hm=>(nomatch hm)⟩⟩,h2,h3,h4⟩
end Att
namespace L2
open PySem PySem.Spec PyProof.Rows
theorem HE:∀ {vs:List Value} {ns:List Int},IntsAre vs ns->Vals (ns.map V.int) vs
 | _,_,.nil=>.nil
 | _,_,.cons n t h=>.cons ⟨t,rfl⟩ (HE h)
noncomputable def Nn (H:Hp):Prop:=∀ b,H b=none\/∃ o xs,H b=some (.frz o (.lst xs))
theorem No {P:Program} {w:World} {K:PySem.W.Frag} {mg mb:Str->Option Value} {CX:CXT} {k:Nat} {fa a:Addr} {fd:FuncData} {x:Str} {sp:Sp} {s₁:Shared} {vs:List Value} {ns:List Int}
  (KX:K.In s₁.heap) (hns:s₁.heap.Ns mainGlobals mg) (hb:s₁.heap.Ns builtinsNs mb) (hbb:∀ x:Str,x ≠ "__name__" -> mb x=bootBuiltins x) (hlim:s₁.heap.NoLimit) (hg:s₁.gens=#[])
  (ha:s₁.heap.get? a=some { cls:=.type "list",data:=.seq vs.toArray }) (hi:IntsAre vs ns) (hl:ns.length<=sizeLine) (hr:Room k callerA)
  (F:∀ base:Heap,K.In base->base.Ns mainGlobals mg->FnOk P w K mg base CX k fa fd [x] sp) (hbind:∀ (s:Shared) (u:Value),BindsTo s fd ⟨[u],[]⟩ [(x,u)])
  (hsp:∀ H:Hp,Nn H->SqL K H a (ns.map V.int)->sp [.ref a] H (fun v _=>v=.bl true) fun _ _ _=>False)
  (hCX:∀ H e s',CX [] H s₁ (fun _ _ _=>False) e s'->False) :
  codeAny (model P w) callerA (.call (.ref fa) ⟨[.ref a],[]⟩) (fun r s'=>r=.ok (.ret (.bool true))/\OldK s₁.heap s'.heap/\s'.os=s₁.os/\AllBare s'.gens) s₁:=by
 have rv:=HE hi
 have lenV:=hi.length
 have core:∀ H:Hp,Nn H->SqL K H a (ns.map V.int)->HOk P w H s₁.heap->(∀ b,H b ≠ none->b=a)->(H a ≠ none->K.lookup a=none) ->
   codeAny (model P w) callerA (.call (.ref fa) ⟨[.ref a],[]⟩) (fun r s'=>r=.ok (.ret (.bool true))/\OldK s₁.heap s'.heap/\s'.os=s₁.os/\AllBare s'.gens) s₁:=by
  intro H hO hS hok hA hK
  have base_of:∀ {b:Addr} {o:Obj},s₁.heap.get? b=some o->H b=none->(EQ s₁.heap H).get? b=some o:=fun e n=>M8 e n
  have noA:∀ {b:Addr} {o:Obj} {es:Array DictEntry} {ep:Nat},s₁.heap.get? b=some o->o.data=.dict es ep->H b=none:=fun {b o es ep} e d=>by
   cases q:H b with
   | none=>rfl
   | some u =>
    have e':b=a:=hA b (by rw [q]; simp)
    subst e'
    rw [ha] at e; cases e
    have d':Data.seq vs.toArray _=Data.dict es ep:=d
    cases d'
  have nsK:∀ {b:Addr} {m:Str->Option Value},s₁.heap.Ns b m->(EQ s₁.heap H).Ns b m:=fun {b m} ⟨o,es,ep,e,d,r⟩=>⟨o,es,ep,base_of e (noA e d),d,r⟩
  have hKb:K.In (EQ s₁.heap H):=fun b o e=>base_of (KX b o e) (by
   cases q:H b with
   | none=>rfl
   | some u =>
    have e':b=a:=hA b (by rw [q]; simp)
    subst e'
    rw [hK (by rw [q]; simp)] at e; cases e)
  have hM:Mod K mg (EQ s₁.heap H):=⟨hKb,nsK hns,⟨mb,nsK hb,hbb⟩,let ⟨mc,h1,h2⟩:=hlim; ⟨mc,nsK h1,h2⟩⟩
  have e0:Env0 P w K mg (EQ s₁.heap H) callerA [] s₁ H:=⟨rfl,hM,fun b o e=>Oz e,acD (LH _ _),trivial,fun b hb=>absurd (show b ∈ ([]:List Addr) from hb) (by simp),hok,.of_eq hg⟩
  refine codeAny_mono ((F _ hKb (nsK hns)).run callerA [] s₁ H ⟨[.ref a],[]⟩ [.ref a] [.ref a] _ _ hr e0 (hbind s₁ (.ref a)) (.cons rfl .nil) (hsp H hO hS)) fun r s' h=>?_
  cases r with
  | error e=>exact (hCX H e s' h).elim
  | ok fl =>
   cases fl with
   | next=>exact False.elim h
   | brk=>exact False.elim h
   | cont=>exact False.elim h
   | ret u =>
    obtain ⟨v,H',os,bare,un,hok',r',q⟩:=h
    have q':v=.bl true:=q
    subst q'
    obtain rfl:u=Value.bool true:=r'
    refine ⟨rfl,OldK.of_keep fun b o e=>?_,os,bare⟩
    cases q:H b with
    | none=>exact un.keep b o e q (by intro z; exact absurd (show b ∈ ([]:List Addr) from z) (by simp)) (by simp)
    | some u =>
     rcases hO b with z | ⟨ob,xs,z⟩
     ·rw [q] at z; cases z
     ·have z2:=un.frzs b ob _ z
      obtain ⟨e1,_⟩:=hok b _ z
      obtain ⟨e2,_⟩:=hok' b _ z2
      rw [e] at e1; cases e1
      exact e2
 cases hk:K.lookup a with
 | some o =>
  have e:=KX a o hk
  rw [ha] at e
  cases e
  refine core (fun _=>none) (fun _=>.inl rfl) (.inr ⟨_,vs.toArray,_,hk,rfl,rfl,rfl,by rw [aal,lenV]; exact hl,by simpa using rv⟩) (fun b u z=>by have z':(none:Option HO)=some u:=z; cases z') (fun b z=>absurd rfl z) fun z=>absurd rfl z
 | none =>
  refine core (fun b=>if b=a then some (.frz { cls:=.type "list",data:=.seq vs.toArray } (.lst (ns.map V.int))) else none) (fun b=>?_) (.inl (.inr ⟨{ cls:=.type "list",data:=.seq vs.toArray },if_pos rfl⟩)) (fun b u z=>?_) (fun b z=>?_) fun _=>hk
  ·by_cases hb:b=a
   ·exact .inr ⟨_,_,if_pos hb⟩
   ·exact .inl (if_neg hb)
  ·by_cases hb:b=a
   ·have z':=(if_pos hb).symm.trans z
    cases z'
    subst hb
    exact ⟨ha,by rw [aab]; exact hl,vs,_,rv,ha⟩
   ·have z':=(if_neg hb).symm.trans z
    cases z'
  ·by_cases hb:b=a
   ·exact hb
   ·exact absurd (if_neg hb) z
theorem OM {l:PySem.W.OpenLaw} {n k:Nat} {q:Program} {loose:List Str} {XP:(Str->Option Value)->Heap->Prop} {YP:World->Heap->Prop} {d:DefRec} {K:Params->PySem.W.Frag} {CX:World->CXT} {sp:World->Sp} {x:Str}
  (hn:l.most=some n) (hn2:n<=sizeLine) (hdf:d.params.defaults=[]) (hr:Room k callerA)
  (hY:∀ (w:World) (h:Heap),YP w h->(K w.params).In h)
  (F:∀ (w:World) (mg:Str->Option Value) (fa:Addr) (h:Heap),(K w.params).In h->h.Ns mainGlobals mg->mg d.name=some (.ref fa) ->
   ∃ fd:FuncData,(∀ (s:Shared) (u:Value),BindsTo s fd ⟨[u],[]⟩ [(x,u)]) /\
    ∀ base:Heap,(K w.params).In base->base.Ns mainGlobals mg->FnOk l.prog w (K w.params) mg base (CX w) k fa fd [x] (sp w))
  (hsp:∀ (w:World) (H:Hp) (a:Addr) (ns:List Int),ns.length<=n->Nn H->SqL (K w.params) H a (ns.map V.int)->sp w [.ref a] H (fun v _=>v=.bl true) fun _ _ _=>False)
  (hCX:∀ (w:World) (H:Hp) (s:Shared) (e:Value) (s':Shared),CX w [] H s (fun _ _ _=>False) e s'->False) :
  PySem.W.WalkO q loose XP YP l.row.toRowW d [] (fun f vs=>PySem.call f vs):=by
 refine Att.attach_call hn hdf fun w s₀ s₁ mg mb fa o pm cd doc a vs ns G Y ho hd hcd hmg hobj hints hlen hg=>?_
 have KX:=hY w _ Y
 obtain ⟨fd,hb,hF⟩:=F w mg fa _ KX G.T.g hmg
 exact No KX G.T.g G.T.b G.T.builtins G.T.nolimit hg hobj hints (aaD hlen hn2) hr hF hb (fun H hO hS=>hsp w H a ns hlen hO hS) fun H e s'=>hCX w H s₁ e s'
noncomputable def BY (s:Stmt):Arguments:=match s with
 | .FunctionDef _ a _ _ _ _ _ _ _ _=>a
 | _=>{ posonlyargs:=[],args:=[],vararg:=none,kwonlyargs:=[],kw_defaults:=[],kwarg:=none,defaults:=[] }
noncomputable def AR (s:Stmt):List Stmt:=match s with
 | .FunctionDef _ _ b _ _ _ _ _ _ _=>b
 | _=>[]
noncomputable def An (s:Stmt):Scope:=match s with
 | .FunctionDef _ _ _ _ _ _ sc _ _ _=>sc
 | _=>{ kind:=.function,names:=[],isGenerator:=false,isCoroutine:=false }
structure Fun (K:PySem.W.Frag) (x qual:Str) (st:Stmt) (f:Addr) (fd:FuncData):Prop where
 ex:∃ (oc:Value) (od:Option Addr) (kV doc pm:Value) (an:Option Addr) (cdv ct:Value) (osl:Array (Option Value)),
  fd=PySem.W.fnOf x qual (BY st) (AR st) (An st) .none kV doc pm an cdv ct/\K.lookup f=some ⟨oc,od,.func fd,osl⟩/\PySem.W.codeIn K cdv qual=true
 kp:PySem.W.keepIn K (.ref f)=true
section
variable {P:Program} {w:World} {K:PySem.W.Frag} {mg:Str->Option Value} {base:Heap}
theorem Fun.binds {x qual:Str} {st:Stmt} {f:Addr} {fd:FuncData} {ps:List Str} (F:Fun K x qual st f fd)
  (h:∀ (kV doc pm:Value) (an:Option Addr) (cdv ct:Value) (us:List Value),us.length=ps.length->bindArgs (PySem.W.fnOf x qual (BY st) (AR st) (An st) .none kV doc pm an cdv ct) ⟨us,[]⟩=pure (ps.zip us)):Binds K fd ps []:=by
 obtain ⟨oc,od,kV,doc,pm,an,cdv,ct,osl,rfl,lk,hcd⟩:=F.ex
 exact .all (h kV doc pm an cdv ct)
theorem Mc {x qual:Str} {st:Stmt} {f:Addr} {oc:Value} {od an:Option Addr} {osl:Array (Option Value)} {kV doc pm cdv ct:Value} (l:K.lookup f=some ⟨oc,od,.func (PySem.W.fnOf x qual (BY st) (AR st) (An st) .none kV doc pm an cdv ct),osl⟩)
  (c:PySem.W.codeIn K cdv qual=true) (k:PySem.W.keepIn K (.ref f)=true):Fun K x qual st f (PySem.W.fnOf x qual (BY st) (AR st) (An st) .none kV doc pm an cdv ct):=⟨⟨oc,od,kV,doc,pm,an,cdv,ct,osl,rfl,l,c⟩,k⟩
end
noncomputable def Same (H H':Hp):Prop:=∀ b o,H b=some o->H' b=some o
theorem Same.refl (H:Hp):Same H H:=fun _ _ h=>h
theorem Same.trans {H H1 H2:Hp} (a:Same H H1) (b:Same H1 H2):Same H H2:=fun c o h=>b c o (a c o h)
theorem Same.free {H H':Hp} (e:Same H H') {l:Addr} (h:H' l=Option.none):H l=Option.none:=by
 cases q:H l with
 | none=>rfl
 | some o =>
  rw [e l o q] at h
  cases h
theorem Same.seq {K:PySem.W.Frag} {H H':Hp} {a:Addr} {xs:List V} (e:Same H H') (h:SqL K H a xs):SqL K H' a xs:=by
 rcases h with (h | ⟨o,h⟩) | h
 ·exact .inl (.inl (e _ _ h))
 ·exact .inl (.inr ⟨o,e _ _ h⟩)
 ·exact .inr h
end L2
end
section
set_option maxHeartbeats 1000000
namespace L2
open PySem PySem.Spec PyProof.Rows PySem.W
section
variable {prog:Program} {w:World} {A:Around} {E:Value->Shared->Prop} {s:Shared} {K:Frag} {e C:Addr} {ox:Obj}
structure XCls (K:Frag) (C:Addr):Prop where
 ga:findIn K (.ref C) "__getattribute__" = some (some (.builtin "BaseException.__getattribute__"))
 gn:findIn K (.ref C) "__getattr__" = some none
 sb:subIn K (.ref C) (.type "BaseException")=some true
 cl:findIn K (.ref C) "__class__" = some (some (.builtin "object.__class__"))
 mo:mroIn K C (.type "object")=some true
 ty:typeIn K (.ref C)=some (.type "type")
 cc:(clsIn K C).isSome=true
noncomputable def XAt (e C:Addr) (h:Heap):Prop:=∃ oe,h.get? e=some oe/\oe.cls=.ref C
theorem XAt.type {M:Model} {h:Heap} (I:XAt e C h):Looks M h (typeOf (.ref e)) (.ref C):=by
 obtain ⟨oe,h1,h2⟩:=I
 exact h2 ▸ (Looks.ld h1).andThen .now
theorem QO {R:Result->Shared->Prop} (X:K.In s.heap) (I:XAt e C s.heap) (c:XCls K C) (h:R (.ok (.ret (.ref C))) s) :
  codeAny (model prog w) A (.call (.builtin "getset_descriptor.__get__") ⟨[.builtin "object.__class__",.ref e,.ref C],[]⟩) R s:=by
 obtain ⟨hh,g,d,t,os⟩:=s
 have hT5:(⟨hh,g,d,t,os⟩:Shared).TypeIs (.builtin "object.__class__") "getset_descriptor" := F.typeOf_object_class
 have L0:=I.type (M:=model prog w)
 have L1:=looks_mroIn (M:=model prog w) X c.mo
 refine codeAny_call_builtin F.slot_gs_get.plain F.entry_gs_get (F.slot_gs_get.check _ _ _ _ _ _ _ _ hT5 (F.args_gs_get _ _ _) ?_)
 repeat (any_goals (first | assumption | refine L0.at ?_ | refine L1.at ?_ | refine wpAny_bind (L0.at ?_) | refine wpAny_bind (L1.at ?_) | wp_step))
 refine ⟨Code.quiet_builtin _ (by decide +kernel),codeAny_builtin KF.entry_class ?_⟩
 unfold Builtin.«object.__class__» shownTypeOf
 repeat (any_goals (first | assumption | refine L0.at ?_ | refine wpAny_bind (L0.at ?_) | wp_step))
theorem ON {tk:Tok} {R:Result->Shared->Prop} (X:K.In s.heap) (I:XAt e C s.heap) (c:XCls K C) (h:R (.ok (.ret (.ref C))) s) :
  codeAny (model prog w) A (.call (.builtin "BaseException.__getattribute__") ⟨[.ref e,.str "__class__" tk],[]⟩) R s:=by
 obtain ⟨hh,g,d,t,os⟩:=s
 have L0:=I.type (M:=model prog w)
 have LS:=looks_subIn (M:=model prog w) X c.sb
 have LI:Looks (model prog w) hh (isInstance (.ref e) (.type "BaseException")) true:=L0.andThen LS
 have LC:=looks_findIn (M:=model prog w) X c.cl
 refine codeAny_call_builtin (by decide +kernel) F.entry_bexc_ga ?_
 have hk:builtinKind "BaseException.__getattribute__" = some .slot:=by decide +kernel
 have hsplit:splitId "BaseException.__getattribute__" = some ("BaseException", "__getattribute__"):=by decide +kernel
 have ha:=F.args_bexc_ga (.ref e) (.str "__class__" tk)
 simp only [checkBuiltinCall,hk,hsplit]
 refine wpAny_bind (LI.at ?_)
 unfold argsOk at ha
 simp only [abr,aaX,if_false]
 refine wpAny_of_eq ha ?_
 have hT5:(⟨hh,g,d,t,os⟩:Shared).TypeIs (.builtin "object.__class__") "getset_descriptor" := F.typeOf_object_class
 have f5:=F.typeOf_object_class
 have f6:=F.slot_gs_get.lookup
 have f7:=F.slot_gs_set.lookup
 repeat (any_goals (first | assumption | refine L0.at ?_ | refine wpAny_bind (L0.at ?_) | refine LC.at ?_ | refine wpAny_bind (LC.at ?_) | wp_step))
 exact QO X I c (wpAny_pure h)
theorem OO {Q:Option Value->Shared->Prop} (X:K.In s.heap) (I:XAt e C s.heap) (c:XCls K C) (h:Q (some (.ref C)) { s with toks:=s.toks + 1 }) :
  wpAny (model prog w) A (getAttr? (.ref e) "__class__") Q E s:=by
 obtain ⟨hh,g,d,t,os⟩:=s
 have L0:=I.type (M:=model prog w)
 have LG:=looks_findIn (M:=model prog w) X c.ga
 have LN:=looks_findIn (M:=model prog w) X c.gn
 have fb1:=F.excAttr_ValueError.ga.bind (.ref e)
 unfold getAttr? getAttrBy? getAttrBy
 repeat (first | refine wpAny_bind (L0.at ?_) | refine wpAny_bind (LG.at ?_) | refine wpAny_bind (LN.at ?_) | refine LN.at ?_ | wp_step)
 exact ON (s:=⟨hh,g,d,t + 1,os⟩) X I c (handed_on rfl (wpAny_pure h))
theorem Np (c:XCls K C):KitX K (.ref e) (.ref C) (XAt e C) where
 ty:=fun _ _ _ I=>I.type
 it:=fun M h X _=>by
  have hc:=c.cc
  unfold clsIn at hc
  split at hc
  ·rename_i ho
   intro A' Q' E' s' k q
   unfold isType loadHead
   exact wpAny_bind (wpAny_loadPart (k _ _ (X _ _ ho)) (wpAny_pure q))
  ·cases hc
 ne:=fun h tp dd its n sl X htp=>by
  refine Bool.eq_false_iff.mpr fun q=>?_
  have e:C=tp:=Value.ref.inj (beq_iff_eq.mp q)
  subst e
  have hc:=c.cc
  unfold clsIn at hc
  split at hc
  ·rename_i ho
   have z:=(X _ _ ho).symm.trans htp
   cases z
  ·cases hc
 ca:=fun X I k=>OO X I c k
end
noncomputable def xO (a C:Addr):HO:=.ext (XAt a C)
noncomputable def dO (a:Addr):HO:=.ext (KitAt a "dict")
inductive TyX (K:Frag) (H:Hp):V->Value->Prop where
 | dct {a:Addr} (y:H a=some (dO a)):TyX K H (.ref a) (.type "dict")
 | of {x:V} {t:Value} (y:TyOf K H x t):TyX K H x t
 | exc {a C:Addr} (y:H a=some (xO a C)) (c:XCls K C):TyX K H (.ref a) (.ref C)
noncomputable def clV:V->Option Value
 | .ty n=>some (.type n)
 | .ref C=>some (.ref C)
 | _=>none
noncomputable def SX (K:Frag):List V->Hp->VK->Prop:=fun xs H Q=>∃ x c cv t b,xs=[x,c]/\clV c=some cv/\TyX K H x t/\kitOne K t cv=some b/\Q (.bl b) H
theorem Nq {X:Cx}:DF X (.builtin "isinstance") (SX X.K):=by
 intro pins s σ H xs us Q I r h
 obtain ⟨x,c,cv,t,b,rfl,hc,ty,e,q⟩:=h
 obtain ⟨u,w',rfl,ru,rw'⟩:=KR r
 have ec:w'=cv:=by
  cases c with
  | ty n=>cases hc; exact rw'
  | ref C=>cases hc; exact rw'
  | _=>cases hc
 subst ec
 have fin:∀ tk,EP X pins σ Q (.bool b) { s with toks:=tk }:=fun tk=>⟨.bl b,H,I.tok tk,rfl,q⟩
 cases ty with
 | @dct a y =>
  cases (show u=Value.ref a from ru)
  exact kia_one kitx_dict I.kIn (I.hok a _ y).1 e (fun z=>nomatch z) fin
 | of y=>exact L3 I ru y e fin
 | @exc a C y c =>
  cases (show u=Value.ref a from ru)
  exact kia_one (Np c) I.kIn (I.hok a _ y).1 e (fun z=>nomatch z) fin
theorem ObjOk.there {P:Program} {w:World} {H:Hp} {h:Heap} {a:Addr} {o:HO} (x:ObjOk P w H h a o):∃ ob,h.get? a=some ob:=by
 induction o with
 | lst xs=>obtain ⟨_,_,_,_,e⟩:=x; exact ⟨_,e⟩
 | tup xs=>obtain ⟨_,_,_,ob,e,_⟩:=x; exact ⟨_,e⟩
 | dK kvs=>obtain ⟨_,_,_,_,ob,_,_,e,_⟩:=x; exact ⟨_,e⟩
 | dT kvs=>obtain ⟨_,_,_,_,ob,_,_,e,_⟩:=x; exact ⟨_,e⟩
 | set S n=>obtain ⟨ob,_,_,_,e,_⟩:=x; exact ⟨_,e⟩
 | ins C dx fs=>obtain ⟨_,_,_,e,_⟩:=x; exact ⟨_,e⟩
 | own y=>exact x
 | xd fs=>obtain ⟨_,⟨od,_,_,e,_⟩,_⟩:=x; exact ⟨_,e⟩
 | rng lo hi=>obtain ⟨_,_,_,e⟩:=x; exact ⟨_,e⟩
 | frz ob u _=>exact ⟨_,x.1⟩
 | tbl ps=>exact ⟨_,x⟩
 | met f y=>exact ⟨_,x⟩
 | ext φ=>exact x.2.1
theorem HOk.hide {P:Program} {w:World} {H:Hp} {h:Heap} (x:HOk P w H h) {fs:List Addr} (hf:∀ b ∈ fs,H b=none):HOk P w H (hideAll h fs):=fun a o e =>
 (x a o e).stay (fun b u hb q=>hideAll_get _ q fun z=>by
  have n:=hf b z
  rcases hb with rfl | hb
  ·rw [n] at e; cases e
  ·rw [n] at hb; cases hb) (fun _ q=>q) fun _ _ q=>q
noncomputable def CXe (P:Program) (w:World):CXT:=fun outer H s E ev s'=>∃ (e:Addr) (cls a0:Value) (H':Hp) (B:Heap),ev=.ref e/\s'.os=s.os/\AllBare s'.gens/\Heap.FlyingW B outer e cls a0 s'.heap/\HOk P w H' B/\H' e=none /\
 (∀ b o,s.heap.get? b=some o->H b=none->b ∉ frs outer->B.get? b=some o)/\(∀ b o,s.heap.get? b=some o->H b=none->b ∈ frs outer->∃ sl,s'.heap.get? b=some { o with slots:=sl }) /\
 (∀ b o,s.heap.get? b=some o->H b=none->H' b=none)/\(∀ b o,s.heap.get? b=some o->b ∉ frs outer->∃ o',B.get? b=some o') /\
 (∀ b xs,H b=some (.tup xs)->H' b=some (.tup xs))/\(∀ b o u,H b=some (.frz o u)->H' b=some (.frz o u))/\(∀ b ps,H b=some (.tbl ps)->∃ more,H' b=some (.tbl (ps ++ more)))/\E cls none H'
noncomputable def K0 (X:Cx) (E:XK):Prop:=∀ (pins:List (Addr × Obj)) (σ:St) (H:Hp) (s:Shared) (h':Heap) (e C:Addr) (vs:List Value),Inv X pins σ H s->Heap.MadeExcOf s.heap h' e (.ref C) vs->E (.ref C) none H->X.xe (.ref e) { s with heap:=h' }
section
variable {P:Program} {w:World} {K:Frag} {mg:Str->Option Value} {base:Heap} {N:List Str} {qual:Str} {scope:Scope} {f:Addr} {cd:Value} {A:Around} {outer:List Env} {s₀:Shared} {H₀:Hp} {E E':XK}
theorem Nr (hE:∀ c d H,E c d H->E' c d H):K0 (BL (CXe P w) P w K mg base N qual scope f cd A outer s₀ H₀ E') E:=by
 intro pins σ H s h' e C vs I hx he
 show wpAny _ _ (leaving _ (.ref e)) _ _ _
 have hfr:∀ env ∈ (BL (CXe P w) P w K mg base N qual scope f cd A outer s₀ H₀ E').stack,∀ b,env.frame=some b->b ∈ frs (BL (CXe P w) P w K mg base N qual scope f cd A outer s₀ H₀ E').stack:=fun env h b hb=>aaH.mpr ⟨env,h,hb⟩
 have hB:=I.hok.hide I.stkFree
 have hff:=funFrames_hide I.stack hfr
 have en:H e=none:=by
  cases q:H e with
  | none=>rfl
  | some o=>obtain ⟨ob,z⟩:=(I.hok e o q).there; rw [hx.new] at z; cases z
 refine wpAny_leaves_madeW (base:=hideAll s.heap (frs (BL (CXe P w) P w K mg base N qual scope f cd A outer s₀ H₀ E').stack)) I.ok.frames rfl (fun b o q=>of_hideAll _ q) hff hx fun h2 t fl _ _ up=>?_
 have sub:∀ b ∈ frs outer,b ∈ frs (BL (CXe P w) P w K mg base N qual scope f cd A outer s₀ H₀ E').stack:=fun b hb=>by
  obtain ⟨env,h1,h2⟩:=aaH.mp hb
  exact aaH.mpr ⟨env,aaa _ h1,h2⟩
 have nloc:∀ b o,s₀.heap.get? b=some o->b ≠ s₀.heap.objs.size:=fun b o q z=>by
  have:=Heap.lt_size q
  exact aaP _ (z ▸ this)
 have nfr:∀ b o,s₀.heap.get? b=some o->b ∉ frs outer->b ∉ frs (BL (CXe P w) P w K mg base N qual scope f cd A outer s₀ H₀ E').stack:=fun b o q hb z=>by
  obtain ⟨env,h1,h2⟩:=aaH.mp z
  rcases aai.mp h1 with rfl | h1
  ·exact nloc b o q (Option.some.inj h2).symm
  ·exact hb (aaH.mpr ⟨env,h1,h2⟩)
 have nx:∀ b:Addr,b ∉ (BL (CXe P w) P w K mg base N qual scope f cd A outer s₀ H₀ E').ex:=fun b z=>absurd (show b ∈ ([]:List Addr) from z) (by simp)
 refine ⟨e,.ref C,.ref t,H,_,rfl,I.os,I.bare,fl,hB,en,fun b o q n hb=>hideAll_get _ (I.base.keep b o q n hb (nx b)) (nfr b o q hb),fun b o q n hb=>?_,fun b o q n=>I.base.free b o q n (nx b),fun b o q hb=>?_,I.base.tups,I.base.frzs,I.base.tbls,hE _ _ _ he⟩
 ·obtain ⟨sl,e1⟩:=I.base.slot b o q n hb (nx b)
  obtain ⟨⟨hn,o2,ho2,hnf⟩⟩:=And.intro (I.stack.mem (sub b hb)) trivial
  rw [e1] at ho2
  cases ho2
  obtain ⟨sl2,e2⟩:=up b _ (hx.keeps b _ e1) hnf
  exact ⟨sl2,e2⟩
 ·obtain ⟨o',e1⟩:=I.base.there b o q (nx b)
  exact ⟨o',hideAll_get _ e1 (nfr b o q hb)⟩
theorem Si (hE:∀ c d H,E c d H->E' c d H):QH (CXe P w) (BL (CXe P w) P w K mg base N qual scope f cd A outer s₀ H₀ E') E:=by
 intro pins σ H s ev s' I h
 obtain ⟨e,cls,a0,H',B,rfl,ho,hg,fl,hok,en,keep,slot,free,there,tups,frzs,tbls,he⟩:=h
 show wpAny _ _ (leaving _ (.ref e)) _ _ _
 refine wpAny_leaves_onW (base:=B) I.ok.frames rfl fl fun h2 fl2 up=>?_
 have sub:∀ b ∈ frs outer,b ∈ frs (BL (CXe P w) P w K mg base N qual scope f cd A outer s₀ H₀ E').stack:=fun b hb=>by
  obtain ⟨env,h1,h2⟩:=aaH.mp hb
  exact aaH.mpr ⟨env,aaa _ h1,h2⟩
 have nfr:∀ b o,s₀.heap.get? b=some o->b ∉ frs outer->b ∉ frs (BL (CXe P w) P w K mg base N qual scope f cd A outer s₀ H₀ E').stack:=fun b o q hb z=>by
  obtain ⟨env,h1,h2⟩:=aaH.mp z
  rcases aai.mp h1 with rfl | h1
  ·exact aaP _ ((Option.some.inj h2).symm ▸ Heap.lt_size q)
  ·exact hb (aaH.mpr ⟨env,h1,h2⟩)
 have nx:∀ b:Addr,b ∉ (BL (CXe P w) P w K mg base N qual scope f cd A outer s₀ H₀ E').ex:=fun b z=>absurd (show b ∈ ([]:List Addr) from z) (by simp)
 have frNF:∀ b o,s'.heap.get? b=some o->b ∈ frs (BL (CXe P w) P w K mg base N qual scope f cd A outer s₀ H₀ E').stack->∃ sl,h2.get? b=some { o with slots:=sl }:=fun b o q hb=>by
  obtain ⟨hn,o2,ho2,hnf⟩:=fl.2.2.1.mem hb
  rw [q] at ho2
  cases ho2
  exact up b _ q hnf
 refine ⟨e,cls,a0,H',B,rfl,ho.trans I.os,hg,fl2,hok,en,fun b o q n hb=>keep b o (I.base.keep b o q n hb (nx b)) (I.base.free b o q n (nx b)) (nfr b o q hb),fun b o q n hb=>?_,
  fun b o q n=>?_,fun b o q hb=>?_,fun b xs q=>tups b xs (I.base.tups b xs q),fun b o u q=>frzs b o u (I.base.frzs b o u q),fun b ps q=>?_,hE _ _ _ he⟩
 ·obtain ⟨sl,e1⟩:=I.base.slot b o q n hb (nx b)
  obtain ⟨sl1,e2⟩:=slot b _ e1 (I.base.free b o q n (nx b)) (sub b hb)
  obtain ⟨sl2,e3⟩:=frNF b _ e2 (sub b hb)
  exact ⟨sl2,e3⟩
 ·obtain ⟨o',e1⟩:=I.base.there b o q (nx b)
  exact free b o' e1 (I.base.free b o q n (nx b))
 ·obtain ⟨o',e1⟩:=I.base.there b o q (nx b)
  exact there b o' e1 (nfr b o q hb)
 ·obtain ⟨m1,e1⟩:=I.base.tbls b ps q
  obtain ⟨m2,e2⟩:=tbls b _ e1
  exact ⟨m1 ++ m2,by rw [e2,Array.append_assoc]⟩
end
section
variable {X:Cx} {C:Addr} {x:Str} {e:Expr} {es:List Expr} {t:TA} {E:XK} {np cpos pos:Pos}
abbrev F8:List Value:=[.type "ValueError",.type "Exception",.type "BaseException",.type "object"]
theorem QP {h:Heap} (KX:X.K.In h) (G:h.Ns mainGlobals X.mg) (B:∃ mb,h.Ns builtinsNs mb/\∀ x:Str,x ≠ "__name__" -> mb x=bootBuiltins x) (L:h.NoLimit) (hm:nsIn X.K mainGlobals x=some (some (.ref C))) (hC:excIn X.K C F8 "ValueError.__new__" = true) :
  OwnCls x C F8 "ValueError.__new__" X.mg h:=by
 obtain ⟨mb,Bn,hb⟩:=B
 obtain ⟨o,es,ep,ho,hd,hs,hf⟩:=id G
 have T:TopRead default (es.toList.filterMap fun d=>match d.key with | .str n _=>some n | _=>none) X.mg mb h:=⟨G,Bn,L,hb,fun y _ hy _ _ _=>by
  rw [<- hf y]
  unfold nsFind findBy
  rw [Option.map_eq_none_iff,Array.find?_eq_none]
  intro d hm hy2
  obtain ⟨n,tk,ek⟩:=hs d hm
  rw [ek] at hy2
  have en:n=y:=by simpa [Value.isStr] using hy2
  exact hy (aaH.mpr ⟨d,by simpa using hm,by rw [ek,en]⟩)⟩
 exact own_of_in KX T hm hC
theorem Nt (hw:K0 X E) (hc:X.calm=true) (hg:Gl X x) (hn:nsIn X.K mainGlobals x=some (some (.ref C))) (hC:excIn X.K C F8 "ValueError.__new__" = true) (ha:PA X (e :: es) t) (hd:(x==("__debug__" : Str))=false:=by decide)
  (he:starEach (e :: es) X.env=(false,eval e X.env) :: starEach es X.env:=by rfl) (hpl:(backTo cpos (starEach es X.env)).any (·.1)=false:=by rfl) :
  PS X (.Raise (some (.Call (.Name x np) (e :: es) [] cpos)) none pos) (fun D σ H=>t σ H fun vs H1=>vs.length<=sizeLine/\E (.ref C) none H1):=by
 intro pins s σ H D I h
 have O:=QP (X:=X) I.mod.kin I.mod.glob I.mod.blt I.mod.nolimit hn hC
 obtain ⟨bm,N',nm,q,bs,hdct,sn,sub,ab,col,dd,k0,k1,k2,k3,k5,mN,hCo,hN,hni,T⟩:=O.obj
 refine wpAny_Raise_call_subT (nm:=nm) (q:=q) (N:=N') (bs:=bs) (bm:=bm) (hdct:=hdct) (sn:=sn) (sub:=sub) (ab:=ab) (col:=col) (dd:=dd) (k0:=k0) (k1:=k1) (k2:=k2) (k3:=k3) (k5:=k5) PySem.F.excBase_ValueError (mN:=mN) (T.hasType rfl) (I.ok.hd hc) (by rw [he]; exact hpl) hni (G3 I hg O.bound ⟨rfl,?_⟩ hd)
 have h2:=ha cpos pins s σ H _ I h
 rw [he] at h2 ⊢
 exact Calls.evalArgs_plain (thn h2 fun us s1 ⟨vs,H1,I1,r,q⟩=>⟨rfl,r.length ▸ q.1,I1.bk _ _ hCo,hN.keeps I1.bk,T.keeps I1.bk,fun h' ex hx=>hw pins σ H1 s1 h' ex C us I1 hx q.2⟩)
end
noncomputable abbrev EXT:=St->XK
noncomputable def Fd (CX:CXT) (X:Cx) (E:EXT):Prop:=∀ (pins:List (Addr × Obj)) (σ:St) (H:Hp) (s:Shared) (e:Value) (s':Shared),Inv X pins σ H s->CX X.stack H s (E σ) e s'->X.xe e s'
noncomputable def Me (sp:Sp) (dvs:List V) (E:EXT) (t:TA):TE:=fun σ H Q=>t σ H fun vs H1=>sp (vs ++ dvs) H1 Q (E σ)
section
variable {X:Cx} {CX:CXT} {k:Nat} {f:Addr} {fd:FuncData} {ps:List Str} {sp:Sp} {dvs:List V} {ds:List Value} {E:EXT} {x:Str} {p pos:Pos} {e:Expr} {es:List Expr} {t:TA}
theorem Nu (F:FnOk X.prog X.w X.K X.mg X.base CX k f fd ps sp) (hr:Room k X.A) (hg:Gl X x) (hm:X.mg x=some (.ref f)) (hk:PySem.W.keepIn X.K (.ref f)=true) (hb:Binds X.K fd ps ds) (hd:Vals dvs ds) (hx:Fd CX X E)
  (ha:PA X (e :: es) t) (hdb:(x==("__debug__" : Str))=false:=by decide) (he:starEach (e :: es) X.env=(false,eval e X.env) :: starEach es X.env:=by rfl) (hpl:(backTo pos (starEach es X.env)).any (·.1)=false:=by rfl) :
  PE X (.Call (.Name x p) (e :: es) [] pos) (Me sp dvs E t):=by
 intro pins s σ H Q I h
 refine wpAny_Call_Name_kw (G3 I hg hm ?_ hdb)
 refine PySem.W.callWith_K (h₀:=X.base) I.ok.mod.kin hk (thn (ha pos pins s σ H _ I h) fun us s1 ⟨vs,H1,I1,r,q⟩=>⟨I1.kIn,?_⟩) he hpl
 have r2:Vals (vs ++ dvs) (us ++ ds):=r.append hd
 have hl:(us ++ ds).length=ps.length:=r2.length ▸ F.len _ _ _ _ q
 refine wpAny_call (codeAny_mono (F.run X.A X.stack s1 H1 ⟨us,[]⟩ (us ++ ds) (vs ++ dvs) Q (E σ) hr I1.env0 (hb s1 us I1.kIn hl) r2 q) fun rr s' hq=>?_)
 rcases rr with ev | fl
 ·exact hx pins σ H1 s1 ev s' I1 hq
 ·cases fl with
  | ret u=>exact I1.after hq
  | next=>exact False.elim hq
  | brk=>exact False.elim hq
  | cont=>exact False.elim hq
end
noncomputable abbrev J6 (ifs:List Expr) (env:Env):Sem Bool:=forIn ifs true fun c r=>if r=true then do let ok <- isTrue c env (eval c env); pure (ForInStep.yield ok) else pure (ForInStep.yield r)
section
variable {prog:Program} {w:World} {A:Around} {R:Result->Shared->Prop} {s:Shared} {elt tg iter:Expr} {ifs:List Expr} {scope:Scope} {pos:Pos} {it acc:Value} {env:Env}
theorem Fe (I:Nat->Shared->Prop)
  (turn:∀ n s,I n s->wpAny (model prog w) A (pyNext it) (fun r s1=>match r with
   | none=>R (.ok .next) s1
   | some v=>wpAny (model prog w) A (letOwnedTupleGo tg it v) (fun _ s2=>wpAny (model prog w) A (assign tg env v) (fun _ s3=>wpAny (model prog w) A (J6 ifs env) (fun ok s4 =>
     if ok=true then wpAny (model prog w) A (eval elt env) (fun x s5=>wpAny (model prog w) A (call (.builtin "list.append") [acc,x]) (fun _ s6=>∃ m,m < n/\I m s6) (fun _ _=>False) s5) (fun _ _=>False) s4
     else ∃ m,m < n/\I m s4) (fun _ _=>False) s3) (fun _ _=>False) s2) (fun _ _=>False) s1) (fun _ _=>False) s) (n:Nat) (h:I n s) :
  codeAny (model prog w) A (.compLoop (.ListComp elt [⟨tg,iter,ifs,0⟩] scope pos) 0 it acc env) R s:=by
 refine codeAny_loop rfl I (fun k s' hk=>?_) n h
 show wpAny _ A ((compTurn (.ListComp elt [⟨tg,iter,ifs,0⟩] scope pos) 0 it acc env).onRaise (fun z=>do noteFrame z env; theTreesLotGoes z)) _ _ s'
 refine wpAny_noted ?_
 rw [compTurn_list]
 have no:∀ {Z:Value->Shared->Prop} (x:Value) (t:Shared),False->Z x t:=fun _ _ z=>z.elim
 refine wpAny_bind (wpAny_standAt ?_)
 refine wpAny_bind (wpAny_mono (turn k s' hk) (fun r s1 h1=>?_) no)
 rcases r with _ | v
 ·exact wpAny_pure h1
 ·refine wpAny_bind (wpAny_mono h1 (fun _ s2 h2=>?_) no)
  refine wpAny_bind (wpAny_mono h2 (fun _ s3 h3=>?_) no)
  refine wpAny_bind (wpAny_mono h3 (fun ok s4 h4=>?_) no)
  cases ok with
  | false=>exact wpAny_pure ⟨rfl,h4⟩
  | true =>
   refine wpAny_bind ?_
   refine wpAny_bind (wpAny_mono h4 (fun x s5 h5=>?_) no)
   exact wpAny_bind (wpAny_mono h5 (fun _ s6 h6=>wpAny_pure (wpAny_pure ⟨rfl,h6⟩)) no)
noncomputable def BS (env:Env) (names:List (Str × NameKind)) (cs:List (Str × Addr)):List (Str × Addr):=names.foldl (fun cs x=>if (x.2==NameKind.free)=true then (x.1,(env.cells.lookup x.1).getD 0) :: cs else cs) cs
theorem Gy {α β:Type} (f:α->β->Sem (ForInStep β)) (g:β->α->β):∀ (l:List α) (b:β),(∀ x ∈ l,∀ b,f x b=pure (ForInStep.yield (g b x)))->forIn l b f=pure (l.foldl g b)
 | [],b,_=>rfl
 | x :: l,b,h=>by
  rw [List.forIn_cons,h x (aac ..) b,abP]
  exact Gy f g l (g b x) fun y hy=>h y (aaa _ hy)
theorem Gz (h:∀ x ∈ scope.names,x.2=.free->(env.cells.lookup x.1).isSome=true):closureFor scope env=pure (BS env scope.names []):=by
 unfold closureFor BS
 dsimp only
 rw [Gy _ (fun cs x=>if (x.2==NameKind.free)=true then (x.1,(env.cells.lookup x.1).getD 0) :: cs else cs)]
 ·rfl
 ·rintro ⟨n,k⟩ hx cs
  by_cases hk:(k==NameKind.free)=true
  ·obtain ⟨c,hc⟩:=aat.mp (h (n,k) hx (beq_iff_eq.mp hk))
   have hc':List.lookup n env.cells=some c:=hc
   dsimp only
   rw [if_pos hk,if_pos hk]
   unfold cellOf
   rw [hc']
   rfl
  ·dsimp only
   rw [if_neg hk,if_neg hk]
theorem A4 (h:∀ x ∈ scope.names,x.2=.free->(env.cells.lookup x.1).isSome=true) {x:Str} {c:Addr} (e:(BS env scope.names []).lookup x=some c):env.cells.lookup x=some c:=by
 have gen:∀ (l:List (Str × NameKind)) (cs:List (Str × Addr)),(∀ y ∈ l,y.2=.free->(env.cells.lookup y.1).isSome=true)->(∀ p ∈ cs,env.cells.lookup p.1=some p.2)->∀ p ∈ BS env l cs,env.cells.lookup p.1=some p.2:=by
  intro l
  induction l with
  | nil=>intro cs _ hc; exact hc
  | cons y l ih =>
   intro cs hl hc
   unfold BS
   rw [abP]
   refine ih _ (fun z hz=>hl z (aaa _ hz)) fun p hp=>?_
   split at hp
   ·rename_i hk
    rcases aai.mp hp with rfl | hp
    ·obtain ⟨c',hc'⟩:=aat.mp (hl y (aac ..) (beq_iff_eq.mp hk))
     show env.cells.lookup y.1=some ((env.cells.lookup y.1).getD 0)
     rw [hc']; rfl
    ·exact hc p hp
   ·exact hc p hp
 exact gen scope.names [] h (fun p hp=>nomatch hp) (x,c) (PySem.mem_of_lookup e)
theorem DG {x:Str} {c:Addr} (hm:(x,NameKind.free) ∈ scope.names) (h:∀ x ∈ scope.names,x.2=.free->(env.cells.lookup x.1).isSome=true) (e:env.cells.lookup x=some c):(BS env scope.names []).lookup x=some c:=by
 have gen:∀ (l:List (Str × NameKind)) (cs:List (Str × Addr)),((x,NameKind.free) ∈ l\/∃ d,(x,d) ∈ cs)->∃ d,(x,d) ∈ BS env l cs:=by
  intro l
  induction l with
  | nil=>intro cs hc; rcases hc with z | z; cases z; exact z
  | cons y l ih =>
   intro cs hc
   unfold BS
   rw [abP]
   refine ih _ ?_
   rcases hc with hc | ⟨d,hc⟩
   ·rcases aai.mp hc with rfl | hc
    ·exact .inr ⟨_,by rw [if_pos (by rfl)]; exact aac ..⟩
    ·exact .inl hc
   ·refine .inr ⟨d,?_⟩
    split
    ·exact aaa _ hc
    ·exact hc
 obtain ⟨d,hd⟩:=gen scope.names [] (.inl hm)
 cases q:(BS env scope.names []).lookup x with
 | none =>
  rw [List.lookup_eq_none_iff] at q
  have:=q _ hd
  simp at this
 | some c'=>exact (A4 h q).symm.trans e ▸ rfl
end
structure Bk where
 (C:Addr)
 (fp:List Addr)
 (s:Shared)
 (H:Hp)
noncomputable abbrev Cx.blk (X:Cx) (scope:Scope) (C:Addr) (fp:List Addr) (N:List Str) (s:Shared) (H:Hp):Cx :=
 { X with N:=N,s₀:=s,H₀:=H,env:=compEnvC scope (BS X.env scope.names []) C X.env,outer:=X.stack,ex:=fp,fn:=fun _=>false,pn:=[],xe:=fun _ _=>False }
noncomputable def PTs (X:Cx) (ifs:List Expr) (t:TT):Prop :=
 ∀ (pins:List (Addr × Obj)) (s:Shared) (σ:St) (H:Hp) (Q:Bool->Hp->Prop),Inv X pins σ H s->t σ H Q->wpAny (model X.prog X.w) X.A (J6 ifs X.env) (TP X pins σ Q) X.xe s
noncomputable def Oj:TT:=fun _ H Q=>Q true H
theorem J7 {X:Cx}:PTs X [] Oj:=fun _ _ _ H _ I h=>wpAny_tests_nil ⟨H,I,h⟩
noncomputable def Be (nl:Nat) (fr:List Nat) (σ:St):St:=aam nl none ++ fr.map fun j=>(σ[j]?).join
noncomputable def GA (nl:Nat) (fr:List Nat) (wi:TI) (gz:Bk->TG) (tcz:Bk->TT) (tez:Bk->TE):TE:=fun σ H Q=>wi σ H fun J H1=>∀ (z:Bk) (D:Addr),H1 D=none->∃ W:Nat->Nat->List V->Hp->Prop,(∃ m,W 0 m [] (upd H1 D (.lst [])))/\∀ i m acc H2,W i m acc H2 ->
 H2 D=some (.lst acc)/\((J.stop i H2/\Q (.ref D) H2)\/(J.go i H2/\∀ x H3,J.yld i H2 x H3->gz z x (Be nl fr σ) H3 fun σ4 H4=>tcz z σ4 H4 fun b H5 =>
  if b=true then tez z σ4 H5 fun v H6=>H6 D=some (.lst acc)/\acc.length < sizeLine/\∃ m',m' < m/\W (i + 1) m' (acc ++ [v]) (upd H6 D (.lst (acc ++ [v]))) else ∃ m',m' < m/\W (i + 1) m' acc H5))
theorem OP {X:Cx} {elt tg iter:Expr} {ifs:List Expr} {scope:Scope} {pos:Pos} {wi:TI} {gz:Bk->TG} {tcz:Bk->TT} {tez:Bk->TE} (loc:List Str) (fr:List Nat) (frn:List Str) (hc:X.calm=true) (hi:PI X tg iter wi)
  (hfr:∀ (j:Nat) (k:Nat) (x:Str),fr[j]?=some k->frn[j]?=some x->X.N[k]?=some x/\X.env.kindOf x=some .cell/\(x,NameKind.free) ∈ scope.names) (hln:frn.length=fr.length)
  (hcell:∀ y ∈ scope.names,y.2 ≠ .cell) (hkind:scope.kind=.function) (hnames:∀ y ∈ scope.names,y.2=.local->scope.names.lookup y.1=some .local) (hfree:∀ y ∈ scope.names,y.2=.free->X.env.kindOf y.1=some .cell)
  (hkin:∀ (x:Str),x ∈ frn->(relabel scope X.env).names.lookup x=some .cell) (hsc:X.env.scope.kind=.function)
  (hgk:∀ (z:Bk) (v:V) (σ:St) (H:Hp) (Q:St->Hp->Prop),gz z v σ H Q->gz z v σ H fun σ' H'=>Q σ' H'/\σ'.length=σ.length/\∀ i,loc.length<=i->σ'[i]?=σ[i]?)
  (hblk:∀ (z:Bk),PG (X.blk scope z.C z.fp (loc ++ frn) z.s z.H) tg (gz z)/\PTs (X.blk scope z.C z.fp (loc ++ frn) z.s z.H) ifs (tcz z)/\PE (X.blk scope z.C z.fp (loc ++ frn) z.s z.H) elt (tez z))
  (hs:∀ x,foldedSetIterable iter X.env x=pure x:=by intro _; rfl):PE X (.ListComp elt [⟨tg,iter,ifs,0⟩] scope pos) (GA loc.length fr wi gz tcz tez):=by
 intro pins s σ H Q I h
 have hcs:∀ x ∈ scope.names,x.2=.free->(X.env.cells.lookup x.1).isSome=true:=fun x hx hf=>by
  obtain ⟨c,e⟩:=I.ok.has x.1 (.inl (hfree x hx hf))
  rw [e]; rfl
 rw [eval_ListComp]
 refine wpAny_comprehension_free (use:=none) rfl hs (Gz hcs) hkind hnames (thn (hi pins s σ H _ I h) fun v s1 h1=>thn h1 fun itv s2 h2=>?_)
 obtain ⟨it,fp,tn,J,H2,rfl,I2,T,st2,f2,q2⟩:=h2
 refine wpAny_newList (items:=[]) ?_ (by simp)
 have eD:H2 s2.heap.objs.size=none:=I2.hok.fresh (aag _)
 have pk:∀ (o:Obj) b u,s2.heap.get? b=some u->(s2.heap.push o).get? b=some u:=fun o b u e=>Heap.get?_push_of_some _ e
 have I3:=I2.laid (a:=s2.heap.objs.size) (o:=.lst []) (t':=s2.toks) (h':=s2.heap.push { cls:=.type "list",data:=.seq ([]:List Value).toArray }) (pk _) (aag _)
  ⟨aar _,[],0,.nil,Heap.get?_push_size _ rfl⟩
 generalize hs3:(⟨s2.heap.push { cls:=.type "list",data:=.seq ([]:List Value).toArray },s2.gens,s2.drawn,s2.toks,s2.os⟩:Shared)=s3 at I3 ⊢
 have k3:∀ b u,s2.heap.get? b=some u->s3.heap.get? b=some u:=fun b u e=>by rw [<- hs3]; exact pk _ b u e
 have tk3:s3.os=s2.os/\s3.gens=s2.gens:=by rw [<- hs3]; exact ⟨rfl,rfl⟩
 have z3:s3.heap.objs.size=s2.heap.objs.size + 1:=by rw [<- hs3]; exact Heap.size_push ..
 refine wpAny_newFunctionEnv hcell (by intro y hy; simp at hy) (fun h4 hns hsb=>?_) hkind
 have k4:∀ b u,s3.heap.get? b=some u->h4.get? b=some u:=fun b u e=>hsb.extBut b u (aaE (Heap.lt_size e)) (Heap.get?_push_of_some _ e)
 have fpl:∀ b ∈ fp,b < s2.heap.objs.size:=fun b hb=>by
  obtain ⟨o,e,_⟩:=T.obj 0 _ st2 b hb
  exact Heap.lt_size e
 obtain ⟨W,⟨m0,w0⟩,turn⟩:=q2 ⟨s3.heap.objs.size,fp,s3,upd H2 s2.heap.objs.size (.lst [])⟩ _ eD
 have ok4:(X.blk scope s3.heap.objs.size fp (loc ++ frn) s3 (upd H2 s2.heap.objs.size (.lst []))).Ok:=by
  refine ⟨I.ok.mod,hkind,I.ok.glob,I.ok.blt,aag _,fun x y c e1 e2=>I.ok.inj x y c (A4 hcs e1) (A4 hcs e2),fun x hx=>?_,fun x c z=>(nomatch z),I.ok.hd,I.ok.frames,.inl rfl,fun b hb=>⟨?_,fun x c e=>(f2 b hb).2.2.2.2.1 x c (A4 hcs e)⟩,I3.bs,aaD I.ok.bsz I3.sz,
   fun b o e hb=>?_,fun b hb z=>?_,I3.stack,I3.stkFree⟩
  ·have hm:(x,NameKind.free) ∈ scope.names:=by
    have:∃ k',(k'=NameKind.cell\/k'=NameKind.free)/\(relabel scope X.env).names.lookup x=some k':=by
     rcases hx with z | z
     ·exact ⟨_,.inl rfl,z⟩
     ·exact ⟨_,.inr rfl,z⟩
    obtain ⟨k',hk',z⟩:=this
    have zm:=PySem.mem_of_lookup z
    unfold relabel at zm
    obtain ⟨⟨n,k⟩,hn,e⟩:=aaA.mp zm
    dsimp only at e
    split at e
    ·rename_i hk
     cases e
     have:k=NameKind.free:=by
      cases k <;> first | rfl | (simp at hk)
     rw [<- this]; exact hn
    ·cases e
     rcases hk' with rfl | rfl
     ·exact absurd rfl (hcell _ hn)
     ·exact hn
   obtain ⟨c,e⟩:=I.ok.has x (.inl (hfree _ hm rfl))
   exact ⟨c,DG hm hcs e⟩
  ·have:=fpl b hb
   exact aaE (by rw [z3]; exact Nat.lt_succ_of_lt this)
  ·rcases (f2 b hb).2.2.2.1 with z | z
   ·exact I.ok.noex b o e z
   ·exact absurd (aas (Heap.lt_size (I.ok.bs b o e).1) z) (aaP _)
  ·have:=I2.stkSub b z
   rcases aai.mp this with rfl | y
   ·exact (f2 _ hb).2.1 rfl
   ·exact (f2 b hb).2.2.1 y
 have I4:Inv (X.blk scope s3.heap.objs.size fp (loc ++ frn) s3 (upd H2 s2.heap.objs.size (.lst []))) [] (Be loc.length fr σ) (upd H2 s2.heap.objs.size (.lst [])) { s3 with heap:=h4,toks:=s3.toks + ([]:List (Str × Value)).length }:=by
  refine ⟨ok4,rfl,I3.bare,Un.kept k4,⟨_,hns,fun i x v e1 e2 e3=>?_⟩,fun x c e=>?_,I3.hok.fresh (aag _),fun x c e=>I3.freeC x c (A4 hcs e),fun p hp=>(nomatch hp),I3.hok.kept k4,?_⟩
  ·unfold Be at e2
   by_cases hi:i < loc.length
   ·rw [aaL (by simpa using hi),aaO] at e2
    split at e2 <;> cases e2
   ·rw [aay (by simpa using hi),aa1,aan] at e2
    have e1':frn[i - loc.length]?=some x:=by
     have:(loc ++ frn)[i]?=some x:=e1
     rw [aay (aba hi)] at this
     exact this
    cases ek:fr[i - loc.length]? with
    | none=>rw [ek] at e2; cases e2
    | some k =>
     rw [ek] at e2
     have e2':(σ[k]?).join=some v:=Option.some.inj e2
     have e2'':σ[k]?=some (some v):=by
      cases q:σ[k]? with
      | none=>rw [q] at e2'; cases e2'
      | some y=>rw [q] at e2'; exact congrArg some e2'
     obtain ⟨n1,n2,n3⟩:=hfr _ k x ek e1'
     obtain ⟨m,_,hl⟩:=I3.loc
     obtain ⟨u,ru,lk⟩:=hl k x v n1 e2'' (.inr (.inl n2))
     refine ⟨u,ru,.inr ⟨.inl (hkin x (aae e1')),?_⟩⟩
     rcases lk with ⟨z,_⟩ | ⟨_,c,ec,ic⟩
     ·rw [n2] at z; cases z
     ·obtain ⟨o,ho,hd⟩:=ic
      exact ⟨c,DG n3 hcs ec,o,k4 _ _ ho,hd⟩
  ·obtain ⟨v,o,ho,hd⟩:=I3.cell x c (A4 hcs e)
   exact ⟨v,o,k4 _ _ ho,hd⟩
  ·unfold Be
   show _=(loc ++ frn).length
   rw [aav,aav,aa1,aab,hln]
 have stat:∀ {H':Hp},(∀ b ∈ fp,H' b=none)->∀ b ∈ fp,El (X.blk scope s3.heap.objs.size fp (loc ++ frn) s3 (upd H2 s2.heap.objs.size (.lst []))) [] H' b:=fun hn b hb =>
  ⟨hn b hb,(ok4.exf b hb).1,ok4.exfs b hb,.inl hb,(ok4.exf b hb).2,fun p hp=>(nomatch hp)⟩
 have fp3:∀ b ∈ fp,(upd H2 s2.heap.objs.size (.lst [])) b=none:=fun b hb=>by
  rw [Ar (aaE (fpl b hb))]; exact (f2 b hb).1
 obtain ⟨pg,pt,pe⟩:=hblk ⟨s3.heap.objs.size,fp,s3,upd H2 s2.heap.objs.size (.lst [])⟩
 have st4:tn 0 h4:=T.keep 0 _ _ st2 fun b _ o e=>k4 b o (k3 b o e)
 have after:∀ {i:Nat} {H':Hp} {s':Shared} {acc:List V} {σ':St},Inv (X.blk scope s3.heap.objs.size fp (loc ++ frn) s3 (upd H2 s2.heap.objs.size (.lst []))) [] σ' H' s'->Q (.ref s2.heap.objs.size) H' ->
   compPost (model X.prog X.w) X.A X.xe none (EP X pins σ Q) (.ref s2.heap.objs.size) s3.heap.objs.size (.ok .next) s':=by
  intro i H' s' acc σ' I5 q
  obtain ⟨m,hn,_⟩:=I5.loc
  refine ⟨m,hn,fun h' hb=>?_⟩
  have same:∀ b o,s3.heap.get? b=some o->h'.get? b=s'.heap.get? b:=fun b o e=>hb.2 b (aaE (Heap.lt_size e))
  have u:=I5.base
  have un:Un (frs X.stack) fp (upd H2 s2.heap.objs.size (.lst [])) H' s3.heap h':=⟨fun b o e n h1 h2=>(same b o e).trans (u.keep b o e n h1 h2),fun b o e n h1 h2=>by
    obtain ⟨sl,z⟩:=u.slot b o e n h1 h2
    exact ⟨sl,(same b o e).trans z⟩,u.free,fun b o e h1=>by
    obtain ⟨o',z⟩:=u.there b o e h1
    exact ⟨o',(same b o e).trans z⟩,u.tups,u.frzs,u.tbls⟩
  have hok:HOk X.prog X.w H' h':=fun b o e=>by
   have fC:H' s3.heap.objs.size=none:=I5.free
   refine (I5.hok b o e).stay (fun c w' hc z=>(hb.2 c ?_).trans z) (fun _ z=>z) fun _ _ z=>z
   rintro rfl
   rcases hc with rfl | hc
   ·rw [fC] at e; cases e
   ·rw [fC] at hc; cases hc
  exact ⟨.ref s2.heap.objs.size,H',I3.call' (s':={ s' with heap:=h' }) (ch:=fp) I5.os un hok I5.bare (fun b hb=>⟨(f2 b hb).2.2.2.1,(f2 b hb).2.1,(f2 b hb).2.2.2.2.1,(f2 b hb).2.2.2.2.2⟩),rfl,q⟩
 have loop:∀ s5:Shared,s5={ s3 with heap:=h4,toks:=s3.toks + ([]:List (Str × Value)).length } ->
   codeAny (model X.prog X.w) X.A (.compLoop (.ListComp elt [⟨tg,iter,ifs,0⟩] scope pos) 0 (.ref it) (.ref s2.heap.objs.size) (compEnvC scope (BS X.env scope.names []) s3.heap.objs.size X.env))
    (compPost (model X.prog X.w) X.A X.xe none (EP X pins σ Q) (.ref s2.heap.objs.size) s3.heap.objs.size) s5:=by
  rintro s5 rfl
  refine Fe (fun n s'=>∃ i acc H',Inv (X.blk scope s3.heap.objs.size fp (loc ++ frn) s3 (upd H2 s2.heap.objs.size (.lst []))) [] (Be loc.length fr σ) H' s'/\tn i s'.heap/\(∀ b ∈ fp,H' b=none)/\W i n acc H') ?_ m0
   ⟨0,[],_,I4,st4,fp3,w0⟩
  rintro n s6 ⟨i,acc,H6,I6,st6,fr6,w6⟩
  obtain ⟨hD,alt⟩:=turn i n acc H6 w6
  rcases alt with ⟨stop,q⟩ | ⟨go,step⟩
  ·refine thn (T.done (X.blk scope s3.heap.objs.size fp (loc ++ frn) s3 (upd H2 s2.heap.objs.size (.lst []))) rfl rfl rfl hc i [] s6 _ H6 (fun _ _=>False) I6 (stat fr6) st6 stop) fun r s7 ⟨hr,I7⟩=>?_
   subst hr
   exact after (i:=i) (acc:=acc) I7 q
  ·refine thn (T.item (X.blk scope s3.heap.objs.size fp (loc ++ frn) s3 (upd H2 s2.heap.objs.size (.lst []))) rfl rfl rfl hc i [] s6 _ H6 (fun _ _=>False) I6 (stat fr6) st6 go) fun r s7 ⟨u,hr,h7⟩=>?_
   subst hr
   refine thn h7 fun _ s8 ⟨x,H8,I8,r8,y8,st8,fr8⟩=>?_
   have I8':=I8.pinned (stat fr8) (T.obj _ _ st8)
   have back:∀ {σ9:St} {H9:Hp} {s9:Shared},Inv (X.blk scope s3.heap.objs.size fp (loc ++ frn) s3 (upd H2 s2.heap.objs.size (.lst []))) ([] ++ Ev fp s8.heap) σ9 H9 s9->σ9.length=(Be loc.length fr σ).length->(∀ i,loc.length<=i->σ9[i]?=(Be loc.length fr σ)[i]?) ->
     Inv (X.blk scope s3.heap.objs.size fp (loc ++ frn) s3 (upd H2 s2.heap.objs.size (.lst []))) [] (Be loc.length fr σ) H9 s9/\tn (i + 1) s9.heap/\(∀ b ∈ fp,H9 b=none):=by
    intro σ9 H9 s9 I9 hl hk
    refine ⟨(I9.unpinned).weak hl.symm fun j v ej=>?_,T.keep _ _ _ st8 fun b hb o e=>(I9.pin (b,o) (aak _ (aak _ (Ch hb e)))).1,fun b hb=>?_⟩
    ·by_cases hj:j < loc.length
     ·unfold Be at ej
      rw [aaL (by simpa using hj),aaO] at ej
      split at ej <;> cases ej
     ·rw [hk j (aba hj)]; exact ej
    ·obtain ⟨o,e,d⟩:=T.obj _ _ st8 b hb
     exact (I9.pin (b,o) (aak _ (aak _ (Ch hb e)))).2.1
   refine thn (pg _ s8 _ H8 x u _ I8' r8 (hgk _ _ _ _ _ (step x H8 y8))) fun _ s9 ⟨σ9,H9,I9,q9,l9,k9⟩=>?_
   refine thn (pt _ s9 σ9 H9 _ I9 q9) fun ok s10 ⟨H10,I10,q10⟩=>?_
   cases ok with
   | false =>
    rw [if_neg (by decide)] at q10 ⊢
    obtain ⟨m',hm,w'⟩:=q10
    obtain ⟨b1,b2,b3⟩:=back I10 l9 k9
    exact ⟨m',hm,i + 1,acc,H10,b1,b2,b3,w'⟩
   | true =>
    rw [if_pos rfl] at q10 ⊢
    refine thn (pe _ s10 σ9 H10 _ I10 q10) fun y s11 ⟨v,H11,I11,r11,hD11,hz,m',hm,w'⟩=>?_
    refine thn (Ea _ s11 σ9 H11 (.ref s2.heap.objs.size) [v] (.ref s2.heap.objs.size) [y] (fun _ H12=>W (i + 1) m' (acc ++ [v]) H12) I11 rfl (.cons r11 .nil) ⟨_,acc,v,rfl,rfl,hD11,hz,w'⟩) fun _ s12 ⟨_,H12,I12,_,w12⟩=>?_
    obtain ⟨b1,b2,b3⟩:=back I12 l9 k9
    exact ⟨m',hm,i + 1,_,H12,b1,b2,b3,w12⟩
 exact codeAny_compStart_list (loop _ rfl) (T.self X.A 0 _ _ _ st4 (loop _ rfl))
mutual
inductive RD (K:Frag) (H:Hp):V->PyData->Prop where
 | non:RD K H .non .none
 | bl (b:Bool):RD K H (.bl b) (.bool b)
 | int (i:Int):RD K H (.int i) (.int i)
 | str (x:Str):RD K H (.str x) (.str x)
 | lst {a:Addr} {xs:List V} {ds:List PyData} (h:SqL K H a xs) (r:RDs K H xs ds):RD K H (.ref a) (.list ds)
 | tup {a:Addr} {xs:List V} {ds:List PyData} (h:SqT K H a xs) (r:RDs K H xs ds):RD K H (.ref a) (.tuple ds)
inductive RDs (K:Frag) (H:Hp):List V->List PyData->Prop where
 | nil:RDs K H [] []
 | cons {x:V} {xs:List V} {d:PyData} {ds:List PyData} (h:RD K H x d) (r:RDs K H xs ds):RDs K H (x :: xs) (d :: ds)
end
section
variable {X:Cx} {pins:List (Addr × Obj)} {σ:St} {H:Hp} {s:Shared}
mutual
theorem RD.reads (I:Inv X pins σ H s):∀ {v:V} {d:PyData} {u:Value},RD X.K H v d->RelV v u->∃ as,Reads s.heap u d as
 | _,_,_,.non,r=>by cases (show _=Value.none from r); exact ⟨_,.none⟩
 | _,_,_,.bl b,r=>by cases (show _=Value.bool b from r); exact ⟨_,.bool b⟩
 | _,_,_,.int i,r=>by obtain ⟨t,q⟩:=(show ∃ t,_=Value.int i t from r); cases q; exact ⟨_,.int i t⟩
 | _,_,_,.str x,r=>by obtain ⟨t,q⟩:=(show ∃ t,_=Value.str x t from r); cases q; exact ⟨_,.str x t⟩
 | _,_,_,.lst (a:=a) h rs,r=>by
  cases (show _=Value.ref a from r)
  obtain ⟨its,rv,⟨o,n,hp,hc,_,hd⟩,_⟩:=I.list h
  obtain ⟨as,ra⟩:=RDs.reads I rs rv
  exact ⟨_,reads_list_at hp hc hd (by simpa using ra)⟩
 | _,_,_,.tup (a:=a) h rs,r=>by
  cases (show _=Value.ref a from r)
  obtain ⟨its,rv,⟨o,h1,h2,n,h3⟩,_⟩:=I.tuple h
  obtain ⟨as,ra⟩:=RDs.reads I rs rv
  exact ⟨_,reads_tuple_at h1 h2 h3 (by simpa using ra)⟩
theorem RDs.reads (I:Inv X pins σ H s):∀ {xs:List V} {ds:List PyData} {us:List Value},RDs X.K H xs ds->Vals xs us->∃ as,ReadsAll s.heap us ds as
 | _,_,_,.nil,.nil=>⟨_,.nil⟩
 | _,_,_,.cons h r,.cons q t=>by
  obtain ⟨as,e1⟩:=RD.reads I h q
  obtain ⟨bs,e2⟩:=RDs.reads I r t
  exact ⟨_,.cons e1 e2⟩
end
noncomputable def QQ (K:Frag) (neg:Bool):R2:=fun x y H Q=>∃ d e,RD K H x d/\RD K H y e/\SeqAt.shaped d=true/\SeqAt.shaped e=true/\Q (.bl (if neg then !d.eqv e else d.eqv e)) H
theorem QR (hu:X.A.units + 64 < cLine):OpR X (compareOp .Eq) (QQ X.K false):=by
 intro pins s σ H x y u w' Q I rx ry h
 obtain ⟨d,e,h1,h2,s1,s2,q⟩:=h
 obtain ⟨_,r1⟩:=h1.reads I rx
 obtain ⟨_,r2⟩:=h2.reads I ry
 exact eq_dataH r1 r2 s1 s2 hu ⟨.bl (d.eqv e),H,I,rfl,q⟩
theorem QS (hu:X.A.units + 64 < cLine):OpR X (compareOp .NotEq) (QQ X.K true):=by
 intro pins s σ H x y u w' Q I rx ry h
 obtain ⟨d,e,h1,h2,s1,s2,q⟩:=h
 obtain ⟨_,r1⟩:=h1.reads I rx
 obtain ⟨_,r2⟩:=h2.reads I ry
 exact ne_dataH r1 r2 s1 s2 hu ⟨.bl (!d.eqv e),H,I,rfl,q⟩
end
section
variable {P:Program} {w:World} {K:Frag} {mg:Str->Option Value} {base:Heap}
theorem Fun.okX {x qual:Str} {st:Stmt} {f:Addr} {fd:FuncData} {N ps:List Str} {k:Nat} {sp:Sp} (F:Fun K x qual st f fd) (S:FnScope N ps (An st)) (len:∀ vs H Q E,sp vs H Q E->vs.length=ps.length)
  (hbody:∀ (f:Addr) (cdv:Value) (A:Around) (outer:List Env) (s:Shared) (H:Hp) (vs:List V) (Q:VK) (E:XK),Room k (A.deeper (envOfC qual (An st) s.heap.objs.size f cdv))->sp vs H Q E ->
   ∃ t,PSs (BL (CXe P w) P w K mg base N qual (An st) f cdv A outer s H E) (AR st) t/\t { nx:=fun _ H'=>Q .non H',rt:=Q } (AL N vs) H):FnOk P w K mg base (CXe P w) (k + 1) f fd ps sp:=by
 obtain ⟨oc,od,kV,doc,pm,an,cdv,ct,osl,rfl,lk,hcd⟩:=F.ex
 exact Se lk hcd S len fun A outer s H vs Q E hr hsp=>hbody f cdv A outer s H vs Q E hr hsp
noncomputable def Df (K:Frag) (mg:Str->Option Value) (x:Str) (st:Stmt) (ps:List Str):Prop:=∃ f fd,Fun K x x st f fd/\mg x=some (.ref f)/\Binds K fd ps []
noncomputable def Has (P:Program) (w:World) (K:Frag) (mg:Str->Option Value) (base:Heap) (x:Str) (k:Nat) (ps:List Str) (sp:Sp):Prop :=
 ∃ f fd,FnOk P w K mg base (CXe P w) k f fd ps sp/\mg x=some (.ref f)/\PySem.W.keepIn K (.ref f)=true/\Binds K fd ps []
theorem Sj {h:Heap} {x:Str} {st:Stmt} {ps:List Str} {f:Addr} {oc:Value} {od an:Option Addr} {osl:Array (Option Value)} {kV doc pm cdv ct:Value} (X:K.In h) (G:h.Ns mainGlobals mg) (a:nsIn K mainGlobals x=some (some (.ref f)))
  (l:K.lookup f=some ⟨oc,od,.func (PySem.W.fnOf x x (BY st) (AR st) (An st) .none kV doc pm an cdv ct),osl⟩) (c:PySem.W.codeIn K cdv x=true) (k:PySem.W.keepIn K (.ref f)=true)
  (hb:∀ (kV doc pm:Value) (an:Option Addr) (cdv ct:Value) (us:List Value),us.length=ps.length->bindArgs (PySem.W.fnOf x x (BY st) (AR st) (An st) .none kV doc pm an cdv ct) ⟨us,[]⟩=pure (ps.zip us)):Df K mg x st ps:=by
 have F:=Mc (st:=st) l c k
 exact ⟨f,_,F,mg_of X G a,F.binds hb⟩
end
section
variable {X:Cx} {k:Nat} {ps:List Str} {sp:Sp} {E:XK} {EX:EXT} {x:Str} {p pos:Pos} {e:Expr} {es:List Expr} {t:TA}
theorem Ol (F:Has X.prog X.w X.K X.mg X.base x k ps sp) (hr:Room k X.A) (hg:Gl X x) (hx:Fd (CXe X.prog X.w) X EX) (ha:PA X (e :: es) t) (hdb:(x==("__debug__" : Str))=false:=by decide)
  (he:starEach (e :: es) X.env=(false,eval e X.env) :: starEach es X.env:=by rfl) (hpl:(backTo pos (starEach es X.env)).any (·.1)=false:=by rfl):PE X (.Call (.Name x p) (e :: es) [] pos) (Me sp [] EX t):=by
 obtain ⟨f,fd,F,m,kp,b⟩:=F
 exact Nu F hr hg m kp b .nil hx ha hdb he hpl
end
theorem Same.new {H:Hp} {p:Addr} {o:HO} (h:H p=none):Same H (upd H p o):=fun b u e=>by rw [Ar (AN e h)]; exact e
theorem Same.tup {K:Frag} {H H':Hp} {a:Addr} {xs:List V} (e:Same H H') (h:SqT K H a xs):SqT K H' a xs:=by
 rcases h with (h | ⟨o,h⟩) | h
 ·exact .inl (.inl (e _ _ h))
 ·exact .inl (.inr ⟨o,e _ _ h⟩)
 ·exact .inr h
mutual
theorem Same.rd {K:Frag} {H H':Hp} (e:Same H H'):∀ {x:V} {d:PyData},RD K H x d->RD K H' x d
 | _,_,.non=>.non
 | _,_,.bl b=>.bl b
 | _,_,.int i=>.int i
 | _,_,.str x=>.str x
 | _,_,.lst h r=>.lst (e.seq h) (Same.rds e r)
 | _,_,.tup h r=>.tup (e.tup h) (Same.rds e r)
theorem Same.rds {K:Frag} {H H':Hp} (e:Same H H'):∀ {xs:List V} {ds:List PyData},RDs K H xs ds->RDs K H' xs ds
 | _,_,.nil=>.nil
 | _,_,.cons h r=>.cons (Same.rd e h) (Same.rds e r)
end
theorem Nv {X:Cx} {use:Option (Value->Sem Unit)} {R:Value->Shared->Prop} {ipos:Pos} {pins:List (Addr × Obj)} {s:Shared} {σ:St} {H:Hp} {Q:VK} {elt tg iter:Expr} {ifs:List Expr} {scope:Scope} {pos:Pos} {wi:TI} {gz:Bk->TG} {tcz:Bk->TT} {tez:Bk->TE} (loc:List Str) (fr:List Nat) (frn:List Str) (hc:X.calm=true) (hi:PI X tg iter wi)
  (hfr:∀ (j:Nat) (k:Nat) (x:Str),fr[j]?=some k->frn[j]?=some x->X.N[k]?=some x/\X.env.kindOf x=some .cell/\(x,NameKind.free) ∈ scope.names) (hln:frn.length=fr.length)
  (hcell:∀ y ∈ scope.names,y.2 ≠ .cell) (hkind:scope.kind=.function) (hnames:∀ y ∈ scope.names,y.2=.local->scope.names.lookup y.1=some .local) (hfree:∀ y ∈ scope.names,y.2=.free->X.env.kindOf y.1=some .cell)
  (hkin:∀ (x:Str),x ∈ frn->(relabel scope X.env).names.lookup x=some .cell) (hsc:X.env.scope.kind=.function)
  (hgk:∀ (z:Bk) (v:V) (σ:St) (H:Hp) (Q:St->Hp->Prop),gz z v σ H Q->gz z v σ H fun σ' H'=>Q σ' H'/\σ'.length=σ.length/\∀ i,loc.length<=i->σ'[i]?=σ[i]?)
  (hblk:∀ (z:Bk),PG (X.blk scope z.C z.fp (loc ++ frn) z.s z.H) tg (gz z)/\PTs (X.blk scope z.C z.fp (loc ++ frn) z.s z.H) ifs (tcz z)/\PE (X.blk scope z.C z.fp (loc ++ frn) z.s z.H) elt (tez z))
  (I:Inv X pins σ H s) (h:GA loc.length fr wi gz tcz tez σ H Q)
  (haf:∀ (D C:Addr) (H':Hp) (s':Shared) (m:Str->Option Value),s'.heap.Ns C m->(∀ h',Heap.SameBut C s'.heap h'->Inv X pins σ H' { s' with heap:=h' }) ->
   (X.s₀.heap.objs.size<=C/\C ≠ X.env.locals/\(∀ x c,X.env.cells.lookup x=some c->c ≠ C)/\(∀ p ∈ X.pn ++ pins,p.1 ≠ C)/\H' C=none/\C ∉ frs X.stack)->Q (.ref D) H'->compPost (model X.prog X.w) X.A X.xe use R (.ref D) C (.ok .next) s')
  (hs:∀ x,foldedSetIterable iter X.env x=pure x):wpAny (model X.prog X.w) X.A (comprehension (.ListComp elt [⟨tg,iter,ifs,0⟩] scope pos) scope X.env ipos (newList []) false (eval iter X.env) use) R X.xe s:=by
 have hcs:∀ x ∈ scope.names,x.2=.free->(X.env.cells.lookup x.1).isSome=true:=fun x hx hf=>by
  obtain ⟨c,e⟩:=I.ok.has x.1 (.inl (hfree x hx hf))
  rw [e]; rfl
 refine wpAny_comprehension_free rfl hs (Gz hcs) hkind hnames (thn (hi pins s σ H _ I h) fun v s1 h1=>thn h1 fun itv s2 h2=>?_)
 obtain ⟨it,fp,tn,J,H2,rfl,I2,T,st2,f2,q2⟩:=h2
 refine wpAny_newList (items:=[]) ?_ (by simp)
 have eD:H2 s2.heap.objs.size=none:=I2.hok.fresh (aag _)
 have pk:∀ (o:Obj) b u,s2.heap.get? b=some u->(s2.heap.push o).get? b=some u:=fun o b u e=>Heap.get?_push_of_some _ e
 have I3:=I2.laid (a:=s2.heap.objs.size) (o:=.lst []) (t':=s2.toks) (h':=s2.heap.push { cls:=.type "list",data:=.seq ([]:List Value).toArray }) (pk _) (aag _)
  ⟨aar _,[],0,.nil,Heap.get?_push_size _ rfl⟩
 generalize hs3:(⟨s2.heap.push { cls:=.type "list",data:=.seq ([]:List Value).toArray },s2.gens,s2.drawn,s2.toks,s2.os⟩:Shared)=s3 at I3 ⊢
 have k3:∀ b u,s2.heap.get? b=some u->s3.heap.get? b=some u:=fun b u e=>by rw [<- hs3]; exact pk _ b u e
 have tk3:s3.os=s2.os/\s3.gens=s2.gens:=by rw [<- hs3]; exact ⟨rfl,rfl⟩
 have z3:s3.heap.objs.size=s2.heap.objs.size + 1:=by rw [<- hs3]; exact Heap.size_push ..
 refine wpAny_newFunctionEnv hcell (by intro y hy; simp at hy) (fun h4 hns hsb=>?_) hkind
 have k4:∀ b u,s3.heap.get? b=some u->h4.get? b=some u:=fun b u e=>hsb.extBut b u (aaE (Heap.lt_size e)) (Heap.get?_push_of_some _ e)
 have fpl:∀ b ∈ fp,b < s2.heap.objs.size:=fun b hb=>by
  obtain ⟨o,e,_⟩:=T.obj 0 _ st2 b hb
  exact Heap.lt_size e
 obtain ⟨W,⟨m0,w0⟩,turn⟩:=q2 ⟨s3.heap.objs.size,fp,s3,upd H2 s2.heap.objs.size (.lst [])⟩ _ eD
 have ok4:(X.blk scope s3.heap.objs.size fp (loc ++ frn) s3 (upd H2 s2.heap.objs.size (.lst []))).Ok:=by
  refine ⟨I.ok.mod,hkind,I.ok.glob,I.ok.blt,aag _,fun x y c e1 e2=>I.ok.inj x y c (A4 hcs e1) (A4 hcs e2),fun x hx=>?_,fun x c z=>(nomatch z),I.ok.hd,I.ok.frames,.inl rfl,fun b hb=>⟨?_,fun x c e=>(f2 b hb).2.2.2.2.1 x c (A4 hcs e)⟩,I3.bs,aaD I.ok.bsz I3.sz,
   fun b o e hb=>?_,fun b hb z=>?_,I3.stack,I3.stkFree⟩
  ·have hm:(x,NameKind.free) ∈ scope.names:=by
    have:∃ k',(k'=NameKind.cell\/k'=NameKind.free)/\(relabel scope X.env).names.lookup x=some k':=by
     rcases hx with z | z
     ·exact ⟨_,.inl rfl,z⟩
     ·exact ⟨_,.inr rfl,z⟩
    obtain ⟨k',hk',z⟩:=this
    have zm:=PySem.mem_of_lookup z
    unfold relabel at zm
    obtain ⟨⟨n,k⟩,hn,e⟩:=aaA.mp zm
    dsimp only at e
    split at e
    ·rename_i hk
     cases e
     have:k=NameKind.free:=by
      cases k <;> first | rfl | (simp at hk)
     rw [<- this]; exact hn
    ·cases e
     rcases hk' with rfl | rfl
     ·exact absurd rfl (hcell _ hn)
     ·exact hn
   obtain ⟨c,e⟩:=I.ok.has x (.inl (hfree _ hm rfl))
   exact ⟨c,DG hm hcs e⟩
  ·have:=fpl b hb
   exact aaE (by rw [z3]; exact Nat.lt_succ_of_lt this)
  ·rcases (f2 b hb).2.2.2.1 with z | z
   ·exact I.ok.noex b o e z
   ·exact absurd (aas (Heap.lt_size (I.ok.bs b o e).1) z) (aaP _)
  ·have:=I2.stkSub b z
   rcases aai.mp this with rfl | y
   ·exact (f2 _ hb).2.1 rfl
   ·exact (f2 b hb).2.2.1 y
 have I4:Inv (X.blk scope s3.heap.objs.size fp (loc ++ frn) s3 (upd H2 s2.heap.objs.size (.lst []))) [] (Be loc.length fr σ) (upd H2 s2.heap.objs.size (.lst [])) { s3 with heap:=h4,toks:=s3.toks + ([]:List (Str × Value)).length }:=by
  refine ⟨ok4,rfl,I3.bare,Un.kept k4,⟨_,hns,fun i x v e1 e2 e3=>?_⟩,fun x c e=>?_,I3.hok.fresh (aag _),fun x c e=>I3.freeC x c (A4 hcs e),fun p hp=>(nomatch hp),I3.hok.kept k4,?_⟩
  ·unfold Be at e2
   by_cases hi:i < loc.length
   ·rw [aaL (by simpa using hi),aaO] at e2
    split at e2 <;> cases e2
   ·rw [aay (by simpa using hi),aa1,aan] at e2
    have e1':frn[i - loc.length]?=some x:=by
     have:(loc ++ frn)[i]?=some x:=e1
     rw [aay (aba hi)] at this
     exact this
    cases ek:fr[i - loc.length]? with
    | none=>rw [ek] at e2; cases e2
    | some k =>
     rw [ek] at e2
     have e2':(σ[k]?).join=some v:=Option.some.inj e2
     have e2'':σ[k]?=some (some v):=by
      cases q:σ[k]? with
      | none=>rw [q] at e2'; cases e2'
      | some y=>rw [q] at e2'; exact congrArg some e2'
     obtain ⟨n1,n2,n3⟩:=hfr _ k x ek e1'
     obtain ⟨m,_,hl⟩:=I3.loc
     obtain ⟨u,ru,lk⟩:=hl k x v n1 e2'' (.inr (.inl n2))
     refine ⟨u,ru,.inr ⟨.inl (hkin x (aae e1')),?_⟩⟩
     rcases lk with ⟨z,_⟩ | ⟨_,c,ec,ic⟩
     ·rw [n2] at z; cases z
     ·obtain ⟨o,ho,hd⟩:=ic
      exact ⟨c,DG n3 hcs ec,o,k4 _ _ ho,hd⟩
  ·obtain ⟨v,o,ho,hd⟩:=I3.cell x c (A4 hcs e)
   exact ⟨v,o,k4 _ _ ho,hd⟩
  ·unfold Be
   show _=(loc ++ frn).length
   rw [aav,aav,aa1,aab,hln]
 have stat:∀ {H':Hp},(∀ b ∈ fp,H' b=none)->∀ b ∈ fp,El (X.blk scope s3.heap.objs.size fp (loc ++ frn) s3 (upd H2 s2.heap.objs.size (.lst []))) [] H' b:=fun hn b hb =>
  ⟨hn b hb,(ok4.exf b hb).1,ok4.exfs b hb,.inl hb,(ok4.exf b hb).2,fun p hp=>(nomatch hp)⟩
 have fp3:∀ b ∈ fp,(upd H2 s2.heap.objs.size (.lst [])) b=none:=fun b hb=>by
  rw [Ar (aaE (fpl b hb))]; exact (f2 b hb).1
 obtain ⟨pg,pt,pe⟩:=hblk ⟨s3.heap.objs.size,fp,s3,upd H2 s2.heap.objs.size (.lst [])⟩
 have st4:tn 0 h4:=T.keep 0 _ _ st2 fun b _ o e=>k4 b o (k3 b o e)
 have after:∀ {i:Nat} {H':Hp} {s':Shared} {acc:List V} {σ':St},Inv (X.blk scope s3.heap.objs.size fp (loc ++ frn) s3 (upd H2 s2.heap.objs.size (.lst []))) [] σ' H' s'->Q (.ref s2.heap.objs.size) H' ->
   compPost (model X.prog X.w) X.A X.xe use R (.ref s2.heap.objs.size) s3.heap.objs.size (.ok .next) s':=by
  intro i H' s' acc σ' I5 q
  obtain ⟨m,hn,_⟩:=I5.loc
  refine haf s2.heap.objs.size s3.heap.objs.size H' s' m hn (fun h' hb=>?_) ⟨I3.sz,ab4 I3.lt,fun x c e z=>?_,fun p hp z=>?_,I5.free,fun z=>?_⟩ q
  ·have same:∀ b o,s3.heap.get? b=some o->h'.get? b=s'.heap.get? b:=fun b o e=>hb.2 b (aaE (Heap.lt_size e))
   have u:=I5.base
   have un:Un (frs X.stack) fp (upd H2 s2.heap.objs.size (.lst [])) H' s3.heap h':=⟨fun b o e n h1 h2=>(same b o e).trans (u.keep b o e n h1 h2),fun b o e n h1 h2=>by
     obtain ⟨sl,z⟩:=u.slot b o e n h1 h2
     exact ⟨sl,(same b o e).trans z⟩,u.free,fun b o e h1=>by
     obtain ⟨o',z⟩:=u.there b o e h1
     exact ⟨o',(same b o e).trans z⟩,u.tups,u.frzs,u.tbls⟩
   have hok:HOk X.prog X.w H' h':=fun b o e=>by
    have fC:H' s3.heap.objs.size=none:=I5.free
    refine (I5.hok b o e).stay (fun c w' hc z=>(hb.2 c ?_).trans z) (fun _ z=>z) fun _ _ z=>z
    rintro rfl
    rcases hc with rfl | hc
    ·rw [fC] at e; cases e
    ·rw [fC] at hc; cases hc
   exact I3.call' (s':={ s' with heap:=h' }) (ch:=fp) I5.os un hok I5.bare (fun b hb=>⟨(f2 b hb).2.2.2.1,(f2 b hb).2.1,(f2 b hb).2.2.2.2.1,(f2 b hb).2.2.2.2.2⟩)
  ·obtain ⟨v,hcell⟩:=I3.cell x c e
   exact absurd (z ▸ hcell.lt) (aaP _)
  ·exact absurd (z ▸ Heap.lt_size (I3.pin p hp).1) (aaP _)
  ·rcases aai.mp (I3.stkSub _ z) with y | y
   ·exact absurd (y ▸ I3.lt) (aaP _)
   ·exact I3.nofs (aag _) y
 have loop:∀ s5:Shared,s5={ s3 with heap:=h4,toks:=s3.toks + ([]:List (Str × Value)).length } ->
   codeAny (model X.prog X.w) X.A (.compLoop (.ListComp elt [⟨tg,iter,ifs,0⟩] scope pos) 0 (.ref it) (.ref s2.heap.objs.size) (compEnvC scope (BS X.env scope.names []) s3.heap.objs.size X.env))
    (compPost (model X.prog X.w) X.A X.xe use R (.ref s2.heap.objs.size) s3.heap.objs.size) s5:=by
  rintro s5 rfl
  refine Fe (fun n s'=>∃ i acc H',Inv (X.blk scope s3.heap.objs.size fp (loc ++ frn) s3 (upd H2 s2.heap.objs.size (.lst []))) [] (Be loc.length fr σ) H' s'/\tn i s'.heap/\(∀ b ∈ fp,H' b=none)/\W i n acc H') ?_ m0
   ⟨0,[],_,I4,st4,fp3,w0⟩
  rintro n s6 ⟨i,acc,H6,I6,st6,fr6,w6⟩
  obtain ⟨hD,alt⟩:=turn i n acc H6 w6
  rcases alt with ⟨stop,q⟩ | ⟨go,step⟩
  ·refine thn (T.done (X.blk scope s3.heap.objs.size fp (loc ++ frn) s3 (upd H2 s2.heap.objs.size (.lst []))) rfl rfl rfl hc i [] s6 _ H6 (fun _ _=>False) I6 (stat fr6) st6 stop) fun r s7 ⟨hr,I7⟩=>?_
   subst hr
   exact after (i:=i) (acc:=acc) I7 q
  ·refine thn (T.item (X.blk scope s3.heap.objs.size fp (loc ++ frn) s3 (upd H2 s2.heap.objs.size (.lst []))) rfl rfl rfl hc i [] s6 _ H6 (fun _ _=>False) I6 (stat fr6) st6 go) fun r s7 ⟨u,hr,h7⟩=>?_
   subst hr
   refine thn h7 fun _ s8 ⟨x,H8,I8,r8,y8,st8,fr8⟩=>?_
   have I8':=I8.pinned (stat fr8) (T.obj _ _ st8)
   have back:∀ {σ9:St} {H9:Hp} {s9:Shared},Inv (X.blk scope s3.heap.objs.size fp (loc ++ frn) s3 (upd H2 s2.heap.objs.size (.lst []))) ([] ++ Ev fp s8.heap) σ9 H9 s9->σ9.length=(Be loc.length fr σ).length->(∀ i,loc.length<=i->σ9[i]?=(Be loc.length fr σ)[i]?) ->
     Inv (X.blk scope s3.heap.objs.size fp (loc ++ frn) s3 (upd H2 s2.heap.objs.size (.lst []))) [] (Be loc.length fr σ) H9 s9/\tn (i + 1) s9.heap/\(∀ b ∈ fp,H9 b=none):=by
    intro σ9 H9 s9 I9 hl hk
    refine ⟨(I9.unpinned).weak hl.symm fun j v ej=>?_,T.keep _ _ _ st8 fun b hb o e=>(I9.pin (b,o) (aak _ (aak _ (Ch hb e)))).1,fun b hb=>?_⟩
    ·by_cases hj:j < loc.length
     ·unfold Be at ej
      rw [aaL (by simpa using hj),aaO] at ej
      split at ej <;> cases ej
     ·rw [hk j (aba hj)]; exact ej
    ·obtain ⟨o,e,d⟩:=T.obj _ _ st8 b hb
     exact (I9.pin (b,o) (aak _ (aak _ (Ch hb e)))).2.1
   refine thn (pg _ s8 _ H8 x u _ I8' r8 (hgk _ _ _ _ _ (step x H8 y8))) fun _ s9 ⟨σ9,H9,I9,q9,l9,k9⟩=>?_
   refine thn (pt _ s9 σ9 H9 _ I9 q9) fun ok s10 ⟨H10,I10,q10⟩=>?_
   cases ok with
   | false =>
    rw [if_neg (by decide)] at q10 ⊢
    obtain ⟨m',hm,w'⟩:=q10
    obtain ⟨b1,b2,b3⟩:=back I10 l9 k9
    exact ⟨m',hm,i + 1,acc,H10,b1,b2,b3,w'⟩
   | true =>
    rw [if_pos rfl] at q10 ⊢
    refine thn (pe _ s10 σ9 H10 _ I10 q10) fun y s11 ⟨v,H11,I11,r11,hD11,hz,m',hm,w'⟩=>?_
    refine thn (Ea _ s11 σ9 H11 (.ref s2.heap.objs.size) [v] (.ref s2.heap.objs.size) [y] (fun _ H12=>W (i + 1) m' (acc ++ [v]) H12) I11 rfl (.cons r11 .nil) ⟨_,acc,v,rfl,rfl,hD11,hz,w'⟩) fun _ s12 ⟨_,H12,I12,_,w12⟩=>?_
    obtain ⟨b1,b2,b3⟩:=back I12 l9 k9
    exact ⟨m',hm,i + 1,_,H12,b1,b2,b3,w12⟩
 exact codeAny_compStart_list (loop _ rfl) (T.self X.A 0 _ _ _ st4 (loop _ rfl))
theorem Inv.but {X:Cx} {pins:List (Addr × Obj)} {s:Shared} {σ:St} {H:Hp} {C:Addr} {h':Heap} (I:Inv X pins σ H s) (hC:X.s₀.heap.objs.size<=C/\C ≠ X.env.locals/\(∀ x c,X.env.cells.lookup x=some c->c ≠ C)/\(∀ p ∈ X.pn ++ pins,p.1 ≠ C)/\H C=none/\C ∉ frs X.stack)
  (hb:Heap.SameBut C s.heap h'):Inv X pins σ H { s with heap:=h' }:=by
 obtain ⟨h1,h2,h3,h4,h5,h6⟩:=hC
 have same:∀ b,b ∉ [C]->h'.get? b=s.heap.get? b:=fun b z=>hb.2 b (fun e=>z (by simp [e]))
 refine I.call' (s':={ s with heap:=h' }) (ch:=[C]) rfl ⟨fun b o e _ _ z=>(same b z).trans e,fun b o e _ _ z=>⟨o.slots,(same b z).trans e⟩,fun b o e n z=>n,fun b o e z=>⟨o,(same b z).trans e⟩,fun _ _ e=>e,fun _ _ _ e=>e,fun _ ps e=>⟨#[],by simpa using e⟩⟩ ?_ I.bare
  (fun b z=>by
   have:b=C:=by simpa using z
   subst this
   exact ⟨.inr h1,h2,h3,h4⟩)
 intro b o e
 refine (I.hok b o e).stay (fun c w' hc z=>(hb.2 c ?_).trans z) (fun _ z=>z) fun _ _ z=>z
 rintro rfl
 rcases hc with rfl | hc
 ·rw [h5] at e; cases e
 ·rw [h5] at hc; cases hc
theorem K1 {X:Cx} {elt tg iter:Expr} {ifs:List Expr} {scope:Scope} {pos spos py:Pos} {y:Str} {k:Nat} {wi:TI} {gz:Bk->TG} {tcz:Bk->TT} {tez:Bk->TE} (loc:List Str) (fr:List Nat) (frn:List Str) (hc:X.calm=true) (hi:PI X tg iter wi)
  (hfr:∀ (j:Nat) (k:Nat) (x:Str),fr[j]?=some k->frn[j]?=some x->X.N[k]?=some x/\X.env.kindOf x=some .cell/\(x,NameKind.free) ∈ scope.names) (hln:frn.length=fr.length)
  (hcell:∀ y ∈ scope.names,y.2 ≠ .cell) (hkind:scope.kind=.function) (hnames:∀ y ∈ scope.names,y.2=.local->scope.names.lookup y.1=some .local) (hfree:∀ y ∈ scope.names,y.2=.free->X.env.kindOf y.1=some .cell)
  (hkin:∀ (x:Str),x ∈ frn->(relabel scope X.env).names.lookup x=some .cell) (hsc:X.env.scope.kind=.function)
  (hgk:∀ (z:Bk) (v:V) (σ:St) (H:Hp) (Q:St->Hp->Prop),gz z v σ H Q->gz z v σ H fun σ' H'=>Q σ' H'/\σ'.length=σ.length/\∀ i,loc.length<=i->σ'[i]?=σ[i]?)
  (hblk:∀ (z:Bk),PG (X.blk scope z.C z.fp (loc ++ frn) z.s z.H) tg (gz z)/\PTs (X.blk scope z.C z.fp (loc ++ frn) z.s z.H) ifs (tcz z)/\PE (X.blk scope z.C z.fp (loc ++ frn) z.s z.H) elt (tez z))
  (hs:∀ x,foldedSetIterable iter X.env x=pure x) (hN:X.N.Nodup) (hk:X.N[k]?=some y) (hx:Loc X.env.scope y) (hf:X.fn y=true\/X.env.scope.names.lookup y=some .local)
  (hsw:swapsWith (.ListComp elt [⟨tg,iter,ifs,0⟩] scope pos) (some (.Name y py)) spos.line X.env=pure true) :
  PS X (.Assign [.Name y py] (.ListComp elt [⟨tg,iter,ifs,0⟩] scope pos) spos) (G4 (GA loc.length fr wi gz tcz tez) (ER k)):=by
 intro pins s σ H D I h
 rw [exec_Assign_Name_used _ _ _ _ hsw]
 refine wpAny_bind (wpAny_standAt (wpAny_bind ?_))
 show wpAny _ X.A (do let _ <- comprehension (.ListComp elt [⟨tg,iter,ifs,0⟩] scope pos) scope X.env _ (newList []) false (eval iter X.env) (some (assign (.Name y py) X.env))) _ _ s
 refine wpAny_bind (wpAny_mono (Nv (R:=fun _ s'=>SP X pins D .next s') loc fr frn hc hi hfr hln hcell hkind hnames hfree hkin hsc hgk hblk I h (fun D' C H' s' m hn hI hC q=>?_) hs) (fun _ s' hq=>wpAny_pure (wpAny_pure hq)) fun _ _ e=>e)
 have I7:Inv X pins σ H' s':=hI s'.heap ⟨rfl,fun _ _=>rfl⟩
 refine wpAny_assign_Name (Hw (v:=.ref D') I7 hN hk hx rfl (fun s8 I8 ⟨a,sb,ha⟩=>?_) hf)
 refine ⟨m,hn.sameBut sb ?_,fun h9 sb9=>⟨_,H',I8.but hC sb9,q⟩⟩
 rcases ha with rfl | ha
 ·exact hC.2.1
 ·exact fun z=>hC.2.2.1 _ _ ha z.symm
end L2
end
section
namespace L2
open PySem PySem.Spec PyProof.Rows PySem.W
section
variable {X:Cx} {pins:List (Addr × Obj)} {σ:St} {H:Hp} {s:Shared} {h':Heap}
theorem Inv.turnLaid {t':Nat} {ch:List Addr} {a:Addr} {o:HO} (I:Inv X pins σ H s) (k:∀ b u,b ∉ ch->s.heap.get? b=some u->h'.get? b=some u) (hf:∀ c ∈ ch,El X pins H c) (ha:s.heap.objs.size<=a) (new:ObjOk X.prog X.w (upd H a o) h' a o) :
  Inv X pins σ (upd H a o) { s with heap:=h',toks:=t' }:=by
 have hn:=I.hok.fresh ha
 have nch:∀ b u,H b=some u->b ∉ ch:=fun b u e z=>by rw [(hf b z).1] at e; cases e
 have na:∀ b u,s.heap.get? b=some u->b ≠ a:=fun b u e z=>absurd (aas (Heap.lt_size e) (z ▸ ha)) (aaP _)
 refine I.step (g':=s.gens) (d':=s.drawn) (ch:=ch) (fun b hb=>?_) (fun b o _ _ hc e _=>k b o hc e) (fun b o _ _ hc e _=>⟨o.slots,k b o hc e⟩) (fun b u _ e n=>by rw [Ar (na b u e)]; exact n)
  (fun b o hc e=>⟨o,k b o hc e⟩) (fun b xs e=>by rw [Ar (AN e hn)]; exact e) (fun b u v e=>by rw [Ar (AN e hn)]; exact e) (fun b ps e=>⟨#[],by rw [Ar (AN e hn),e]; simp⟩) (fun m hm=>?_) (fun b u e=>?_) I.bare
 ·obtain ⟨f0,f1,f2,f3,f4,f5⟩:=hf b hb
  exact ⟨f3,f1,f4,f5⟩
 ·obtain ⟨o,es,ep,ho,r⟩:=hm
  exact ⟨o,es,ep,k _ o (fun z=>(hf _ z).2.1 rfl) ho,r⟩
 ·by_cases hb:b=a
  ·subst hb; rw [AW] at e; cases e; exact new
  ·rw [Ar hb] at e
   refine (I.hok b u e).stay (fun c v hc q=>k c v ?_ q) (fun c q=>by rw [Ar (AN q hn)]; exact q) fun c xs q=>by rw [Ar (AN q hn)]; exact q
   rcases hc with z | z
   ·rw [z]; exact nch b u e
   ·exact nch c _ z
theorem Inv.turnedL {t':Nat} {ch:List Addr} (I:Inv X pins σ H s) (k:∀ b u,b ∉ ch->s.heap.get? b=some u->h'.get? b=some u) (hf:∀ c ∈ ch,El X pins H c):Inv X pins σ H { s with heap:=h',toks:=t' }:=by
 have nch:∀ b u,H b=some u->b ∉ ch:=fun b u e z=>by rw [(hf b z).1] at e; cases e
 refine I.step (g':=s.gens) (d':=s.drawn) (ch:=ch) (fun b hb=>?_) (fun b o _ _ hc e _=>k b o hc e) (fun b o _ _ hc e _=>⟨o.slots,k b o hc e⟩) (fun b u _ e n=>n)
  (fun b o hc e=>⟨o,k b o hc e⟩) (fun b xs e=>e) (fun b u v e=>e) (fun b ps e=>⟨#[],by rw [e]; simp⟩) (fun m hm=>?_) (fun b u e=>?_) I.bare
 ·obtain ⟨f0,f1,f2,f3,f4,f5⟩:=hf b hb
  exact ⟨f3,f1,f4,f5⟩
 ·obtain ⟨o,es,ep,ho,r⟩:=hm
  exact ⟨o,es,ep,k _ o (fun z=>(hf _ z).2.1 rfl) ho,r⟩
 ·refine (I.hok b u e).stay (fun c v hc q=>k c v ?_ q) (fun c q=>q) fun c xs q=>q
  rcases hc with z | z
  ·rw [z]; exact nch b u e
  ·exact nch c _ z
end
section
variable {X:Cx}
noncomputable def F9 (n:Nat) (i:Int):Nat:=if i < 0 then (i + (n:Int)).toNat else min i.toNat n
noncomputable def J8:V->List V->Hp->VK->Prop:=fun x vs H Q=>∃ l xs i y,x=.ref l/\vs=[.int i,y]/\H l=some (.lst xs)/\-(2 ^ 63)<=i/\i < 2 ^ 63/\xs.length < sizeLine/\Q .non (upd H l (.lst (xs.take (F9 xs.length i) ++ y :: xs.drop (F9 xs.length i))))
theorem Vals.tk {xs:List V} {us:List Value} (h:Vals xs us):∀ n,Vals (xs.take n) (us.take n)/\Vals (xs.drop n) (us.drop n):=by
 induction h with
 | nil=>intro n; cases n <;> exact ⟨.nil,.nil⟩
 | cons h1 h2 ih =>
  intro n
  cases n with
  | zero=>exact ⟨.nil,.cons h1 h2⟩
  | succ n=>exact ⟨.cons h1 (ih n).1,(ih n).2⟩
theorem Mf:MtM X "list.insert" J8:=by
 intro pins s σ H x vs v us Q I rx rv h
 obtain ⟨l,xs,i,y,rfl,rfl,hH,h1,h2,hz,q⟩:=h
 cases rx
 cases rv with
 | cons ra rb =>
  cases rb with
  | cons ru rc =>
   cases rc
   obtain ⟨t,rfl⟩:=ra
   rename_i u
   obtain ⟨z,its,n,r,hl,e⟩:=I.lstM hH
   refine call_meets PySem.F.slot_list_insert ⟨_,e,rfl⟩ PySem.F.entry_list_insert (PySem.F.args_list_insert_3 _ _ _) (PySem.AutoListH.list_insert_list_int_val_1 l its.toArray n i t u (by rw [fitsIndex_both h1 h2]; decide) (by rw [aal]; omega)) ⟨e,?_⟩
   refine ⟨.non,_,I.lset (its':=its.take (F9 xs.length i) ++ u :: its.drop (F9 xs.length i)) hH e ?_ ((r.tk _).1.append (.cons ru (r.tk _).2)) ?_,rfl,q⟩
   ·rw [hl]
    unfold F9
    simp
    generalize (if i < 0 then (i + (its.length:Int)).toNat else min i.toNat its.length)=k
    exact aci (by rw [aby]; exact aag _)
   ·rw [aav,aa2,abj,aby]
    omega
end
noncomputable def Itz (K:PySem.W.Frag) (a b:Addr):It :=
 ⟨fun i H=>∃ xs x ys y,SqL K H a xs/\xs[i]?=some x/\SqL K H b ys/\ys[i]?=some y,fun i H v H'=>∃ t,H t=none/\v=.ref t/\∀ xs x ys y,SqL K H a xs->xs[i]?=some x->SqL K H b ys->ys[i]?=some y->H'=upd H t (.tup [x,y]),fun i H=>∃ xs ys,SqL K H a xs/\SqL K H b ys/\(xs.length<=i\/ys.length<=i)⟩
structure Zst (z TI TO i1 i2 a b:Addr) (i:Nat) (h:Heap):Prop where
 hz:IsZip h z TI TO .none
 hi:IsPair h TI (.ref i1) (.ref i2)
 ho:∃ u v,IsPair h TO u v
 h1:h.IsListIter i1 a i
 h2:h.IsListIter i2 b i
structure Zap (z TI TO i1 i2:Addr):Prop where
 TIz:TI ≠ z
 TOz:TO ≠ z
 i1z:i1 ≠ z
 i2z:i2 ≠ z
 TITO:TI ≠ TO
 TIi1:TI ≠ i1
 TIi2:TI ≠ i2
 TOi1:TO ≠ i1
 TOi2:TO ≠ i2
 i12:i1 ≠ i2
theorem Mg {z TI TO i1 i2 a b:Addr} {i:Nat} {h:Heap} {xs ys:Array Value} (Z:Zap z TI TO i1 i2) (S:Zst z TI TO i1 i2 a b i h) (p:h.IsList a xs) (q:h.IsList b ys):ZipApart z TI TO i1 i2 a b:=by
 obtain ⟨oa,ea,ca,_⟩:=p
 obtain ⟨ob,eb,cb,_⟩:=q
 obtain ⟨u,v,ho⟩:=S.ho
 obtain ⟨o1,e1,c1,_⟩:=S.h1
 obtain ⟨o2,e2,c2,_⟩:=S.h2
 have key:∀ {x y:Addr} {ox oy:Obj},h.get? x=some ox->h.get? y=some oy->ox.cls ≠ oy.cls->x ≠ y:=fun ex ey n z=>by
  subst z; rw [ex] at ey; cases ey; exact n rfl
 exact ⟨Z.TIz,Z.TOz,Z.i1z,Z.i2z,Z.TITO,Z.TIi1,Z.TIi2,Z.TOi1,Z.TOi2,Z.i12,key ea S.hz (by rw [ca]; simp),key ea ho (by rw [ca]; simp),key ea e1 (by rw [ca,c1]; simp),key ea e2 (by rw [ca,c2]; simp),key eb S.hz (by rw [cb]; simp),key eb ho (by rw [cb]; simp),key eb e1 (by rw [cb,c1]; simp),key eb e2 (by rw [cb,c2]; simp)⟩
theorem Nw {P:Program} {w:World} {K:PySem.W.Frag} {elts:List Expr} {k1:Nat} {pos:Pos} (a b z TI TO i1 i2:Addr) (Z:Zap z TI TO i1 i2):Turn P w K (.Tuple elts k1 pos) (Itz K a b) [z,TI,TO,i1,i2] z (fun i h=>Zst z TI TO i1 i2 a b i h) where
 mem:=by simp
 obj:=fun i h st c hc=>by
  obtain ⟨u,v,ho⟩:=st.ho
  obtain ⟨o1,e1,c1,d1⟩:=st.h1
  obtain ⟨o2,e2,c2,d2⟩:=st.h2
  simp only [aai,abk,or_false] at hc
  rcases hc with rfl | rfl | rfl | rfl | rfl
  ·exact ⟨_,st.hz,fun v y=>by have y':Data.fields _=Data.cell v:=y; cases y'⟩
  ·exact ⟨_,st.hi,fun v y=>by have y':Data.seq _ _=Data.cell v:=y; cases y'⟩
  ·exact ⟨_,ho,fun v y=>by have y':Data.seq _ _=Data.cell v:=y; cases y'⟩
  ·exact ⟨o1,e1,fun v y=>by rw [d1] at y; cases y⟩
  ·exact ⟨o2,e2,fun v y=>by rw [d2] at y; cases y⟩
 keep:=fun i h h' st k=>by
  obtain ⟨u,v,ho⟩:=st.ho
  exact ⟨k z (by simp) _ st.hz,k TI (by simp) _ st.hi,⟨u,v,k TO (by simp) _ ho⟩,st.h1.at fun o q=>k i1 (by simp) o q,st.h2.at fun o q=>k i2 (by simp) o q⟩
 item:=by
  intro X hP hw hK hc i pins s σ H E I hf st hg
  subst hP hw hK
  obtain ⟨xs,x,ys,y,hq,hx,hq2,hy⟩:=hg
  obtain ⟨its,rv,p,hz⟩:=I.list hq
  obtain ⟨its2,rv2,p2,hz2⟩:=I.list hq2
  obtain ⟨u,hu,ru⟩:=rv.get hx
  obtain ⟨u2,hu2,ru2⟩:=rv2.get hy
  obtain ⟨v1,v2,ho⟩:=st.ho
  refine wpAny_pyNext_zip_item (Mg Z st p.isList p2.isList) st.hz st.hi ho st.h1 st.h2 p.isList p2.isList (x:=u) (y:=u2) (by simpa using hu) (by simpa using hu2) fun h' hz' hTO' hi1' hi2' hT hsz hk=>?_
  refine ⟨_,rfl,wpAny_letOwnedTupleGo_zip hz' fun h2 he2 hs2=>?_⟩
  have ltz:z < s.heap.objs.size:=Heap.lt_size st.hz
  have hT2:IsPair h2 s.heap.objs.size u u2:=(hs2.2 _ (ab4 ltz)).trans hT
  have I1:Inv X pins σ (upd H s.heap.objs.size (.tup [x,y])) { s with heap:=h2 }:=I.turnLaid (t':=s.toks) (ch:=[z,TI,TO,i1,i2]) (fun c o hc q=>by
    have n1:c ≠ z:=fun e=>hc (by simp [e])
    have n2:c ≠ TO:=fun e=>hc (by simp [e])
    have n3:c ≠ i1:=fun e=>hc (by simp [e])
    have n4:c ≠ i2:=fun e=>hc (by simp [e])
    exact (hs2.2 c n1).trans (hk c o n1 n2 n3 n4 q)) hf (aag _)
   ⟨by simp [sizeLine],[u,u2],.cons ru (.cons ru2 .nil),⟨_,hT2,rfl,_,rfl⟩⟩
  refine ⟨.ref s.heap.objs.size,_,I1,rfl,⟨_,I.hok.fresh (aag _),rfl,fun xs' x' ys' y' a1 a2 a3 a4=>?_⟩,⟨he2,(hs2.2 TI Z.TIz).trans (hk TI _ Z.TIz Z.TITO Z.TIi1 Z.TIi2 st.hi),⟨u,u2,(hs2.2 TO Z.TOz).trans hTO'⟩,hi1'.at fun o q=>(hs2.2 i1 Z.i1z).trans q,hi2'.at fun o q=>(hs2.2 i2 Z.i2z).trans q⟩,fun c hc=>?_⟩
  ·have e1:=I.list_inj a1 hq
   have e2:=I.list_inj a3 hq2
   subst e1 e2
   rw [hx] at a2
   rw [hy] at a4
   cases a2; cases a4
   rfl
  ·obtain ⟨o,eo,_⟩:∃ o,s.heap.get? c=some o/\True:=by
    obtain ⟨o1,e1,_⟩:=st.h1
    obtain ⟨o2,e2,_⟩:=st.h2
    simp only [aai,abk,or_false] at hc
    rcases hc with rfl | rfl | rfl | rfl | rfl
    ·exact ⟨_,st.hz,trivial⟩
    ·exact ⟨_,st.hi,trivial⟩
    ·exact ⟨_,ho,trivial⟩
    ·exact ⟨_,e1,trivial⟩
    ·exact ⟨_,e2,trivial⟩
   rw [Ar (aaE (Heap.lt_size eo))]
   exact (hf c hc).1
 done:=by
  intro X hP hw hK hc i pins s σ H E I hf st hg
  subst hP hw hK
  obtain ⟨xs,ys,hq,hq2,hx⟩:=hg
  obtain ⟨its,rv,p,hz⟩:=I.list hq
  obtain ⟨its2,rv2,p2,hz2⟩:=I.list hq2
  obtain ⟨v1,v2,ho⟩:=st.ho
  have l1:=rv.length
  have l2:=rv2.length
  refine wpAny_pyNext_zip_end (I.ok.hd hc) (Mg Z st p.isList p2.isList) st.hz st.hi ho st.h1 st.h2 p.isList p2.isList (by simp; omega) fun h' eb=>⟨rfl,I.turnedL (t':=s.toks) (ch:=[z,TI,TO,i1,i2]) (fun c o hc q=>eb c o (fun e=>hc (by simp [e])) (fun e=>hc (by simp [e])) (fun e=>hc (by simp [e])) (fun e=>hc (by simp [e])) q) hf⟩
 self:=fun _ _ _ _ _ st h=>wpAny_pyIter_zip st.hz h
end L2
end
section
namespace L2
open PySem PySem.Spec PyProof PyProof.Rows PySem.W
theorem HF (its:List Value):∀ n,n<=its.length->(aax n).filterMap (fun k=>its[n - 1 - k]?)=(its.take n).reverse
 | 0,_=>by simp
 | n + 1,h=>by
  have hn:n < its.length:=h
  have e:∀ k:Nat,n + 1 - 1 - (k + 1)=n - 1 - k:=fun k=>by omega
  rw [acj,abe]
  simp only [Nat.add_sub_cancel,Nat.sub_zero,aah hn,abX]
  have ih:=HF its n (by omega)
  rw [List.take_succ,aah hn,List.reverse_append,<- ih]
  show its[n] :: _=its[n] :: _
  congr 1
  refine congrArg (fun g=>List.filterMap g (aax n)) (funext fun k=>?_)
  show its[n - (k + 1)]?=its[n - 1 - k]?
  congr 1
  omega
theorem Nx (its:List Value):slicePick its.toArray none none (some (-1))=its.reverse.toArray:=by
 have e:sliceRange (sliceBounds none none (some (-1)) its.toArray.size).1 (sliceBounds none none (some (-1)) its.toArray.size).2.1 (sliceBounds none none (some (-1)) its.toArray.size).2.2=(aax its.length).map fun k=>its.length - 1 - k:=by
  show sliceRange (((its.toArray.size:Nat):Int) - 1) (-1) (-1)=_
  rw [aal]
  unfold sliceRange
  simp only
  rw [if_neg (by decide)]
  have:(if ((its.length:Int) - 1) > -1 then (((its.length:Int) - 1) - (-1) - (-1) - 1) / (-(-1)) else 0).toNat=its.length:=by
   rw [show (-(-1):Int)=1 from rfl,Int.ediv_one]
   split <;> omega
  rw [this]
  apply aaN
  intro k hk
  have:=acm.mp hk
  omega
 unfold slicePick
 rw [e,abX]
 have:=HF its its.length (aag _)
 rw [List.take_length] at this
 rw [<- this]
 refine congrArg (fun g=>(List.filterMap g (aax its.length)).toArray) (funext fun k=>?_)
 simp
section
variable {X:Cx} {e est:Expr} {te:TE} {tk:TO} {pos p2:Pos}
noncomputable def tRv (K:PySem.W.Frag) (te:TE) (tk:TO):TE:=fun σ H Q=>te σ H fun x H1=>tk σ H1 fun k H2=>k=some (-1)/\∃ a xs,x=.ref a/\SqL K H2 a xs/\∀ p,H2 p=none->Q (.ref p) (upd H2 p (.lst xs.reverse))
theorem QT (he:PE X e te) (hk:PO X (some est) tk):PE X (.Subscript e (.Slice none none (some est) p2) pos) (tRv X.K te tk):=by
 intro pins s σ H Q I h
 refine Subscript_ (thn (he pins s σ H _ I h) fun v s1 ⟨x,H1,I1,r1,q1⟩=>?_)
 refine wpAny_Slice ?_
 rw [evalPart_none]
 refine wpAny_pure (wpAny_pure (thn (hk pins s1 σ H1 _ I1 q1) fun vk s2 ⟨k,H2,I2,pk,q2⟩=>?_))
 obtain ⟨rfl,a,xs,rfl,hx,q⟩:=q2
 cases r1
 have I4:Inv X pins σ H2 { s2 with heap:=s2.heap.push { cls:=.type "slice",data:=.fields #[.none,.none,vk] } }:=I2.kept (t':=s2.toks) fun b ob q=>Heap.get?_push_of_some _ q
 obtain ⟨its,r,ht,hz⟩:=I4.list hx
 have hlen:=r.length
 refine tail_any (ops:=[.ref a,.ref s2.heap.objs.size]) ht.isList.typeIs slot_list_getitem.lookup ?_ (by with_unfolding_all rfl)
 refine wpAny_getItem_list_slice ht.isList (Heap.IsSliceOf.new ..) .none .none pk (by simp) ?_ (by rw [aal] <;> omega)
 rw [Nx]
 refine ⟨.ref _,_,I4.laid (t':=s2.toks) (o:=.lst xs.reverse) (fun b ob q=>Heap.get?_push_of_some _ q) (aag _) ?_,rfl,q _ (I4.hok.fresh (aag _))⟩
 exact ⟨by rw [abo]; exact hz,_,0,r.reverse,Heap.get?_push_size _ rfl⟩
end
section
variable {prog:Program} {w:World} {A:Around} {E:Value->Shared->Prop}
theorem Mh {it l:Addr} {items:Array Value} (hne:l ≠ it):∀ (n i:Nat) (s:Shared) (Q:List Value->Shared->Prop),s.heap.IsListIter it l i->s.heap.IsList l items->i + n<=items.size->(∀ h',h'.IsListIter it l (i + n)->Heap.SameBut it s.heap h'->Q ((items.toList.drop i).take n) { s with heap:=h' })->wpAny (model prog w) A (draw (.ref it) n) Q E s
 | 0,i,s,Q,hit,_,_,hQ=>wpAny_pure (by simpa using hQ s.heap hit (Heap.SameBut.refl ..))
 | n + 1,i,s,Q,hit,hl,hle,hQ=>by
  have hz:i < items.size:=by omega
  show wpAny _ _ (pyNext (.ref it) >>= _) Q E s; refine wpAny_bind (wpAny_pyNext_list_item hit hl (x:=items[i]) (by simp [hz]) fun h1 hit1 hs1=>?_)
  have hl1:h1.IsList l items:=by
   obtain ⟨o,e,c⟩:=hl
   exact ⟨o,(hs1.2 l hne).trans e,c⟩
  refine wpAny_bind (wpAny_holding (Mh hne n (i + 1) _ _ hit1 hl1 (by omega) fun h2 hit2 hs2=>wpAny_pure ?_))
  have hd:items.toList.drop i=items[i] :: items.toList.drop (i + 1):=by simp [abi,hz]
  have:=hQ h2 (by rw [show i + (n + 1)=i + 1 + n by omega]; exact hit2) ⟨hs2.1.trans hs1.1,fun b hb=>(hs2.2 b hb).trans (hs1.2 b hb)⟩
  rw [hd,List.take_succ_cons] at this; exact this
theorem OQ {s:Shared} {l:Addr} {items:Array Value} {Q:List Value->Shared->Prop} (hh:A.handled=none) (hl:s.heap.IsList l items) (hQ:∀ h',Heap.ExtBut s.heap.objs.size s.heap h'->Q items.toList { s with heap:=h' }):wpAny (model prog w) A (unpackItems (.ref l) items.size none) Q E s:=by
 have hlt:l ≠ s.heap.objs.size:=by obtain ⟨o,ho,_⟩:=hl; exact aaE (Heap.lt_size ho)
 unfold unpackItems notIterableAtAll
 refine wpAny_bind (wpAny_bind (wpAny_specialOf hl.typeIs slot_list_iter.lookup (wpAny_pure ?_)))
 simp only [aaX,if_false]; refine wpAny_bind (wpAny_holding (wpAny_pyIter_list hl ?_))
 have hl0:(s.heap.push { cls:=.type "list_iterator",data:=.fields #[.ref l,.int 0 0] }).IsList l items:=by
  obtain ⟨o,e,c⟩:=hl
  exact ⟨o,Heap.get?_push_of_some _ e,c⟩
 refine wpAny_bind (wpAny_holding (Mh hlt items.size 0 _ _ ⟨_,Heap.get?_push_size _ rfl,rfl,rfl⟩ hl0 (by omega) fun h1 hit1 hs1=>?_))
 have hall:List.take items.size (List.drop 0 items.toList)=items.toList:=by
  rw [List.drop_zero]; exact aci (by simp)
 rw [hall,if_neg (by simp)]
 have hl1:h1.IsList l items:=by
  obtain ⟨o,e,c⟩:=hl0
  exact ⟨o,(hs1.2 l hlt).trans e,c⟩
 refine wpAny_bind (wpAny_holding (wpAny_pyNext_list_end hh hit1 hl1 (by simp) fun h2 he2=>?_))
 simp only [Option.isSome_none,aaX,if_false]
 exact wpAny_pure (hQ h2 fun b o hb e=>he2 b o hb ((hs1.2 b hb).trans (Heap.get?_push_of_some _ e)))
end
section
variable {X:Cx} {pos:Pos}
noncomputable def QU (K:PySem.W.Frag) (n:Nat) (t:TGs):TG:=fun v σ H Q=>∃ a xs,v=.ref a/\SqL K H a xs/\xs.length=n/\t xs σ H Q
theorem QV {es:List Expr} {k:Nat} {t:TGs} {n:Nat} (hc:X.calm=true) (h:PGs X es t) (hn:(assignEach es X.env).length=n) (hst:(assignEach es X.env).findIdx? (·.1)=none):PG X (.Tuple es k pos) (QU X.K n t):=by
 intro pins s σ H v u Q I r hw
 obtain ⟨a,xs,rfl,hq,hl,hw⟩:=hw
 cases r
 obtain ⟨its,rv,pl,hz⟩:=I.list hq
 rw [assign_Tuple]
 refine wpAny_bind (wpAny_standAt ?_)
 unfold unpack
 rw [hst,hn,<- hl,rv.length,show its.length=its.toArray.size by simp]
 refine wpAny_bind (wpAny_holding (OQ (I.ok.hd hc) pl.isList fun h' hx=>?_))
 have I1:Inv X pins σ H { s with heap:=h' }:=I.kept (t':=s.toks) fun b o e=>hx b o (aaE (Heap.lt_size e)) e
 exact h pins _ σ H xs _ Q I1 (by simpa using rv) hw
end
section
variable {prog:Program} {w:World} {A:Around} {E:Value->Shared->Prop} {s:Shared} {n:Nat}
theorem OR {l sl b:Addr} {items ys:Array Value} {Q:Unit->Shared->Prop} (ho:s.heap.get? l=some { cls:=.type "list",data:=.seq items n }) (hs:s.heap.IsSliceOf sl .none .none .none) (hb:s.heap.IsList b ys) (hne:l ≠ b)
  (hz:items.size + ys.size<=sizeLine) (hQ:Q () { s with heap:=s.heap.update l (Obj.mapSeq fun xs=>xs.extract 0 0 ++ ys ++ xs.extract items.size xs.size) }):wpAny (model prog w) A (setItem (.ref l) (.ref sl) (.ref b)) Q E s:=by
 have hl:s.heap.IsList l items:=⟨_,ho,rfl,n,rfl⟩
 obtain ⟨os,hos,hcs,hds⟩:=id hs
 have hTs:s.TypeIs (.ref sl) "slice" := ⟨os,hos,hcs⟩
 obtain ⟨ob,hob,hcb,nb,hdb⟩:=id hb
 unfold setItem
 try with_reducible refine wpAny_holding ?_
 first | refine wpAny_bind (wpAny_pure ?_) | skip
 refine wpAny_bind (wpAny_sequenceKey hl.typeIs (by decide) ?_)
 refine wpAny_bind (wpAny_callSpecial?_slot (name:=Str.ofString "__setitem__") hl.typeIs slot_list_setitem
  (wpAny_call_entry slot_list_setitem hl.typeIs entry_list_setitem ?_ (args_list_setitem _ _ _)))
 show wpAny _ _ (Builtin.List.listSubscript? (.ref sl) >>= _) _ _ s
 refine wpAny_bind ?_
 unfold Builtin.List.listSubscript?
 refine wpAny_bind (wpAny_specialOf hTs slice_no_index ?_)
 simp only [Option.isNone_none,if_true]
 refine wpAny_pure ?_
 show wpAny _ _ (typeOf (.ref sl) >>= _) _ _ s
 refine wpAny_bind (wpAny_typeOf hTs ?_)
 rw [if_neg (by decide)]
 rw [listSliceParts_eq]
 refine wpAny_bind (wpAny_bind (wpAny_field hos hds (x:=.none) rfl (wpAny_bind (wpAny_listPart .none ?_))))
 rw [if_neg (show ¬ ((rawPart none==rawInt 0)=true) from aaQ)]
 refine wpAny_bind (wpAny_field hos hds (x:=.none) rfl (wpAny_bind (wpAny_listPart .none ?_)))
 refine wpAny_bind (wpAny_field hos hds (x:=.none) rfl (wpAny_bind (wpAny_listPart .none (wpAny_pure ?_))))
 have hsr:Builtin.List.listSameRef (.ref l) (.ref b)=false:=by
  show (l==b)=false
  exact beq_eq_false_iff_ne.mpr hne
 rw [hsr,if_neg (by decide)]
 refine wpAny_bind ?_
 unfold Builtin.List.listAllItems
 refine wpAny_bind (wpAny_typeOf hb.typeIs ?_)
 rw [if_pos (by decide)]
 unfold Builtin.List.listItems
 refine wpAny_bind (wpAny_seqItems hob hdb (wpAny_pure ?_))
 refine wpAny_bind (m:=Builtin.List.listItems (.ref l)) ?_
 unfold Builtin.List.listItems
 refine wpAny_bind (wpAny_seqItems ho rfl (wpAny_pure ?_))
 refine wpAny_bind (wpAny_of_eq (sliceIndices_raw none none none items.size (by simp)) ?_)
 have e1:(sliceBounds none none none items.size).1=0:=rfl
 have e2:(sliceBounds none none none items.size).2.1=(items.size:Int):=rfl
 have e3:(sliceBounds none none none items.size).2.2=1:=rfl
 rw [e1,e2,e3]
 rw [if_pos (by decide)]
 refine wpAny_bind (wpAny_rule ?_)
 have hlong:Builtin.List.listTooLong (items.size + ys.size)=false:=decide_eq_false (by omega)
 rw [hlong,if_neg (by decide)]
 have em:(max (0:Int) (items.size:Int)).toNat=items.size:=by omega
 rw [em]
 show wpAny _ _ (updateSeq l _ >>= _) _ _ s
 refine wpAny_bind (wpAny_updateSeq ho rfl ?_ (by omega) (by simp; omega))
 refine wpAny_bind (wpAny_letGo ?_)
 exact wpAny_pure ⟨.none,rfl,wpAny_pure hQ⟩
end
section
variable {X:Cx} {pos p2:Pos}
noncomputable def QW (K:PySem.W.Frag) (to:TE):TG:=fun v σ H Q=>to σ H fun x H1=>∃ (l b:Addr) (xs ys:List V),x=.ref l/\v=.ref b/\H1 l=some (.lst xs)/\SqL K H1 b ys/\l ≠ b/\xs.length + ys.length<=sizeLine/\Q σ (upd H1 l (.lst ys))
theorem QX {o:Expr} {to:TE} (ho:PE X o to)
  (ha:∀ v,assign (.Subscript o (.Slice none none none p2) pos) X.env v=(do
   let ov <- holding [v] (eval o X.env)
   let iv <- holding [v,ov] (eval (.Slice none none none p2) X.env)
   standAt pos
   holding [v,ov,iv] (setItem ov iv v)
   release [iv,v,ov] []):=by intro _; rfl):PG X (.Subscript o (.Slice none none none p2) pos) (QW X.K to):=by
 intro pins s σ H v u Q I r h
 rw [ha]
 refine wpAny_bind (wpAny_holding (thn (ho pins s σ H _ I h) fun ov s1 ⟨x,H1,I1,r1,q1⟩=>?_))
 obtain ⟨l,b,xs,ys,rfl,rfl,hl,hb,hne,hz,q⟩:=q1
 cases r1
 cases r
 refine wpAny_bind (wpAny_holding (wpAny_Slice ?_))
 rw [evalPart_none]
 refine wpAny_pure (wpAny_pure (wpAny_pure ?_))
 have I2:Inv X pins σ H1 { s1 with heap:=s1.heap.push { cls:=.type "slice",data:=.fields #[.none,.none,.none] } }:=I1.kept (t':=s1.toks) fun b ob q=>Heap.get?_push_of_some _ q
 obtain ⟨its,n,rv,e,hzl⟩:=I2.lst hl
 obtain ⟨its2,rv2,p2',hz2⟩:=I2.list hb
 have hl1:=rv.length
 have hl2:=rv2.length
 refine wpAny_bind (wpAny_standAt (wpAny_bind (wpAny_holding ?_)))
 refine OR (n:=n) (ys:=its2.toArray) e (Heap.IsSliceOf.new ..) p2'.isList hne (by rw [aal,aal]; omega) ?_
 have hf:∃ n',Obj.mapSeq (fun xs=>xs.extract 0 0 ++ its2.toArray ++ xs.extract its.toArray.size xs.size) { cls:=.type "list",data:=.seq its.toArray n }={ cls:=.type "list",data:=.seq its2.toArray n' } :=
  ⟨if its2.toArray.size==its.toArray.size then n else n + 1,by simp [Obj.mapSeq]⟩
 obtain ⟨n',hf⟩:=hf
 exact wpAny_release ⟨σ,upd H1 l (.lst ys),I2.lstUpd hl e hf rv2 (by omega) s1.toks,q⟩
end
end L2
end
section
namespace Pu
open PySem (Str)
inductive D where
 | non
 | bl (b:Bool)
 | int (i:Int)
 | str (x:Str)
 | tup (ds:List D)
 | lst (ds:List D)
 | exn (c:Nat)
inductive Res (α:Type) where
 | ok (a:α)
 | exc (c:Nat)
 | bad
namespace Res
noncomputable def bind {α β:Type}:Res α->(α->Res β)->Res β
 | .ok a,f=>f a
 | .exc c,_=>.exc c
 | .bad,_=>.bad
@[simp] theorem bind_ok {α β:Type} (a:α) (f:α->Res β):(Res.ok a).bind f=f a:=rfl
@[simp] theorem bind_exc {α β:Type} (c:Nat) (f:α->Res β):(Res.exc c:Res α).bind f=.exc c:=rfl
@[simp] theorem bind_bad {α β:Type} (f:α->Res β):(Res.bad:Res α).bind f=.bad:=rfl
theorem bind_eq_ok {α β:Type} {r:Res α} {f:α->Res β} {b:β} (h:r.bind f=.ok b):∃ a,r=.ok a/\f a=.ok b:=by
 cases r <;> simp_all
end Res
mutual
noncomputable def D.eqv:D->D->Bool
 | .non,.non=>true
 | .bl a,.bl b=>a==b
 | .bl a,.int j=>(if a then 1 else 0)==j
 | .int i,.bl b=>i==(if b then 1 else 0)
 | .int i,.int j=>i==j
 | .str x,.str y=>x==y
 | .lst xs,.lst ys=>D.eqvs xs ys
 | .tup xs,.tup ys=>D.eqvs xs ys
 | _,_=>false
noncomputable def D.eqvs:List D->List D->Bool
 | [],[]=>true
 | x :: xs,y :: ys=>D.eqv x y && D.eqvs xs ys
 | _,_=>false
end
noncomputable def D.shp:Nat->D->Bool
 | _,.non=>true
 | _,.bl _=>true
 | _,.int _=>true
 | _,.str x=>x.cps.all (· < 0x110000)
 | 0,.tup _=>false
 | 0,.lst _=>false
 | n + 1,.tup ds=>ds.all (D.shp n)
 | n + 1,.lst ds=>ds.all (D.shp n)
 | _,.exn _=>false
noncomputable def D.flat:Nat->Nat->D->Bool
 | 0,_,_=>false
 | _ + 1,_,.non=>true
 | _ + 1,_,.bl _=>true
 | _ + 1,_,.int _=>true
 | _ + 1,_,.str _=>true
 | _ + 1,_,.exn _=>true
 | m + 1,k,.tup ds=>ds.all (D.flat m k)
 | _ + 1,0,.lst _=>false
 | m + 1,k + 1,.lst ds=>ds.all (D.flat m k)
noncomputable abbrev LIM:Nat:=16777216
noncomputable abbrev Fr:=List (Option D)
structure Fn where
 name:Str
 ar:Nat
 lv:Nat
 dep:Nat
 den:List D->Res D
set_option genSizeOf false
set_option genSizeOfSpec false
set_option genInjectivity false
inductive B2 where
 | add | sub | mul | fdiv | mod | pow
 deriving DecidableEq
inductive C2 where
 | lt | le | gt | ge | eq | ne | inn | nin
 deriving DecidableEq
inductive Kd where
 | int | bool | str | list | tuple | dict | verr | cls (n:Nat)
 deriving DecidableEq
inductive Bi where
 | len | min | max | maxL | int | list
 deriving DecidableEq
inductive Tg where
 | nm (i:Nat)
 | tp (is:List Nat)
 deriving DecidableEq
mutual
inductive E where
 | nm (i:Nat)
 | cN
 | cB (b:Bool)
 | cI (i:Int)
 | cS (x:Str)
 | gl (x:Str) (d:D)
 | tup (es:Es)
 | lst (es:Es)
 | bin (o:B2) (a b:E)
 | neg (a:E)
 | not (a:E)
 | cmp (o:C2) (a b:E)
 | chain (o o':C2) (a b c:E)
 | isN (n:Bool) (a:E)
 | bo (and:Bool) (es:Es)
 | ix (a i:E)
 | ixL (a i:E)
 | slc (a lo hi:E)
 | rev (a:E)
 | call (f:Fn) (es:Es)
 | callB (f:Fn) (es:Es)
 | bi (b:Bi) (es:Es)
 | isi (a:E) (k:Kd)
 | comp0 (nl:Nat) (fr:List Nat) (tg:Tg) (it:It) (elt:E)
inductive Es where
 | nil
 | cons (e:E) (r:Es)
inductive It where
 | seq (e:E)
 | seqL (e:E)
 | r1 (a:E)
 | r2 (a b:E)
end
noncomputable def get (δ:Fr) (i:Nat):Res D:=match δ[i]? with
 | some (some d)=>.ok d
 | _=>.bad
noncomputable def on1:List D->(D->Res D)->Res D
 | [a],f=>f a
 | _,_=>.bad
noncomputable def on2:List D->(D->D->Res D)->Res D
 | [a,b],f=>f a b
 | _,_=>.bad
noncomputable def on3:List D->(D->D->D->Res D)->Res D
 | [a,b,c],f=>f a b c
 | _,_=>.bad
noncomputable def DB:D->(Int->Res D)->Res D
 | .int i,f=>f i
 | _,_=>.bad
noncomputable def BA (a b:D) (f:Int->Int->Res D):Res D:=DB a fun i=>DB b fun j=>f i j
noncomputable def Dh:D->(List D->Res D)->Res D
 | .lst ds,f=>f ds
 | .tup ds,f=>f ds
 | _,_=>.bad
noncomputable def K2:D->D->Res D
 | .int i,.int j=>.ok (.int (i + j))
 | .lst a,.lst b=>if a.length + b.length<=LIM then .ok (.lst (a ++ b)) else .bad
 | .str a,.str b=>if a.length + b.length<=LIM then .ok (.str (a ++ b)) else .bad
 | _,_=>.bad
noncomputable def IF:D->D->Res D
 | .int i,.int j=>if (-(2 ^ 64) < i/\i < 2 ^ 64)\/(-(2 ^ 64) < j/\j < 2 ^ 64) then .ok (.int (i * j)) else if i.natAbs < 2 ^ 400/\j.natAbs < 2 ^ 400 then .ok (.int (i * j)) else .bad
 | .lst a,.int k=>if -(2 ^ 63)<=k/\k < 2 ^ 63/\a.length * k.toNat<=LIM then .ok (.lst (aam k.toNat a).flatten) else .bad
 | _,_=>.bad
noncomputable def b2:B2->D->D->Res D
 | .add,a,b=>K2 a b
 | .sub,a,b=>BA a b fun i j=>.ok (.int (i - j))
 | .mul,a,b=>IF a b
 | .fdiv,a,b=>BA a b fun i j=>if 0 < j/\j < 2 ^ 200 then .ok (.int (i / j)) else .bad
 | .mod,a,b=>BA a b fun i j=>if 0 < j then .ok (.int (i % j)) else .bad
 | .pow,a,b=>BA a b fun i j=>if 0<=j/\j<=1000000/\i.natAbs < 2 ^ 64 then .ok (.int (i ^ j.toNat)) else .bad
noncomputable def D.scal:D->Bool
 | .non | .bl _ | .int _ | .str _=>true
 | _=>false
noncomputable def inD (x:D) (ys:List D):Res Bool:=if D.shp 8 x && ys.all (D.shp 8) then .ok (ys.any fun y=>D.eqv y x) else .bad
noncomputable def c2:C2->D->D->Res D
 | .lt,a,b=>BA a b fun i j=>.ok (.bl (decide (i < j)))
 | .le,a,b=>BA a b fun i j=>.ok (.bl (decide (i<=j)))
 | .gt,a,b=>BA a b fun i j=>.ok (.bl (decide (j < i)))
 | .ge,a,b=>BA a b fun i j=>.ok (.bl (decide (j<=i)))
 | .eq,x,y=>if D.shp 8 x && D.shp 8 y then .ok (.bl (D.eqv x y)) else .bad
 | .ne,x,y=>if D.shp 8 x && D.shp 8 y then .ok (.bl (!D.eqv x y)) else .bad
 | .inn,x,y=>Dh y fun ys=>(inD x ys).bind fun b=>.ok (.bl b)
 | .nin,x,y=>Dh y fun ys=>(inD x ys).bind fun b=>.ok (.bl !b)
noncomputable def ixN (n:Nat) (i:Int):Option Nat:=if 0<=i then (if i < n then some i.toNat else none) else if -(n:Int)<=i then some (i + n).toNat else none
noncomputable def atD (ds:List D) (i:Int):Res D:=match (ixN ds.length i).bind (fun j=>ds[j]?) with
 | some d=>.ok d
 | none=>.bad
noncomputable def ixD:D->D->Res D
 | .lst ds,.int i=>atD ds i
 | .tup ds,.int i=>atD ds i
 | _,_=>.bad
noncomputable def DY:D->D->Res D
 | .lst ds,.int i=>atD ds i
 | _,_=>.bad
noncomputable def ES:D->D->Res D
 | .tup ds,.int i=>atD ds i
 | _,_=>.bad
noncomputable def sIx (n d:Nat):Option Int->Nat
 | none=>d
 | some v=>(if v < 0 then max (v + (n:Int)) 0 else min v (n:Int)).toNat
noncomputable def cut {α:Type} (xs:List α) (lo hi:Option Int):List α:=(xs.drop (sIx xs.length 0 lo)).take (sIx xs.length xs.length hi - sIx xs.length 0 lo)
noncomputable def CQ:D->Res (Option Int)
 | .int i=>.ok (some i)
 | _=>.bad
noncomputable def Ci (n:Bool) (r:Res D):Res (Option Int):=if n then .ok none else r.bind CQ
noncomputable def E.isCN:E->Bool
 | .cN=>true
 | _=>false
noncomputable def CS:D->Option Int->Option Int->Res D
 | .lst ds,lo,hi=>.ok (.lst (cut ds lo hi))
 | .tup ds,lo,hi=>if ds.all D.scal=true/\¬ (sIx ds.length 0 lo=0/\sIx ds.length ds.length hi=ds.length) then .ok (.tup (cut ds lo hi)) else .bad
 | _,_,_=>.bad
noncomputable def CC:D->Res Bool
 | .non=>.ok false
 | .bl b=>.ok b
 | .int i=>.ok (i != 0)
 | .lst ds=>.ok (!ds.isEmpty)
 | .tup ds=>.ok (!ds.isEmpty)
 | _=>.bad
noncomputable def isa (c d:Nat):Bool:=c==d || d==0
noncomputable def dI:D->Bool
 | .int _=>true
 | .bl _=>true
 | _=>false
noncomputable def dB:D->Bool
 | .bl _=>true
 | _=>false
noncomputable def dS:D->Bool
 | .str _=>true
 | _=>false
noncomputable def dL:D->Bool
 | .lst _=>true
 | _=>false
noncomputable def dT':D->Bool
 | .tup _=>true
 | _=>false
noncomputable def dD:D->Bool
 | .exn c=>c==999
 | _=>false
noncomputable def dX:D->(Nat->Bool)->Res Bool
 | .exn c,f=>if c==999 then .bad else .ok (f c)
 | _,_=>.bad
noncomputable def CJ (d:D):Kd->Res Bool
 | .int=>.ok (dI d)
 | .bool=>.ok (dB d)
 | .str=>.ok (dS d)
 | .list=>.ok (dL d)
 | .tuple=>.ok (dT' d)
 | .dict=>.ok (dD d)
 | .verr=>dX d fun _=>true
 | .cls n=>dX d fun c=>isa c n
noncomputable def CT:List D->Option (List Int)
 | []=>some []
 | .int i :: r=>(CT r).map (i :: ·)
 | _=>none
noncomputable def J9:List D->Option (List Bool)
 | []=>some []
 | .bl i :: r=>(J9 r).map (i :: ·)
 | _=>none
noncomputable def Ff {α:Type}:Option α->Res α
 | some a=>.ok a
 | none=>.bad
noncomputable def Dt:D->(List Int->Res D)->Res D
 | .lst ds,f=>(Ff (CT ds)).bind f
 | _,_=>.bad
noncomputable def CU:D->(List Bool->Res D)->Res D
 | .lst ds,f=>(Ff (J9 ds)).bind f
 | _,_=>.bad
noncomputable def ET:D->(List D->Res D)->Res D
 | .lst ds,f=>f ds
 | _,_=>.bad
noncomputable def Em:D->Res D
 | .int i=>.ok (.int i)
 | .bl b=>.ok (.int (if b then 1 else 0))
 | _=>.bad
noncomputable def biD:Bi->List D->Res D
 | .len,ds=>on1 ds fun d=>Dh d fun ds=>.ok (.int ds.length)
 | .min,ds=>on2 ds fun a b=>BA a b fun i j=>.ok (.int (min i j))
 | .max,ds=>on2 ds fun a b=>BA a b fun i j=>.ok (.int (max i j))
 | .maxL,ds=>on1 ds fun d=>Dt d fun ns=>(Ff ns.max?).bind fun n=>.ok (.int n)
 | .int,ds=>on1 ds Em
 | .list,ds=>on1 ds fun d=>Dh d fun ds=>.ok (.lst ds)
noncomputable def Ew:List Nat->List D->Fr->Option Fr
 | [],[],δ=>some δ
 | i :: is,d :: ds,δ=>Ew is ds (δ.set i (some d))
 | _,_,_=>none
noncomputable def DH:Tg->D->Fr->Option Fr
 | .nm i,d,δ=>some (δ.set i (some d))
 | .tp is,.tup ds,δ=>Ew is ds δ
 | .tp is,.lst ds,δ=>Ew is ds δ
 | _,_,_=>none
noncomputable def Bl (f:D->Res (Option D)):List D->Res (List D)
 | []=>.ok []
 | d :: ds=>match f d with
  | .ok o=>(Bl f ds).bind fun r=>.ok (match o with | some x=>x :: r | none=>r)
  | _=>.bad
noncomputable def blk (nl:Nat) (fr:List Nat) (δ:Fr):Fr:=aam nl none ++ fr.map fun j=>(δ[j]?).join
noncomputable def Ao (a b:Int):List D:=(aax (b - a).toNat).map fun (i:Nat)=>D.int (a + i)
noncomputable def Du:D->Res (List D)
 | .lst ds=>.ok ds
 | .tup ds=>.ok ds
 | _=>.bad
noncomputable def Cr:D->Res (List D)
 | .lst ds=>.ok ds
 | _=>.bad
noncomputable def Fg (i:Int):Bool:=decide (-(2 ^ 62)<=i) && decide (i < 2 ^ 62)
noncomputable def Ny:D->D->Res (List D)
 | .int a,.int b=>if Fg a && Fg b && decide ((b - a).toNat<=LIM) then .ok (Ao a b) else .bad
 | _,_=>.bad
mutual
noncomputable def ev:E->Fr->Res D
 | .nm i,δ=>get δ i
 | .cN,_=>.ok .non
 | .cB b,_=>.ok (.bl b)
 | .cI i,_=>.ok (.int i)
 | .cS x,_=>.ok (.str x)
 | .gl _ d,_=>.ok d
 | .tup es,δ=>(evs es δ).bind fun ds=>.ok (.tup ds)
 | .lst es,δ=>(evs es δ).bind fun ds=>.ok (.lst ds)
 | .bin o a b,δ=>(ev a δ).bind fun x=>(ev b δ).bind fun y=>b2 o x y
 | .neg a,δ=>(ev a δ).bind fun x=>match x with | .int i=>.ok (.int (-i)) | _=>.bad
 | .not a,δ=>(ev a δ).bind fun x=>match x with | .bl b=>.ok (.bl !b) | _=>.bad
 | .cmp o a b,δ=>(ev a δ).bind fun x=>(ev b δ).bind fun y=>c2 o x y
 | .chain o o' a b c,δ=>(ev a δ).bind fun x=>(ev b δ).bind fun y=>(c2 o x y).bind fun r=>match r with
  | .bl true=>(ev c δ).bind fun z=>c2 o' y z
  | .bl false=>.ok (.bl false)
  | _=>.bad
 | .isN n a,δ=>(ev a δ).bind fun x=>.ok (.bl (match x with | .non=>!n | _=>n))
 | .bo k es,δ=>evBo k es δ
 | .ix a i,δ=>(ev a δ).bind fun x=>(ev i δ).bind fun y=>ixD x y
 | .ixL a i,δ=>(ev a δ).bind fun x=>(ev i δ).bind fun y=>DY x y
 | .slc a lo hi,δ=>(ev a δ).bind fun x=>(Ci lo.isCN (ev lo δ)).bind fun l=>(Ci hi.isCN (ev hi δ)).bind fun h=>CS x l h
 | .rev a,δ=>(ev a δ).bind fun x=>match x with | .lst ds=>.ok (.lst ds.reverse) | _=>.bad
 | .call f es,δ=>(evs es δ).bind fun ds=>f.den ds
 | .callB f es,δ=>(evs es δ).bind fun ds=>(f.den ds).bind fun d=>if D.flat 9 f.dep d then .ok d else .bad
 | .bi b es,δ=>(evs es δ).bind fun ds=>biD b ds
 | .isi a k,δ=>(ev a δ).bind fun x=>(CJ x k).bind fun b=>.ok (.bl b)
 | .comp0 nl fr tg it elt,δ=>(evI it δ).bind fun ds=>(Bl (fun d=>match DH tg d (blk nl fr δ) with
   | some δ'=>(ev elt δ').bind fun x=>.ok (some x)
   | none=>.bad) ds).bind fun r=>.ok (.lst r)
noncomputable def evs:Es->Fr->Res (List D)
 | .nil,_=>.ok []
 | .cons e r,δ=>(ev e δ).bind fun x=>(evs r δ).bind fun xs=>.ok (x :: xs)
noncomputable def evBo (k:Bool):Es->Fr->Res D
 | .nil,_=>.bad
 | .cons e .nil,δ=>ev e δ
 | .cons e (.cons e' r),δ=>(ev e δ).bind fun x=>match x with
  | .bl c=>if c=k then evBo k (.cons e' r) δ else .ok (.bl c)
  | _=>.bad
noncomputable def evI:It->Fr->Res (List D)
 | .seq e,δ=>(ev e δ).bind Du
 | .seqL e,δ=>(ev e δ).bind Cr
 | .r1 a,δ=>(ev a δ).bind fun x=>Ny (.int 0) x
 | .r2 a b,δ=>(ev a δ).bind fun x=>(ev b δ).bind fun y=>Ny x y
end
noncomputable def tv (e:E) (δ:Fr):Res Bool:=(ev e δ).bind CC
inductive Um where
 | append | extend | insert | pop | popAt | clear | reverse
 deriving DecidableEq
mutual
inductive S where
 | asg (x:Nat) (k:Nat) (e:E)
 | dem (x:Nat) (k:Nat)
 | dead (x:Nat)
 | asgT (xs:List Nat) (e:E)
 | mut (x:Nat) (path:List (Bool × E)) (m:Um) (es:Es)
 | expr (e:E)
 | iff (c:E) (a b:Ss)
 | wh (c:E) (b:Ss)
 | for_ (tg:Tg) (it:It) (b:Ss)
 | ret (e:E)
 | retT (es:Es)
 | raise (c:Nat) (es:Es)
 | eachZ (x z y:Nat) (e:E)
inductive Ss where
 | nil
 | cons (s:S) (r:Ss)
end
inductive Out where
 | nxt (δ:Fr)
 | ret (d:D)
 | exc (c:Nat) (δ:Fr)
 | bad
noncomputable def evP:List (Bool × E)->Fr->Res (List (Bool × Int))
 | [],_=>.ok []
 | (t,e) :: r,δ=>match ev e δ with
  | .ok (.int i)=>(evP r δ).bind fun is=>.ok ((t,i) :: is)
  | _=>.bad
noncomputable def BB (f:List D->Option (List D)):List (Bool × Int)->D->Option D
 | [],.lst ds=>(f ds).map D.lst
 | (false,i) :: r,.lst ds=>(ixN ds.length i).bind fun j=>(ds[j]?).bind fun d=>(BB f r d).map fun d'=>.lst (ds.set j d')
 | (true,i) :: r,.tup ds=>(ixN ds.length i).bind fun j=>(ds[j]?).bind fun d=>(BB f r d).map fun d'=>.tup (ds.set j d')
 | _,_=>none
noncomputable def Fh (n:Nat) (i:Int):Nat:=(if i < 0 then max (i + (n:Int)) 0 else min i (n:Int)).toNat
noncomputable def un1 {α:Type}:List D->(D->Option α)->Option α
 | [d],f=>f d
 | _,_=>none
noncomputable def un0 {α:Type}:List D->Option α->Option α
 | [],r=>r
 | _,_=>none
noncomputable def Sk (ds:List D):D->Option (List D)
 | .lst es=>if ds.length + es.length<=LIM then some (ds ++ es) else none
 | _=>none
noncomputable def Om (ds:List D):List D->Option (List D)
 | [.int i,d]=>if ds.length < LIM/\-(2 ^ 63)<=i/\i < 2 ^ 63 then some (ds.take (Fh ds.length i) ++ d :: ds.drop (Fh ds.length i)) else none
 | _=>none
noncomputable def Ka (ds:List D):D->Option (List D)
 | .int i=>if -(2 ^ 63)<=i/\i < 2 ^ 63 then (ixN ds.length i).map fun j=>ds.eraseIdx j else none
 | _=>none
noncomputable def umD:Um->List D->List D->Option (List D)
 | .append,es,ds=>un1 es fun d=>if ds.length < LIM then some (ds ++ [d]) else none
 | .extend,es,ds=>un1 es (Sk ds)
 | .insert,es,ds=>Om ds es
 | .pop,es,ds=>un0 es (if ds=[] then none else some ds.dropLast)
 | .popAt,es,ds=>un1 es (Ka ds)
 | .clear,es,_=>un0 es (some [])
 | .reverse,es,ds=>un0 es (some ds.reverse)
noncomputable def upd (δ:Fr) (x:Nat) (f:D->Option D):Out:=match δ[x]? with
 | some (some d)=>match f d with
  | some d'=>.nxt (δ.set x (some d'))
  | none=>.bad
 | _=>.bad
noncomputable def Res.out {α:Type} (r:Res α) (δ:Fr) (f:α->Out):Out:=match r with
 | .ok a=>f a
 | .exc c=>.exc c δ
 | .bad=>.bad
@[simp] theorem Res.out_ok {α:Type} (a:α) (δ:Fr) (f:α->Out):(Res.ok a).out δ f=f a:=rfl
@[simp] theorem Res.out_exc {α:Type} (c:Nat) (δ:Fr) (f:α->Out):(Res.exc c:Res α).out δ f=.exc c δ:=rfl
@[simp] theorem Res.out_bad {α:Type} (δ:Fr) (f:α->Out):(Res.bad:Res α).out δ f=.bad:=rfl
noncomputable def Out.then (o:Out) (f:Fr->Out):Out:=match o with
 | .nxt δ=>f δ
 | .ret d=>.ret d
 | .exc c δ=>.exc c δ
 | .bad=>.bad
@[simp] theorem Out.then_nxt (δ:Fr) (f:Fr->Out):(Out.nxt δ).then f=f δ:=rfl
@[simp] theorem Out.then_ret (d:D) (f:Fr->Out):(Out.ret d).then f=.ret d:=rfl
@[simp] theorem Out.then_exc (c:Nat) (δ:Fr) (f:Fr->Out):(Out.exc c δ).then f=.exc c δ:=rfl
@[simp] theorem Out.then_bad (f:Fr->Out):Out.bad.then f=.bad:=rfl
noncomputable def AM (c:Fr->Res Bool) (b:Fr->Out):Nat->Fr->Out
 | 0,_=>.bad
 | n + 1,δ=>(c δ).out δ fun t=>if t then (b δ).then (AM c b n) else .nxt δ
noncomputable def AU (tg:Tg) (b:Fr->Out):List D->Fr->Out
 | [],δ=>.nxt δ
 | d :: ds,δ=>match DH tg d δ with
  | some δ'=>(b δ').then (AU tg b ds)
  | none=>.bad
noncomputable def FU:Nat:=1073741824
noncomputable def Fi:D->(List D->Out)->Out
 | .lst ds,f=>f ds
 | _,_=>.bad
noncomputable def BC (x z y:Nat):List D->Nat->Fr->Out
 | [],_,δ=>.nxt δ
 | d :: es,i,δ=>match δ[y]? with
  | some (some (.lst ds))=>match ds[i]? with
   | none=>.nxt δ
   | some r=>Fi r fun rs=>Fi d fun us=>if rs.length + us.length<=LIM then BC x z y es (i + 1) (((δ.set x (some r)).set z (some d)).set y (some (.lst (ds.set i (.lst us))))) else .bad
  | _=>.bad
mutual
noncomputable def ex:S->Fr->Out
 | .dem _ _,δ=>.nxt δ
 | .dead _,δ=>.nxt δ
 | .asg x _ e,δ=>(ev e δ).out δ fun d=>.nxt (δ.set x (some d))
 | .asgT xs e,δ=>(ev e δ).out δ fun d=>match DH (.tp xs) d δ with
  | some δ'=>.nxt δ'
  | none=>.bad
 | .mut x p m es,δ=>match evP p δ,evs es δ with
  | .ok q,.ok ds=>upd δ x (BB (umD m ds) q)
  | _,_=>.bad
 | .expr e,δ=>(ev e δ).out δ fun _=>.nxt δ
 | .iff c a b,δ=>(tv c δ).out δ fun t=>if t then exs a δ else exs b δ
 | .wh c b,δ=>AM (tv c) (exs b) FU δ
 | .for_ tg it b,δ=>(evI it δ).out δ fun ds=>AU tg (exs b) ds δ
 | .ret e,δ=>(ev e δ).out δ fun d=>.ret d
 | .retT es,δ=>(evs es δ).out δ fun ds=>.ret (.tup ds)
 | .raise c es,δ=>(evs es δ).out δ fun _=>.exc c δ
 | .eachZ x z y e,δ=>(get δ y).out δ fun d0=>Fi d0 fun _=>(ev e δ).out δ fun d=>Fi d fun es=>BC x z y es 0 δ
noncomputable def exs:Ss->Fr->Out
 | .nil,δ=>.nxt δ
 | .cons s r,δ=>(ex s δ).then (exs r)
end
noncomputable def AL (n:Nat) (ds:List D):Fr:=ds.map some ++ aam (n - ds.length) none
noncomputable def run (n:Nat) (b:Ss) (ds:List D):Res D:=match exs b (AL n ds) with
 | .nxt _=>.ok .non
 | .ret d=>.ok d
 | .exc c _=>.exc c
 | .bad=>.bad
end Pu
end
section
namespace Pu
open PySem PySem.W L2
inductive T where
 | non
 | bl (b:Bool)
 | int (i:Int)
 | str (x:Str)
 | tup (a:Addr) (ts:List T)
 | lst (a:Addr) (ts:List T)
 | exn (a:Addr) (c:Nat)
noncomputable def T.val:T->V
 | .non=>.non
 | .bl b=>.bl b
 | .int i=>.int i
 | .str x=>.str x
 | .tup a _=>.ref a
 | .lst a _=>.ref a
 | .exn a _=>.ref a
mutual
noncomputable def T.dat:T->D
 | .non=>.non
 | .bl b=>.bl b
 | .int i=>.int i
 | .str x=>.str x
 | .tup _ ts=>.tup (T.dats ts)
 | .lst _ ts=>.lst (T.dats ts)
 | .exn _ c=>.exn c
noncomputable def T.dats:List T->List D
 | []=>[]
 | t :: r=>t.dat :: T.dats r
end
theorem T.dats_map:∀ ts:List T,T.dats ts=ts.map T.dat
 | []=>rfl
 | t :: r=>by simp [T.dats,T.dats_map r]
structure Px where
 K:Frag
 cl:Nat->Addr
 has:Nat->Bool
noncomputable def exO (p:Px) (a:Addr) (c:Nat):HO:=if c=999 then dO a else xO a (p.cl c)
theorem QY {p:Px} {a:Addr} {c:Nat} (vs:List V):exO p a c ≠ .lst vs:=by
 unfold exO
 split
 ·intro e; cases e
 ·intro e; cases e
mutual
noncomputable def T.Ok (p:Px) (H:Hp):T->Prop
 | .tup a ts=>H a=some (.tup (ts.map T.val))/\T.Oks p H ts
 | .lst a ts=>Rd H a (.lst (ts.map T.val))/\T.Oks p H ts
 | .exn a c=>H a=some (exO p a c)/\(c=999\/p.has c=true)
 | .non=>True
 | .bl _=>True
 | .int _=>True
 | .str _=>True
noncomputable def T.Oks (p:Px) (H:Hp):List T->Prop
 | []=>True
 | t :: r=>t.Ok p H/\T.Oks p H r
noncomputable def T.adr:T->Nat->List Addr
 | .tup _ ts,k=>T.adrs ts k
 | .lst _ _,0=>[]
 | .lst a ts,k + 1=>a :: T.adrs ts k
 | .non,_=>[]
 | .bl _,_=>[]
 | .int _,_=>[]
 | .str _,_=>[]
 | .exn _ _,_=>[]
noncomputable def T.adrs:List T->Nat->List Addr
 | [],_=>[]
 | t :: r,k=>t.adr k ++ T.adrs r k
noncomputable def T.rest:T->Nat->List Addr
 | .tup _ ts,k=>T.rests ts k
 | .lst a ts,0=>a :: T.rests ts 0
 | .lst _ ts,k + 1=>T.rests ts k
 | .non,_=>[]
 | .bl _,_=>[]
 | .int _,_=>[]
 | .str _,_=>[]
 | .exn _ _,_=>[]
noncomputable def T.rests:List T->Nat->List Addr
 | [],_=>[]
 | t :: r,k=>t.rest k ++ T.rests r k
end
theorem T.ind {P:T->Prop} (h0:P .non) (h1:∀ b,P (.bl b)) (h2:∀ i,P (.int i)) (h3:∀ x,P (.str x)) (h4:∀ a ts,(∀ t ∈ ts,P t)->P (.tup a ts)) (h5:∀ a ts,(∀ t ∈ ts,P t)->P (.lst a ts)) (h6:∀ a c,P (.exn a c)):∀ t,P t
 | .non=>h0
 | .bl b=>h1 b
 | .int i=>h2 i
 | .str x=>h3 x
 | .tup a ts=>h4 a ts fun t h=>T.ind h0 h1 h2 h3 h4 h5 h6 t
 | .lst a ts=>h5 a ts fun t h=>T.ind h0 h1 h2 h3 h4 h5 h6 t
 | .exn a c=>h6 a c
termination_by t=>t
theorem T.oks_iff {p:Px} {H:Hp}:∀ {ts:List T},T.Oks p H ts ↔ ∀ t ∈ ts,t.Ok p H
 | []=>by simp [T.Oks]
 | t :: r=>by simp [T.Oks,T.oks_iff (ts:=r)]
theorem T.mem_adrs {a:Addr} {k:Nat}:∀ {ts:List T},a ∈ T.adrs ts k ↔ ∃ t ∈ ts,a ∈ t.adr k
 | []=>by simp [T.adrs]
 | t :: r=>by simp [T.adrs,T.mem_adrs (ts:=r)]
theorem T.mem_rests {a:Addr} {k:Nat}:∀ {ts:List T},a ∈ T.rests ts k ↔ ∃ t ∈ ts,a ∈ t.rest k
 | []=>by simp [T.rests]
 | t :: r=>by simp [T.rests,T.mem_rests (ts:=r)]
theorem T.adrs_append {k:Nat}:∀ {ts us:List T},T.adrs (ts ++ us) k=T.adrs ts k ++ T.adrs us k
 | [],us=>by simp [T.adrs]
 | t :: r,us=>by simp [T.adrs,T.adrs_append (ts:=r)]
theorem T.rests_append {k:Nat}:∀ {ts us:List T},T.rests (ts ++ us) k=T.rests ts k ++ T.rests us k
 | [],us=>by simp [T.rests]
 | t :: r,us=>by simp [T.rests,T.rests_append (ts:=r)]
theorem T.adr_zero:∀ t:T,t.adr 0=[]:=by
 refine T.ind rfl (fun _=>rfl) (fun _=>rfl) (fun _=>rfl) (fun a ts ih=>?_) (fun _ _ _=>by simp [T.adr]) (fun _ _=>rfl)
 simp only [T.adr]
 refine aaS.mpr fun b hb=>?_
 obtain ⟨t,ht,h⟩:=T.mem_adrs.mp hb
 rw [ih t ht] at h; cases h
theorem T.adrs_zero (ts:List T):T.adrs ts 0=[]:=by
 refine aaS.mpr fun b hb=>?_
 obtain ⟨t,ht,h⟩:=T.mem_adrs.mp hb
 rw [T.adr_zero] at h; cases h
theorem T.all_iff {a:Addr}:∀ (t:T) (k:Nat),a ∈ t.rest 0 ↔ a ∈ t.adr k\/a ∈ t.rest k:=by
 refine T.ind (by simp [T.rest,T.adr]) (by simp [T.rest,T.adr]) (by simp [T.rest,T.adr]) (by simp [T.rest,T.adr]) (fun b ts ih k=>?_) (fun b ts ih k=>?_) (by simp [T.rest,T.adr])
 ·simp only [T.rest,T.adr,T.mem_rests,T.mem_adrs]
  constructor
  ·rintro ⟨t,ht,h⟩
   rcases (ih t ht k).mp h with h | h
   ·exact .inl ⟨t,ht,h⟩
   ·exact .inr ⟨t,ht,h⟩
  ·rintro (⟨t,ht,h⟩ | ⟨t,ht,h⟩)
   ·exact ⟨t,ht,(ih t ht k).mpr (.inl h)⟩
   ·exact ⟨t,ht,(ih t ht k).mpr (.inr h)⟩
 ·cases k with
  | zero=>simp [T.adr]
  | succ k =>
   simp only [T.rest,T.adr,T.mem_rests,T.mem_adrs,aai]
   constructor
   ·rintro (h | ⟨t,ht,h⟩)
    ·exact .inl (.inl h)
    rcases (ih t ht k).mp h with h | h
    ·exact .inl (.inr ⟨t,ht,h⟩)
    ·exact .inr ⟨t,ht,h⟩
   ·rintro ((h | ⟨t,ht,h⟩) | ⟨t,ht,h⟩)
    ·exact .inl h
    ·exact .inr ⟨t,ht,(ih t ht k).mpr (.inl h)⟩
    ·exact .inr ⟨t,ht,(ih t ht k).mpr (.inr h)⟩
theorem T.alls_iff {a:Addr} (ts:List T) (k:Nat):a ∈ T.rests ts 0 ↔ a ∈ T.adrs ts k\/a ∈ T.rests ts k:=by
 simp only [T.mem_rests,T.mem_adrs]
 constructor
 ·rintro ⟨t,ht,h⟩
  rcases (T.all_iff t k).mp h with h | h
  ·exact .inl ⟨t,ht,h⟩
  ·exact .inr ⟨t,ht,h⟩
 ·rintro (⟨t,ht,h⟩ | ⟨t,ht,h⟩)
  ·exact ⟨t,ht,(T.all_iff t k).mpr (.inl h)⟩
  ·exact ⟨t,ht,(T.all_iff t k).mpr (.inr h)⟩
theorem T.rest_le {a:Addr}:∀ (t:T) {j j':Nat},j<=j'->a ∈ t.rest j'->a ∈ t.rest j:=by
 refine T.ind (by simp [T.rest]) (by simp [T.rest]) (by simp [T.rest]) (by simp [T.rest]) (fun b ts ih j j' hj h=>?_) (fun b ts ih j j' hj h=>?_) (by simp [T.rest])
 ·simp only [T.rest,T.mem_rests] at h ⊢
  obtain ⟨t,ht,h⟩:=h
  exact ⟨t,ht,ih t ht hj h⟩
 ·cases j' with
  | zero=>cases Nat.le_zero.mp hj; exact h
  | succ j' =>
   simp only [T.rest,T.mem_rests] at h
   obtain ⟨t,ht,h⟩:=h
   cases j with
   | zero=>exact aaa _ (T.mem_rests.mpr ⟨t,ht,ih t ht (aar _) h⟩)
   | succ j=>exact T.mem_rests.mpr ⟨t,ht,ih t ht (abI hj) h⟩
theorem T.adr_le {a:Addr}:∀ (t:T) {j j':Nat},j<=j'->a ∈ t.adr j->a ∈ t.adr j':=by
 refine T.ind (by simp [T.adr]) (by simp [T.adr]) (by simp [T.adr]) (by simp [T.adr]) (fun b ts ih j j' hj h=>?_) (fun b ts ih j j' hj h=>?_) (by simp [T.adr])
 ·simp only [T.adr,T.mem_adrs] at h ⊢
  obtain ⟨t,ht,h⟩:=h
  exact ⟨t,ht,ih t ht hj h⟩
 ·cases j with
  | zero=>simp [T.adr] at h
  | succ j =>
   cases j' with
   | zero=>omega
   | succ j' =>
    simp only [T.adr,aai,T.mem_adrs] at h ⊢
    rcases h with h | ⟨t,ht,h⟩
    ·exact .inl h
    ·exact .inr ⟨t,ht,ih t ht (abI hj) h⟩
noncomputable def T.Nd (t:T) (k:Nat):Prop:=(t.adr k).Nodup/\∀ a ∈ t.rest k,a ∉ t.adr k
noncomputable def T.Nds (ts:List T) (k:Nat):Prop:=(T.adrs ts k).Nodup/\∀ a ∈ T.rests ts k,a ∉ T.adrs ts k
theorem T.nd_zero (t:T):t.Nd 0:=by unfold T.Nd; rw [T.adr_zero]; exact ⟨List.nodup_nil,fun _ _ h=>nomatch h⟩
theorem T.nds_zero (ts:List T):T.Nds ts 0:=by unfold T.Nds; rw [T.adrs_zero]; exact ⟨List.nodup_nil,fun _ _ h=>nomatch h⟩
theorem T.nds_cons {t:T} {r:List T} {k:Nat}:T.Nds (t :: r) k ↔ t.Nd k/\T.Nds r k/\(∀ a ∈ t.adr k,a ∉ T.rests r 0)/\(∀ a ∈ T.adrs r k,a ∉ t.rest 0):=by
 unfold T.Nds T.Nd
 simp only [T.adrs,T.rests,acH,aaf]
 constructor
 ·rintro ⟨⟨n1,n2,n3⟩,h⟩
  refine ⟨⟨n1,fun a ha hb=>h a (.inl ha) (.inl hb)⟩,⟨n2,fun a ha hb=>h a (.inr ha) (.inr hb)⟩,fun a ha hb=>?_,fun a ha hb=>?_⟩
  ·rcases (T.alls_iff r k).mp hb with q | q
   ·exact n3 a ha a q rfl
   ·exact h a (.inr q) (.inl ha)
  ·rcases (T.all_iff t k).mp hb with q | q
   ·exact n3 a q a ha rfl
   ·exact h a (.inl q) (.inr ha)
 ·rintro ⟨⟨n1,h1⟩,⟨n2,h2⟩,c1,c2⟩
  refine ⟨⟨n1,n2,fun a ha b hb e=>?_⟩,fun a ha hb=>?_⟩
  ·subst e
   exact c1 a ha ((T.alls_iff r k).mpr (.inl hb))
  ·rcases ha with ha | ha <;> rcases hb with hb | hb
   ·exact h1 a ha hb
   ·exact c2 a hb ((T.all_iff t k).mpr (.inr ha))
   ·exact c1 a hb ((T.alls_iff r k).mpr (.inr ha))
   ·exact h2 a ha hb
theorem T.nd_down:∀ (t:T) {k:Nat},t.Nd (k + 1)->t.Nd k:=by
 have lists:∀ (ts:List T),(∀ t ∈ ts,∀ {k:Nat},t.Nd (k + 1)->t.Nd k)->∀ {k:Nat},T.Nds ts (k + 1)->T.Nds ts k:=by
  intro ts
  induction ts with
  | nil=>intro _ k _; exact ⟨by simp [T.adrs],by simp [T.rests]⟩
  | cons t r ih =>
   intro h k n
   obtain ⟨n1,n2,c1,c2⟩:=T.nds_cons.mp n
   exact T.nds_cons.mpr ⟨h t (aac ..) n1,ih (fun u hu=>h u (aaa _ hu)) n2,fun a ha=>c1 a (T.adr_le t (ach k) ha),fun a ha=>c2 a (by
    obtain ⟨u,hu,hq⟩:=T.mem_adrs.mp ha
    exact T.mem_adrs.mpr ⟨u,hu,T.adr_le u (ach k) hq⟩)⟩
 refine T.ind (fun _=>by simp [T.Nd,T.adr]) (fun _ _=>by simp [T.Nd,T.adr]) (fun _ _=>by simp [T.Nd,T.adr]) (fun _ _=>by simp [T.Nd,T.adr]) (fun a ts ih k n=>?_) (fun a ts ih k n=>?_) (fun _ _ _=>by simp [T.Nd,T.adr])
 ·exact lists ts ih n
 ·cases k with
  | zero=>exact T.nd_zero _
  | succ k =>
   obtain ⟨n1,n2⟩:=n
   simp only [T.adr,T.rest,aaC] at n1 n2
   have:=lists ts ih (k:=k) ⟨n1.2,fun b hb hc=>n2 b hb (aaa _ hc)⟩
   refine ⟨?_,?_⟩
   ·simp only [T.adr,aaC]
    refine ⟨fun h=>n1.1 ?_,this.1⟩
    obtain ⟨u,hu,hq⟩:=T.mem_adrs.mp h
    exact T.mem_adrs.mpr ⟨u,hu,T.adr_le u (ach k) hq⟩
   ·intro b hb hc
    simp only [T.adr,T.rest,aai] at hb hc
    rcases hc with rfl | hc
    ·have h0:=(T.alls_iff ts (k + 1)).mp ((T.alls_iff ts k).mpr (.inr hb))
     rcases h0 with h0 | h0
     ·exact n1.1 h0
     ·exact n2 b h0 (aac ..)
    ·exact this.2 b hb hc
theorem T.nd_le (t:T) {k k':Nat} (h:k<=k') (n:t.Nd k'):t.Nd k:=by
 induction k' with
 | zero=>cases Nat.le_zero.mp h; exact n
 | succ k' ih =>
  rcases abG k (k' + 1) with q | q
  ·exact ih (Nat.le_of_lt_succ q) (T.nd_down t n)
  ·cases acf h q; exact n
theorem T.nds_le {ts:List T} {k k':Nat} (h:k<=k') (n:T.Nds ts k'):T.Nds ts k:=by
 have:=T.nd_le (.tup 0 ts) h (k':=k') n
 exact this
theorem T.Ok.keep' {p:Px} {H H':Hp}:∀ (t:T),(∀ a u,H a=some u->(a ∈ t.rest 0\/∀ vs,u ≠ .lst vs)->H' a=some u)->t.Ok p H->t.Ok p H':=by
 refine T.ind (P:=fun t=>(∀ a u,H a=some u->(a ∈ t.rest 0\/∀ vs,u ≠ .lst vs)->H' a=some u)->t.Ok p H->t.Ok p H') (fun _ h=>h) (fun _ _ h=>h) (fun _ _ h=>h) (fun _ _ h=>h) (fun a ts ih k h=>?_) (fun a ts ih k h=>?_) (fun a c k h=>?_)
 ·obtain ⟨h1,h2⟩:=h
  refine ⟨k _ _ h1 (.inr fun vs e=>nomatch e),T.oks_iff.mpr fun t ht=>ih t ht (fun b u e q=>k b u e ?_) (T.oks_iff.mp h2 t ht)⟩
  rcases q with q | q
  ·exact .inl (T.mem_rests.mpr ⟨t,ht,q⟩)
  ·exact .inr q
 ·obtain ⟨h1,h2⟩:=h
  refine ⟨?_,T.oks_iff.mpr fun t ht=>ih t ht (fun b u e q=>k b u e ?_) (T.oks_iff.mp h2 t ht)⟩
  ·rcases h1 with h1 | ⟨o,h1⟩
   ·exact .inl (k _ _ h1 (.inl (aac ..)))
   ·exact .inr ⟨o,k _ _ h1 (.inl (aac ..))⟩
  ·rcases q with q | q
   ·exact .inl (aaa _ (T.mem_rests.mpr ⟨t,ht,q⟩))
   ·exact .inr q
 ·exact ⟨k _ _ h.1 (.inr QY),h.2⟩
theorem T.Ok.keep {p:Px} {H H':Hp} {t:T} (k:∀ a u,H a=some u->(a ∈ t.rest 0\/∀ vs,u ≠ .lst vs)->H' a=some u) (h:t.Ok p H):t.Ok p H':=T.Ok.keep' t k h
theorem T.Ok.same {p:Px} {H H':Hp} {t:T} (s:Same H H') (h:t.Ok p H):t.Ok p H':=h.keep fun a u e _=>s a u e
theorem T.Oks.same {p:Px} {H H':Hp} {ts:List T} (s:Same H H') (h:T.Oks p H ts):T.Oks p H' ts:=T.oks_iff.mpr fun t ht=>(T.oks_iff.mp h t ht).same s
theorem T.Ok.at' {p:Px} {H:Hp} {a:Addr}:∀ (t:T),t.Ok p H->a ∈ t.rest 0->∃ vs,Rd H a (.lst vs):=by
 refine T.ind (P:=fun t=>t.Ok p H->a ∈ t.rest 0->∃ vs,Rd H a (.lst vs)) (fun _ h=>nomatch h) (fun _ _ h=>nomatch h) (fun _ _ h=>nomatch h) (fun _ _ h=>nomatch h) (fun b ts ih k h=>?_) (fun b ts ih k h=>?_) (fun _ _ _ h=>nomatch h)
 ·obtain ⟨t,ht,q⟩:=T.mem_rests.mp h
  exact ih t ht (T.oks_iff.mp k.2 t ht) q
 ·rcases aai.mp h with rfl | h
  ·exact ⟨_,k.1⟩
  ·obtain ⟨t,ht,q⟩:=T.mem_rests.mp h
   exact ih t ht (T.oks_iff.mp k.2 t ht) q
theorem T.Ok.at {p:Px} {H:Hp} {a:Addr} {t:T} (h:t.Ok p H) (m:a ∈ t.rest 0):∃ vs,Rd H a (.lst vs):=T.Ok.at' t h m
theorem OS {H:Hp} {a:Addr} {u:HO} (h:Rd H a u):H a ≠ none:=by
 rcases h with h | ⟨o,h⟩ <;> rw [h] <;> simp
theorem T.Ok.dom {p:Px} {H:Hp} {a:Addr} {t:T} (h:t.Ok p H) (m:a ∈ t.rest 0):H a ≠ none:=by
 obtain ⟨vs,r⟩:=h.at m
 exact OS r
theorem T.Ok.domk {p:Px} {H:Hp} {a:Addr} {t:T} {k:Nat} (h:t.Ok p H) (m:a ∈ t.adr k):H a ≠ none:=h.dom ((T.all_iff t k).mpr (.inl m))
end Pu
end
section
namespace Pu
open PySem PySem.Spec PyProof.Rows PySem.W L2
noncomputable def gj (c:Bool) (x:Nat × Nat):Option (Nat × Nat):=if c then some x else none
mutual
noncomputable def jk (tn:List Nat):E->Option (Nat × Nat)
 | .nm i=>match tn[i]? with
  | some j=>gj (decide (j < 90)) (j,0)
  | none=>none
 | .cN=>some (0,9)
 | .cB _=>some (0,9)
 | .cI _=>some (0,9)
 | .cS _=>some (0,9)
 | .gl _ d=>gj (D.scal d) (0,9)
 | .tup es=>jks tn es
 | .lst es=>(jks tn es).bind fun x=>some (if x.1=0 then (0,x.2 + 1) else (x.1 + 1,0))
 | .bin _ a b=>(jk tn a).bind fun x=>(jk tn b).bind fun y=>gj (decide (x.1<=1) && decide (y.1<=1)) (0,1)
 | .neg a=>(jk tn a).bind fun _=>some (0,9)
 | .not a=>(jk tn a).bind fun _=>some (0,9)
 | .cmp _ a b=>(jk tn a).bind fun _=>(jk tn b).bind fun _=>some (0,9)
 | .chain _ _ a b c=>(jk tn a).bind fun _=>(jk tn b).bind fun _=>(jk tn c).bind fun _=>some (0,9)
 | .isN _ a=>(jk tn a).bind fun _=>some (0,9)
 | .bo _ es=>jks tn es
 | .ix a i=>(jk tn a).bind fun x=>(jk tn i).bind fun _=>gj (decide (x.1=0)) (0,0)
 | .ixL a i=>(jk tn a).bind fun x=>(jk tn i).bind fun _=>some (x.1 - 1,0)
 | .slc a lo hi=>(jk tn a).bind fun x=>(jk tn lo).bind fun _=>(jk tn hi).bind fun _=>gj (decide (x.1<=1)) (0,1)
 | .rev a=>(jk tn a).bind fun x=>gj (decide (x.1<=1)) (0,1)
 | .call f es=>(jks tn es).bind fun x=>gj (decide (x.1=0)) (0,f.dep)
 | .callB f es=>(jks tn es).bind fun _=>some (0,9)
 | .bi b es=>(jks tn es).bind fun x=>match b with
  | .list=>gj (decide (x.1=0)) (0,1)
  | _=>some (0,9)
 | .isi a _=>(jk tn a).bind fun _=>some (0,9)
 | .comp0 nl fr _ it elt=>(jkI tn it).bind fun _=>(jk (aam nl 0 ++ fr.map fun j=>tn.getD j 99) elt).bind fun x=>gj (decide (x.1=0)) (0,x.2 + 1)
noncomputable def jks (tn:List Nat):Es->Option (Nat × Nat)
 | .nil=>some (0,9)
 | .cons e r=>(jk tn e).bind fun x=>(jks tn r).bind fun y=>some (max x.1 y.1,if max x.1 y.1=0 then min x.2 y.2 else 0)
noncomputable def jkI (tn:List Nat):It->Option Nat
 | .seq e=>(jk tn e).bind fun x=>if x.1=0 then some 0 else none
 | .seqL e=>(jk tn e).bind fun x=>if x.1<=1 then some x.1 else none
 | .r1 a=>(jk tn a).bind fun _=>some 0
 | .r2 a b=>(jk tn a).bind fun _=>(jk tn b).bind fun _=>some 0
end
noncomputable abbrev St:=L2.St
noncomputable abbrev Ft:=List (Option T)
noncomputable def vτ (τ:Ft):St:=τ.map (Option.map T.val)
noncomputable def dτ (τ:Ft):Fr:=τ.map (Option.map T.dat)
noncomputable def Fok (p:Px) (tn:List Nat) (τ:Ft) (H:Hp):Prop:=∀ (i:Nat) (t:T) (j:Nat),τ[i]?=some (some t)->tn[i]?=some j->j < 90->t.Ok p H
noncomputable def Sh (tn:List Nat) (τ:Ft) (a:Addr):Prop:=∃ (i:Nat) (t:T) (j:Nat),τ[i]?=some (some t)/\tn[i]?=some j/\j < 90/\a ∈ t.rest j
theorem Fok.same {p:Px} {tn:List Nat} {τ:Ft} {H H':Hp} (h:Fok p tn τ H) (s:Same H H'):Fok p tn τ H':=fun i t j e e' l=>(h i t j e e' l).same s
theorem Fok.dom {p:Px} {tn:List Nat} {τ:Ft} {H:Hp} (h:Fok p tn τ H) {a:Addr} (s:Sh tn τ a):H a ≠ none:=by
 obtain ⟨i,t,j,e,e',l,m⟩:=s
 exact (h i t j e e' l).dom (T.rest_le t (aar j) m)
theorem BZ {τ:Ft} {i:Nat} {t:T} (h:τ[i]?=some (some t)):(vτ τ)[i]?=some (some t.val):=by simp [vτ,h]
theorem Di {τ:Ft} {i:Nat} {d:D} (h:get (dτ τ) i=.ok d):∃ t,τ[i]?=some (some t)/\t.dat=d:=by
 unfold get dτ at h
 rw [aan] at h
 cases q:τ[i]? with
 | none=>rw [q] at h; cases h
 | some o =>
  rw [q] at h
  cases o with
  | none=>cases h
  | some t=>exact ⟨t,rfl,by simpa using h⟩
structure Rs (p:Px) (B:Addr->Prop) (H H':Hp) (j k:Nat) (t:T):Prop where
 same:Same H H'
 ok:t.Ok p H'
 src:∀ a ∈ t.rest j,H a=none\/B a
 new:∀ a ∈ t.adr k,H a=none/\∃ vs,H' a=some (.lst vs)
 nd:t.Nd k
structure RsL (p:Px) (B:Addr->Prop) (H H':Hp) (j k:Nat) (ts:List T):Prop where
 same:Same H H'
 ok:T.Oks p H' ts
 src:∀ a ∈ T.rests ts j,H a=none\/B a
 new:∀ a ∈ T.adrs ts k,H a=none/\∃ vs,H' a=some (.lst vs)
 nd:T.Nds ts k
theorem Rs.back {p:Px} {B:Addr->Prop} {H H1 H2:Hp} {j k:Nat} {t:T} (r:Rs p B H1 H2 j k t) (s:Same H H1):Rs p B H H2 j k t :=
 ⟨s.trans r.same,r.ok,fun a m=>(r.src a m).imp s.free id,fun a m=>⟨s.free (r.new a m).1,(r.new a m).2⟩,r.nd⟩
theorem Rs.fwd {p:Px} {B:Addr->Prop} {H H1 H2:Hp} {j k:Nat} {t:T} (r:Rs p B H H1 j k t) (s:Same H1 H2):Rs p B H H2 j k t :=
 ⟨r.same.trans s,r.ok.same s,r.src,fun a m=>⟨(r.new a m).1,let ⟨vs,e⟩:=(r.new a m).2; ⟨vs,s _ _ e⟩⟩,r.nd⟩
theorem Rs.le {p:Px} {B:Addr->Prop} {H H1:Hp} {j k j' k':Nat} {t:T} (r:Rs p B H H1 j k t) (hj:j<=j') (hk:k'<=k):Rs p B H H1 j' k' t :=
 ⟨r.same,r.ok,fun a m=>r.src a (T.rest_le t hj m),fun a m=>r.new a (T.adr_le t hk m),T.nd_le t hk r.nd⟩
theorem RsL.back {p:Px} {B:Addr->Prop} {H H1 H2:Hp} {j k:Nat} {t:List T} (r:RsL p B H1 H2 j k t) (s:Same H H1):RsL p B H H2 j k t :=
 ⟨s.trans r.same,r.ok,fun a m=>(r.src a m).imp s.free id,fun a m=>⟨s.free (r.new a m).1,(r.new a m).2⟩,r.nd⟩
noncomputable def T.sc:T->Bool
 | .non=>true
 | .bl _=>true
 | .int _=>true
 | .str _=>true
 | _=>false
theorem Rs.scal {p:Px} {B:Addr->Prop} {H H':Hp} {j k:Nat} {t:T} (s:Same H H') (h:t.sc=true):Rs p B H H' j k t:=by
 cases t <;> first | exact ⟨s,trivial,by simp [T.rest],by simp [T.adr],by simp [T.Nd,T.adr]⟩ | cases h
noncomputable def Lg {α:Type} (p:Px) (EX:EXT) (σ:St) (r:Res α) (H:Hp) (Kc:α->Prop):Prop:=match r with
 | .ok a=>Kc a
 | .exc c=>p.has c=true->∀ H',Same H H'->EX σ (.ref (p.cl c)) none H'
 | .bad=>False
theorem Lg.bind {α β:Type} {p:Px} {EX:EXT} {σ:St} {r:Res α} {f:α->Res β} {H:Hp} {Kc:β->Prop} (h:Lg p EX σ (r.bind f) H Kc):Lg p EX σ r H fun a=>Lg p EX σ (f a) H Kc:=by
 cases r <;> exact h
theorem Lg.mono {α:Type} {p:Px} {EX:EXT} {σ:St} {r:Res α} {H H1:Hp} {Kc Kc':α->Prop} (h:Lg p EX σ r H Kc) (s:Same H H1) (m:∀ a,r=.ok a->Kc a->Kc' a):Lg p EX σ r H1 Kc':=by
 cases r with
 | ok a=>exact m a rfl h
 | exc c=>exact fun hc H' s'=>h hc H' (s.trans s')
 | bad=>exact h
theorem Lg.guard {α:Type} {p:Px} {EX:EXT} {σ:St} {c:Prop} [Decidable c] {r:Res α} {H:Hp} {Kc:α->Prop} (h:Lg p EX σ (if c then r else .bad) H Kc):c/\Lg p EX σ r H Kc:=by
 split at h
 ·exact ⟨‹_›,h⟩
 ·exact nE h
noncomputable abbrev KE (p:Px) (B:Addr->Prop) (H:Hp) (j k:Nat) (Q:VK):D->Prop:=fun d=>∀ t H',t.dat=d->Rs p B H H' j k t->Q t.val H'
noncomputable abbrev KL (p:Px) (B:Addr->Prop) (H:Hp) (j k:Nat) (Q:List V->Hp->Prop):List D->Prop:=fun ds=>∀ ts H',T.dats ts=ds->RsL p B H H' j k ts->Q (ts.map T.val) H'
noncomputable def lE (p:Px) (EX:EXT) (tn:List Nat) (e:E):TE:=fun σ H Q=>∃ τ,σ=vτ τ/\Fok p tn τ H/\∃ j k,jk tn e=some (j,k)/\Lg p EX σ (ev e (dτ τ)) H (KE p (Sh tn τ) H j k Q)
noncomputable def lEs (p:Px) (EX:EXT) (tn:List Nat) (es:Es):TA:=fun σ H Q=>∃ τ,σ=vτ τ/\Fok p tn τ H/\∃ j k,jks tn es=some (j,k)/\Lg p EX σ (evs es (dτ τ)) H (KL p (Sh tn τ) H j k Q)
noncomputable def lT (p:Px) (EX:EXT) (tn:List Nat) (e:E):TT:=fun σ H Q=>∃ τ,σ=vτ τ/\Fok p tn τ H/\(jk tn e).isSome=true/\Lg p EX σ (tv e (dτ τ)) H fun b=>∀ H',Same H H'->Q b H'
theorem PE.mono {X:Cx} {e:Expr} {t t':TE} (h:PE X e t) (m:∀ σ H Q,t' σ H Q->t σ H Q):PE X e t':=fun pins s σ H Q I q=>h pins s σ H Q I (m _ _ _ q)
theorem PT.mono {X:Cx} {e:Expr} {t t':TT} (h:PT X e t) (m:∀ σ H Q,t' σ H Q->t σ H Q):PT X e t':=fun pins s σ H Q I q=>h pins s σ H Q I (m _ _ _ q)
theorem PA.mono {X:Cx} {e:List Expr} {t t':TA} (h:PA X e t) (m:∀ σ H Q,t' σ H Q->t σ H Q):PA X e t':=fun pos pins s σ H Q I q=>h pos pins s σ H Q I (m _ _ _ q)
section
variable {p:Px} {EX:EXT} {tn:List Nat} {X:Cx} {pos:Pos}
theorem DI {c:Bool} {x:Nat × Nat} {j k:Nat} (h:gj c x=some (j,k)):c=true/\x=(j,k):=by
 unfold gj at h
 split at h
 ·exact ⟨‹_›,Option.some.inj h⟩
 ·cases h
theorem l1 {x:E} {β:Type} {f:D->Res β} {τ:Ft} {H:Hp} {Kc:β->Prop} {Q:VK} {ja ka:Nat} (hF:Fok p tn τ H) (hj:jk tn x=some (ja,ka)) (h:Lg p EX (vτ τ) ((ev x (dτ τ)).bind f) H Kc)
  (m:∀ d t H1,t.dat=d->Rs p (Sh tn τ) H H1 ja ka t->Lg p EX (vτ τ) (f d) H Kc->Q t.val H1):lE p EX tn x (vτ τ) H Q :=
 ⟨τ,rfl,hF,ja,ka,hj,h.bind.mono (Same.refl _) fun d _ hd t H1 ht R=>m d t H1 ht R hd⟩
theorem l2 {x:E} {β:Type} {f:D->Res β} {τ:Ft} {H H1:Hp} {Kc:β->Prop} {Q:VK} {ja ka:Nat} (hF:Fok p tn τ H) (s:Same H H1) (hj:jk tn x=some (ja,ka)) (h:Lg p EX (vτ τ) ((ev x (dτ τ)).bind f) H Kc)
  (m:∀ d t H2,t.dat=d->Rs p (Sh tn τ) H1 H2 ja ka t->Lg p EX (vτ τ) (f d) H Kc->Q t.val H2):lE p EX tn x (vτ τ) H1 Q :=
 ⟨τ,rfl,hF.same s,ja,ka,hj,h.bind.mono s fun d _ hd t H2 ht R=>m d t H2 ht R hd⟩
theorem QZ {i:Nat} {x:Str} (hN:X.N[i]?=some x) (hv:Vis X.env.scope x) (hd:(x==("__debug__" : Str))=false) (hcd:(x==("__classdict__" : Str))=false):PE X (.Name x pos) (lE p EX tn (.nm i)):=by
 refine PE.mono (CP hN hv hd hcd) fun σ H Q h=>?_
 obtain ⟨τ,rfl,hF,j,k,hj,h⟩:=h
 simp only [jk] at hj
 split at hj
 ·rename_i j' hj'
  obtain ⟨hlt,e⟩:=DI hj
  cases e
  simp only [ev] at h
  cases q:get (dτ τ) i with
  | ok d =>
   rw [q] at h
   obtain ⟨t,ht,e⟩:=Di q
   exact ⟨t.val,BZ ht,h t H e ⟨Same.refl _,hF i t j ht hj' (of_decide_eq_true hlt),fun a m=>.inr ⟨i,t,j,ht,hj',of_decide_eq_true hlt,m⟩,by rw [T.adr_zero]; simp,T.nd_zero t⟩⟩
  | exc c=>rw [q] at h; unfold get at q; split at q <;> cases q
  | bad=>rw [q] at h; exact h.elim
 ·cases hj
theorem FJ {e:Expr} {x:E} {t:T} (hp:PE X e (tC t.val)) (hs:t.sc=true) (he:∀ δ,ev x δ=.ok t.dat):PE X e (lE p EX tn x):=by
 refine PE.mono hp fun σ H Q h=>?_
 obtain ⟨τ,rfl,hF,j,k,hj,h⟩:=h
 rw [he] at h
 exact h t H rfl (Rs.scal (Same.refl _) hs)
theorem OT {B:Addr->Prop} {H H1 H2:Hp} {j1 k1 j2 k2:Nat} {t:T} {ts:List T} (hB:∀ a,B a->H a ≠ none) (r:Rs p B H H1 j1 k1 t) (q:RsL p B H1 H2 j2 k2 ts):RsL p B H H2 (max j1 j2) (if max j1 j2=0 then min k1 k2 else 0) (t :: ts):=by
 have r2:=r.fwd q.same
 refine ⟨r2.same,⟨r2.ok,q.ok⟩,fun a m=>?_,fun a m=>?_,?_⟩
 ·simp only [T.rests,aaf] at m
  rcases m with m | m
  ·exact r.src a (T.rest_le t (Nat.le_max_left ..) m)
  ·obtain ⟨u,hu,m⟩:=T.mem_rests.mp m
   exact (q.src a (T.mem_rests.mpr ⟨u,hu,T.rest_le u (Nat.le_max_right ..) m⟩)).imp r.same.free id
 ·split at m
  ·simp only [T.adrs,aaf] at m
   rcases m with m | m
   ·exact r2.new a (T.adr_le t (aaZ ..) m)
   ·obtain ⟨u,hu,m⟩:=T.mem_adrs.mp m
    have z:=q.new a (T.mem_adrs.mpr ⟨u,hu,T.adr_le u (aaV ..) m⟩)
    exact ⟨r.same.free z.1,z.2⟩
  ·rw [T.adrs_zero] at m; cases m
 ·split
  ·rename_i hz
   have h1:j1=0:=by omega
   have h2:j2=0:=by omega
   subst h1 h2
   refine T.nds_cons.mpr ⟨T.nd_le t (aaZ ..) r.nd,T.nds_le (aaV ..) q.nd,fun a m m'=>?_,fun a m m'=>?_⟩
   ·have m1:=T.adr_le t (aaZ k1 k2) m
    rcases q.src a m' with z | z
    ·exact r.ok.domk m1 z
    ·exact hB a z (r.new a m1).1
   ·obtain ⟨u,hu,m⟩:=T.mem_adrs.mp m
    exact r.ok.dom m' (q.new a (T.mem_adrs.mpr ⟨u,hu,T.adr_le u (aaV ..) m⟩)).1
  ·exact T.nds_zero _
theorem Nz:PA X [] (lEs p EX tn .nil):=by
 refine PA.mono DW fun σ H Q h=>?_
 obtain ⟨τ,rfl,hF,j,k,hj,h⟩:=h
 exact h [] H rfl ⟨Same.refl _,trivial,by simp [T.rests],by simp [T.adrs],by simp [T.Nds,T.adrs]⟩
theorem Mi {e:Expr} {es:List Expr} {x:E} {xs:Es} (he:PE X e (lE p EX tn x)) (hes:PA X es (lEs p EX tn xs)) (hs:starEach (e :: es) X.env=(false,eval e X.env) :: starEach es X.env):PA X (e :: es) (lEs p EX tn (.cons x xs)):=by
 refine PA.mono (Bz he hes hs) fun σ H Q h=>?_
 obtain ⟨τ,rfl,hF,j,k,hj,h⟩:=h
 simp only [jks] at hj
 obtain ⟨⟨j1,k1⟩,h1,hj⟩:=bS hj
 obtain ⟨⟨j2,k2⟩,h2,hj⟩:=bS hj
 cases hj
 simp only [evs] at h
 refine l1 hF h1 h fun d t H1 ht R h=>?_
 refine ⟨τ,rfl,hF.same R.same,j2,k2,h2,h.bind.mono R.same fun ds _ hd ts H2 hts R2=>?_⟩
 exact hd (t :: ts) H2 (by simp [T.dats,ht,hts]) (OT (fun a=>hF.dom) R R2)
end
section
variable {p:Px} {EX:EXT} {tn:List Nat} {X:Cx} {pos:Pos}
theorem Q0 {B:Addr->Prop} {H H1:Hp} {j k:Nat} {a:Addr} {ts:List T} (r:RsL p B H H1 j k ts) (hn:H1 a=none):Rs p B H (L2.upd H1 a (.tup (ts.map T.val))) j k (.tup a ts):=by
 have s:=Same.new (o:=.tup (ts.map T.val)) hn
 exact ⟨r.same.trans s,⟨AW,r.ok.same s⟩,r.src,fun b m=>⟨(r.new b m).1,let ⟨vs,e⟩:=(r.new b m).2; ⟨vs,s _ _ e⟩⟩,r.nd⟩
theorem Mj {B:Addr->Prop} {H H1:Hp} {j k:Nat} {a:Addr} {ts:List T} (r:RsL p B H H1 j k ts) (hn:H1 a=none) :
  Rs p B H (L2.upd H1 a (.lst (ts.map T.val))) (if j=0 then 0 else j + 1) (if j=0 then k + 1 else 0) (.lst a ts):=by
 have s:=Same.new (o:=.lst (ts.map T.val)) hn
 have ha:H a=none:=r.same.free hn
 refine ⟨r.same.trans s,⟨.inl AW,r.ok.same s⟩,fun b m=>?_,fun b m=>?_,?_⟩
 ·split at m
  ·rename_i e
   subst e
   simp only [T.rest,aai] at m
   rcases m with rfl | m
   ·exact .inl ha
   ·exact r.src b m
  ·exact r.src b m
 ·split at m
  ·simp only [T.adr,aai] at m
   rcases m with rfl | m
   ·exact ⟨ha,_,AW⟩
   ·exact ⟨(r.new b m).1,let ⟨vs,e⟩:=(r.new b m).2; ⟨vs,s _ _ e⟩⟩
  ·rw [T.adr_zero] at m; cases m
 ·split
  ·rename_i e
   subst e
   have out:a ∉ T.rests ts 0:=fun m=>by
    obtain ⟨t,ht,m⟩:=T.mem_rests.mp m
    exact (T.oks_iff.mp r.ok t ht).dom m hn
   refine ⟨?_,fun b m m'=>?_⟩
   ·simp only [T.adr,aaC]
    exact ⟨fun m=>out ((T.alls_iff ts k).mpr (.inl m)),r.nd.1⟩
   ·simp only [T.adr,T.rest,aai] at m m'
    rcases m' with rfl | m'
    ·exact out ((T.alls_iff ts k).mpr (.inr m))
    ·exact r.nd.2 b m m'
  ·exact T.nd_zero _
theorem Ag:∀ ts:List T,(T.dats ts).length=ts.length:=fun ts=>by rw [T.dats_map,aab]
noncomputable def Es.len:Es->Nat
 | .nil=>0
 | .cons _ r=>r.len + 1
theorem BM:∀ (es:Es) (δ:Fr) (ds:List D),evs es δ=.ok ds->ds.length=es.len
 | .nil,δ,ds,h=>by simp only [evs] at h; cases h; rfl
 | .cons e r,δ,ds,h=>by
  simp only [evs] at h
  obtain ⟨x,_,h⟩:=Res.bind_eq_ok h
  obtain ⟨xs,h2,h⟩:=Res.bind_eq_ok h
  cases h
  rw [aa2,BM r δ xs h2,Es.len]
theorem OU {es:List Expr} {xs:Es} {k1:Nat} (h:PA X es (lEs p EX tn xs)) (hl:xs.len<=1000):PE X (.Tuple es k1 pos) (lE p EX tn (.tup xs)):=by
 refine PE.mono (L4 h) fun σ H Q h=>?_
 obtain ⟨τ,rfl,hF,j,k,hj,h⟩:=h
 simp only [ev] at h
 refine ⟨τ,rfl,hF,j,k,hj,h.bind.mono (Same.refl _) fun ds e hd ts H1 hts R=>⟨?_,fun a ha=>hd (.tup a ts) _ (by simp [T.dat,hts]) (Q0 R ha)⟩⟩
 have:=BM _ _ _ e
 rw [aab,<- Ag,hts,this]
 exact aaD hl (by decide)
theorem OV {es:List Expr} {xs:Es} (h:PA X es (lEs p EX tn xs)) (hl:xs.len<=1000):PE X (.List es pos) (lE p EX tn (.lst xs)):=by
 refine PE.mono (QG h) fun σ H Q h=>?_
 obtain ⟨τ,rfl,hF,j,k,hj,h⟩:=h
 simp only [jk] at hj
 obtain ⟨⟨j1,k1⟩,h1,hj⟩:=bS hj
 simp only [ev] at h
 refine ⟨τ,rfl,hF,j1,k1,h1,h.bind.mono (Same.refl _) fun ds e hd ts H1 hts R=>⟨?_,fun a ha=>hd (.lst a ts) _ (by simp [T.dat,hts]) ?_⟩⟩
 ·have:=BM _ _ _ e
  rw [aab,<- Ag,hts,this]
  exact aaD hl (by decide)
 ·have q:=Mj R ha
  have hj:=Option.some.inj hj
  by_cases z:j1=0
  ·subst z; simp only [if_true] at q; simp at hj; obtain ⟨rfl,rfl⟩:=hj; exact q
  ·simp only [if_neg z] at q; simp [z] at hj; obtain ⟨rfl,rfl⟩:=hj; exact q
noncomputable def K3:B2->Operator
 | .add=>.Add
 | .sub=>.Sub
 | .mul=>.Mult
 | .fdiv=>.FloorDiv
 | .mod=>.Mod
 | .pow=>.Pow
theorem Inv.lstR {pins:List (Addr × Obj)} {σ:St} {H:Hp} {s:Shared} {l:Addr} {xs:List V} (I:Inv X pins σ H s) (hH:Rd H l (.lst xs)):xs.length<=sizeLine/\∃ (its:List Value) (n:Nat),Vals xs its/\xs.length=its.length/\s.heap.get? l=some { cls:=.type "list",data:=.seq its.toArray n }:=by
 obtain ⟨z,its,n,r,e⟩:=hH.ok I.hok
 exact ⟨z,its,n,r,r.length,e⟩
noncomputable def On:R2:=fun x y H Q=>∃ l b xs zs,x=.ref l/\y=.ref b/\Rd H l (.lst xs)/\Rd H b (.lst zs)/\xs.length + zs.length<=sizeLine/\∀ q,H q=none->Q (.ref q) (L2.upd H q (.lst (xs ++ zs)))
theorem OW:OpR X (binaryOp .Add) On:=by
 intro pins s σ H x y v u Q I rx ry h
 obtain ⟨l,b,xs,zs,rfl,rfl,hH,hB,hz,q⟩:=h
 cases rx
 cases ry
 obtain ⟨z,its,n,r,hl,e⟩:=Inv.lstR I hH
 obtain ⟨z2,its2,n2,r2,hl2,e2⟩:=Inv.lstR I hB
 refine PySem.P.add_list e e2 ?_ (by rw [aal,aal]; omega)
 have ea:its.toArray ++ its2.toArray=(its ++ its2).toArray:=by simp
 rw [ea]
 exact ⟨.ref _,_,I.lnew (t':=s.toks) (r.append r2) (by rw [aav]; omega),rfl,q _ I.fresh⟩
noncomputable def Oo:R2:=fun x y H Q=>∃ l k xs,x=.ref l/\y=.int k/\Rd H l (.lst xs)/\-(2 ^ 63)<=k/\k < 2 ^ 63/\xs.length * k.toNat<=sizeLine /\
 ∀ q,H q=none->Q (.ref q) (L2.upd H q (.lst (aam k.toNat xs).flatten))
noncomputable def Op (_ j:Int):Prop:=0 < j/\j < 2 ^ 200
theorem NA:OpR X (binaryOp .FloorDiv) (rI Op fun i j=>.int (i / j)):=opI fun i j _ _ _ _ _ hc q=>by
 have e:i / j=i.fdiv j:=(Int.fdiv_eq_ediv_of_nonneg _ (Int.le_of_lt hc.1)).symm
 rw [e] at q
 refine floordiv_int (by have:=hc.1; omega) q (.inl (PyProof.noPylong_of_log2 ?_))
 have h1:j.natAbs < 2 ^ 200:=by
  have e1:(j.natAbs:Int)=j:=Int.natAbs_of_nonneg (Int.le_of_lt hc.1)
  have e2:(j.natAbs:Int) < ((2 ^ 200:Nat):Int):=by rw [e1]; exact hc.2
  exact Int.ofNat_lt.mp e2
 have:j.natAbs.log2 < 200:=by
  refine (Nat.log2_lt (by have:=hc.1; omega)).mpr h1
 omega
theorem OX:OpR X (binaryOp .Mult) Oo:=by
 intro pins s σ H x y v u Q I rx ry h
 obtain ⟨l,k,xs,rfl,rfl,hH,h1,h2,hz,q⟩:=h
 cases rx
 obtain ⟨t,rfl⟩:=ry
 obtain ⟨z,its,n,r,hl,e⟩:=Inv.lstR I hH
 have hlen:its.toArray.size * k.toNat<=sizeLine:=by rw [aal,<- hl]; exact hz
 have hcap:¬ its.toArray.size * k.toNat > (2 ^ 63 - 1) / 8:=by
  have:(sizeLine:Nat)<=(2 ^ 63 - 1) / 8:=by decide
  omega
 have hfit:¬ (!Builtin.List.listFitsIndex k)=true:=by
  rw [fitsIndex_both h1 h2]
  exact aaQ
 have hlong:¬ Builtin.List.listTooLong (its.toArray.size * k.toNat)=true:=by
  rw [ID hlen]
  exact aaQ
 have hnew:acL (fun x1 x2=>x1 ++ x2) #[] (aam (if its.toArray.isEmpty=true then 0 else k.toNat) its.toArray)=(aam k.toNat its).flatten.toArray:=by
  have f0:∀ m:Nat,acL (fun x1 x2=>x1 ++ x2) #[] (aam m its.toArray)=(aam m its).flatten.toArray:=fun m=>by
   have:=HD its m []
   rw [aaT] at this
   exact this
  rw [f0]
  cases its with
  | nil=>simp
  | cons a r'=>rw [if_neg (by simp)]
 refine wpAny_binaryOp_repeat_ref (T := "list") (U := "int") (by decide) ⟨_,e,rfl⟩ (fun s'=>typeIs_int s' k t) noFill_list_mul F.fills_int_mul F.slot_int_rmul repeat_list F.slot_int_index.lookup
  (call_meets F.slot_int_rmul (typeIs_int s k t) F.entry_int_rmul (F.args_int_rmul_2 _ _) (int___rmul___int_list k t l its.toArray n)
   ⟨e,rfl,⟨_,e,rfl⟩,call_meets F.slot_list_mul ⟨_,e,rfl⟩ F.entry_list_mul (F.args_list_mul_2 _ _) (AutoListH.list___mul___list_int_3 l its.toArray n k t hfit hcap hlong) ⟨e,?_⟩⟩)
 rw [hnew]
 exact ⟨.ref _,_,I.lnew (t':=s.toks) (r.rep k.toNat) (by rw [OL,abl]; exact hz),rfl,q _ I.fresh⟩
noncomputable def CMulB (i j:Int):Prop:=CMul i j\/(i.natAbs < 2 ^ 400/\j.natAbs < 2 ^ 400)
theorem Kb {k:Int} (h:k.natAbs < 2 ^ 400):Builtin.Int.intBits k<=400:=by
 unfold Builtin.Int.intBits
 split
 ·exact aar _
 ·have:k.natAbs.log2 < 400:=by
   rcases abY k.natAbs with h0 | hp
   ·rw [h0]; decide
   ·exact (Nat.log2_lt (ab4 hp)).mpr h
  omega
theorem CMulB.ok {i j:Int} (h:CMulB i j):IntMulOk i j:=by
 rcases h with h | ⟨h1,h2⟩
 ·exact h.ok
 ·have b1:=Kb h1
  have b2:=Kb h2
  have:Builtin.Int.intTooBig (Builtin.Int.intBits i + Builtin.Int.intBits j)=false:=by
   unfold Builtin.Int.intTooBig bitsLine
   exact decide_eq_false (by omega)
  unfold IntMulOk
  rw [this]
  simp
theorem OY:OpR X (binaryOp .Mult) (rI CMulB fun i j=>.int (i * j)):=opI fun _ _ _ _ _ _ _ hc q=>mul_int q hc.ok
noncomputable def Q1:B2->R2
 | .add=>fun x y H Q=>rI0 (fun i j=>.int (i + j)) x y H Q\/(On x y H Q\/∃ i j,x=.str i/\y=.str j/\i.length + j.length<=sizeLine/\Q (.str (i ++ j)) H)
 | .sub=>rI0 fun i j=>.int (i - j)
 | .mul=>fun x y H Q=>rI CMulB (fun i j=>.int (i * j)) x y H Q\/Oo x y H Q
 | .fdiv=>rI Op fun i j=>.int (i / j)
 | .mod=>rI (fun _ j=>0 < j) fun i j=>.int (i % j)
 | .pow=>rI Qx fun i j=>.int (i ^ j.toNat)
theorem OZ:∀ o:B2,OpR X (binaryOp (K3 o)) (Q1 o)
 | .add=>Qy.or (OW.or KQ)
 | .sub=>Qz
 | .mul=>OY.or OX
 | .fdiv=>NA
 | .mod=>QA
 | .pow=>QB
theorem Rs.elems {B:Addr->Prop} {H H1:Hp} {j k:Nat} {a:Addr} {ts:List T} (r:Rs p B H H1 j k (.lst a ts)) (hj:j<=1):∀ b ∈ T.rests ts 0,H b=none\/B b:=fun b m=>by
 refine r.src b (T.rest_le _ hj (j':=1) ?_)
 exact m
theorem Ex {B:Addr->Prop} {H H1:Hp} {a:Addr} {ts:List T} (s:Same H H1) (ok:T.Oks p H1 ts) (src:∀ b ∈ T.rests ts 0,H b=none\/B b) (hn:H1 a=none):Rs p B H (L2.upd H1 a (.lst (ts.map T.val))) 0 1 (.lst a ts):=by
 have:=Mj (j:=0) (k:=0) (p:=p) (B:=B) (H:=H) (a:=a) (ts:=ts) ⟨s,ok,src,by rw [T.adrs_zero]; simp,T.nds_zero ts⟩ hn
 exact this
theorem Ke {t:T} {f:Int->Res D} {Q:Res D->Prop} (hb:¬ Q .bad) (h:Q (DB t.dat f)):∃ i,t=.int i/\Q (f i):=by
 cases t with
 | int i=>exact ⟨i,rfl,h⟩
 | _=>exact absurd h hb
theorem B0 {t u:T} {f:Int->Int->Res D} {Q:Res D->Prop} (hb:¬ Q .bad) (h:Q (BA t.dat u.dat f)):∃ i j,t=.int i/\u=.int j/\Q (f i j):=by
 obtain ⟨i,rfl,h⟩:=Ke (t:=t) hb h
 obtain ⟨j,rfl,h⟩:=Ke (t:=u) hb h
 exact ⟨i,j,rfl,rfl,h⟩
theorem O0 {t u:T} {Q:Res D->Prop} (hb:¬ Q .bad) (h:Q (K2 t.dat u.dat)):(∃ i j,t=.int i/\u=.int j/\Q (.ok (.int (i + j))))\/(∃ x y,t=.str x/\u=.str y/\Q (K2 (.str x) (.str y)))\/∃ a ts b us,t=.lst a ts/\u=.lst b us/\Q (K2 (.lst (T.dats ts)) (.lst (T.dats us))):=by
 cases t with
 | int i =>
  cases u with
  | int j=>exact .inl ⟨i,j,rfl,rfl,h⟩
  | _=>exact absurd h hb
 | str x =>
  cases u with
  | str y=>exact .inr (.inl ⟨x,y,rfl,rfl,h⟩)
  | _=>exact absurd h hb
 | lst a ts =>
  cases u with
  | lst b us=>exact .inr (.inr ⟨a,ts,b,us,rfl,rfl,h⟩)
  | _=>exact absurd h hb
 | _=>exact absurd h hb
theorem O1 {t u:T} {Q:Res D->Prop} (hb:¬ Q .bad) (h:Q (IF t.dat u.dat)):(∃ i j,t=.int i/\u=.int j/\Q (IF (.int i) (.int j)))\/∃ a ts k,t=.lst a ts/\u=.int k/\Q (IF (.lst (T.dats ts)) (.int k)):=by
 cases t with
 | int i =>
  cases u with
  | int j=>exact .inl ⟨i,j,rfl,rfl,h⟩
  | _=>exact absurd h hb
 | lst a ts =>
  cases u with
  | int k=>exact .inr ⟨a,ts,k,rfl,rfl,h⟩
  | _=>exact absurd h hb
 | _=>exact absurd h hb
theorem Sl {B:Addr->Prop} {H H2:Hp} {ja jb ka kb:Nat} {t u:T} {o:B2} {σ:St} {Q:VK} (r:Rs p B H H2 ja ka t) (r':Rs p B H H2 jb kb u) (ha:ja<=1) (hb:jb<=1) (h:Lg p EX σ (b2 o t.dat u.dat) H (KE p B H 0 1 Q)):Q1 o t.val u.val H2 Q:=by
 have sc:∀ w:T,w.sc=true->Rs p B H H2 0 1 w:=fun w hw=>Rs.scal r.same hw
 cases o with
 | add =>
  rcases O0 (Q:=fun r=>Lg p EX σ r H _) id h with ⟨i,j,rfl,rfl,h⟩ | ⟨x,y,rfl,rfl,h⟩ | ⟨a,ts,b,us,rfl,rfl,h⟩
  ·exact .inl ⟨_,_,rfl,rfl,h (.int _) H2 rfl (sc _ rfl)⟩
  ·obtain ⟨hl,h⟩:=h.guard
   exact .inr (.inr ⟨_,_,rfl,rfl,hl,h (.str _) H2 rfl (sc _ rfl)⟩)
  ·skip
   obtain ⟨hl,h⟩:=h.guard
   ·refine .inr (.inl ⟨a,b,_,_,rfl,rfl,r.ok.1,r'.ok.1,?_,fun q hq=>?_⟩)
    ·rw [aab,aab,<- Ag,<- Ag]; exact hl
    ·rw [<- aao]
     refine h (.lst q (ts ++ us)) _ (by simp [T.dat,T.dats_map]) (Ex r.same (T.oks_iff.mpr fun w hw=>?_) (fun c m=>?_) hq)
     ·rcases aaf.mp hw with hw | hw
      ·exact T.oks_iff.mp r.ok.2 w hw
      ·exact T.oks_iff.mp r'.ok.2 w hw
     ·rw [T.rests_append,aaf] at m
      rcases m with m | m
      ·exact r.elems ha c m
      ·exact r'.elems hb c m
 | sub =>
  obtain ⟨i,j,rfl,rfl,h⟩:=B0 (Q:=fun r=>Lg p EX σ r H _) id h
  exact ⟨_,_,rfl,rfl,h (.int _) H2 rfl (sc _ rfl)⟩
 | mul =>
  rcases O1 (Q:=fun r=>Lg p EX σ r H _) id h with ⟨i,j,rfl,rfl,h⟩ | ⟨a,ts,k,rfl,rfl,h⟩
  ·by_cases c:(-(2 ^ 64) < i/\i < 2 ^ 64)\/(-(2 ^ 64) < j/\j < 2 ^ 64)
   ·have h:Lg p EX σ (if (-(2 ^ 64) < i/\i < 2 ^ 64)\/(-(2 ^ 64) < j/\j < 2 ^ 64) then Res.ok (D.int (i * j)) else if i.natAbs < 2 ^ 400/\j.natAbs < 2 ^ 400 then .ok (.int (i * j)) else .bad) H _:=h
    rw [if_pos c] at h
    exact .inl ⟨_,_,rfl,rfl,.inl c,h (.int _) H2 rfl (sc _ rfl)⟩
   ·have h:Lg p EX σ (if (-(2 ^ 64) < i/\i < 2 ^ 64)\/(-(2 ^ 64) < j/\j < 2 ^ 64) then Res.ok (D.int (i * j)) else if i.natAbs < 2 ^ 400/\j.natAbs < 2 ^ 400 then .ok (.int (i * j)) else .bad) H _:=h
    rw [if_neg c] at h
    obtain ⟨hl,h⟩:=h.guard
    exact .inl ⟨_,_,rfl,rfl,.inr hl,h (.int _) H2 rfl (sc _ rfl)⟩
  ·skip
   obtain ⟨⟨h1,h2,h3⟩,h⟩:=h.guard
   ·refine .inr ⟨a,k,_,rfl,rfl,r.ok.1,h1,h2,?_,fun q hq=>?_⟩
    ·rw [aab,<- Ag]; exact h3
    ·have e:(aam k.toNat (ts.map T.val)).flatten=(aam k.toNat ts).flatten.map T.val:=by
      rw [List.map_flatten,abb]
     rw [e]
     refine h (.lst q (aam k.toNat ts).flatten) _ ?_ (Ex r.same (T.oks_iff.mpr fun w hw=>?_) (fun c m=>?_) hq)
     ·rw [T.dat,T.dats_map,T.dats_map,List.map_flatten,abb]
     ·obtain ⟨l,hl,hw⟩:=List.mem_flatten.mp hw
      rw [(abH.mp hl).2] at hw
      exact T.oks_iff.mp r.ok.2 w hw
     ·obtain ⟨w,hw,m⟩:=T.mem_rests.mp m
      obtain ⟨l,hl,hw⟩:=List.mem_flatten.mp hw
      rw [(abH.mp hl).2] at hw
      exact r.elems ha c (T.mem_rests.mpr ⟨w,hw,m⟩)
 | fdiv =>
  obtain ⟨i,j,rfl,rfl,h⟩:=B0 (Q:=fun r=>Lg p EX σ r H _) id h
  obtain ⟨hl,h⟩:=h.guard
  exact ⟨_,_,rfl,rfl,hl,h (.int _) H2 rfl (sc _ rfl)⟩
 | mod =>
  obtain ⟨i,j,rfl,rfl,h⟩:=B0 (Q:=fun r=>Lg p EX σ r H _) id h
  obtain ⟨hl,h⟩:=h.guard
  exact ⟨_,_,rfl,rfl,hl,h (.int _) H2 rfl (sc _ rfl)⟩
 | pow =>
  obtain ⟨i,j,rfl,rfl,h⟩:=B0 (Q:=fun r=>Lg p EX σ r H _) id h
  obtain ⟨hl,h⟩:=h.guard
  exact ⟨_,_,rfl,rfl,hl,h (.int _) H2 rfl (sc _ rfl)⟩
theorem O2 {a b:Expr} {x y:E} {o:B2} (ha:PE X a (lE p EX tn x)) (hb:PE X b (lE p EX tn y)):PE X (.BinOp a (K3 o) b pos) (lE p EX tn (.bin o x y)):=by
 refine PE.mono (R7 (OZ o) ha hb) fun σ H Q h=>?_
 obtain ⟨τ,rfl,hF,j,k,hj,h⟩:=h
 simp only [jk] at hj
 obtain ⟨⟨j1,k1⟩,h1,hj⟩:=bS hj
 obtain ⟨⟨j2,k2⟩,h2,hj⟩:=bS hj
 obtain ⟨hc,e⟩:=DI hj
 cases e
 simp only [aaj,decide_eq_true_eq] at hc
 simp only [ev] at h
 refine l1 hF h1 h fun d t H1 ht R h=>l2 hF R.same h2 h fun d' t' H2 ht' R' h=>?_
 subst ht ht'
 exact Sl (R.fwd R'.same) (R'.back R.same) hc.1 hc.2 h
end
mutual
noncomputable def D.py:D->PyData
 | .non=>.none
 | .bl b=>.bool b
 | .int i=>.int i
 | .str x=>.str x
 | .tup ds=>.tuple (D.pys ds)
 | .lst ds=>.list (D.pys ds)
 | .exn _=>.none
noncomputable def D.pys:List D->List PyData
 | []=>[]
 | d :: r=>d.py :: D.pys r
end
theorem D.ind {P:D->Prop} (h0:P .non) (h1:∀ b,P (.bl b)) (h2:∀ i,P (.int i)) (h3:∀ x,P (.str x)) (h4:∀ ts,(∀ t ∈ ts,P t)->P (.tup ts)) (h5:∀ ts,(∀ t ∈ ts,P t)->P (.lst ts)) (h6:∀ c,P (.exn c)):∀ t,P t
 | .non=>h0
 | .bl b=>h1 b
 | .int i=>h2 i
 | .str x=>h3 x
 | .tup ts=>h4 ts fun t h=>D.ind h0 h1 h2 h3 h4 h5 h6 t
 | .lst ts=>h5 ts fun t h=>D.ind h0 h1 h2 h3 h4 h5 h6 t
 | .exn c=>h6 c
termination_by t=>t
theorem Bq {n c:Nat}:D.shp n (.exn c)=false:=by cases n <;> rfl
theorem DR {n:Nat} {ds:List D} (h:D.shp n (.tup ds)=true):∃ m,n=m + 1/\∀ d ∈ ds,D.shp m d=true:=by
 cases n with
 | zero=>cases h
 | succ m=>exact ⟨m,rfl,by simpa [D.shp] using h⟩
theorem DS {n:Nat} {ds:List D} (h:D.shp n (.lst ds)=true):∃ m,n=m + 1/\∀ d ∈ ds,D.shp m d=true:=by
 cases n with
 | zero=>cases h
 | succ m=>exact ⟨m,rfl,by simpa [D.shp] using h⟩
theorem IG:∀ (d e:D) (n m:Nat),d.shp n=true->e.shp m=true->d.eqv e=d.py.eqv e.py:=by
 have lists:∀ (ds:List D),(∀ d ∈ ds,∀ (e:D) (n m:Nat),d.shp n=true->e.shp m=true->d.eqv e=d.py.eqv e.py)->∀ (es:List D) (n m:Nat),(∀ d ∈ ds,d.shp n=true)->(∀ e ∈ es,e.shp m=true)->D.eqvs ds es=PyData.eqvAll (D.pys ds) (D.pys es):=by
  intro ds
  induction ds with
  | nil=>intro _ es n m _ _; cases es <;> simp [D.eqvs,D.pys,PyData.eqvAll]
  | cons d r ih =>
   intro h es n m h1 h2
   cases es with
   | nil=>simp [D.eqvs,D.pys,PyData.eqvAll]
   | cons e s =>
    simp only [D.eqvs,D.pys,PyData.eqvAll]
    rw [h d (aac ..) e n m (h1 d (aac ..)) (h2 e (aac ..)),ih (fun x hx=>h x (aaa _ hx)) s n m (fun x hx=>h1 x (aaa _ hx)) (fun x hx=>h2 x (aaa _ hx))]
 refine D.ind ?_ ?_ ?_ ?_ ?_ ?_ ?_
 ·intro e n m _ h; cases e <;> simp [D.eqv,D.py,PyData.eqv,Bq] at h ⊢
 ·intro b e n m _ h; cases e <;> simp [D.eqv,D.py,PyData.eqv,Bq] at h ⊢
 ·intro b e n m _ h; cases e <;> simp [D.eqv,D.py,PyData.eqv,Bq] at h ⊢
 ·intro b e n m _ h; cases e <;> simp [D.eqv,D.py,PyData.eqv,Bq] at h ⊢
 ·intro ds ih e n m h1 h2
  cases e with
  | tup es =>
   obtain ⟨n',_,h1⟩:=DR h1
   obtain ⟨m',_,h2⟩:=DR h2
   simp only [D.eqv,D.py,PyData.eqv]
   exact lists ds ih es n' m' h1 h2
  | exn c=>rw [Bq] at h2; cases h2
  | _=>simp [D.eqv,D.py,PyData.eqv]
 ·intro ds ih e n m h1 h2
  cases e with
  | lst es =>
   obtain ⟨n',_,h1⟩:=DS h1
   obtain ⟨m',_,h2⟩:=DS h2
   simp only [D.eqv,D.py,PyData.eqv]
   exact lists ds ih es n' m' h1 h2
  | exn c=>rw [Bq] at h2; cases h2
  | _=>simp [D.eqv,D.py,PyData.eqv]
 ·intro c e n m h; rw [Bq] at h; cases h
theorem G6:∀ (d:D) (n:Nat),d.shp n=true->d.py.canLay0=true/\d.py.depth<=n:=by
 have lists:∀ (ds:List D),(∀ d ∈ ds,∀ (n:Nat),d.shp n=true->d.py.canLay0=true/\d.py.depth<=n)->∀ n,(∀ d ∈ ds,d.shp n=true)->PyData.canLayAll0 (D.pys ds)=true/\PyData.depthAll (D.pys ds)<=n:=by
  intro ds
  induction ds with
  | nil=>intro _ n _; simp [D.pys,PyData.canLayAll0,PyData.depthAll]
  | cons d r ih =>
   intro h n h1
   obtain ⟨a1,a2⟩:=h d (aac ..) n (h1 d (aac ..))
   obtain ⟨b1,b2⟩:=ih (fun x hx=>h x (aaa _ hx)) n (fun x hx=>h1 x (aaa _ hx))
   simp only [D.pys,PyData.canLayAll0,PyData.depthAll,a1,b1,acv,true_and]
   omega
 refine D.ind ?_ ?_ ?_ ?_ ?_ ?_ ?_
 ·intro n h; simp [D.py,PyData.canLay0,PyData.depth]
 ·intro b n h; simp [D.py,PyData.canLay0,PyData.depth]
 ·intro b n h; simp [D.py,PyData.canLay0,PyData.depth]
 ·intro x n h
  simp only [D.py,PyData.canLay0,PyData.depth,aar,and_true]
  cases n <;> exact h
 ·intro ds ih n h
  obtain ⟨m,rfl,h'⟩:=DR h
  have:=lists ds ih m h'
  simp only [D.py,PyData.canLay0,PyData.depth]
  exact ⟨this.1,by omega⟩
 ·intro ds ih n h
  obtain ⟨m,rfl,h'⟩:=DS h
  have:=lists ds ih m h'
  simp only [D.py,PyData.canLay0,PyData.depth]
  exact ⟨this.1,by omega⟩
 ·intro c n h; rw [Bq] at h; cases h
theorem Eb {d:D} (h:d.shp 8=true):SeqAt.shaped d.py=true:=by
 obtain ⟨h1,h2⟩:=G6 d 8 h
 unfold SeqAt.shaped
 rw [h1,abZ]
 exact decide_eq_true (by omega)
theorem FK {p:Px} {H:Hp}:∀ (t:T) (n:Nat),t.Ok p H->t.dat.shp n=true->RD p.K H t.val t.dat.py:=by
 have lists:∀ (ts:List T),(∀ t ∈ ts,∀ n,t.Ok p H->t.dat.shp n=true->RD p.K H t.val t.dat.py)->∀ n,T.Oks p H ts->(∀ d ∈ T.dats ts,d.shp n=true)->RDs p.K H (ts.map T.val) (D.pys (T.dats ts)):=by
  intro ts
  induction ts with
  | nil=>intro _ _ _ _; exact .nil
  | cons t r ih =>
   intro h n ok hs
   exact .cons (h t (aac ..) n ok.1 (hs _ (by simp [T.dats]))) (ih (fun u hu=>h u (aaa _ hu)) n ok.2 (fun d hd=>hs d (by simp [T.dats,hd])))
 refine T.ind (fun _ _ _=>.non) (fun b _ _ _=>.bl b) (fun i _ _ _=>.int i) (fun x _ _ _=>.str x) (fun a ts ih n ok h=>?_) (fun a ts ih n ok h=>?_) (fun a c n ok h=>?_)
 ·obtain ⟨m,rfl,h'⟩:=DR h
  exact .tup (SqT.of ok.1) (lists ts ih m ok.2 h')
 ·obtain ⟨m,rfl,h'⟩:=DS h
  exact .lst (.inl ok.1) (lists ts ih m ok.2 h')
 ·rw [T.dat,Bq] at h; cases h
theorem GB {H:Hp} {a:Addr} {xs ys:List V} (h:Rd H a (.lst xs)) (h':Rd H a (.lst ys)):xs=ys:=by
 rcases h with h | ⟨o,h⟩ <;> rcases h' with h' | ⟨o',h'⟩ <;> rw [h] at h' <;> cases h' <;> rfl
theorem T.det {p:Px} {H:Hp}:∀ (t u:T) (n m:Nat),t.Ok p H->u.Ok p H->t.dat.shp n=true->u.dat.shp m=true->t.val=u.val->t.dat=u.dat:=by
 have lists:∀ (ts:List T),(∀ t ∈ ts,∀ (u:T) (n m:Nat),t.Ok p H->u.Ok p H->t.dat.shp n=true->u.dat.shp m=true->t.val=u.val->t.dat=u.dat)->∀ (us:List T) (n m:Nat),T.Oks p H ts->T.Oks p H us ->
   (∀ d ∈ T.dats ts,d.shp n=true)->(∀ d ∈ T.dats us,d.shp m=true)->ts.map T.val=us.map T.val->T.dats ts=T.dats us:=by
  intro ts
  induction ts with
  | nil=>intro _ us n m _ _ _ _ e; cases us with | nil=>rfl | cons u r=>simp at e
  | cons t r ih =>
   intro h us n m o1 o2 s1 s2 e
   cases us with
   | nil=>simp at e
   | cons u q =>
    simp only [aaF,List.cons.injEq] at e
    simp only [T.dats,List.cons.injEq]
    exact ⟨h t (aac ..) u n m o1.1 o2.1 (s1 _ (by simp [T.dats])) (s2 _ (by simp [T.dats])) e.1,ih (fun x hx=>h x (aaa _ hx)) q n m o1.2 o2.2 (fun d hd=>s1 d (by simp [T.dats,hd])) (fun d hd=>s2 d (by simp [T.dats,hd])) e.2⟩
 refine T.ind ?_ ?_ ?_ ?_ ?_ ?_ ?_
 ·intro u n m _ _ _ _ e; cases u <;> first | rfl | cases e
 ·intro b u n m _ _ _ _ e; cases u <;> first | (cases e; rfl) | cases e
 ·intro b u n m _ _ _ _ e; cases u <;> first | (cases e; rfl) | cases e
 ·intro b u n m _ _ _ _ e; cases u <;> first | (cases e; rfl) | cases e
 ·intro a ts ih u n m o1 o2 s1 s2 e
  cases u with
  | tup b us =>
   cases e
   obtain ⟨n',_,s1⟩:=DR s1
   obtain ⟨m',_,s2⟩:=DR s2
   have q:=o1.1.symm.trans o2.1
   simp only [Option.some.injEq,HO.tup.injEq] at q
   simp only [T.dat,lists ts ih us n' m' o1.2 o2.2 s1 s2 q]
  | lst b us =>
   cases e
   have h1:=o1.1
   rcases o2.1 with h | ⟨_,h⟩ <;> rw [h] at h1 <;> cases h1
  | exn b c=>rw [T.dat,Bq] at s2; cases s2
  | _=>cases e
 ·intro a ts ih u n m o1 o2 s1 s2 e
  cases u with
  | tup b us =>
   cases e
   have h1:=o2.1
   rcases o1.1 with h | ⟨_,h⟩ <;> rw [h] at h1 <;> cases h1
  | lst b us =>
   cases e
   obtain ⟨n',_,s1⟩:=DS s1
   obtain ⟨m',_,s2⟩:=DS s2
   have q:=GB o1.1 o2.1
   simp only [T.dat,lists ts ih us n' m' o1.2 o2.2 s1 s2 q]
  | exn b c=>rw [T.dat,Bq] at s2; cases s2
  | _=>cases e
 ·intro a c u n m _ _ h; rw [T.dat,Bq] at h; cases h
section
variable {p:Px} {EX:EXT} {tn:List Nat} {X:Cx} {pos:Pos}
theorem FL (hK:X.K=p.K) {pins:List (Addr × Obj)} {σ:St} {H:Hp} {s:Shared} {A:Around} (I:Inv X pins σ H s) {t u:T} {x y:Value} (hu:A.units + 60 < cLine) (o1:t.Ok p H) (o2:u.Ok p H) (s1:t.dat.shp 8=true) (s2:u.dat.shp 8=true) (r1:RelV t.val x) (r2:RelV u.val y) :
  SeqAt.EqAt A s x y (t.dat.eqv u.dat):=by
 intro prog w E Q hQ
 obtain ⟨as,q1⟩:=RD.reads (X:=X) I (hK ▸ FK t 8 o1 s1) r1
 obtain ⟨bs,q2⟩:=RD.reads (X:=X) I (hK ▸ FK u 8 o2 s2) r2
 obtain ⟨c1,d1⟩:=G6 _ 8 s1
 obtain ⟨c2,d2⟩:=G6 _ 8 s2
 refine PySem.SeqAt.eqBoolOverData prog w A E s x y _ _ as bs Q q1 q2 c1 c2 (by omega) ?_
 rw [<- IG _ _ 8 8 s1 s2]
 exact hQ
noncomputable def eqS (us:List T) (t:T) (y:Value):Bool:=@decide (∃ u ∈ us,RelV u.val y/\u.dat.eqv t.dat=true) (Classical.propDecidable _)
theorem Fj {H:Hp} {us:List T} {t u:T} {y:Value} (ok:T.Oks p H us) (sh:∀ w ∈ us,w.dat.shp 8=true) (hu:u ∈ us) (r:RelV u.val y):eqS us t y=u.dat.eqv t.dat:=by
 unfold eqS
 cases e:u.dat.eqv t.dat with
 | true=>exact @decide_eq_true _ (Classical.propDecidable _) ⟨u,hu,r,e⟩
 | false =>
  refine @decide_eq_false _ (Classical.propDecidable _) ?_
  rintro ⟨w,hw,r',e'⟩
  rw [T.det w u 8 8 (T.oks_iff.mp ok w hw) (T.oks_iff.mp ok u hu) (sh w hw) (sh u hu) (RelV.inj r' r)] at e'
  rw [e] at e'; cases e'
theorem Ey {H:Hp} {us:List T} {t:T} (ok:T.Oks p H us) (sh:∀ w ∈ us,w.dat.shp 8=true):∀ (ws:List T) (ys:List Value),(∀ w ∈ ws,w ∈ us)->Vals (ws.map T.val) ys->ys.any (eqS us t)=ws.any fun w=>w.dat.eqv t.dat
 | [],_,_,.nil=>rfl
 | w :: ws,_,h,.cons r q=>by
  rw [acw,acw,Fj ok sh (h w (aac ..)) r,Ey ok sh ws _ (fun x hx=>h x (aaa _ hx)) q]
theorem DZ:∀ {ws:List T} {ys:List Value} {y:Value},Vals (ws.map T.val) ys->y ∈ ys->∃ w ∈ ws,RelV w.val y
 | [],_,y,.nil,h=>nomatch h
 | w :: ws,_,y,.cons r q,h=>by
  rcases aai.mp h with rfl | h
  ·exact ⟨w,aac ..,r⟩
  ·obtain ⟨w',hw,r'⟩:=DZ q h
   exact ⟨w',aaa _ hw,r'⟩
noncomputable def K4 (p:Px) (neg:Bool):R2:=fun x y H Q=>∃ (t:T) (a:Addr) (us:List T),x=t.val/\y=.ref a/\(Rd H a (.lst (us.map T.val))\/H a=some (.tup (us.map T.val)))/\T.Oks p H us/\t.Ok p H/\t.dat.shp 8=true/\(∀ w ∈ us,w.dat.shp 8=true) /\
 Q (.bl (if neg then !(us.any fun w=>w.dat.eqv t.dat) else us.any fun w=>w.dat.eqv t.dat)) H
theorem Q2 (hK:X.K=p.K) (hu:X.A.units + 64 < cLine):OpR X (compareOp .In) (K4 p false):=by
 intro pins s σ H x y v u Q I rx ry h
 obtain ⟨t,a,us,rfl,rfl,hq,ok,o1,s1,s2,q⟩:=h
 cases ry
 rcases hq with hq | hq
 ·obtain ⟨its,r,pl,hz⟩:=I.list (.inl hq)
  refine SeqAt.in_listAt (eqS us t) pl.isList (fun w hw=>?_) ⟨.bl _,H,I,rfl,?_⟩
  ·obtain ⟨w',hw',r'⟩:=DZ r (by simpa using hw)
   rw [Fj ok s2 hw' r']
   exact FL hK I (by show X.A.units + 1 + 60 < cLine; omega) (T.oks_iff.mp ok w' hw') o1 (s2 w' hw') s1 r' rx
  ·rw [show its.toArray.any (eqS us t)=its.any (eqS us t) by simp,Ey ok s2 us its (fun _ h=>h) r]
   exact q
 ·obtain ⟨its,r,pl,hz⟩:=I.tuple (SqT.of hq)
  refine SeqAt.in_tupleAt (eqS us t) pl (fun w hw=>?_) ⟨.bl _,H,I,rfl,?_⟩
  ·obtain ⟨w',hw',r'⟩:=DZ r (by simpa using hw)
   rw [Fj ok s2 hw' r']
   exact FL hK I (by show X.A.units + 1 + 60 < cLine; omega) (T.oks_iff.mp ok w' hw') o1 (s2 w' hw') s1 r' rx
  ·rw [show its.toArray.any (eqS us t)=its.any (eqS us t) by simp,Ey ok s2 us its (fun _ h=>h) r]
   exact q
theorem Mk (hK:X.K=p.K) (hu:X.A.units + 64 < cLine):OpR X (compareOp .NotIn) (K4 p true):=by
 intro pins s σ H x y v u Q I rx ry h
 obtain ⟨t,a,us,rfl,rfl,hq,ok,o1,s1,s2,q⟩:=h
 cases ry
 rcases hq with hq | hq
 ·obtain ⟨its,r,pl,hz⟩:=I.list (.inl hq)
  refine SeqAt.notIn_listAt (eqS us t) pl.isList (fun w hw=>?_) ⟨.bl _,H,I,rfl,?_⟩
  ·obtain ⟨w',hw',r'⟩:=DZ r (by simpa using hw)
   rw [Fj ok s2 hw' r']
   exact FL hK I (by show X.A.units + 1 + 60 < cLine; omega) (T.oks_iff.mp ok w' hw') o1 (s2 w' hw') s1 r' rx
  ·rw [show its.toArray.any (eqS us t)=its.any (eqS us t) by simp,Ey ok s2 us its (fun _ h=>h) r]
   exact q
 ·obtain ⟨its,r,pl,hz⟩:=I.tuple (SqT.of hq)
  refine SeqAt.notIn_tupleAt (eqS us t) pl (fun w hw=>?_) ⟨.bl _,H,I,rfl,?_⟩
  ·obtain ⟨w',hw',r'⟩:=DZ r (by simpa using hw)
   rw [Fj ok s2 hw' r']
   exact FL hK I (by show X.A.units + 1 + 60 < cLine; omega) (T.oks_iff.mp ok w' hw') o1 (s2 w' hw') s1 r' rx
  ·rw [show its.toArray.any (eqS us t)=its.any (eqS us t) by simp,Ey ok s2 us its (fun _ h=>h) r]
   exact q
end
section
variable {p:Px} {EX:EXT} {tn:List Nat} {X:Cx} {pos:Pos}
noncomputable def Bf:C2->CmpOp
 | .lt=>.Lt
 | .le=>.LtE
 | .gt=>.Gt
 | .ge=>.GtE
 | .eq=>.Eq
 | .ne=>.NotEq
 | .inn=>.In
 | .nin=>.NotIn
noncomputable def Q3 (p:Px) (neg:Bool):R2:=fun x y H Q=>∃ t u:T,x=t.val/\y=u.val/\t.Ok p H/\u.Ok p H/\t.dat.shp 8=true/\u.dat.shp 8=true/\Q (.bl (if neg then !t.dat.eqv u.dat else t.dat.eqv u.dat)) H
noncomputable def IH (p:Px):C2->R2
 | .lt=>rI0 fun i j=>.bl (decide (i < j))
 | .le=>rI0 fun i j=>.bl (decide (i<=j))
 | .gt=>rI0 fun i j=>.bl (decide (j < i))
 | .ge=>rI0 fun i j=>.bl (decide (j<=i))
 | .eq=>Q3 p false
 | .ne=>Q3 p true
 | .inn=>K4 p false
 | .nin=>K4 p true
theorem DT (hK:X.K=p.K) (hu:X.A.units + 64 < cLine):∀ o:C2,OpR X (compareOp (Bf o)) (IH p o)
 | .lt=>R9
 | .le=>Sa
 | .gt=>Sb
 | .ge=>Sd
 | .eq=>by
  intro pins s σ H x y v u Q I rx ry h
  obtain ⟨t,w,rfl,rfl,o1,o2,s1,s2,q⟩:=h
  refine QR hu pins s σ H _ _ v u Q I rx ry ⟨_,_,hK ▸ FK t 8 o1 s1,hK ▸ FK w 8 o2 s2,Eb s1,Eb s2,?_⟩
  rw [<- IG _ _ 8 8 s1 s2]; exact q
 | .ne=>by
  intro pins s σ H x y v u Q I rx ry h
  obtain ⟨t,w,rfl,rfl,o1,o2,s1,s2,q⟩:=h
  refine QS hu pins s σ H _ _ v u Q I rx ry ⟨_,_,hK ▸ FK t 8 o1 s1,hK ▸ FK w 8 o2 s2,Eb s1,Eb s2,?_⟩
  rw [<- IG _ _ 8 8 s1 s2]; exact q
 | .inn=>Q2 hK hu
 | .nin=>Mk hK hu
theorem II {t:T}:∀ us:List T,((T.dats us).any fun y=>D.eqv y t.dat)=us.any fun w=>w.dat.eqv t.dat
 | []=>rfl
 | u :: r=>by simp [T.dats,II r]
theorem EU {f:D->Bool}:∀ {us:List T},(T.dats us).all f=true->∀ w ∈ us,f w.dat=true
 | [],_,w,h=>nomatch h
 | u :: r,h,w,hw=>by
  simp only [T.dats,aaI,aaj] at h
  rcases aai.mp hw with rfl | hw
  ·exact h.1
  ·exact EU h.2 w hw
theorem Ih {β:Type} {t:T} {us:List T} {σ:St} {H:Hp} {f:Bool->Res β} {Kc:β->Prop} (h:Lg p EX σ ((inD t.dat (T.dats us)).bind f) H Kc):t.dat.shp 8=true/\(∀ w ∈ us,w.dat.shp 8=true)/\Lg p EX σ (f (us.any fun w=>w.dat.eqv t.dat)) H Kc:=by
 have h:=h.bind
 unfold inD at h
 obtain ⟨hc,h⟩:=h.guard
 rw [aaj] at hc
 rw [II] at h
 exact ⟨hc.1,fun w hw=>EU hc.2 w hw,h⟩
theorem K5 {B:Addr->Prop} {H H2:Hp} {ja jb ka kb:Nat} {t u:T} {o:C2} {σ:St} {Kc:D->Prop} {Q:VK} (r:Rs p B H H2 ja ka t) (r':Rs p B H H2 jb kb u) (h:Lg p EX σ (c2 o t.dat u.dat) H Kc) (hQ:∀ b,Kc (.bl b)->Q (.bl b) H2):IH p o t.val u.val H2 Q:=by
 cases o with
 | lt =>
  obtain ⟨i,j,rfl,rfl,h⟩:=B0 (Q:=fun r=>Lg p EX σ r H Kc) id h
  exact ⟨_,_,rfl,rfl,hQ _ h⟩
 | le =>
  obtain ⟨i,j,rfl,rfl,h⟩:=B0 (Q:=fun r=>Lg p EX σ r H Kc) id h
  exact ⟨_,_,rfl,rfl,hQ _ h⟩
 | gt =>
  obtain ⟨i,j,rfl,rfl,h⟩:=B0 (Q:=fun r=>Lg p EX σ r H Kc) id h
  exact ⟨_,_,rfl,rfl,hQ _ h⟩
 | ge =>
  obtain ⟨i,j,rfl,rfl,h⟩:=B0 (Q:=fun r=>Lg p EX σ r H Kc) id h
  exact ⟨_,_,rfl,rfl,hQ _ h⟩
 | eq =>
  simp only [c2] at h
  obtain ⟨hc,h⟩:=h.guard
  rw [aaj] at hc
  exact ⟨t,u,rfl,rfl,r.ok,r'.ok,hc.1,hc.2,hQ _ h⟩
 | ne =>
  simp only [c2] at h
  obtain ⟨hc,h⟩:=h.guard
  rw [aaj] at hc
  exact ⟨t,u,rfl,rfl,r.ok,r'.ok,hc.1,hc.2,hQ _ h⟩
 | inn =>
  cases u <;> first | exact nE h | skip
  ·obtain ⟨s1,s2,h⟩:=Ih h
   exact ⟨t,_,_,rfl,rfl,.inr r'.ok.1,r'.ok.2,r.ok,s1,s2,hQ _ h⟩
  ·obtain ⟨s1,s2,h⟩:=Ih h
   exact ⟨t,_,_,rfl,rfl,.inl r'.ok.1,r'.ok.2,r.ok,s1,s2,hQ _ h⟩
 | nin =>
  cases u <;> first | exact nE h | skip
  ·obtain ⟨s1,s2,h⟩:=Ih h
   exact ⟨t,_,_,rfl,rfl,.inr r'.ok.1,r'.ok.2,r.ok,s1,s2,hQ _ h⟩
  ·obtain ⟨s1,s2,h⟩:=Ih h
   exact ⟨t,_,_,rfl,rfl,.inl r'.ok.1,r'.ok.2,r.ok,s1,s2,hQ _ h⟩
theorem KE.bl {B:Addr->Prop} {H H2:Hp} {j k:Nat} {Q:VK} {b:Bool} (s:Same H H2) (h:KE p B H j k Q (.bl b)):Q (.bl b) H2:=h (.bl b) H2 rfl (Rs.scal s rfl)
theorem Q4 {x y:E} {o:C2} {τ:Ft} {H:Hp} {Kc:D->Prop} {Q:VK} {j1 k1 j2 k2:Nat} (hF:Fok p tn τ H) (h1:jk tn x=some (j1,k1)) (h2:jk tn y=some (j2,k2))
  (h:Lg p EX (vτ τ) ((ev x (dτ τ)).bind fun a=>(ev y (dτ τ)).bind fun b=>c2 o a b) H Kc) (hQ:∀ b H2,Same H H2->Kc (.bl b)->Q (.bl b) H2):tOp (IH p o) (lE p EX tn x) (lE p EX tn y) (vτ τ) H Q:=by
 refine l1 hF h1 h fun d t H1 ht R h=>l2 hF R.same h2 h fun d' t' H2 ht' R' h=>?_
 subst ht ht'
 exact K5 (R.fwd R'.same) (R'.back R.same) h fun b hb=>hQ b H2 (R.same.trans R'.same) hb
theorem O3 (hK:X.K=p.K) (hu:X.A.units + 64 < cLine) {a b:Expr} {x y:E} {o:C2} (ha:PE X a (lE p EX tn x)) (hb:PE X b (lE p EX tn y)) (hm:behindInMarks (Bf o) b=false):PE X (.Compare a [Bf o] [b] pos) (lE p EX tn (.cmp o x y)):=by
 refine PE.mono (OF (DT hK hu o) ha hb hm) fun σ H Q h=>?_
 obtain ⟨τ,rfl,hF,j,k,hj,h⟩:=h
 simp only [jk] at hj
 obtain ⟨⟨j1,k1⟩,h1,hj⟩:=bS hj
 obtain ⟨⟨j2,k2⟩,h2,hj⟩:=bS hj
 simp only [ev] at h
 exact Q4 hF h1 h2 h fun b H2 s hb=>KE.bl s hb
theorem NB (hK:X.K=p.K) (hu:X.A.units + 64 < cLine) {a b:Expr} {x y:E} {o:C2} (ha:PE X a (lE p EX tn x)) (hb:PE X b (lE p EX tn y)) (hm:behindInMarks (Bf o) b=false):PT X (.Compare a [Bf o] [b] pos) (lT p EX tn (.cmp o x y)):=by
 refine PT.mono (OG (DT hK hu o) ha hb hm) fun σ H Q h=>?_
 obtain ⟨τ,rfl,hF,hj,h⟩:=h
 obtain ⟨q,hj⟩:=aat.mp hj
 simp only [jk] at hj
 obtain ⟨⟨j1,k1⟩,h1,hj⟩:=bS hj
 obtain ⟨⟨j2,k2⟩,h2,hj⟩:=bS hj
 simp only [tv,ev] at h
 exact Q4 hF h1 h2 h.bind fun b H2 s hb=>⟨b,rfl,hb H2 s⟩
theorem Ml {x y z:E} {o o':C2} {τ:Ft} {H:Hp} {Kc:D->Prop} {Q:VK} {j1 k1 j2 k2 j3 k3:Nat} (hF:Fok p tn τ H) (h1:jk tn x=some (j1,k1)) (h2:jk tn y=some (j2,k2)) (h3:jk tn z=some (j3,k3))
  (h:Lg p EX (vτ τ) (ev (.chain o o' x y z) (dτ τ)) H Kc) (hQ:∀ b H2,Same H H2->Kc (.bl b)->Q (.bl b) H2):Ix (IH p o) (IH p o') (lE p EX tn x) (lE p EX tn y) (lE p EX tn z) (vτ τ) H Q:=by
 simp only [ev] at h
 refine l1 hF h1 h fun d t H1 ht R h=>l2 hF R.same h2 h fun d' t' H2 ht' R' h=>?_
 subst ht ht'
 refine K5 (R.fwd R'.same) (R'.back R.same) h.bind fun b h=>⟨b,rfl,?_⟩
 have s2:=R.same.trans R'.same
 cases b with
 | false=>exact hQ false H2 s2 h
 | true =>
  refine l2 hF s2 h3 h fun d'' t'' H3 ht'' R'' h=>?_
  subst ht''
  exact K5 ((R'.back R.same).fwd R''.same) (R''.back s2) h fun b hb=>hQ b H3 (s2.trans R''.same) hb
theorem Mm (hK:X.K=p.K) (hu:X.A.units + 64 < cLine) {a b c:Expr} {x y z:E} {o o':C2} (ha:PE X a (lE p EX tn x)) (hb:PE X b (lE p EX tn y)) (hc:PE X c (lE p EX tn z)) (hm:lastMarks [Bf o,Bf o'] [b,c]=false):PE X (.Compare a [Bf o,Bf o'] [b,c] pos) (lE p EX tn (.chain o o' x y z)):=by
 refine PE.mono (Nf (DT hK hu o) (DT hK hu o') ha hb hc hm) fun σ H Q h=>?_
 obtain ⟨τ,rfl,hF,j,k,hj,h⟩:=h
 simp only [jk] at hj
 obtain ⟨⟨j1,k1⟩,h1,hj⟩:=bS hj
 obtain ⟨⟨j2,k2⟩,h2,hj⟩:=bS hj
 obtain ⟨⟨j3,k3⟩,h3,hj⟩:=bS hj
 exact Ml hF h1 h2 h3 h fun b H2 s hb=>KE.bl s hb
theorem K6 (hK:X.K=p.K) (hu:X.A.units + 64 < cLine) {a b c:Expr} {x y z:E} {o o':C2} (ha:PE X a (lE p EX tn x)) (hb:PE X b (lE p EX tn y)) (hc:PE X c (lE p EX tn z)) (hm:lastMarks [Bf o,Bf o'] [b,c]=false):PT X (.Compare a [Bf o,Bf o'] [b,c] pos) (lT p EX tn (.chain o o' x y z)):=by
 refine PT.mono (Ng (DT hK hu o) (DT hK hu o') ha hb hc hm) fun σ H Q h=>?_
 obtain ⟨τ,rfl,hF,hj,h⟩:=h
 obtain ⟨q,hj⟩:=aat.mp hj
 simp only [jk] at hj
 obtain ⟨⟨j1,k1⟩,h1,hj⟩:=bS hj
 obtain ⟨⟨j2,k2⟩,h2,hj⟩:=bS hj
 obtain ⟨⟨j3,k3⟩,h3,hj⟩:=bS hj
 unfold tv at h
 exact Ml hF h1 h2 h3 h.bind fun b H2 s hb=>⟨b,rfl,hb H2 s⟩
theorem O4 {t:T}:decide (t.val=V.non)=(match t.dat with | .non=>true | _=>false):=by
 cases t <;> rfl
theorem Q5 {x:E} {n:Bool} {τ:Ft} {H:Hp} {Kc:D->Prop} {Q:VK} {j1 k1:Nat} (hF:Fok p tn τ H) (h1:jk tn x=some (j1,k1)) (h:Lg p EX (vτ τ) (ev (.isN n x) (dτ τ)) H Kc) (hQ:∀ b H2,Same H H2->Kc (.bl b)->Q (.bl b) H2) :
  lE p EX tn x (vτ τ) H fun v H1=>Q (.bl (if n then !decide (v=.non) else decide (v=.non))) H1:=by
 simp only [ev] at h
 refine l1 hF h1 h fun d t H1 ht R h=>?_
 subst ht
 refine hQ _ H1 R.same ?_
 have h:Kc (.bl (match t.dat with | .non=>!n | _=>n)):=h
 rw [O4]
 cases n <;> cases t <;> exact h
theorem O5 {a:Expr} {x:E} {n:Bool} {j pos'} (ha:PE X a (lE p EX tn x)):PE X (.Compare a [if n then .IsNot else .Is] [.Constant .none j pos'] pos) (lE p EX tn (.isN n x)):=by
 have key:∀ σ H Q,lE p EX tn (.isN n x) σ H Q->lE p EX tn x σ H fun v H1=>Q (.bl (if n then !decide (v=.non) else decide (v=.non))) H1:=by
  intro σ H Q h
  obtain ⟨τ,rfl,hF,j,k,hj,h⟩:=h
  simp only [jk] at hj
  obtain ⟨⟨j1,k1⟩,h1,hj⟩:=bS hj
  exact Q5 hF h1 h fun b H2 s hb=>KE.bl s hb
 cases n with
 | true=>exact PE.mono (LL (J0 ha)) fun σ H Q h=>key σ H Q h
 | false=>exact PE.mono (LL (LK ha)) fun σ H Q h=>key σ H Q h
theorem NC {a:Expr} {x:E} {n:Bool} {j pos'} (ha:PE X a (lE p EX tn x)):PT X (.Compare a [if n then .IsNot else .Is] [.Constant .none j pos'] pos) (lT p EX tn (.isN n x)):=by
 have key:∀ σ H Q,lT p EX tn (.isN n x) σ H Q->lE p EX tn x σ H fun v H1=>∃ c,V.bl (if n then !decide (v=.non) else decide (v=.non))=V.bl c/\Q c H1:=by
  intro σ H Q h
  obtain ⟨τ,rfl,hF,hj,h⟩:=h
  obtain ⟨q,hj⟩:=aat.mp hj
  simp only [jk] at hj
  obtain ⟨⟨j1,k1⟩,h1,hj⟩:=bS hj
  unfold tv at h
  exact Q5 (Q:=fun v H1=>∃ c,v=V.bl c/\Q c H1) hF h1 h.bind fun b H2 s hb=>⟨b,rfl,hb H2 s⟩
 cases n with
 | true=>exact PT.mono (LM (J0 ha)) fun σ H Q h=>key σ H Q h
 | false=>exact PT.mono (LM (LK ha)) fun σ H Q h=>key σ H Q h
end
section
variable {p:Px} {EX:EXT} {tn:List Nat} {X:Cx} {pos:Pos}
theorem Kf {a:Expr} {x:E} (ha:PE X a (lE p EX tn x)):PE X (.UnaryOp .USub a pos) (lE p EX tn (.neg x)):=by
 refine PE.mono (R8 QC ha) fun σ H Q h=>?_
 obtain ⟨τ,rfl,hF,j,k,hj,h⟩:=h
 simp only [jk] at hj
 obtain ⟨⟨j1,k1⟩,h1,hj⟩:=bS hj
 simp only [ev] at h
 refine l1 hF h1 h fun d t H1 ht R h=>?_
 subst ht
 cases t <;> simp only [T.dat] at h
 all_goals first | exact nE h | exact ⟨_,rfl,h (.int _) H1 rfl (Rs.scal R.same rfl)⟩
theorem O6 {a:Expr} {x:E} (ha:PE X a (lE p EX tn x)):PE X (.UnaryOp .Not a pos) (lE p EX tn (.not x)):=by
 refine PE.mono (Qq ha) fun σ H Q h=>?_
 obtain ⟨τ,rfl,hF,j,k,hj,h⟩:=h
 simp only [jk] at hj
 obtain ⟨⟨j1,k1⟩,h1,hj⟩:=bS hj
 simp only [ev] at h
 refine l1 hF h1 h fun d t H1 ht R h=>?_
 subst ht
 cases t <;> simp only [T.dat] at h
 all_goals first | exact nE h | exact ⟨_,rfl,h (.bl _) H1 rfl (Rs.scal R.same rfl)⟩
theorem ND {H:Hp} {t:T} {σ:St} {H0:Hp} {Kc:Bool->Prop} (hK:X.K=p.K) (ok:t.Ok p H) (h:Lg p EX σ (CC t.dat) H0 Kc):∃ b,Nh X.K t.val H b/\Kc b:=by
 cases t <;> simp only [T.dat,CC] at h
 ·exact ⟨false,rfl,h⟩
 ·exact ⟨_,rfl,h⟩
 ·exact ⟨_,rfl,h⟩
 ·exact nE h
 ·rename_i a ts
  refine ⟨_,.inr (.inl ⟨_,SqT.of ok.1,rfl⟩),?_⟩
  have h:Kc (!(T.dats ts).isEmpty):=h
  cases ts <;> exact h
 ·rename_i a ts
  refine ⟨_,.inl ⟨_,.inl ok.1,rfl⟩,?_⟩
  have h:Kc (!(T.dats ts).isEmpty):=h
  cases ts <;> exact h
 ·exact nE h
noncomputable def IJ:Expr->Bool
 | .UnaryOp .Not _ _=>false
 | .BoolOp _ _ _=>false
 | .IfExp _ _ _ _=>false
 | .Compare _ _ _ _=>false
 | _=>true
theorem Mn {a:Expr} {env:Env} (h:IJ a=true):∀ whole,isTrue a env whole=(do let v <- whole; standAt a.pos; holding [v] (truthy v)):=by
 intro whole
 cases a with
 | UnaryOp o x q=>cases o <;> first | rfl | cases h
 | BoolOp _ _ _=>cases h
 | IfExp _ _ _ _=>cases h
 | Compare _ _ _ _=>cases h
 | _=>rfl
theorem K7 (hK:X.K=p.K) {a:Expr} {x:E} (ha:PE X a (lE p EX tn x)) (hp:IJ a=true):PT X a (lT p EX tn x):=by
 refine PT.mono (Ni ha (Mn hp)) fun σ H Q h=>?_
 obtain ⟨τ,rfl,hF,hj,h⟩:=h
 obtain ⟨⟨j,k⟩,hj⟩:=aat.mp hj
 refine l1 hF hj h fun d t H1 ht R h=>?_
 subst ht
 obtain ⟨b,tb,hb⟩:=ND (X:=X) hK R.ok h
 exact ⟨b,tb,hb H1 R.same⟩
theorem NE {a:Expr} {x:E} (ha:PT X a (lT p EX tn x)):PT X (.UnaryOp .Not a pos) (lT p EX tn (.not x)):=by
 refine PT.mono (Qn ha) fun σ H Q h=>?_
 obtain ⟨τ,rfl,hF,hj,h⟩:=h
 obtain ⟨q,hj⟩:=aat.mp hj
 simp only [jk] at hj
 obtain ⟨⟨j1,k1⟩,h1,hj⟩:=bS hj
 refine ⟨τ,rfl,hF,by rw [h1]; rfl,?_⟩
 unfold tv at h ⊢
 simp only [ev] at h
 cases q:ev x (dτ τ) with
 | ok d =>
  rw [q] at h
  simp only [Res.bind_ok] at h ⊢
  cases d <;> simp only [Res.bind_bad] at h
  all_goals first | exact nE h | exact h
 | exc c=>rw [q] at h; exact h
 | bad=>rw [q] at h; exact h
theorem Q6 {a:Expr} {x:E} {k0:Bool} (ha:PE X a (lE p EX tn x)):PE X (.BoolOp (if k0 then .And else .Or) [a] pos) (lE p EX tn (.bo k0 (.cons x .nil))):=by
 refine PE.mono (Qo ha) fun σ H Q h=>?_
 obtain ⟨τ,rfl,hF,j,k,hj,h⟩:=h
 simp only [jk,jks] at hj
 obtain ⟨⟨j1,k1⟩,h1,hj⟩:=bS hj
 simp only [ev,evBo] at h
 have hj:=Option.some.inj hj
 refine ⟨τ,rfl,hF,j1,k1,h1,h.mono (Same.refl _) fun d _ hd t H' ht R=>hd t H' ht (R.le ?_ ?_)⟩
 ·simp at hj; omega
 ·simp at hj
  obtain ⟨h1,h2⟩:=hj
  rw [<- h2]
  split
  ·exact aaZ ..
  ·exact aar _
theorem O7 {a b:Expr} {rest:List Expr} {x y:E} {r:Es} {k0:Bool} (ha:PE X a (lE p EX tn x)) (hb:PE X (.BoolOp (if k0 then .And else .Or) (b :: rest) pos) (lE p EX tn (.bo k0 (.cons y r)))) :
  PE X (.BoolOp (if k0 then .And else .Or) (a :: b :: rest) pos) (lE p EX tn (.bo k0 (.cons x (.cons y r)))):=by
 have key:∀ σ H Q,lE p EX tn (.bo k0 (.cons x (.cons y r))) σ H Q->lE p EX tn x σ H fun v H1=>∃ c,v=.bl c/\if c=k0 then lE p EX tn (.bo k0 (.cons y r)) σ H1 Q else Q (.bl c) H1:=by
  intro σ H Q h
  obtain ⟨τ,rfl,hF,j,k,hj,h⟩:=h
  simp only [jk,jks] at hj
  obtain ⟨⟨j1,k1⟩,h1,hj⟩:=bS hj
  obtain ⟨⟨j2,k2⟩,h2,hj⟩:=bS hj
  have hj:=Option.some.inj hj
  simp only [Prod.mk.injEq] at hj
  simp only [ev,evBo] at h
  refine l1 hF h1 h fun d t H1 ht R h=>?_
  subst ht
  cases t <;> simp only [T.dat] at h
  all_goals first | exact nE h | skip
  rename_i c
  refine ⟨c,rfl,?_⟩
  by_cases z:c=k0
  ·rw [if_pos z] at h ⊢
   refine ⟨τ,rfl,hF.same R.same,j2,k2,by simp only [jk,jks]; exact h2,?_⟩
   simp only [ev]
   refine h.mono R.same fun d _ hd t H' ht R'=>hd t H' ht ((R'.back R.same).le (by omega) ?_)
   rw [<- hj.2]
   split
   ·exact aaV ..
   ·exact aar _
  ·rw [if_neg z] at h ⊢
   exact h (.bl c) H1 rfl (Rs.scal R.same rfl)
 cases k0 with
 | true =>
  refine PE.mono (Qp ha hb) fun σ H Q h=>?_
  refine (show ∀ (A B:VK),(∀ v H,A v H->B v H)->lE p EX tn x σ H A->lE p EX tn x σ H B from ?_) _ _ ?_ (key σ H Q h)
  ·rintro A B m ⟨τ,e,hF,j,k,hj,h⟩
   exact ⟨τ,e,hF,j,k,hj,h.mono (Same.refl _) fun d _ hd t H' ht R=>m _ _ (hd t H' ht R)⟩
  ·rintro v H1 ⟨c,rfl,h⟩
   exact ⟨c,rfl,by cases c <;> simpa using h⟩
 | false =>
  refine PE.mono (R1 ha hb) fun σ H Q h=>?_
  refine (show ∀ (A B:VK),(∀ v H,A v H->B v H)->lE p EX tn x σ H A->lE p EX tn x σ H B from ?_) _ _ ?_ (key σ H Q h)
  ·rintro A B m ⟨τ,e,hF,j,k,hj,h⟩
   exact ⟨τ,e,hF,j,k,hj,h.mono (Same.refl _) fun d _ hd t H' ht R=>m _ _ (hd t H' ht R)⟩
  ·rintro v H1 ⟨c,rfl,h⟩
   exact ⟨c,rfl,by cases c <;> simpa using h⟩
theorem O8 {a:Expr} {x:E} {k0:Bool} (ha:PT X a (lT p EX tn x)):PW X (.BoolOp (if k0 then .And else .Or) [a] pos) (lT p EX tn (.bo k0 (.cons x .nil))):=by
 have key:∀ σ H Q,lT p EX tn (.bo k0 (.cons x .nil)) σ H Q->lT p EX tn x σ H Q:=by
  rintro σ H Q ⟨τ,rfl,hF,hj,h⟩
  refine ⟨τ,rfl,hF,?_,by simpa only [tv,ev,evBo] using h⟩
  obtain ⟨q,hj⟩:=aat.mp hj
  simp only [jk,jks] at hj
  obtain ⟨⟨j1,k1⟩,h1,hj⟩:=bS hj
  rw [h1]; rfl
 cases k0 with
 | true=>exact fun wh pins s σ H Q I h=>OB ha wh pins s σ H Q I (key σ H Q h)
 | false=>exact fun wh pins s σ H Q I h=>Ql ha wh pins s σ H Q I (key σ H Q h)
theorem NF {a b:Expr} {rest:List Expr} {x y:E} {r:Es} {k0:Bool} (ha:PT X a (lT p EX tn x)) (hb:PW X (.BoolOp (if k0 then .And else .Or) (b :: rest) pos) (lT p EX tn (.bo k0 (.cons y r)))) :
  PW X (.BoolOp (if k0 then .And else .Or) (a :: b :: rest) pos) (lT p EX tn (.bo k0 (.cons x (.cons y r)))):=by
 have key:∀ σ H Q,lT p EX tn (.bo k0 (.cons x (.cons y r))) σ H Q->lT p EX tn x σ H fun c H1=>if c=k0 then lT p EX tn (.bo k0 (.cons y r)) σ H1 Q else Q c H1:=by
  rintro σ H Q ⟨τ,rfl,hF,hj,h⟩
  obtain ⟨q,hj⟩:=aat.mp hj
  simp only [jk,jks] at hj
  obtain ⟨⟨j1,k1⟩,h1,hj⟩:=bS hj
  obtain ⟨⟨j2,k2⟩,h2,hj⟩:=bS hj
  refine ⟨τ,rfl,hF,by rw [h1]; rfl,?_⟩
  simp only [tv,ev,evBo] at h ⊢
  cases q:ev x (dτ τ) with
  | ok d =>
   rw [q] at h
   simp only [Res.bind_ok] at h ⊢
   cases d <;> simp only [Res.bind_bad] at h
   all_goals first | exact nE h | skip
   rename_i c
   show ∀ H',Same H H'->if c=k0 then _ else _
   intro H' s
   by_cases z:c=k0
   ·rw [if_pos z] at h ⊢
    refine ⟨τ,rfl,hF.same s,by simp only [jk,jks]; rw [h2]; rfl,?_⟩
    simp only [tv,ev]
    exact h.mono s fun b _ hb H2 s2=>hb H2 (s.trans s2)
   ·rw [if_neg z] at h ⊢
    exact h H' s
  | exc c=>rw [q] at h; exact h
  | bad=>rw [q] at h; exact h
 have mon:∀ (σ:St) (H:Hp) (A B:Bool->Hp->Prop),(∀ v H,A v H->B v H)->lT p EX tn x σ H A->lT p EX tn x σ H B:=by
  rintro σ H A B m ⟨τ,e,hF,hj,h⟩
  exact ⟨τ,e,hF,hj,h.mono (Same.refl _) fun b _ hb H' s=>m _ _ (hb H' s)⟩
 cases k0 with
 | true=>exact fun wh pins s σ H Q I h=>Qm ha hb wh pins s σ H Q I (mon _ _ _ _ (fun c H1 h=>by cases c <;> simpa using h) (key σ H Q h))
 | false=>exact fun wh pins s σ H Q I h=>RY ha hb wh pins s σ H Q I (mon _ _ _ _ (fun c H1 h=>by cases c <;> simpa using h) (key σ H Q h))
end
section
variable {p:Px} {EX:EXT} {tn:List Nat} {X:Cx} {pos:Pos}
theorem IK (n:Nat) (i:Int):L2.ixN n i=ixN n i:=rfl
theorem K8 {ts:List T} {i:Int} {σ:St} {H:Hp} {Kc:D->Prop} (h:Lg p EX σ (atD (T.dats ts) i) H Kc):∃ t ∈ ts,atI (ts.map T.val) i=some t.val/\Kc t.dat:=by
 unfold atD at h
 rw [Ag] at h
 cases q:ixN ts.length i with
 | none=>rw [q] at h; exact nE h
 | some j =>
  rw [q] at h
  simp only [aa3] at h
  rw [T.dats_map,aan] at h
  cases e:ts[j]? with
  | none=>rw [e] at h; exact nE h
  | some t =>
   rw [e] at h
   refine ⟨t,aae e,?_,h⟩
   unfold atI
   rw [aab,IK,q]
   show (ts.map T.val)[j]?=_
   rw [aan,e]; rfl
theorem Rs.sub {B:Addr->Prop} {H H1:Hp} {j k j':Nat} {t u:T} (r:Rs p B H H1 j k t) (ok:u.Ok p H1) (h:∀ a ∈ u.rest j',a ∈ t.rest j):Rs p B H H1 j' 0 u :=
 ⟨r.same,ok,fun a m=>r.src a (h a m),by rw [T.adr_zero]; simp,T.nd_zero u⟩
noncomputable def CW:Expr->Bool
 | .Slice _ _ _ _=>false
 | _=>true
theorem Fk {b:Expr} (h:CW b=true):J5 b:=by
 intro o i
 cases b <;> first | rfl | cases h
theorem Q7 (hK:X.K=p.K):IxR X (fun x y H Q=>QK X.K x y H Q\/QL X.K x y H Q):=G5.or L6
theorem Q8 (hK:X.K=p.K) {a b:Expr} {x y:E} (ha:PE X a (lE p EX tn x)) (hb:PE X b (lE p EX tn y)) (hp:CW b=true):PE X (.Subscript a b pos) (lE p EX tn (.ix x y)):=by
 refine PE.mono (KW (Q7 hK) ha hb (Fk hp)) fun σ H Q h=>?_
 obtain ⟨τ,rfl,hF,j,k,hj,h⟩:=h
 simp only [jk] at hj
 obtain ⟨⟨j1,k1⟩,h1,hj⟩:=bS hj
 obtain ⟨⟨j2,k2⟩,h2,hj⟩:=bS hj
 obtain ⟨hc,e⟩:=DI hj
 cases e
 have hc:=of_decide_eq_true hc
 subst hc
 simp only [ev] at h
 refine l1 hF h1 h fun d t H1 ht R h=>l2 hF R.same h2 h fun d' t' H2 ht' R' h=>?_
 subst ht ht'
 have R:=R.fwd R'.same
 cases t <;> cases t' <;> simp only [T.dat,ixD] at h
 all_goals first | exact nE h | skip
 ·obtain ⟨u,hu,e,h⟩:=K8 h
  exact .inr ⟨_,_,_,_,rfl,rfl,SqT.of R.ok.1,e,h u H2 rfl (R.sub (T.oks_iff.mp R.ok.2 u hu) fun b m=>T.mem_rests.mpr ⟨u,hu,m⟩)⟩
 ·obtain ⟨u,hu,e,h⟩:=K8 h
  exact .inl ⟨_,_,_,_,rfl,rfl,.inl R.ok.1,e,h u H2 rfl (R.sub (T.oks_iff.mp R.ok.2 u hu) fun b m=>aaa _ (T.mem_rests.mpr ⟨u,hu,m⟩))⟩
theorem O9 {a b:Expr} {x y:E} (ha:PE X a (lE p EX tn x)) (hb:PE X b (lE p EX tn y)) (hp:CW b=true):PE X (.Subscript a b pos) (lE p EX tn (.ixL x y)):=by
 refine PE.mono (KW G5 ha hb (Fk hp)) fun σ H Q h=>?_
 obtain ⟨τ,rfl,hF,j,k,hj,h⟩:=h
 simp only [jk] at hj
 obtain ⟨⟨j1,k1⟩,h1,hj⟩:=bS hj
 obtain ⟨⟨j2,k2⟩,h2,hj⟩:=bS hj
 have hj:=Option.some.inj hj
 simp only [Prod.mk.injEq] at hj
 obtain ⟨rfl,rfl⟩:=hj
 simp only [ev] at h
 refine l1 hF h1 h fun d t H1 ht R h=>l2 hF R.same h2 h fun d' t' H2 ht' R' h=>?_
 subst ht ht'
 have R:=R.fwd R'.same
 cases t <;> cases t' <;> simp only [T.dat,DY] at h
 all_goals first | exact nE h | skip
 obtain ⟨u,hu,e,h⟩:=K8 h
 refine ⟨_,_,_,_,rfl,rfl,.inl R.ok.1,e,h u H2 rfl (R.sub (T.oks_iff.mp R.ok.2 u hu) fun b m=>?_)⟩
 cases j1 with
 | zero=>exact aaa _ (T.mem_rests.mpr ⟨u,hu,m⟩)
 | succ j1=>exact T.mem_rests.mpr ⟨u,hu,m⟩
theorem GC (n d:Nat) (o:Option Int):HT.sIx n d o=sIx n d o:=by
 cases o with
 | none=>rfl
 | some v=>exact Int.ofNat_inj.mp (by rw [<- HT.clip_eq v n d]; unfold sIx; simp only; split <;> omega)
theorem Kg {α β:Type} (f:α->β) (xs:List α) (lo hi:Option Int):(cut xs lo hi).map f=cut (xs.map f) lo hi:=by
 unfold cut; rw [abL,abM,aab]
theorem Kh (ts:List T) (lo hi:Option Int):Fc (ts.map T.val) lo hi=(cut ts lo hi).map T.val:=by
 unfold Fc cut
 rw [abL,abM,aab,GC,GC]
theorem FM {α:Type} {xs:List α} {lo hi:Option Int} {x:α} (h:x ∈ cut xs lo hi):x ∈ xs:=abz (abA h)
noncomputable def lO (p:Px) (EX:EXT) (tn:List Nat) (e:E):TO:=fun σ H Q=>∃ τ,σ=vτ τ/\Fok p tn τ H/\(jk tn e).isSome=true/\Lg p EX σ (Ci e.isCN (ev e (dτ τ))) H fun o=>∀ H',Same H H'->Q o H'
theorem HG:PO X none (lO p EX tn .cN):=by
 intro pins s σ H Q I h
 obtain ⟨τ,rfl,hF,hj,h⟩:=h
 exact OJ pins s _ H Q I (h H (Same.refl _))
theorem HH {e:Expr} {x:E} (he:PE X e (lE p EX tn x)) (hx:x.isCN=false):PO X (some e) (lO p EX tn x):=by
 intro pins s σ H Q I h
 obtain ⟨τ,rfl,hF,hj,h⟩:=h
 obtain ⟨⟨j,k⟩,hj⟩:=aat.mp hj
 unfold Ci at h
 rw [hx,if_neg (by decide)] at h
 refine J2 he pins s _ H Q I (l1 hF hj h fun d t H1 ht R h=>?_)
 subst ht
 cases t <;> simp only [T.dat,CQ] at h
 all_goals first | exact nE h | exact ⟨_,rfl,h H1 R.same⟩
theorem Ki:∀ {ts:List T},(T.dats ts).all D.scal=true->∀ t ∈ ts,t.sc=true
 | [],_,t,h=>nomatch h
 | u :: r,h,t,ht=>by
  simp only [T.dats,aaI,aaj] at h
  rcases aai.mp ht with rfl | ht
  ·cases t <;> first | rfl | cases h.1
  ·exact Ki h.2 t ht
theorem Pa {t:T} {j:Nat} (h:t.sc=true):t.rest j=[]:=by cases t <;> first | rfl | cases h
theorem Q9 {t:T} {j:Nat} (h:t.sc=true):t.adr j=[]:=by cases t <;> first | rfl | cases h
theorem IL {ts:List T} {j:Nat} (h:∀ t ∈ ts,t.sc=true):T.rests ts j=[]:=by
 refine aaS.mpr fun b hb=>?_
 obtain ⟨t,ht,q⟩:=T.mem_rests.mp hb
 rw [Pa (h t ht)] at q; cases q
theorem Kj {ts:List T} {j:Nat} (h:∀ t ∈ ts,t.sc=true):T.adrs ts j=[]:=by
 refine aaS.mpr fun b hb=>?_
 obtain ⟨t,ht,q⟩:=T.mem_adrs.mp hb
 rw [Q9 (h t ht)] at q; cases q
theorem NG {B:Addr->Prop} {H H1:Hp} {j k:Nat} {a:Addr} {ts:List T} (s:Same H H1) (ok:(T.tup a ts).Ok p H1) (h:∀ t ∈ ts,t.sc=true):Rs p B H H1 j k (.tup a ts) :=
 ⟨s,ok,by simp only [T.rest]; rw [IL h]; simp,by simp only [T.adr]; rw [Kj h]; simp,by unfold T.Nd; simp only [T.adr,T.rest]; rw [IL h,Kj h]; simp⟩
theorem Pb {a:Expr} {lo hi:Option Expr} {p2:Pos} {x y z:E} (ha:PE X a (lE p EX tn x)) (hl:PO X lo (lO p EX tn y)) (hh:PO X hi (lO p EX tn z)):PE X (.Subscript a (.Slice lo hi none p2) pos) (lE p EX tn (.slc x y z)):=by
 refine PE.mono (Nk (OK.or QJ) ha hl hh) fun σ H Q h=>?_
 obtain ⟨τ,rfl,hF,j,k,hj,h⟩:=h
 simp only [jk] at hj
 obtain ⟨⟨j1,k1⟩,h1,hj⟩:=bS hj
 obtain ⟨q2,h2,hj⟩:=bS hj
 obtain ⟨q3,h3,hj⟩:=bS hj
 obtain ⟨hc,e⟩:=DI hj
 cases e
 have hc:=of_decide_eq_true hc
 simp only [ev] at h
 refine l1 hF h1 h fun d t H1 ht R h=>?_
 subst ht
 refine ⟨τ,rfl,hF.same R.same,by rw [h2]; rfl,h.bind.mono R.same fun l _ h H2 s2=>?_⟩
 refine ⟨τ,rfl,hF.same (R.same.trans s2),by rw [h3]; rfl,h.bind.mono (R.same.trans s2) fun u _ h H3 s3=>?_⟩
 have R:=R.fwd (s2.trans s3)
 cases t with
 | tup b ts =>
  simp only [T.dat,CS] at h
  obtain ⟨⟨g1,g2⟩,h⟩:=h.guard
  refine .inr ⟨b,_,rfl,SqT.of R.ok.1,?_,fun q hq=>?_⟩
  ·rw [aab,GC,GC,<- Ag]; exact g2
  ·rw [Kh]
   have sn:=Same.new (o:=.tup ((cut ts l u).map T.val)) hq
   refine h (.tup q (cut ts l u)) _ (by simp only [T.dat,T.dats_map,Kg]) (NG (R.same.trans sn) ⟨AW,T.oks_iff.mpr fun w hw=>((T.oks_iff.mp R.ok.2 w (FM hw))).same sn⟩ fun w hw=>Ki g1 w (FM hw))
 | lst b ts =>
  simp only [T.dat,CS] at h
  refine .inl ⟨b,_,rfl,.inl R.ok.1,fun q hq=>?_⟩
  rw [Kh]
  refine h (.lst q (cut ts l u)) _ (by simp only [T.dat,T.dats_map,Kg]) (Ex R.same (T.oks_iff.mpr fun w hw=>T.oks_iff.mp R.ok.2 w (FM hw)) (fun c m=>?_) hq)
  obtain ⟨w,hw,m⟩:=T.mem_rests.mp m
  exact R.elems hc c (T.mem_rests.mpr ⟨w,FM hw,m⟩)
 | _=>exact nE h
end
noncomputable def spF (p:Px) (F:Fn):Sp:=fun vs H Q E=>∃ ts:List T,vs=ts.map T.val/\T.Oks p H ts/\ts.length=F.ar/\match F.den (T.dats ts) with
 | .ok d=>∀ t H',t.dat=d->Rs p (fun a=>a ∈ T.rests ts 0) H H' 0 F.dep t->Q t.val H'
 | .exc c=>p.has c=true->∀ H',Same H H'->E (.ref (p.cl c)) none H'
 | .bad=>False
noncomputable def K9 (p:Px) (X:Cx) (F:Fn):Prop:=∃ ps:List Str,ps.length=F.ar/\Has X.prog X.w X.K X.mg X.base F.name F.lv ps (spF p F)
theorem Fl:∀ (m:Nat) (t:T) (k:Nat),t.dat.flat m k=true->t.rest k=[]
 | 0,t,k,h=>by simp [D.flat] at h
 | m + 1,t,k,h=>by
  cases t with
  | tup a ts =>
   simp only [T.dat,D.flat] at h
   simp only [T.rest]
   refine aaS.mpr fun b hb=>?_
   obtain ⟨t,ht,q⟩:=T.mem_rests.mp hb
   rw [Fl m t k (EU h t ht)] at q; cases q
  | lst a ts =>
   cases k with
   | zero=>simp [T.dat,D.flat] at h
   | succ k =>
    simp only [T.dat,D.flat] at h
    simp only [T.rest]
    refine aaS.mpr fun b hb=>?_
    obtain ⟨t,ht,q⟩:=T.mem_rests.mp hb
    rw [Fl m t k (EU h t ht)] at q; cases q
  | _=>rfl
noncomputable def Ap:Expr->Bool
 | .Starred _ _=>false
 | _=>true
theorem Am {e:Expr} {es:List Expr} {env:Env} (h:Ap e=true):starEach (e :: es) env=(false,eval e env) :: starEach es env:=by
 cases e <;> first | rfl | cases h
theorem A5 {pos:Pos} {env:Env}:∀ {es:List Expr},es.all Ap=true->(backTo pos (starEach es env)).any (·.1)=false
 | [],_=>rfl
 | e :: es,h=>by
  rw [aaI,aaj] at h
  rw [Am h.1]
  have ih:=A5 (pos:=pos) (env:=env) h.2
  unfold backTo at ih ⊢
  rw [aaF,acw,ih]; rfl
section
variable {p:Px} {EX:EXT} {tn:List Nat} {X:Cx} {pos np:Pos}
theorem NH {F:Fn} {e:Expr} {es:List Expr} {x:E} {xs:Es} (hx:Fd (CXe X.prog X.w) X EX) (hF:K9 p X F) (hr:Room F.lv X.A) (hg:Gl X F.name) (hdb:(F.name==("__debug__" : Str))=false) (ha:PA X (e :: es) (lEs p EX tn (.cons x xs))) (hst:(e :: es).all Ap=true) (hl:(Es.cons x xs).len=F.ar) :
  PE X (.Call (.Name F.name np) (e :: es) [] pos) (lE p EX tn (.call F (.cons x xs))):=by
 obtain ⟨ps,hps,hF⟩:=hF
 rw [aaI,aaj] at hst
 refine PE.mono (Ol hF hr hg hx ha hdb (Am hst.1) (A5 hst.2)) fun σ H Q h=>?_
 obtain ⟨τ,rfl,hFr,j,k,hj,h⟩:=h
 simp only [jk] at hj
 obtain ⟨⟨j1,k1⟩,h1,hj⟩:=bS hj
 obtain ⟨hc,e⟩:=DI hj
 cases e
 have hc:j1=0:=of_decide_eq_true hc
 subst hc
 simp only [ev] at h
 refine ⟨τ,rfl,hFr,0,k1,h1,h.bind.mono (Same.refl _) fun ds e hd ts H1 hts R=>?_⟩
 show spF p F (ts.map T.val ++ []) H1 Q (EX (vτ τ))
 rw [aaR]
 refine ⟨ts,rfl,R.ok,?_,?_⟩
 ·rw [<- Ag,hts,BM _ _ _ e,hl]
 ·rw [hts]
  cases q:F.den ds with
  | ok d =>
   rw [q] at hd
   intro t H' ht R'
   refine hd t H' ht ⟨R.same.trans R'.same,R'.ok,fun a m=>?_,fun a m=>⟨R.same.free (R'.new a m).1,(R'.new a m).2⟩,R'.nd⟩
   rcases R'.src a m with z | z
   ·exact .inl (R.same.free z)
   ·exact R.src a z
  | exc c =>
   rw [q] at hd
   exact fun hc H' s=>hd hc H' (R.same.trans s)
  | bad=>rw [q] at hd; exact hd
theorem T.adr_rest:∀ (t:T) {d K:Nat},t.rest d=[]->d<=K->t.adr K=t.adr d:=by
 have lists:∀ (ts:List T),(∀ t ∈ ts,∀ {d K:Nat},t.rest d=[]->d<=K->t.adr K=t.adr d)->∀ {d K:Nat},T.rests ts d=[]->d<=K->T.adrs ts K=T.adrs ts d:=by
  intro ts
  induction ts with
  | nil=>intro _ d K _ _; rfl
  | cons t r ih =>
   intro h d K hr hk
   simp only [T.rests,List.append_eq_nil_iff] at hr
   show t.adr K ++ T.adrs r K=t.adr d ++ T.adrs r d
   rw [h t (aac ..) hr.1 hk,ih (fun u hu=>h u (aaa _ hu)) hr.2 hk]
 refine T.ind (by intros; rfl) (by intros; rfl) (by intros; rfl) (by intros; rfl) (fun a ts ih d K h hk=>?_) (fun a ts ih d K h hk=>?_) (by intros; rfl)
 ·exact lists ts ih h hk
 ·cases d with
  | zero=>cases h
  | succ d =>
   cases K with
   | zero=>omega
   | succ K=>exact congrArg (a :: ·) (lists ts ih h (abI hk))
theorem Mo {F:Fn} {e:Expr} {es:List Expr} {x:E} {xs:Es} (hx:Fd (CXe X.prog X.w) X EX) (hF:K9 p X F) (hr:Room F.lv X.A) (hg:Gl X F.name) (hdb:(F.name==("__debug__" : Str))=false) (ha:PA X (e :: es) (lEs p EX tn (.cons x xs))) (hst:(e :: es).all Ap=true) (hl:(Es.cons x xs).len=F.ar) :
  PE X (.Call (.Name F.name np) (e :: es) [] pos) (lE p EX tn (.callB F (.cons x xs))):=by
 obtain ⟨ps,hps,hF⟩:=hF
 rw [aaI,aaj] at hst
 refine PE.mono (Ol hF hr hg hx ha hdb (Am hst.1) (A5 hst.2)) fun σ H Q h=>?_
 obtain ⟨τ,rfl,hFr,j,k,hj,h⟩:=h
 simp only [jk] at hj
 obtain ⟨⟨j1,k1⟩,h1,hj⟩:=bS hj
 have hj:=Option.some.inj hj
 simp only [Prod.mk.injEq] at hj
 obtain ⟨rfl,rfl⟩:=hj
 simp only [ev] at h
 refine ⟨τ,rfl,hFr,j1,k1,h1,h.bind.mono (Same.refl _) fun ds e hd ts H1 hts R=>?_⟩
 show spF p F (ts.map T.val ++ []) H1 Q (EX (vτ τ))
 rw [aaR]
 refine ⟨ts,rfl,R.ok,?_,?_⟩
 ·rw [<- Ag,hts,BM _ _ _ e,hl]
 ·rw [hts]
  cases q:F.den ds with
  | ok d =>
   rw [q] at hd
   obtain ⟨hf,hd⟩:=Lg.guard hd
   intro t H' ht R'
   subst ht
   have r0:=Fl 9 t F.dep hf
   have up:∀ a,a ∈ t.rest 0->a ∈ t.adr F.dep:=fun a m=>by
    rcases (T.all_iff t F.dep).mp m with z | z
    ·exact z
    ·rw [r0] at z; cases z
   refine hd t H' rfl ⟨R.same.trans R'.same,R'.ok,fun a m=>.inl (R.same.free (R'.new a (up a m)).1),fun a m=>?_,?_⟩
   ·have:=R'.new a (up a ((T.all_iff t 9).mpr (.inl m)))
    exact ⟨R.same.free this.1,this.2⟩
   ·by_cases c9:9<=F.dep
    ·exact T.nd_le t c9 R'.nd
    ·have e9:=T.adr_rest t r0 (show F.dep<=9 by omega)
     refine ⟨by rw [e9]; exact R'.nd.1,fun a m _=>?_⟩
     have:=T.rest_le t (show F.dep<=9 by omega) m
     rw [r0] at this; cases this
  | exc c =>
   rw [q] at hd
   exact fun hc H' s=>hd hc H' (R.same.trans s)
  | bad=>rw [q] at hd; exact hd
theorem DU {b:Bi} {e:Expr} {es:List Expr} {x:E} {xs:Es} {ex:Expr} {r:List V->Hp->VK->Prop} (hp:PE X ex (tCB r (lEs p EX tn (.cons x xs))))
  (hr:∀ (B:Addr->Prop) (H H1:Hp) (j1 k1 j k:Nat) (ts:List T) (σ:St) (Q:VK),RsL p B H H1 j1 k1 ts->(match b with | .list=>gj (decide (j1=0)) (0,1) | _=>some (0,9))=some (j,k) ->
   Lg p EX σ (biD b (T.dats ts)) H (KE p B H j k Q)->r (ts.map T.val) H1 Q):PE X ex (lE p EX tn (.bi b (.cons x xs))):=by
 refine PE.mono hp fun σ H Q h=>?_
 obtain ⟨τ,rfl,hFr,j,k,hj,h⟩:=h
 simp only [jk] at hj
 obtain ⟨⟨j1,k1⟩,h1,hj⟩:=bS hj
 simp only [ev] at h
 refine ⟨τ,rfl,hFr,j1,k1,h1,h.bind.mono (Same.refl _) fun ds e hd ts H1 hts R=>?_⟩
 subst hts
 exact hr (Sh tn τ) H H1 j1 k1 j k ts _ Q R hj hd
theorem F0:∀ {ts:List T} {bs:List Int},CT (T.dats ts)=some bs->ts.map T.val=bs.map V.int
 | [],bs,h=>by simp [T.dats,CT] at h; subst h; rfl
 | t :: r,bs,h=>by
  cases t <;> simp only [T.dats,T.dat,CT] at h
  all_goals first | cases h | skip
  obtain ⟨bs',h1,rfl⟩:=aau.mp h
  simp [T.val,F0 h1]
section
variable {e:Expr} {es:List Expr} {x:E} {xs:Es} (hg:∀ y:Str,y ∈ (["len", "min", "max", "abs", "int", "list", "tuple", "all", "any", "sum", "sorted", "isinstance", "str", "range", "enumerate", "zip", "reversed"]:List Str)->X.mg y=none)
 (ha:PA X (e :: es) (lEs p EX tn (.cons x xs))) (hst:(e :: es).all Ap=true)
include hg ha hst
theorem Pc (hgl:Gl X "len"):PE X (.Call (.Name "len" np) (e :: es) [] pos) (lE p EX tn (.bi .len (.cons x xs))):=by
 rw [aaI,aaj] at hst
 refine DU (es:=es) (e:=e) (DX IA hgl (hg _ (by simp)) PySem.boot_len ha (by decide) (by decide) (Am hst.1) (A5 hst.2)) fun B H H1 j1 k1 j k ts σ Q R hj h=>?_
 rcases ts with _ | ⟨t,_ | ⟨u,r⟩⟩
 ·exact nE h
 ·cases t with
  | lst a us=>exact ⟨a,_,rfl,.inl (.inl R.ok.1.1),by have:=h (.int _) H1 rfl (Rs.scal R.same rfl); rw [Ag,<- aab (f:=T.val)] at this; exact this⟩
  | tup a us=>exact ⟨a,_,rfl,.inr (SqT.of R.ok.1.1),by have:=h (.int _) H1 rfl (Rs.scal R.same rfl); rw [Ag,<- aab (f:=T.val)] at this; exact this⟩
  | _=>exact nE h
 ·exact nE h
theorem Pd (hgl:Gl X "int"):PE X (.Call (.Name "int" np) (e :: es) [] pos) (lE p EX tn (.bi .int (.cons x xs))):=by
 rw [aaI,aaj] at hst
 refine DU (es:=es) (e:=e) (HB LY hgl (hg _ (by simp)) (by decide +kernel) ha (by decide) (by decide) (Am hst.1) (A5 hst.2)) fun B H H1 j1 k1 j k ts σ Q R hj h=>?_
 rcases ts with _ | ⟨t,_ | ⟨u,r⟩⟩
 ·exact nE h
 ·cases t with
  | int i=>exact .inl ⟨i,rfl,h (.int _) H1 rfl (Rs.scal R.same rfl)⟩
  | bl b=>exact .inr ⟨b,rfl,h (.int _) H1 rfl (Rs.scal R.same rfl)⟩
  | _=>exact nE h
 ·exact nE h
theorem NI (hgl:Gl X "list"):PE X (.Call (.Name "list" np) (e :: es) [] pos) (lE p EX tn (.bi .list (.cons x xs))):=by
 rw [aaI,aaj] at hst
 refine DU (es:=es) (e:=e) (HB IB hgl (hg _ (by simp)) (by decide +kernel) ha (by decide) (by decide) (Am hst.1) (A5 hst.2)) fun B H H1 j1 k1 j k ts σ Q R hj h=>?_
 obtain ⟨hc,ej⟩:=DI hj
 cases ej
 have hc:j1=0:=of_decide_eq_true hc
 subst hc
 rcases ts with _ | ⟨t,_ | ⟨u,r⟩⟩
 ·exact nE h
 ·cases t with
  | lst a us=>exact ⟨a,_,rfl,.inl (.inl R.ok.1.1),fun l hl=>h (.lst l us) _ rfl (Ex R.same R.ok.1.2 (fun c m=>R.src c (by simp [T.rests,T.rest,m])) hl)⟩
  | tup a us=>exact ⟨a,_,rfl,.inr (SqT.of R.ok.1.1),fun l hl=>h (.lst l us) _ rfl (Ex R.same R.ok.1.2 (fun c m=>R.src c (by simp [T.rests,T.rest,m])) hl)⟩
  | _=>exact nE h
 ·exact nE h
end
end
section
variable {p:Px} {EX:EXT} {tn:List Nat} {X:Cx} {pos np:Pos}
theorem La {ns:List Int} {its:List Value} (h:Vals (ns.map V.int) its):∃ xs:Array (Int × Tok),its.toArray=intItems xs/\ns=xs.toList.map (·.1):=by
 have hi:=KU h
 obtain ⟨xs,hx⟩:=hi.allInts.items
 refine ⟨xs,hx,?_⟩
 rw [<- nums_intItems,<- hx,<- hi.numsOf]
noncomputable def Sm:List V->Hp->VK->Prop:=fun xs H Q=>∃ (l:Addr) (ns:List Int) (M:Int),xs=[.ref l]/\Rd H l (.lst (ns.map V.int))/\ns.max?=some M/\Q (.int M) H
theorem Mp (hc:X.calm=true):DF X (.builtin "max") Sm:=by
 intro pins s σ H xs us Q I r h
 obtain ⟨l,ns,M,rfl,hS,hM,q⟩:=h
 obtain ⟨u,rfl,ru⟩:=Gu r
 cases (show u=Value.ref l from ru)
 obtain ⟨its,rr,pl,_⟩:=I.list (.inl hS)
 obtain ⟨xs,hx,rfl⟩:=La rr
 have hl:=pl.isList
 rw [hx] at hl
 have hne:0 < xs.size:=by
  rcases abY xs.size with z | z
  ·have:xs.toList=[]:=abd (by simpa using z)
   rw [this] at hM; cases hM
  ·exact z
 refine max_intList (I.ok.hd hc) hl hne fun v h' tk hv hk=>?_
 obtain ⟨t,rfl⟩:=intItems_at hv
 obtain ⟨h1,h2⟩:=argBest_gt (numAt xs) (xs.size - 1)
 have e:M=numAt xs (argBest (fun i j=>decide (numAt xs i > numAt xs j)) (xs.size - 1)):=by
  have:(xs.toList.map (·.1)).max?=some (numAt xs (argBest (fun i j=>decide (numAt xs i > numAt xs j)) (xs.size - 1))):=by
   refine aco.mpr ⟨?_,fun a ha=>?_⟩
   ·rw [numAt_eq]; exact getD_mem (by rw [aab,Array.length_toList]; omega)
   ·obtain ⟨j,hj,rfl⟩:=mem_getD ha
    rw [aab,Array.length_toList] at hj
    rw [<- numAt_eq]; exact h2 j (by omega)
  exact Option.some.inj (hM.symm.trans this)
 exact ⟨.int M,H,I.kept (t':=tk) hk,⟨t,by rw [e]⟩,q⟩
section
variable {e:Expr} {es:List Expr} {x:E} {xs:Es} (hg:∀ y:Str,y ∈ (["len", "min", "max", "abs", "int", "list", "tuple", "all", "any", "sum", "sorted", "isinstance", "str", "range", "enumerate", "zip", "reversed"]:List Str)->X.mg y=none)
 (ha:PA X (e :: es) (lEs p EX tn (.cons x xs))) (hst:(e :: es).all Ap=true)
include hg ha hst
theorem Pe (hcm:X.calm=true) (hgl:Gl X "max"):PE X (.Call (.Name "max" np) (e :: es) [] pos) (lE p EX tn (.bi .max (.cons x xs))):=by
 rw [aaI,aaj] at hst
 refine DU (es:=es) (e:=e) (DX (LW hcm) hgl (hg _ (by simp)) (by decide +kernel) ha (by decide) (by decide) (Am hst.1) (A5 hst.2)) fun B H H1 j1 k1 j k ts σ Q R hj h=>?_
 rcases ts with _ | ⟨t,_ | ⟨u,_ | ⟨v,r⟩⟩⟩
 ·exact nE h
 ·exact nE h
 ·obtain ⟨i,m,rfl,rfl,h⟩:=B0 (t:=t) (u:=u) (Q:=fun r=>Lg p EX σ r H (KE p B H j k Q)) id h
  refine ⟨i,m,rfl,?_⟩
  have:=h (.int _) H1 rfl (Rs.scal R.same rfl)
  have e:(if m > i then m else i)=max i m:=by split <;> omega
  rw [e]; exact this
 ·exact nE h
theorem NJ (hcm:X.calm=true) (hgl:Gl X "max"):PE X (.Call (.Name "max" np) (e :: es) [] pos) (lE p EX tn (.bi .maxL (.cons x xs))):=by
 rw [aaI,aaj] at hst
 refine DU (es:=es) (e:=e) (DX (Mp hcm) hgl (hg _ (by simp)) (by decide +kernel) ha (by decide) (by decide) (Am hst.1) (A5 hst.2)) fun B H H1 j1 k1 j k ts σ Q R hj h=>?_
 rcases ts with _ | ⟨t,_ | ⟨u,r⟩⟩
 ·exact nE h
 ·cases t with
  | lst a us =>
   have h:Lg p EX σ ((Ff (CT (T.dats us))).bind fun ns=>(Ff ns.max?).bind fun n=>.ok (.int n)) H (KE p B H j k Q):=h
   cases q:CT (T.dats us) with
   | none=>rw [q] at h; exact nE h
   | some ns =>
    rw [q] at h
    have h:Lg p EX σ ((Ff ns.max?).bind fun n=>.ok (.int n)) H (KE p B H j k Q):=h
    cases q2:ns.max? with
    | none=>rw [q2] at h; exact nE h
    | some M =>
     rw [q2] at h
     exact ⟨a,ns,M,rfl,F0 q ▸ R.ok.1.1,q2,h (.int _) H1 rfl (Rs.scal R.same rfl)⟩
  | _=>exact nE h
 ·exact nE h
theorem Pf (hcm:X.calm=true) (hgl:Gl X "min"):PE X (.Call (.Name "min" np) (e :: es) [] pos) (lE p EX tn (.bi .min (.cons x xs))):=by
 rw [aaI,aaj] at hst
 refine DU (es:=es) (e:=e) (DX (LX hcm) hgl (hg _ (by simp)) (by decide +kernel) ha (by decide) (by decide) (Am hst.1) (A5 hst.2)) fun B H H1 j1 k1 j k ts σ Q R hj h=>?_
 rcases ts with _ | ⟨t,_ | ⟨u,_ | ⟨v,r⟩⟩⟩
 ·exact nE h
 ·exact nE h
 ·obtain ⟨i,m,rfl,rfl,h⟩:=B0 (t:=t) (u:=u) (Q:=fun r=>Lg p EX σ r H (KE p B H j k Q)) id h
  refine ⟨i,m,rfl,?_⟩
  have:=h (.int _) H1 rfl (Rs.scal R.same rfl)
  have e:(if m < i then m else i)=min i m:=by split <;> omega
  rw [e]; exact this
 ·exact nE h
end
end
structure ItOk (p:Px) (B:Addr->Prop) (H H1:Hp) (J:L2.It) (us:List T) (j:Nat) (ds:List D):Prop where
 same:Same H H1
 ok:T.Oks p H1 us
 src:∀ a ∈ T.rests us j,H a=none\/B a
 len:ds.length<=sizeLine
 go:∀ (i:Nat) (H':Hp),T.Oks p H' us->i < ds.length->J.go i H'
 stop:∀ (i:Nat) (H':Hp),T.Oks p H' us->ds.length<=i->J.stop i H'
 yld:∀ (i:Nat) (H':Hp) (v:V) (H'':Hp) (d:D),T.Oks p H' us->ds[i]?=some d->J.yld i H' v H''->Same H' H''/\∃ t:T,t.val=v/\t.dat=d/\t.Ok p H''/\(∀ a ∈ t.rest 0,a ∈ T.rests us 0)/\∀ a ∈ t.rest 0,H a=none\/B a
noncomputable def lI (p:Px) (EX:EXT) (tn:List Nat) (it:It):TI:=fun σ H R=>∃ τ,σ=vτ τ/\Fok p tn τ H/\∃ j,jkI tn it=some j/\Lg p EX σ (evI it (dτ τ)) H fun ds=>∀ J us H1,ItOk p (Sh tn τ) H H1 J us j ds->R J H1
theorem PI.mono {X:Cx} {tg e:Expr} {t t':TI} (h:PI X tg e t) (m:∀ σ H Q,t' σ H Q->t σ H Q):PI X tg e t':=fun pins s σ H Q I q=>h pins s σ H Q I (m _ _ _ q)
section
variable {p:Px} {EX:EXT} {tn:List Nat} {X:Cx} {pos np:Pos} {tg:Expr}
theorem EV {ts:List T} {i:Nat} {d:D} (h:(T.dats ts)[i]?=some d):∃ t,ts[i]?=some t/\t.dat=d:=by
 rw [T.dats_map,aan] at h
 obtain ⟨t,h1,h2⟩:=aau.mp h
 exact ⟨t,h1,h2⟩
theorem Fm (hK:X.K=p.K) {B:Addr->Prop} {H H1:Hp} {j k:Nat} {a:Addr} {ts:List T} (r:Rs p B H H1 j k (.lst a ts)) (hj:j<=1) (hl:ts.length<=sizeLine):ItOk p B H H1 (Itl X.K a) [.lst a ts] j (T.dats ts) where
 same:=r.same
 ok:=⟨r.ok,trivial⟩
 src:=fun b m=>r.src b (by simpa [T.rests] using m)
 len:=by rw [Ag]; exact hl
 go:=fun i H' ok h=>by
  rw [Ag] at h
  exact ⟨_,(ts.map T.val)[i]'(by simpa using h),.inl ok.1.1,by simp [h]⟩
 stop:=fun i H' ok h=>⟨_,.inl ok.1.1,by simpa [Ag] using h⟩
 yld:=fun i H' v H'' d ok h y=>by
  obtain ⟨rfl,y⟩:=y
  obtain ⟨t,ht,e⟩:=EV h
  have:=y _ (.inl ok.1.1)
  rw [aan,ht] at this
  refine ⟨Same.refl _,t,Option.some.inj this,e,T.oks_iff.mp ok.1.2 t (aae ht),fun b m=>by simp only [T.rests,T.rest,aaR]; exact aaa _ (T.mem_rests.mpr ⟨t,aae ht,m⟩),fun b m=>r.elems hj b (T.mem_rests.mpr ⟨t,aae ht,m⟩)⟩
theorem NK {B:Addr->Prop} {H H1:Hp} {k:Nat} {a:Addr} {ts:List T} (r:Rs p B H H1 0 k (.tup a ts)) (hl:ts.length<=sizeLine):ItOk p B H H1 (Itt X.K a) [.tup a ts] 0 (T.dats ts) where
 same:=r.same
 ok:=⟨r.ok,trivial⟩
 src:=fun b m=>r.src b (by simpa [T.rests] using m)
 len:=by rw [Ag]; exact hl
 go:=fun i H' ok h=>by
  rw [Ag] at h
  exact ⟨_,(ts.map T.val)[i]'(by simpa using h),SqT.of ok.1.1,by simp [h]⟩
 stop:=fun i H' ok h=>⟨_,SqT.of ok.1.1,by simpa [Ag] using h⟩
 yld:=fun i H' v H'' d ok h y=>by
  obtain ⟨rfl,y⟩:=y
  obtain ⟨t,ht,e⟩:=EV h
  have:=y _ (SqT.of ok.1.1)
  rw [aan,ht] at this
  refine ⟨Same.refl _,t,Option.some.inj this,e,T.oks_iff.mp ok.1.2 t (aae ht),fun b m=>by simp only [T.rests,T.rest,aaR]; exact T.mem_rests.mpr ⟨t,aae ht,m⟩,fun b m=>r.src b (T.mem_rests.mpr ⟨t,aae ht,m⟩)⟩
noncomputable def SY (K:Frag) (tl:TE):TI:=fun σ H R=>tl σ H fun x H1=>∃ a,x=.ref a/\((∃ xs,SqL K H1 a xs/\(xs.length<=sizeLine->R (Itl K a) H1))\/(∃ xs,SqT K H1 a xs/\(xs.length<=sizeLine->R (Itt K a) H1)))
theorem IM {l:Expr} {tl:TE} (hl:PE X l tl):PI X tg l (SY X.K tl):=by
 intro pins s σ H R I h
 refine thn (hl pins s σ H _ I h) fun v s1 ⟨x,H1,I1,r1,q1⟩=>?_
 obtain ⟨a,e,q1⟩:=q1
 subst e
 cases r1
 rcases q1 with ⟨xs,hq,q⟩ | ⟨xs,hq,q⟩
 ·obtain ⟨its,rv,pl,hz⟩:=I1.list hq
  refine wpAny_pyIter_list pl.isList ?_
  refine ⟨s1.heap.objs.size,[s1.heap.objs.size],_,_,H1,rfl,I1.kept (t':=s1.toks) fun b o e=>Heap.get?_push_of_some _ e,LR a _,⟨_,Heap.get?_push_size _ rfl,rfl,rfl⟩,fun b hb=>?_,q hz⟩
  have e:b=s1.heap.objs.size:=by simpa using hb
  subst e
  exact I1.fpOk (aag _) (I1.hok.fresh (aag _))
 ·obtain ⟨its,rv,pl,hz⟩:=I1.tuple hq
  refine wpAny_pyIter_tuple (show s1.heap.IsTuple a its.toArray from pl) ?_
  refine ⟨s1.heap.objs.size,[s1.heap.objs.size],_,_,H1,rfl,I1.kept (t':=s1.toks) fun b o e=>Heap.get?_push_of_some _ e,KM a _,⟨_,Heap.get?_push_size _ rfl,rfl,rfl⟩,fun b hb=>?_,q hz⟩
  have e:b=s1.heap.objs.size:=by simpa using hb
  subst e
  exact I1.fpOk (aag _) (I1.hok.fresh (aag _))
theorem NL (hK:X.K=p.K) {e:Expr} {x:E} (he:PE X e (lE p EX tn x)):PI X tg e (lI p EX tn (.seq x)):=by
 refine PI.mono (IM he) fun σ H R h=>?_
 obtain ⟨τ,rfl,hF,j,hj,h⟩:=h
 simp only [jkI] at hj
 obtain ⟨⟨j1,k1⟩,h1,hj⟩:=bS hj
 split at hj
 ·rename_i z
  cases hj
  have z:j1=0:=z
  subst z
  simp only [evI] at h
  refine l1 hF h1 h fun d t H1 ht r h=>?_
  subst ht
  cases t with
  | lst a ts=>exact ⟨a,rfl,.inl ⟨_,.inl r.ok.1,fun hz=>h _ _ _ (Fm hK r (by omega) (by simpa using hz))⟩⟩
  | tup a ts=>exact ⟨a,rfl,.inr ⟨_,SqT.of r.ok.1,fun hz=>h _ _ _ (NK r (by simpa using hz))⟩⟩
  | _=>exact nE h
 ·cases hj
theorem Mq (hK:X.K=p.K) {e:Expr} {x:E} (he:PE X e (lE p EX tn x)):PI X tg e (lI p EX tn (.seqL x)):=by
 refine PI.mono (IM he) fun σ H R h=>?_
 obtain ⟨τ,rfl,hF,j,hj,h⟩:=h
 simp only [jkI] at hj
 obtain ⟨⟨j1,k1⟩,h1,hj⟩:=bS hj
 split at hj
 ·rename_i z
  cases hj
  simp only [evI] at h
  refine l1 hF h1 h fun d t H1 ht r h=>?_
  subst ht
  cases t with
  | lst a ts=>exact ⟨a,rfl,.inl ⟨_,.inl r.ok.1,fun hz=>h _ _ _ (Fm hK r z (by simpa using hz))⟩⟩
  | _=>exact nE h
 ·cases hj
theorem GD {B:Addr->Prop} {H H1:Hp} {a b:Int} (s:Same H H1) (hl:(b - a).toNat<=LIM):ItOk p B H H1 (Itr a (b - a).toNat) [] 0 (Ao a b) where
 same:=s
 ok:=trivial
 src:=fun c m=>nomatch m
 len:=by unfold Ao; rw [aab,abv]; exact hl
 go:=fun i H' _ h=>by unfold Ao at h; rw [aab,abv] at h; exact h
 stop:=fun i H' _ h=>by unfold Ao at h; rw [aab,abv] at h; exact h
 yld:=fun i H' v H'' d _ h y=>by
  obtain ⟨rfl,rfl⟩:=y
  unfold Ao at h
  rw [aan] at h
  obtain ⟨n,h1,h2⟩:=aau.mp h
  have:n=i:=by
   obtain ⟨_,e⟩:=aaq.mp h1
   simpa using e.symm
  subst this
  exact ⟨Same.refl _,.int (a + n),rfl,h2,trivial,by simp [T.rest],by simp [T.rest]⟩
theorem D0 {i:Int} (h:Fg i=true):-(2 ^ 62)<=i/\i < 2 ^ 62:=by
 unfold Fg at h
 rw [aaj] at h
 exact ⟨of_decide_eq_true h.1,of_decide_eq_true h.2⟩
theorem Pg {e:Expr} {x:E} (he:PE X e (lE p EX tn x)) (hst:Ap e=true) (hg:Gl X "range") (hm:X.mg "range" = none):PI X tg (.Call (.Name "range" np) [e] [] pos) (lI p EX tn (.r1 x)):=by
 refine PI.mono (LT hg hm (Bz he DW (Am hst)) (Am hst)) fun σ H R h=>?_
 obtain ⟨τ,rfl,hF,j,hj,h⟩:=h
 simp only [jkI] at hj
 obtain ⟨⟨j1,k1⟩,h1,hj⟩:=bS hj
 cases hj
 simp only [evI] at h
 refine l1 hF h1 h fun d t H1 ht r h=>?_
 subst ht
 cases t with
 | int b =>
  obtain ⟨hc,h⟩:=Lg.guard (r:=.ok (Ao 0 b)) h
  rw [aaj,aaj] at hc
  obtain ⟨h3,h4⟩:=D0 hc.1.2
  have hl:=of_decide_eq_true hc.2
  have:=h _ _ _ (GD (p:=p) r.same hl)
  rw [ab5] at this
  exact ⟨b,rfl,h3,h4,this⟩
 | _=>exact nE h
theorem Ph {e e':Expr} {x y:E} (he:PE X e (lE p EX tn x)) (he':PE X e' (lE p EX tn y)) (hst:Ap e=true) (hst':Ap e'=true) (hg:Gl X "range") (hm:X.mg "range" = none):PI X tg (.Call (.Name "range" np) [e,e'] [] pos) (lI p EX tn (.r2 x y)):=by
 refine PI.mono (LU hg hm (Bz he (Bz he' DW (Am hst')) (Am hst)) (by rw [Am hst,Am hst']; rfl) (Am hst')) fun σ H R h=>?_
 obtain ⟨τ,rfl,hF,j,hj,h⟩:=h
 simp only [jkI] at hj
 obtain ⟨⟨j1,k1⟩,h1,hj⟩:=bS hj
 obtain ⟨⟨j2,k2⟩,h2,hj⟩:=bS hj
 cases hj
 simp only [evI] at h
 refine l1 hF h1 h fun d t H1 ht r h=>l2 hF r.same h2 h fun d' t' H2 ht' r' h=>?_
 subst ht ht'
 cases t with
 | int a =>
  cases t' with
  | int b =>
   obtain ⟨hc,h⟩:=Lg.guard (r:=.ok (Ao a b)) h
   rw [aaj,aaj] at hc
   exact ⟨a,b,rfl,⟨(D0 hc.1.1).1,(D0 hc.1.1).2,(D0 hc.1.2).1,(D0 hc.1.2).2⟩,h _ _ _ (GD (p:=p) (r.same.trans r'.same) (of_decide_eq_true hc.2))⟩
  | _=>exact nE h
 | _=>exact nE h
noncomputable def iZp (K:Frag) (ta:TA):TI:=fun σ H R=>ta σ H fun vs H1=>∃ a b,vs=[.ref a,.ref b]/\∃ xs ys,SqL K H1 a xs/\SqL K H1 b ys/\(xs.length<=sizeLine->R (Itz K a b) H1)
theorem Pi (n:Nat):Zap (n + 4) (n + 2) (n + 3) n (n + 1):=by
 constructor <;> (intro h; have h:(_:Nat)=_:=h; omega)
theorem Ra {e e':Expr} {ta:TA} {elts:List Expr} {k1:Nat} {q:Pos} (hg:Gl X "zip") (hm:X.mg "zip" = none) (ha:PA X [e,e'] ta) (hs:starEach [e,e'] X.env=[(false,eval e X.env),(false,eval e' X.env)]) (hs2:starEach [e'] X.env=[(false,eval e' X.env)]):PI X (.Tuple elts k1 q) (.Call (.Name "zip" np) [e,e'] [] pos) (iZp X.K ta):=by
 intro pins s σ H R I h
 refine Call_ (Eu I hg hm (show bootBuiltins "zip" = some (.type "zip") by decide +kernel) (PyProof.Rows.callWith_type1 (thn (ha pos pins s σ H _ I h) fun us s1 ⟨vs,H1,I1,r1,q1⟩=>?_) (by rw [hs,hs2]) (by rw [hs2]; rfl)))
 obtain ⟨a,b,e,xs,ys,hq,hq2,q⟩:=q1
 subst e
 cases r1 with
 | cons r rr =>
  cases rr with
  | cons r' rr =>
   cases rr
   cases r
   cases r'
   obtain ⟨its,rv,pl,hz⟩:=I1.list hq
   obtain ⟨its2,rv2,pl2,hz2⟩:=I1.list hq2
   refine call_zip_2 pl.isList pl2.isList fun h' hZ hTI hTO h1 h2 hsz hk=>wpAny_pyIter_zip hZ ?_
   refine ⟨s1.heap.objs.size + 4,[s1.heap.objs.size + 4,s1.heap.objs.size + 2,s1.heap.objs.size + 3,s1.heap.objs.size,s1.heap.objs.size + 1],_,_,H1,rfl,I1.kept (t':=s1.toks) hk,Nw a b _ _ _ _ _ (Pi _),⟨hZ,hTI,⟨_,_,hTO⟩,h1,h2⟩,fun b hb=>?_,q hz⟩
   have hb:s1.heap.objs.size<=b:=by
    simp only [aai,abk,or_false] at hb
    rcases hb with rfl | rfl | rfl | rfl | rfl <;> omega
   exact I1.fpOk hb (I1.hok.fresh hb)
theorem Pj {a st:Expr} {p2:Pos} {x:E} (ha:PE X a (lE p EX tn x)) (hk:PE X st (lE p EX tn (.neg (.cI 1)))) (hK:X.K=p.K):PE X (.Subscript a (.Slice none none (some st) p2) pos) (lE p EX tn (.rev x)):=by
 refine PE.mono (QT ha (J2 hk)) fun σ H Q h=>?_
 obtain ⟨τ,rfl,hF,j,k,hj,h⟩:=h
 simp only [jk] at hj
 obtain ⟨⟨j1,k1⟩,h1,hj⟩:=bS hj
 obtain ⟨hc,e⟩:=DI hj
 cases e
 have hc:=of_decide_eq_true hc
 simp only [ev] at h
 refine l1 hF h1 h fun d t H1 ht R h=>?_
 subst ht
 refine ⟨τ,rfl,hF.same R.same,0,9,rfl,?_⟩
 show Lg p EX (vτ τ) (Res.ok (D.int (-1))) H1 _
 intro t2 H2 ht2 R2
 cases t2 with
 | int i =>
  have e:i=-1:=by
   have:D.int i=.int (-1):=ht2
   injection this
  subst e
  refine ⟨-1,rfl,rfl,?_⟩
  have R:=R.fwd R2.same
  cases t with
  | lst b ts =>
   refine ⟨b,_,rfl,.inl R.ok.1,fun q hq=>?_⟩
   rw [<- abB]
   refine h (.lst q ts.reverse) _ (by simp only [T.dat,T.dats_map,abB]) (Ex R.same (T.oks_iff.mpr fun w hw=>T.oks_iff.mp R.ok.2 w (abm.mp hw)) (fun c m=>?_) hq)
   obtain ⟨w,hw,m⟩:=T.mem_rests.mp m
   exact R.elems hc c (T.mem_rests.mpr ⟨w,abm.mp hw,m⟩)
  | _=>exact nE h
 | _=>cases ht2
end
noncomputable def B3:List Nat->List T->Ft->Option Ft
 | [],[],τ=>some τ
 | i :: is,t :: ts,τ=>B3 is ts (τ.set i (some t))
 | _,_,_=>none
noncomputable def Cu:Tg->T->Ft->Option Ft
 | .nm i,t,τ=>some (τ.set i (some t))
 | .tp is,.tup _ ts,τ=>B3 is ts τ
 | .tp is,.lst _ ts,τ=>B3 is ts τ
 | _,_,_=>none
theorem Dj (τ:Ft) (i:Nat) (t:T):dτ (τ.set i (some t))=(dτ τ).set i (some t.dat):=by unfold dτ; rw [ab6]; rfl
theorem FN (τ:Ft) (i:Nat) (t:T):vτ (τ.set i (some t))=(vτ τ).set i (some t.val):=by unfold vτ; rw [ab6]; rfl
theorem GE:∀ (is:List Nat) (ts:List T) (τ:Ft),Ew is (T.dats ts) (dτ τ)=(B3 is ts τ).map dτ
 | [],[],τ=>rfl
 | [],t :: ts,τ=>rfl
 | i :: is,[],τ=>rfl
 | i :: is,t :: ts,τ=>by simp only [T.dats,Ew,B3]; rw [<- Dj,GE is ts]
theorem Fo (g:Tg) (t:T) (τ:Ft):DH g t.dat (dτ τ)=(Cu g t τ).map dτ:=by
 cases g with
 | nm i=>simp only [DH,Cu,aaW,Dj]
 | tp is=>cases t <;> first | rfl | exact GE is _ τ
noncomputable def Cv:List Nat->TGs
 | []=>Qs
 | i :: r=>Og (ER i) (Cv r)
noncomputable def lG (K:Frag):Tg->TG
 | .nm i=>ER i
 | .tp is=>fun v σ H Q=>Qt K is.length (Cv is) v σ H Q\/QU K is.length (Cv is) v σ H Q
theorem Fp {H:Hp} {Q:L2.St->Hp->Prop}:∀ {is:List Nat} {ts:List T} {τ τ':Ft},B3 is ts τ=some τ'->Q (vτ τ') H->Cv is (ts.map T.val) (vτ τ) H Q
 | [],[],τ,τ',h,q=>by cases h; exact ⟨rfl,q⟩
 | [],t :: ts,τ,τ',h,q=>by cases h
 | i :: is,[],τ,τ',h,q=>by cases h
 | i :: is,t :: ts,τ,τ',h,q=>by
  refine ⟨t.val,ts.map T.val,rfl,?_⟩
  show Cv is (ts.map T.val) ((vτ τ).set i (some t.val)) H Q
  rw [<- FN]
  exact Fp (τ:=τ.set i (some t)) h q
theorem Eo:∀ {is:List Nat} {ts:List T} {τ τ':Ft},B3 is ts τ=some τ'->ts.length=is.length
 | [],[],τ,τ',h=>rfl
 | [],t :: ts,τ,τ',h=>by cases h
 | i :: is,[],τ,τ',h=>by cases h
 | i :: is,t :: ts,τ,τ',h=>by simp [Eo (is:=is) (ts:=ts) (τ:=τ.set i (some t)) h]
theorem Ii {K:Frag} {p:Px} {H:Hp} {g:Tg} {t:T} {τ τ':Ft} {Q:L2.St->Hp->Prop} (ok:t.Ok p H) (h:Cu g t τ=some τ') (q:Q (vτ τ') H):lG K g t.val (vτ τ) H Q:=by
 cases g with
 | nm i =>
  cases h
  show Q ((vτ τ).set i (some t.val)) H
  rw [<- FN]; exact q
 | tp is =>
  cases t with
  | tup a ts=>exact .inl ⟨a,ts.map T.val,rfl,SqT.of ok.1,by rw [aab]; exact Eo h,Fp h q⟩
  | lst a ts=>exact .inr ⟨a,ts.map T.val,rfl,.inl ok.1,by rw [aab]; exact Eo h,Fp h q⟩
  | _=>cases h
noncomputable def Tg.sl:Tg->List Nat
 | .nm i=>[i]
 | .tp is=>is
theorem Ep {n:Nat} {H:Hp} {Q:L2.St->Hp->Prop}:∀ {is:List Nat} {vs:List V} {σ:L2.St},(∀ i ∈ is,i < n)->Cv is vs σ H Q->Cv is vs σ H fun σ' H'=>Q σ' H'/\σ'.length=σ.length/\∀ i,n<=i->σ'[i]?=σ[i]?
 | [],vs,σ,_,h=>by obtain ⟨e,q⟩:=h; exact ⟨e,q,rfl,fun _ _=>rfl⟩
 | i :: is,vs,σ,hi,h=>by
  obtain ⟨v,r,e,h⟩:=h
  refine ⟨v,r,e,?_⟩
  have h2:=Ep (n:=n) (is:=is) (σ:=σ.set i (some v)) (fun j hj=>hi j (aaa _ hj)) h
  have mono:∀ {is:List Nat} {vs:List V} {σ:L2.St} {H:Hp} {A B:L2.St->Hp->Prop},(∀ s h,A s h->B s h)->Cv is vs σ H A->Cv is vs σ H B:=by
   intro is
   induction is with
   | nil=>intro vs σ H A B m h; exact ⟨h.1,m _ _ h.2⟩
   | cons i is ih =>
    intro vs σ H A B m h
    obtain ⟨v,r,e,h⟩:=h
    exact ⟨v,r,e,ih m h⟩
  refine mono (fun s h q=>⟨q.1,by rw [q.2.1,aaB],fun k hk=>?_⟩) h2
  rw [q.2.2 k hk,aap (by have:=hi i (aac ..); omega)]
theorem Kk {K:Frag} {n:Nat} {g:Tg} (hg:∀ i ∈ g.sl,i < n) {v:V} {σ:L2.St} {H:Hp} {Q:L2.St->Hp->Prop} (h:lG K g v σ H Q):lG K g v σ H fun σ' H'=>Q σ' H'/\σ'.length=σ.length/\∀ i,n<=i->σ'[i]?=σ[i]?:=by
 cases g with
 | nm i=>exact ⟨h,by rw [aaB],fun k hk=>by rw [aap (by have:=hg i (aaU.mpr rfl); omega)]⟩
 | tp is =>
  rcases h with ⟨a,xs,e,s,l,h⟩ | ⟨a,xs,e,s,l,h⟩
  ·exact .inl ⟨a,xs,e,s,l,Ep hg h⟩
  ·exact .inr ⟨a,xs,e,s,l,Ep hg h⟩
theorem Er {P:Option T->Prop}:∀ {is:List Nat} {ts:List T} {τ τ':Ft},B3 is ts τ=some τ'->(∀ t ∈ ts,P (some t))->∀ i o,τ'[i]?=some o->P o\/(i ∉ is/\τ[i]?=some o)
 | [],[],τ,τ',h,_,i,o,e=>by cases h; exact .inr ⟨by simp,e⟩
 | [],t :: ts,τ,τ',h,_,_,_,_=>by cases h
 | i :: is,[],τ,τ',h,_,_,_,_=>by cases h
 | i :: is,t :: ts,τ,τ',h,hp,j,o,e=>by
  rcases Er (P:=P) (is:=is) (ts:=ts) (τ:=τ.set i (some t)) h (fun u hu=>hp u (aaa _ hu)) j o e with q | ⟨q1,q2⟩
  ·exact .inl q
  ·by_cases z:i=j
   ·subst z
    rw [abq ] at q2
    cases w:τ[i]? with
    | none=>rw [w] at q2; cases q2
    | some x =>
     rw [w] at q2
     have:o=some t:=by simpa using q2.symm
     subst this
     exact .inl (hp t (aac ..))
   ·rw [aap z] at q2
    refine .inr ⟨?_,q2⟩
    intro m
    rcases aai.mp m with rfl | m
    ·exact z rfl
    ·exact q1 m
theorem GF {P:Option T->Prop} {g:Tg} {t:T} {τ τ':Ft} (h:Cu g t τ=some τ') (hp:P (some t)) (hp':∀ a ts,(t=.tup a ts\/t=.lst a ts)->∀ u ∈ ts,P (some u)) (i:Nat) (o:Option T) (e:τ'[i]?=some o):P o\/(i ∉ g.sl/\τ[i]?=some o):=by
 cases g with
 | nm k =>
  cases h
  by_cases z:k=i
  ·subst z
   rw [abq] at e
   cases w:τ[k]? with
   | none=>rw [w] at e; cases e
   | some x =>
    rw [w] at e
    have:o=some t:=by simpa using e.symm
    subst this; exact .inl hp
  ·rw [aap z] at e
   exact .inr ⟨by simpa [Tg.sl] using fun q=>z q.symm,e⟩
 | tp is =>
  cases t with
  | tup a ts=>exact Er (P:=P) h (fun u hu=>hp' a ts (.inl rfl) u hu) i o e
  | lst a ts=>exact Er (P:=P) h (fun u hu=>hp' a ts (.inr rfl) u hu) i o e
  | _=>cases h
theorem Ez:∀ {is:List Nat} {ts:List T} {τ τ':Ft},B3 is ts τ=some τ'->τ'.length=τ.length
 | [],[],τ,τ',h=>by cases h; rfl
 | [],t :: ts,τ,τ',h=>by cases h
 | i :: is,[],τ,τ',h=>by cases h
 | i :: is,t :: ts,τ,τ',h=>by rw [Ez (is:=is) (ts:=ts) (τ:=τ.set i (some t)) h,aaB]
theorem HY {g:Tg} {t:T} {τ τ':Ft} (h:Cu g t τ=some τ'):τ'.length=τ.length:=by
 cases g with
 | nm k=>cases h; rw [aaB]
 | tp is=>cases t <;> first | cases h | exact Ez h
noncomputable def Ga (nl:Nat) (fr:List Nat) (τ:Ft):Ft:=aam nl none ++ fr.map fun j=>(τ[j]?).join
theorem Pk (nl:Nat) (fr:List Nat) (τ:Ft):dτ (Ga nl fr τ)=blk nl fr (dτ τ):=by
 unfold dτ Ga blk
 rw [aao,abb,aaM]
 congr 1
 refine aaN fun j _=>?_
 simp only [Function.comp,aan]
 cases τ[j]? with
 | none=>rfl
 | some o=>rfl
theorem Pl (nl:Nat) (fr:List Nat) (τ:Ft):vτ (Ga nl fr τ)=Be nl fr (vτ τ):=by
 unfold vτ Ga Be
 rw [aao,abb,aaM]
 congr 1
 refine aaN fun j _=>?_
 simp only [Function.comp,aan]
 cases τ[j]? with
 | none=>rfl
 | some o=>rfl
noncomputable abbrev tnB (nl:Nat) (fr:List Nat) (tn:List Nat):List Nat:=aam nl 0 ++ fr.map fun j=>tn.getD j 99
theorem Kl {nl:Nat} {fr:List Nat} {tn:List Nat} {τ:Ft} {i:Nat} {t:T} {j:Nat} (h:(Ga nl fr τ)[i]?=some (some t)) (hj:(tnB nl fr tn)[i]?=some j) (hlt:j < 90):∃ k:Nat,τ[k]?=some (some t)/\tn[k]?=some j:=by
 unfold Ga at h
 unfold tnB at hj
 by_cases hi:i < nl
 ·rw [aaL (by simpa using hi),aaO] at h
  split at h <;> cases h
 ·rw [aay (by simpa using hi),aa1,aan] at h hj
  obtain ⟨k,e1,e2⟩:=aau.mp h
  rw [e1] at hj
  have e3:tn.getD k 99=j:=by simpa using hj
  refine ⟨k,?_,?_⟩
  ·cases w:τ[k]? with
   | none=>rw [w] at e2; cases e2
   | some o=>rw [w] at e2; exact congrArg some e2
  ·rw [aaJ] at e3
   cases w:tn[k]? with
   | none=>rw [w] at e3; simp at e3; omega
   | some x=>rw [w] at e3; exact congrArg some e3
theorem T.nds_append {ts us:List T} {k:Nat} (h1:T.Nds ts k) (h2:T.Nds us k) (c1:∀ a ∈ T.adrs ts k,a ∉ T.rests us 0) (c2:∀ a ∈ T.adrs us k,a ∉ T.rests ts 0):T.Nds (ts ++ us) k:=by
 unfold T.Nds
 rw [T.adrs_append,T.rests_append]
 refine ⟨acH.mpr ⟨h1.1,h2.1,fun a ha b hb e=>?_⟩,fun a ha hb=>?_⟩
 ·subst e; exact c1 a ha ((T.alls_iff us k).mpr (.inl hb))
 ·rcases aaf.mp ha with ha | ha <;> rcases aaf.mp hb with hb | hb
  ·exact h1.2 a ha hb
  ·exact c2 a hb ((T.alls_iff ts k).mpr (.inr ha))
  ·exact c1 a hb ((T.alls_iff us k).mpr (.inr ha))
  ·exact h2.2 a ha hb
theorem Fq {f:D->Res (Option D)}:∀ (ds:List D) (c:Nat),Bl f ds ≠ .exc c
 | [],c=>by simp [Bl]
 | d :: ds,c=>by
  simp only [Bl]
  cases f d with
  | ok o =>
   simp only
   cases q:Bl f ds with
   | ok r=>simp
   | exc c'=>exact absurd q (Fq ds c')
   | bad=>simp
  | exc c'=>simp
  | bad=>simp
theorem JE {f:D->Res (Option D)} {d:D} {ds r:List D} (h:Bl f (d :: ds)=.ok r):∃ o r',f d=.ok o/\Bl f ds=.ok r'/\r=o.toList ++ r':=by
 simp only [Bl] at h
 cases q:f d with
 | ok o =>
  rw [q] at h
  obtain ⟨r',h1,h2⟩:=Res.bind_eq_ok h
  cases h2
  refine ⟨o,r',rfl,h1,?_⟩
  cases o <;> rfl
 | exc c=>rw [q] at h; cases h
 | bad=>rw [q] at h; cases h
noncomputable abbrev EX0:EXT:=fun _ _ _ _=>False
section
variable {p:Px} {EX:EXT} {tn:List Nat} {X:Cx} {pos np:Pos}
theorem Pm {K:Frag} {nl:Nat} {fr:List Nat} {g:Tg} {it:It} {k:Nat} {f:D->Res (Option D)} {tc:TT} {elt:E} {τ:Ft} {H:Hp} {Q:VK} {ji:Nat} (hF:Fok p tn τ H) (hji:jkI tn it=some ji) (hg:∀ i ∈ g.sl,i < nl) (hk:jk (tnB nl fr tn) elt=some (0,k))
  (hf:∀ (d:D) (o:Option D),f d=.ok o->∃ δ',DH g d (blk nl fr (dτ τ))=some δ'/\∀ (τ4:Ft) (H3:Hp) (N:Bool->Hp->Prop),dτ τ4=δ'->Fok p (tnB nl fr tn) τ4 H3 ->
   (∀ b H5,Same H3 H5->(match o with | none=>b=false | some x=>b=true/\ev elt δ'=.ok x)->N b H5)->tc (vτ τ4) H3 N)
  (h:Lg p EX (vτ τ) ((evI it (dτ τ)).bind fun ds=>(Bl f ds).bind fun r=>.ok (.lst r)) H (KE p (Sh tn τ) H 0 (k + 1) Q)) :
  GA nl fr (lI p EX tn it) (fun _=>lG K g) (fun _=>tc) (fun _=>lE p EX0 (tnB nl fr tn) elt) (vτ τ) H Q:=by
 refine ⟨τ,rfl,hF,ji,hji,h.bind.mono (Same.refl _) fun ds _ hd J us H1 IT=>?_⟩
 cases q:Bl f ds with
 | exc c=>exact absurd q (Fq ds c)
 | bad=>rw [q] at hd; exact nE hd
 | ok r =>
 rw [q] at hd
 have hd:KE p (Sh tn τ) H 0 (k + 1) Q (.lst r):=hd
 intro z D hD
 have hDH:H D=none:=IT.same.free hD
 refine ⟨fun i m acc H2=>m=ds.length - i/\i<=ds.length/\∃ (ts:List T) (r':List Pu.D),acc=ts.map T.val/\Bl f (ds.drop i)=.ok r'/\T.dats ts ++ r'=r/\ts.length<=i/\H2 D=some (.lst acc)/\(∀ a u,a ≠ D->H1 a=some u->H2 a=some u) /\
  T.Oks p H2 ts/\(∀ a ∈ T.rests ts 0,(H a=none\/Sh tn τ a)/\a ≠ D)/\(∀ a ∈ T.adrs ts k,H1 a=none/\∃ vs,H2 a=some (.lst vs))/\T.Nds ts k,⟨ds.length,by simp,aar _,[],r,rfl,by simpa using q,rfl,aag _,AW,fun a u n e=>by rw [Ar n]; exact e,trivial,by simp [T.rests],by simp [T.adrs],by simp [T.Nds,T.adrs]⟩,?_⟩
 rintro i m acc H2 ⟨rfl,hi,ts,r',rfl,hr,hc,hts,hD2,kp,ok,src,new,nd⟩
 refine ⟨hD2,?_⟩
 have s2:Same H H2:=fun a u e=>kp a u (fun z=>by rw [z,hDH] at e; cases e) (IT.same a u e)
 have usok:T.Oks p H2 us:=T.oks_iff.mpr fun u hu=>(T.oks_iff.mp IT.ok u hu).keep fun a w e _=>kp a w (fun z=>by rw [z,hD] at e; cases e) e
 have out:D ∉ T.rests ts 0:=fun m=>(src D m).2 rfl
 rcases abG i ds.length with hlt | hge
 ·refine .inr ⟨IT.go i H2 usok hlt,fun x H3 y=>?_⟩
  have hdi:ds[i]?=some ds[i]:=aah hlt
  obtain ⟨s3,t,rfl,ht,tok,tus,tsrc⟩:=IT.yld i H2 x H3 ds[i] usok hdi y
  have hdrop:ds.drop i=ds[i] :: ds.drop (i + 1):=abi hlt
  rw [hdrop] at hr
  obtain ⟨o,r'',hfo,hr'',rfl⟩:=JE hr
  obtain ⟨δ',hasg,hev⟩:=hf _ o hfo
  rw [<- ht,<- Pk,Fo] at hasg
  obtain ⟨τ4,h4,hδ⟩:=aau.mp hasg
  have sH3:Same H H3:=s2.trans s3
  have tusD:∀ a ∈ t.rest 0,a ≠ D:=fun a m z=>by
   obtain ⟨w,hw,m⟩:=T.mem_rests.mp (tus a m)
   exact (T.oks_iff.mp IT.ok w hw).dom m (z ▸ hD)
  have slot:∀ (n:Nat) (w:T),τ4[n]?=some (some w)->(w.Ok p H3/\∀ a ∈ w.rest 0,(H a=none\/Sh tn τ a)/\a ≠ D/\H1 a ≠ none)\/(n ∉ g.sl/\(Ga nl fr τ)[n]?=some (some w)):=by
   intro n w e
   refine (GF (P:=fun o=>∀ w,o=some w->(w.Ok p H3/\∀ a ∈ w.rest 0,(H a=none\/Sh tn τ a)/\a ≠ D/\H1 a ≠ none)) h4 (fun w e=>?_) (fun a ts' e u hu w e'=>?_) n (some w) e).imp (fun q=>q w rfl) id
   ·cases e
    refine ⟨tok,fun a m=>⟨tsrc a m,tusD a m,fun z=>?_⟩⟩
    obtain ⟨w',hw',m'⟩:=T.mem_rests.mp (tus a m)
    exact (T.oks_iff.mp IT.ok w' hw').dom m' z
   ·cases e'
    have sub:∀ b ∈ u.rest 0,b ∈ t.rest 0:=fun b m=>by
     rcases e with rfl | rfl
     ·exact T.mem_rests.mpr ⟨u,hu,m⟩
     ·exact aaa _ (T.mem_rests.mpr ⟨u,hu,m⟩)
    have uok:u.Ok p H3:=by
     rcases e with rfl | rfl
     ·exact T.oks_iff.mp tok.2 u hu
     ·exact T.oks_iff.mp tok.2 u hu
    refine ⟨uok,fun b m=>?_⟩
    have m:=sub b m
    refine ⟨tsrc b m,tusD b m,fun z=>?_⟩
    obtain ⟨w',hw',m'⟩:=T.mem_rests.mp (tus b m)
    exact (T.oks_iff.mp IT.ok w' hw').dom m' z
  have F4:Fok p (tnB nl fr tn) τ4 H3:=fun n w j e ej hj=>by
   rcases slot n w e with q | ⟨_,q⟩
   ·exact q.1
   ·obtain ⟨k',e1,e2⟩:=Kl q ej hj
    exact (hF k' w j e1 e2 hj).same sH3
  have S4:∀ a,Sh (tnB nl fr tn) τ4 a->(H a=none\/Sh tn τ a)/\a ≠ D/\H1 a ≠ none:=by
   rintro a ⟨n,w,j,e,ej,hj,m⟩
   rcases slot n w e with q | ⟨_,q⟩
   ·exact q.2 a (T.rest_le w (aar j) m)
   ·obtain ⟨k',e1,e2⟩:=Kl q ej hj
    have sh:Sh tn τ a:=⟨k',w,j,e1,e2,hj,m⟩
    have hd:=hF.dom sh
    exact ⟨.inr sh,fun z=>hd (z ▸ hDH),fun z=>hd (IT.same.free z)⟩
  rw [<- Pl]
  refine Ii tok h4 (hev τ4 H3 _ hδ F4 fun b H5 s5 hb=>?_)
  have s25:Same H2 H5:=s3.trans s5
  cases o with
  | none =>
   subst hb
   rw [if_neg (by decide)]
   refine ⟨ds.length - (i + 1),by omega,rfl,hlt,ts,r'',rfl,hr'',?_,by omega,s25 _ _ hD2,fun a u n e=>s25 _ _ (kp a u n e),ok.same s25,src,fun a m=>⟨(new a m).1,let ⟨vs,e⟩:=(new a m).2; ⟨vs,s25 _ _ e⟩⟩,nd⟩
   simpa using hc
  | some xo =>
   obtain ⟨rfl,he⟩:=hb
   rw [if_pos rfl]
   refine ⟨τ4,rfl,F4.same s5,0,k,hk,?_⟩
   rw [hδ,he]
   intro t' H6 ht' R
   have s26:Same H2 H6:=s25.trans R.same
   have hD6:H6 D=some (.lst (ts.map T.val)):=s26 _ _ hD2
   refine ⟨hD6,by rw [aab]; exact Nat.lt_of_le_of_lt hts (aas hlt IT.len),ds.length - (i + 1),by omega,rfl,hlt,ts ++ [t'],r'',by simp,hr'',?_,by simp; omega,AW,fun a u n e=>by rw [Ar n]; exact s26 _ _ (kp a u n e),?_,?_,?_,?_⟩
   ·rw [T.dats_map,aao,<- T.dats_map]
    simpa [ht'] using hc
   ·-- all of them stand
    have tD:∀ a ∈ t'.rest 0,a ≠ D:=fun a m z=>by
     rcases R.src a m with q | q
     ·rw [z,s25 _ _ hD2] at q; cases q
     ·exact (S4 a q).2.1 z
    refine T.oks_iff.mpr fun w hw=>?_
    have kk:(∀ a ∈ w.rest 0,a ≠ D)->w.Ok p H6->w.Ok p (L2.upd H6 D (.lst (ts.map T.val ++ [t'.val]))):=fun hne hok=>hok.keep fun a u e hq=>by
     rw [Ar ?_]; exact e
     rintro rfl
     rcases hq with hq | hq
     ·exact hne a hq rfl
     ·rw [hD6] at e
      exact hq _ (Option.some.inj e).symm
    rcases aaf.mp hw with hw | hw
    ·exact kk (fun a m=>(src a (T.mem_rests.mpr ⟨w,hw,m⟩)).2) ((T.oks_iff.mp ok w hw).same s26)
    ·cases aaU.mp hw
     exact kk tD R.ok
   ·intro a m
    rw [T.rests_append,aaf] at m
    rcases m with m | m
    ·exact src a m
    ·have m:a ∈ t'.rest 0:=by simpa [T.rests] using m
     rcases R.src a m with q | q
     ·exact ⟨.inl (sH3.trans s5 |>.free q),fun z=>by rw [z,s25 _ _ hD2] at q; cases q⟩
     ·exact ⟨(S4 a q).1,(S4 a q).2.1⟩
   ·intro a m
    rw [T.adrs_append,aaf] at m
    rcases m with m | m
    ·obtain ⟨n1,vs,e⟩:=new a m
     have aD:a ≠ D:=fun z=>out (by rw [<- z]; exact (T.alls_iff ts k).mpr (.inl m))
     refine ⟨n1,vs,?_⟩
     rw [Ar aD]
     exact s26 _ _ e
    ·have m:a ∈ t'.adr k:=by simpa [T.adrs] using m
     obtain ⟨n1,vs,e⟩:=R.new a m
     have aD:a ≠ D:=fun z=>by rw [z,s25 _ _ hD2] at n1; cases n1
     refine ⟨?_,vs,by rw [Ar aD]; exact e⟩
     cases w:H1 a with
     | none=>rfl
     | some u=>rw [s25 _ _ (kp a u aD w)] at n1; cases n1
   ·refine T.nds_append nd (T.nds_cons.mpr ⟨R.nd,by simp [T.Nds,T.adrs],by simp [T.rests],by simp [T.adrs]⟩) (fun a m m'=>?_) (fun a m m'=>?_)
    ·have m':a ∈ t'.rest 0:=by simpa [T.rests] using m'
     rcases R.src a m' with q | q
     ·obtain ⟨_,vs,e⟩:=new a m
      rw [s25 _ _ e] at q; cases q
     ·exact (S4 a q).2.2 (new a m).1
    ·have m:a ∈ t'.adr k:=by simpa [T.adrs] using m
     obtain ⟨w,hw,m'⟩:=T.mem_rests.mp m'
     exact ((T.oks_iff.mp ok w hw).same s25).dom m' (R.new a m).1
 ·have hil:i=ds.length:=acf hi hge
  refine .inl ⟨IT.stop i H2 usok hge,hd (.lst D ts) H2 ?_ ⟨s2,⟨.inl hD2,ok⟩,fun a m=>?_,fun a m=>?_,?_,fun a m m'=>?_⟩⟩
  ·subst hil
   rw [List.drop_length] at hr
   simp only [Bl] at hr
   cases hr
   simp only [T.dat,aaR] at hc ⊢
   rw [hc]
  ·simp only [T.rest,aai] at m
   rcases m with rfl | m
   ·exact .inl hDH
   ·exact (src a m).1
  ·simp only [T.adr,aai] at m
   rcases m with rfl | m
   ·exact ⟨hDH,_,hD2⟩
   ·exact ⟨IT.same.free (new a m).1,(new a m).2⟩
  ·simp only [T.adr,aaC]
   exact ⟨fun m=>out ((T.alls_iff ts k).mpr (.inl m)),nd.1⟩
  ·simp only [T.adr,T.rest,aai] at m m'
   rcases m' with rfl | m'
   ·exact out ((T.alls_iff ts k).mpr (.inr m))
   ·exact nd.2 a m m'
structure ScOk (X:Cx) (scope:Scope) (loc:List Str) (fr:List Nat) (frn:List Str):Prop where
 hfr:∀ (j:Nat) (k:Nat) (x:Str),fr[j]?=some k->frn[j]?=some x->X.N[k]?=some x/\X.env.kindOf x=some .cell/\(x,NameKind.free) ∈ scope.names
 hln:frn.length=fr.length
 hcell:∀ y ∈ scope.names,y.2 ≠ .cell
 hkind:scope.kind=.function
 hnames:∀ y ∈ scope.names,y.2=.local->scope.names.lookup y.1=some .local
 hfree:∀ y ∈ scope.names,y.2=.free->X.env.kindOf y.1=some .cell
 hkin:∀ (x:Str),x ∈ frn->(relabel scope X.env).names.lookup x=some .cell
 hsc:X.env.scope.kind=.function
theorem IN {K:Frag} {nl:Nat} {fr:List Nat} {g:Tg} {it:It} {elt:E} {σ:L2.St} {H:Hp} {Q:VK} (hg:∀ i ∈ g.sl,i < nl) (h:lE p EX tn (.comp0 nl fr g it elt) σ H Q):GA nl fr (lI p EX tn it) (fun _=>lG K g) (fun _=>Oj) (fun _=>lE p EX0 (tnB nl fr tn) elt) σ H Q:=by
 obtain ⟨τ,rfl,hF,j,k,hj,h⟩:=h
 simp only [jk] at hj
 obtain ⟨ji,h1,hj⟩:=bS hj
 obtain ⟨⟨j2,k2⟩,h2,hj⟩:=bS hj
 obtain ⟨hc,e⟩:=DI hj
 cases e
 have hc:j2=0:=of_decide_eq_true hc
 subst hc
 simp only [ev] at h
 refine Pm hF h1 hg h2 (fun d o e=>?_) h
 split at e
 ·rename_i δ' hd
  obtain ⟨x,e1,e2⟩:=Res.bind_eq_ok e
  cases e2
  exact ⟨δ',hd,fun τ4 H3 N _ _ hN=>hN true H3 (Same.refl _) ⟨rfl,e1⟩⟩
 ·cases e
theorem Mr {elt tg iter:Expr} {scope:Scope} {loc:List Str} {fr:List Nat} {frn:List Str} {g:Tg} {it:It} {x:E} (hc:X.calm=true) (S:ScOk X scope loc fr frn) (hi:PI X tg iter (lI p EX tn it)) (hg:∀ i ∈ g.sl,i < loc.length)
  (hb:∀ z:Bk,PG (X.blk scope z.C z.fp (loc ++ frn) z.s z.H) tg (lG X.K g)/\PE (X.blk scope z.C z.fp (loc ++ frn) z.s z.H) elt (lE p EX0 (tnB loc.length fr tn) x)) (hs:∀ y,foldedSetIterable iter X.env y=pure y) :
  PE X (.ListComp elt [⟨tg,iter,[],0⟩] scope pos) (lE p EX tn (.comp0 loc.length fr g it x)) :=
 PE.mono (OP loc fr frn hc hi S.hfr S.hln S.hcell S.hkind S.hnames S.hfree S.hkin S.hsc (fun _ _ _ _ _ h=>Kk hg h) (fun z=>⟨(hb z).1,J7,(hb z).2⟩) hs) fun σ H Q h=>IN hg h
theorem PS.mono {X:Cx} {st:Stmt} {t t':TS} (h:PS X st t) (m:∀ D σ H,t' D σ H->t D σ H):PS X st t':=fun pins s σ H D I q=>h pins s σ H D I (m _ _ _ q)
theorem Lb {elt tg iter:Expr} {scope:Scope} {loc:List Str} {fr:List Nat} {frn:List Str} {g:Tg} {it:It} {x:E} {y:Str} {k:Nat} {py spos:Pos} (hc:X.calm=true) (S:ScOk X scope loc fr frn) (hi:PI X tg iter (lI p EX tn it)) (hg:∀ i ∈ g.sl,i < loc.length)
  (hb:∀ z:Bk,PG (X.blk scope z.C z.fp (loc ++ frn) z.s z.H) tg (lG X.K g)/\PE (X.blk scope z.C z.fp (loc ++ frn) z.s z.H) elt (lE p EX0 (tnB loc.length fr tn) x)) (hs:∀ y,foldedSetIterable iter X.env y=pure y)
  (hN:X.N.Nodup) (hk:X.N[k]?=some y) (hx:Loc X.env.scope y) (hf:X.fn y=true\/X.env.scope.names.lookup y=some .local) (hsw:swapsWith (.ListComp elt [⟨tg,iter,[],0⟩] scope pos) (some (.Name y py)) spos.line X.env=pure true) :
  PS X (.Assign [.Name y py] (.ListComp elt [⟨tg,iter,[],0⟩] scope pos) spos) (G4 (lE p EX tn (.comp0 loc.length fr g it x)) (ER k)) :=
 PS.mono (K1 loc fr frn hc hi S.hfr S.hln S.hcell S.hkind S.hnames S.hfree S.hkin S.hsc (fun _ _ _ _ _ h=>Kk hg h) (fun z=>⟨(hb z).1,J7,(hb z).2⟩) hs hN hk hx hf hsw) fun D σ H h=>IN hg h
end
structure CkC where
 N:List Str
 sc:Scope
 fn:Bool
 rz:Bool
 cm:Bool
noncomputable def BN (sc:Scope) (x:Str):Bool:=match sc.names.lookup x with
 | some .local=>true
 | some .cell=>true
 | some .free=>true
 | _=>false
noncomputable def EW (c:CkC) (x:Str):Bool:=match c.sc.names.lookup x with
 | some .local=>true
 | some .cell=>c.fn
 | _=>false
noncomputable def glB (sc:Scope) (x:Str):Bool:=match sc.names.lookup x with
 | some .globalImplicit=>true
 | _=>false
noncomputable def AT (x:Str):Bool:=!(x==("__debug__" : Str)) && !(x==("__classdict__" : Str))
noncomputable def GG (scope outer:Scope):Scope :=
 { scope with names:=scope.names.map fun (n,k)=>if (k==.free && outer.kind==.function && outer.names.lookup n==some .cell) then (n,.cell) else (n,k) }
theorem IO (scope:Scope) (env:Env):relabel scope env=GG scope env.scope:=rfl
noncomputable def D1:List Str:=["len", "min", "max", "abs", "int", "list", "tuple", "all", "any", "sum", "sorted", "isinstance", "str", "range", "enumerate", "zip", "reversed"]
noncomputable def ckG (c:CkC):Tg->Expr->Bool
 | .nm i,.Name x _=>(c.N[i]?==some x) && EW c x
 | .tp is,.Tuple es _ _=>ckGs c is es && c.cm
 | _,_=>false
where ckGs (c:CkC):List Nat->List Expr->Bool
 | [],[]=>true
 | i :: is,.Name x _ :: es=>(c.N[i]?==some x) && EW c x && ckGs c is es
 | _,_=>false
noncomputable def scB (c:CkC) (scope:Scope) (loc:List Str) (fr:List Nat) (frn:List Str):Bool :=
 decide (frn.length=fr.length) && ((fr.zip frn).all fun q=>(c.N[q.1]?==some q.2) && (c.sc.names.lookup q.2==some .cell) && scope.names.contains (q.2,NameKind.free)) &&
 (scope.names.all fun y=>(y.2 != .cell) && (y.2 != .local || scope.names.lookup y.1==some .local) && (y.2 != .free || c.sc.names.lookup y.1==some .cell)) && (scope.kind==.function) && (c.sc.kind==.function) &&
 (frn.all fun x=>(GG scope c.sc).names.lookup x==some .cell) && decide (loc ++ frn).Nodup
noncomputable def Lc (c:CkC) (fr:List Nat):List Str:=fr.map fun j=>c.N.getD j ""
noncomputable def Ij:Expr->List Str
 | .Name x _=>[x]
 | .Tuple es _ _=>es.filterMap fun | .Name x _=>some x | _=>none
 | _=>[]
noncomputable def Ld:Expr->Bool
 | .UnaryOp .USub (.Constant (.int i) _ _) _=>i==1
 | _=>false
theorem Pn {e:Expr} (h:Ld e=true):∃ k p1 p2,e=.UnaryOp .USub (.Constant (.int 1) k p1) p2:=by
 unfold Ld at h
 split at h
 ·cases beq_iff_eq.mp h; exact ⟨_,_,_,rfl⟩
 ·cases h
noncomputable def DJ:Expr->Bool
 | .Set _ _ _=>false
 | _=>true
noncomputable def Gb:List Str:=["RoomError", "BadShape", "NoNode", "NoPage", "NotRooms", "NotATree", "BadRoom", "Unlike", "BadScale", "BadStore", "BadName", "BadLength", "Twice", "Full", "NoThing", "NoDeed", "NoLine"]
noncomputable def A8 (n:Nat):Str:=Gb.getD n "RoomError"
theorem Le (n:Nat):(A8 n==("__debug__" : Str))=false:=by
 have h:∀ x ∈ Gb,(x==("__debug__" : Str))=false:=by decide
 unfold A8
 rw [aaJ]
 cases q:Gb[n]? with
 | none=>decide
 | some x=>exact h x (aae q)
noncomputable def G7:Kd->String
 | .int => "int"
 | .bool => "bool"
 | .str => "str"
 | .list => "list"
 | .tuple => "tuple"
 | .dict => "dict"
 | .verr => "ValueError"
 | .cls _ => ""
noncomputable def EA:Kd->Str
 | .cls n=>A8 n
 | k=>Str.ofString (G7 k)
noncomputable def NM (c:CkC) (k:Kd):Expr->Bool
 | .Name x _=>(x==EA k) && glB c.sc x
 | _=>false
noncomputable def Mt:Bi->Str
 | .len => "len"
 | .min => "min"
 | .max => "max"
 | .maxL => "max"
 | .int => "int"
 | .list => "list"
noncomputable def Rb:Bi->Bool
 | _=>true
noncomputable def Fs:Bi->Bool
 | .len=>true
 | .int=>true
 | .list=>true
 | _=>false
mutual
noncomputable def E.tst:E->Bool
 | .not a=>a.tst
 | .bo _ es=>es.tsts
 | _=>true
noncomputable def Es.tsts:Es->Bool
 | .nil=>true
 | .cons e r=>e.tst && r.tsts
end
noncomputable def G8 (gens:List Comprehension) (f:Expr->Expr->List Expr->Bool):Bool:=match gens with
 | [⟨tg,iter,ifs,n⟩]=>decide (n=0) && f tg iter ifs
 | _=>false
theorem GH {gens:List Comprehension} {f:Expr->Expr->List Expr->Bool} (h:G8 gens f=true):∃ tg iter ifs,gens=[⟨tg,iter,ifs,0⟩]/\f tg iter ifs=true:=by
 unfold G8 at h
 split at h
 ·rw [aaj] at h
  cases of_decide_eq_true h.1
  exact ⟨_,_,_,rfl,h.2⟩
 ·cases h
noncomputable def Mu:Expr->Bool
 | .Constant .none _ _=>true
 | _=>false
noncomputable def GI (b:Bool) (f:Expr->Bool):Option Expr->Bool
 | none=>b
 | some l=>!b && f l
mutual
noncomputable def ckE (c:CkC):E->Expr->Bool
 | .nm i,.Name x _=>(c.N[i]?==some x) && BN c.sc x && AT x
 | .cN,.Constant .none _ _=>true
 | .cB b,.Constant (.bool b') _ _=>b==b'
 | .cI i,.Constant (.int i') _ _=>i==i'
 | .cS x,.Constant (.str x') _ _=>x==x'
 | .gl x d,.Name y _=>(x==y) && glB c.sc y && AT y && D.scal d
 | .tup es,.Tuple xs _ _=>ckEs c es xs && decide (es.len<=1000)
 | .lst es,.List xs _=>ckEs c es xs && decide (es.len<=1000)
 | .bin o a b,.BinOp l op r _=>(op==K3 o) && ckE c a l && ckE c b r
 | .neg a,.UnaryOp .USub l _=>ckE c a l
 | .not a,.UnaryOp .Not l _=>ckE c a l
 | .cmp o a b,.Compare l [op] [r] _=>(op==Bf o) && ckE c a l && ckE c b r && DJ r
 | .chain o o' a b d,.Compare l [op,op'] [r,r'] _=>(op==Bf o) && (op'==Bf o') && ckE c a l && ckE c b r && ckE c d r' && DJ r'
 | .isN n a,.Compare l [op] [r] _=>(op==if n then .IsNot else .Is) && Mu r && ckE c a l
 | .bo k es,.BoolOp op xs _=>(op==if k then .And else .Or) && ckEs c es xs
 | .ix a i,.Subscript a' i' _=>ckE c a a' && ckE c i i' && CW i'
 | .ixL a i,.Subscript a' i' _=>ckE c a a' && ckE c i i' && CW i'
 | .rev a,.Subscript a' (.Slice none none (some st) _) _=>ckE c a a' && Ld st
 | .slc a lo hi,.Subscript a' (.Slice lo' hi' none _) _=>ckE c a a' && GI lo.isCN (ckE c lo) lo' && GI hi.isCN (ckE c hi) hi'
 | .call f es,.Call (.Name x _) xs [] _=>(x==f.name) && glB c.sc x && AT x && ckEs c es xs && decide (es.len=f.ar) && decide (0 < es.len) && c.cm
 | .callB f es,.Call (.Name x _) xs [] _=>(x==f.name) && glB c.sc x && AT x && ckEs c es xs && decide (es.len=f.ar) && decide (0 < es.len) && c.cm
 | .bi b es,.Call (.Name x _) xs [] _=>(x==Mt b) && glB c.sc x && Rb b && ckEs c es xs && decide (0 < es.len) && (c.cm || Fs b)
 | .isi a k,.Call (.Name x _) [l,r] [] _=>(x==("isinstance" : Str)) && glB c.sc x && ckE c a l && NM c k r && Ap l
 | .comp0 nl fr g it elt,.ListComp elt' gens scope _=>G8 gens fun tg iter ifs=>c.cm && ifs.isEmpty && scB c scope (Ij tg) fr (Lc c fr) && decide (nl=(Ij tg).length) && (g.sl.all fun i=>decide (i < nl)) && ckI c tg it iter && DJ iter &&
   ckG ⟨Ij tg ++ Lc c fr,GG scope c.sc,false,false,c.cm⟩ g tg && ckE ⟨Ij tg ++ Lc c fr,GG scope c.sc,false,false,c.cm⟩ elt elt'
 | _,_=>false
noncomputable def ckEs (c:CkC):Es->List Expr->Bool
 | .nil,[]=>true
 | .cons e r,x :: xs=>ckE c e x && Ap x && ckEs c r xs
 | _,_=>false
noncomputable def ckI (c:CkC) (tg:Expr):It->Expr->Bool
 | .seq e,x=>ckE c e x
 | .seqL e,x=>ckE c e x
 | .r1 a,.Call (.Name x _) [l] [] _=>(x==("range" : Str)) && glB c.sc x && ckE c a l && Ap l
 | .r2 a b,.Call (.Name x _) [l,r] [] _=>(x==("range" : Str)) && glB c.sc x && ckE c a l && Ap l && ckE c b r && Ap r
 | _,_=>false
end
inductive Nd1 where
 | fn (F:Fn)
 | cl (n:Nat)
 | rs (n:Nat)
 | gl (x:Str) (d:D)
mutual
noncomputable def E.need:E->List Nd1
 | .nm _=>[]
 | .cN=>[]
 | .cB _=>[]
 | .cI _=>[]
 | .cS _=>[]
 | .gl x d=>[.gl x d]
 | .tup es=>es.need
 | .lst es=>es.need
 | .bin _ a b=>a.need ++ b.need
 | .neg a=>a.need
 | .not a=>a.need
 | .cmp _ a b=>a.need ++ b.need
 | .chain _ _ a b c=>a.need ++ (b.need ++ c.need)
 | .isN _ a=>a.need
 | .bo _ es=>es.need
 | .ix a i=>a.need ++ i.need
 | .ixL a i=>a.need ++ i.need
 | .slc a lo hi=>a.need ++ (lo.need ++ hi.need)
 | .rev a=>a.need
 | .call f es=>.fn f :: es.need
 | .callB f es=>.fn f :: es.need
 | .bi _ es=>es.need
 | .isi a k=>(match k with | .cls n=>[.cl n] | _=>[]) ++ a.need
 | .comp0 _ _ _ it elt=>it.need ++ elt.need
noncomputable def Es.need:Es->List Nd1
 | .nil=>[]
 | .cons e r=>e.need ++ r.need
noncomputable def It.need:It->List Nd1
 | .seq e=>e.need
 | .seqL e=>e.need
 | .r1 a=>a.need
 | .r2 a b=>a.need ++ b.need
end
noncomputable def dT:D->T
 | .bl b=>.bl b
 | .int i=>.int i
 | .str x=>.str x
 | _=>.non
theorem Rc {d:D} (h:D.scal d=true):(dT d).dat=d/\(dT d).sc=true:=by cases d <;> first | exact ⟨rfl,rfl⟩ | cases h
noncomputable def NeedOk (p:Px) (lv:Nat) (X:Cx):Nd1->Prop
 | .fn F=>F.lv<=lv/\K9 p X F
 | .cl n=>p.has n=true/\X.mg (A8 n)=some (.ref (p.cl n))
 | .rs n=>p.has n=true/\nsIn X.K mainGlobals (A8 n)=some (some (.ref (p.cl n)))/\excIn X.K (p.cl n) F8 "ValueError.__new__" = true
 | .gl x d=>∃ u,X.mg x=some u/\RelV (dT d).val u
structure Kx (p:Px):Prop where
 no:p.has 999=false
 x:∀ c,p.has c=true->XCls p.K (p.cl c)
 kb:∀ c,p.has c=true->∀ T ∈ (["int", "bool", "str", "list", "tuple", "dict"]:List String),kitOne p.K (.ref (p.cl c)) (.type T)=some false
 kv:∀ c,p.has c=true->kitOne p.K (.ref (p.cl c)) (.type "ValueError")=some true
 kc:∀ c d,p.has c=true->p.has d=true->kitOne p.K (.ref (p.cl c)) (.ref (p.cl d))=some (isa c d)
structure Ct (p:Px) (c:CkC) (lv:Nat) (X:Cx) (EX:EXT):Prop where
 K:X.K=p.K
 N:X.N=c.N
 sc:X.env.scope=c.sc
 nd:X.N.Nodup
 calm:c.cm=true->X.calm=true
 room:c.cm=true->Room lv X.A
 un:X.A.units + 64 < cLine
 blt:∀ y ∈ D1,X.mg y=none
 bt:∀ y ∈ (["bool", "dict", "ValueError"]:List Str),X.mg y=none
 pass:Fd (CXe X.prog X.w) X EX
 fn:c.fn=true->∀ x,X.fn x=true
 kx:Kx p
section
variable {p:Px} {c:CkC} {lv:Nat} {X:Cx} {EX:EXT} {tn:List Nat} {pos np:Pos}
theorem Ct.gl (C:Ct p c lv X EX) {x:Str} (h:glB c.sc x=true):Gl X x:=by
 unfold glB at h
 show X.env.scope.names.lookup x=_
 rw [C.sc]
 split at h
 ·assumption
 ·cases h
theorem Ct.vis (C:Ct p c lv X EX) {x:Str} (h:BN c.sc x=true):Vis X.env.scope x:=by
 unfold BN at h
 unfold Vis
 rw [C.sc]
 split at h
 ·exact .inl ‹_›
 ·exact .inr (.inl ‹_›)
 ·exact .inr (.inr ‹_›)
 ·cases h
theorem Ct.loc (C:Ct p c lv X EX) {x:Str} (h:EW c x=true):L2.Loc X.env.scope x/\(X.fn x=true\/X.env.scope.names.lookup x=some .local):=by
 unfold EW at h
 unfold L2.Loc
 rw [C.sc]
 split at h
 ·rename_i e; exact ⟨.inl e,.inr e⟩
 ·rename_i e; exact ⟨.inr e,.inl (C.fn h x)⟩
 ·cases h
theorem Bh {x:Str} (h:AT x=true):(x==("__debug__" : Str))=false/\(x==("__classdict__" : Str))=false:=by
 unfold AT at h
 rw [aaj,ab1,ab1] at h
 exact h
theorem Ct.hu (C:Ct p c lv X EX):X.A.units + 64 < cLine:=C.un
theorem Oq (C:Ct p c lv X EX):∀ {is:List Nat} {es:List Expr},ckG.ckGs c is es=true->PGs X es (Cv is)/\(assignEach es X.env).length=is.length/\(assignEach es X.env).findIdx? (·.1)=none
 | [],[],_=>⟨OE,rfl,rfl⟩
 | [],e :: es,h=>nF h
 | i :: is,[],h=>nF h
 | i :: is,e :: es,h=>by
  cases e with
  | Name x q =>
   have h:((c.N[i]?==some x) && EW c x && ckG.ckGs c is es)=true:=h
   rw [aaj,aaj] at h
   obtain ⟨⟨h1,h2⟩,h3⟩:=h
   obtain ⟨a1,a2,a3⟩:=Oq C h3
   obtain ⟨l1,l2⟩:=C.loc h2
   refine ⟨Na (J1 C.nd (by rw [C.N]; exact beq_iff_eq.mp h1) l1 l2) a1 rfl,?_,?_⟩
   ·show (assignEach es X.env).length + 1=_; rw [a2]; rfl
   ·show List.findIdx? (·.1) ((false,_) :: assignEach es X.env)=none
    rw [List.findIdx?_cons,a3]; rfl
  | _=>exact nF h
theorem G9 (C:Ct p c lv X EX) {g:Tg} {e:Expr} (h:ckG c g e=true):PG X e (lG X.K g):=by
 cases g with
 | nm i =>
  cases e with
  | Name x q =>
   have h:((c.N[i]?==some x) && EW c x)=true:=h
   rw [aaj] at h
   obtain ⟨l1,l2⟩:=C.loc h.2
   exact J1 C.nd (by rw [C.N]; exact beq_iff_eq.mp h.1) l1 l2
  | _=>exact nF h
 | tp is =>
  cases e with
  | Tuple es k q =>
   rw [show ckG c (.tp is) (.Tuple es k q)=(ckG.ckGs c is es && c.cm) from rfl,aaj] at h
   obtain ⟨a1,a2,a3⟩:=Oq C h.1
   intro pins s σ H v u Q I r hw
   rcases hw with hw | hw
   ·exact Qu (C.calm h.2) a1 a2 a3 pins s σ H v u Q I r hw
   ·exact QV (C.calm h.2) a1 a2 a3 pins s σ H v u Q I r hw
  | _=>exact nF h
theorem Km {α β:Type} {xs:List α} {ys:List β} {j:Nat} {a:α} {b:β} (h1:xs[j]?=some a) (h2:ys[j]?=some b):(a,b) ∈ xs.zip ys:=by
 have:(xs.zip ys)[j]?=some (a,b):=by rw [List.getElem?_zip_eq_some]; exact ⟨h1,h2⟩
 exact aae this
theorem Os (C:Ct p c lv X EX) {scope:Scope} {loc:List Str} {fr:List Nat} {frn:List Str} (h:scB c scope loc fr frn=true):ScOk X scope loc fr frn/\(loc ++ frn).Nodup:=by
 unfold scB at h
 simp only [aaj,decide_eq_true_eq,aaw,beq_iff_eq,bne_iff_ne,Bool.or_eq_true] at h
 obtain ⟨⟨⟨⟨⟨⟨h1,h2⟩,h3⟩,h4⟩,h5⟩,h6⟩,h7⟩:=h
 refine ⟨⟨fun j k x e1 e2=>?_,h1,fun y hy=>(h3 y hy).1.1,h4,fun y hy e=>?_,fun y hy e=>?_,fun x hx=>?_,by rw [C.sc]; exact h5⟩,h7⟩
 ·obtain ⟨⟨q1,q2⟩,q3⟩:=h2 (k,x) (Km e1 e2)
  refine ⟨by rw [C.N]; exact q1,?_,by simpa using q3⟩
  show X.env.scope.names.lookup x=_
  rw [C.sc]; exact q2
 ·rcases (h3 y hy).1.2 with q | q
  ·exact absurd e q
  ·exact q
 ·rcases (h3 y hy).2 with q | q
  ·exact absurd e q
  ·show X.env.scope.names.lookup y.1=_
   rw [C.sc]; exact q
 ·rw [IO,C.sc]; exact h6 x hx
theorem Ct.blk (C:Ct p c lv X EX) {scope:Scope} {N:List Str} (hN:N.Nodup) (z:Bk):Ct p ⟨N,GG scope c.sc,false,false,c.cm⟩ lv (X.blk scope z.C z.fp N z.s z.H) EX0 where
 K:=C.K
 N:=rfl
 sc:=by show relabel scope X.env=_; rw [IO,C.sc]
 nd:=hN
 calm:=C.calm
 room:=C.room
 un:=C.un
 blt:=C.blt
 bt:=C.bt
 pass:=fun _ _ _ _ _ _ _ h=>by
  obtain ⟨_,_,_,_,_,_,_,_,_,_,_,_,_,_,_,_,_,_,z⟩:=h
  exact z.elim
 fn:=fun z=>nomatch z
 kx:=C.kx
theorem NeedOk.blk {scope:Scope} {N:List Str} {z:Bk} {n:Nd1} (h:NeedOk p lv X n):NeedOk p lv (X.blk scope z.C z.fp N z.s z.H) n:=by
 cases n <;> exact h
theorem EY {e:Expr} {env:Env} (h:DJ e=true):∀ y,foldedSetIterable e env y=pure y:=by
 intro y
 cases e <;> first | rfl | cases h
theorem DK {op:CmpOp} {e:Expr} (h:DJ e=true):behindInMarks op e=false:=by
 cases e <;> first | rfl | cases h
end
section
variable {p:Px} {c:CkC} {lv:Nat} {X:Cx} {EX:EXT} {tn:List Nat} {pos np:Pos}
theorem AO (C:Ct p c lv X EX) {e:Expr} {x:E} (h:PE X e (lE p EX tn x)) (hp:IJ e=true):PE X e (lE p EX tn x)/\(x.tst=true->PT X e (lT p EX tn x)):=⟨h,fun _=>K7 C.K h hp⟩
noncomputable def kdV (p:Px):Kd->Value
 | .cls n=>.ref (p.cl n)
 | k=>.type (G7 k)
noncomputable def Lf (p:Px):Kd->Prop
 | .cls n=>p.has n=true
 | _=>True
theorem Re (C:Ct p c lv X EX) {H:Hp} {t:T} (ok:t.Ok p H):∃ ty,TyX X.K H t.val ty/\∀ k b,CJ t.dat k=.ok b->Lf p k->kitOne X.K ty (kdV p k)=some b:=by
 cases t with
 | non=>exact ⟨_,.of .non,fun k b h _=>by cases k <;> cases h <;> rfl⟩
 | bl x=>exact ⟨_,.of (.bl x),fun k b h _=>by cases k <;> cases h <;> rfl⟩
 | int x=>exact ⟨_,.of (.int x),fun k b h _=>by cases k <;> cases h <;> rfl⟩
 | str x=>exact ⟨_,.of (.str x),fun k b h _=>by cases k <;> cases h <;> rfl⟩
 | tup a ts=>exact ⟨_,.of (.tup ok.1),fun k b h _=>by cases k <;> cases h <;> rfl⟩
 | lst a ts =>
  rcases ok.1 with e | ⟨o,e⟩
  ·exact ⟨_,.of (.lst e),fun k b h _=>by cases k <;> cases h <;> rfl⟩
  ·exact ⟨_,.of (.frz e),fun k b h _=>by cases k <;> cases h <;> rfl⟩
 | exn a n =>
  by_cases hn:n=999
  ·subst hn
   refine ⟨_,.dct (by rw [ok.1]; rfl),fun k b h _=>?_⟩
   cases k <;> cases h <;> rfl
  ·have hs:=ok.2.resolve_left hn
   have hn':(n==999)=false:=beq_eq_false_iff_ne.mpr hn
   refine ⟨_,.exc (by rw [ok.1]; unfold exO; rw [if_neg hn]) (C.K ▸ C.kx.x n hs),fun k b h hh=>?_⟩
   rw [C.K]
   have kb:=C.kx.kb n hs
   cases k with
   | verr =>
    have h:(if (n==999)=true then Res.bad else Res.ok true)=Res.ok b:=h
    rw [hn',if_neg (by decide)] at h
    cases h; exact C.kx.kv n hs
   | cls m =>
    have h:(if (n==999)=true then Res.bad else Res.ok (isa n m))=Res.ok b:=h
    rw [hn',if_neg (by decide)] at h
    cases h; exact C.kx.kc n m hs hh
   | dict =>
    have h:Res.ok (n==999)=Res.ok b:=h
    rw [hn'] at h
    cases h; exact kb _ (by decide)
   | _=>cases h; exact kb _ (by decide)
theorem Po (C:Ct p c lv X EX) {l r:Expr} {x:E} {k:Kd} {v:V} {cv:Value} (hl:PE X l (lE p EX tn x)) (hr:PE X r (tC v)) (hst:Ap l=true) (hst':Ap r=true) (hgl:Gl X "isinstance") (hcv:clV v=some cv)
  (hk:∀ (H:Hp) (t:T) (b:Bool),t.Ok p H->CJ t.dat k=.ok b->∃ ty,TyX X.K H t.val ty/\kitOne X.K ty cv=some b):PE X (.Call (.Name "isinstance" np) [l,r] [] pos) (lE p EX tn (.isi x k)):=by
 refine PE.mono (DX Nq hgl (C.blt _ (by simp [D1])) (by decide +kernel) (Bz hl (Bz hr DW (Am hst')) (Am hst)) (by decide) (by decide) (Am hst) (A5 (by simp [hst']))) fun σ H Q h=>?_
 obtain ⟨τ,rfl,hF,j,k',hj,h⟩:=h
 simp only [jk] at hj
 obtain ⟨⟨j1,k1⟩,h1,hj⟩:=bS hj
 simp only [ev] at h
 refine l1 hF h1 h fun d t H1 ht R h=>?_
 subst ht
 cases q:CJ t.dat k with
 | ok b =>
  rw [q] at h
  obtain ⟨ty,h2,h3⟩:=hk H1 t b R.ok q
  exact ⟨t.val,v,cv,ty,b,rfl,hcv,h2,h3,h (.bl b) H1 rfl (Rs.scal R.same rfl)⟩
 | exc n =>
  rw [q] at h
  cases t with
  | exn a c =>
   have hx:∀ f,dX (T.exn a c).dat f ≠ .exc n:=fun f e=>by
    unfold T.dat dX at e
    split at e <;> simp_all
    split at e <;> cases e
   cases k with
   | verr=>exact absurd (show dX (T.exn a c).dat (fun _=>true)=.exc n from q) (hx _)
   | cls m=>exact absurd (show dX (T.exn a c).dat (fun c=>isa c m)=.exc n from q) (hx _)
   | _=>cases q
  | _=>cases k <;> cases q
 | bad=>rw [q] at h; exact nE h
theorem Rf (C:Ct p c lv X EX) {k:Kd} {r:Expr} (h:NM c k r=true) (hn:∀ n,k=.cls n->NeedOk p lv X (.cl n)):∃ v cv,PE X r (tC v)/\clV v=some cv/\Ap r=true/\∀ (H:Hp) (t:T) (b:Bool),t.Ok p H->CJ t.dat k=.ok b->∃ ty,TyX X.K H t.val ty/\kitOne X.K ty cv=some b:=by
 cases r with
 | Name x q =>
  have h:((x==EA k) && glB c.sc x)=true:=h
  rw [aaj,beq_iff_eq] at h
  obtain ⟨rfl,h⟩:=h
  have fin:Lf p k->∀ (H:Hp) (t:T) (b:Bool),t.Ok p H->CJ t.dat k=.ok b->∃ ty,TyX X.K H t.val ty/\kitOne X.K ty (kdV p k)=some b:=fun hk H t b ok e=>let ⟨ty,a,f⟩:=Re C ok; ⟨ty,a,f _ _ e hk⟩
  have key:(∃ n,k=.cls n)\/(Lf p k/\kdV p k=.type (G7 k)/\X.mg (EA k)=none/\bootBuiltins (EA k)=some (.type (G7 k))/\EA k ≠ "__name__" /\ (EA k==("__debug__" : Str))=false):=by
   cases k with
   | cls n=>exact .inl ⟨n,rfl⟩
   | bool=>exact .inr ⟨trivial,rfl,C.bt _ (by decide),by decide +kernel,by decide,by decide⟩
   | dict=>exact .inr ⟨trivial,rfl,C.bt _ (by decide),by decide +kernel,by decide,by decide⟩
   | verr=>exact .inr ⟨trivial,rfl,C.bt _ (by decide),by decide +kernel,by decide,by decide⟩
   | _=>exact .inr ⟨trivial,rfl,C.blt _ (by decide),by decide +kernel,by decide,by decide⟩
  rcases key with ⟨n,rfl⟩ | ⟨k1,k2,k3,k4,k5,k6⟩
  ·obtain ⟨h1,h2⟩:=hn n rfl
   exact ⟨.ref (p.cl n),.ref (p.cl n),JZ (C.gl h) h2 rfl (Le n),rfl,rfl,fin h1⟩
  ·exact ⟨.ty (G7 k),.type (G7 k),OA (C.gl h) k3 k4 rfl k5 k6,rfl,rfl,k2 ▸ fin k1⟩
 | _=>exact nF h
end
end Pu
end
section
set_option maxHeartbeats 1000000
namespace Pu
open PySem PySem.Spec PyProof.Rows PySem.W L2
theorem Aa {a b:Bool} (h:(a && b)=true):a=true/\b=true:=aaj _ _ |>.mp h
theorem AI {p:Px} {lv:Nat} {X:Cx} {a b:List Nd1} (h:∀ n ∈ a ++ b,NeedOk p lv X n):(∀ n ∈ a,NeedOk p lv X n)/\∀ n ∈ b,NeedOk p lv X n:=⟨fun n m=>h n (aaz _ m),fun n m=>h n (aak _ m)⟩
theorem Cj {c:CkC}:∀ {es:Es} {xs:List Expr},ckEs c es xs=true->xs.all Ap=true/\xs.length=es.len
 | .nil,[],_=>⟨rfl,rfl⟩
 | .nil,x :: xs,h=>nF h
 | .cons e r,[],h=>nF h
 | .cons e r,x :: xs,h=>by
  have h:(ckE c e x && Ap x && ckEs c r xs)=true:=h
  obtain ⟨h,h3⟩:=Aa h
  obtain ⟨h1,h2⟩:=Aa h
  obtain ⟨a,b⟩:=Cj h3
  exact ⟨by rw [aaI,h2,a]; rfl,by rw [aa2,b,Es.len]⟩
mutual
theorem snd {p:Px} {lv:Nat}:∀ (x:E) {c:CkC} {X:Cx} {EX:EXT} {tn:List Nat} (C:Ct p c lv X EX) (e:Expr),(∀ n ∈ x.need,NeedOk p lv X n)->ckE c x e=true->PE X e (lE p EX tn x)/\(x.tst=true->PT X e (lT p EX tn x))
 | .nm i,c,X,EX,tn,C,e,hn,h=>by
  cases e with
  | Name y q =>
   have h:((c.N[i]?==some y) && BN c.sc y && AT y)=true:=h
   obtain ⟨h,h3⟩:=Aa h
   obtain ⟨h1,h2⟩:=Aa h
   obtain ⟨d1,d2⟩:=Bh h3
   exact AO C (QZ (by rw [C.N]; exact beq_iff_eq.mp h1) (C.vis h2) d1 d2) rfl
  | _=>exact nF h
 | .cN,c,X,EX,tn,C,e,hn,h=>by
  cases e with
  | Constant k j q =>
   cases k with
   | none=>exact AO C (FJ (t:=.non) Qj rfl (fun _=>rfl)) rfl
   | _=>exact nF h
  | _=>exact nF h
 | .cB b,c,X,EX,tn,C,e,hn,h=>by
  cases e with
  | Constant k j q =>
   cases k with
   | bool b' =>
    cases beq_iff_eq.mp (show (b==b')=true from h)
    exact AO C (FJ (t:=.bl b) RW rfl (fun _=>rfl)) rfl
   | _=>exact nF h
  | _=>exact nF h
 | .cI b,c,X,EX,tn,C,e,hn,h=>by
  cases e with
  | Constant k j q =>
   cases k with
   | int b' =>
    cases beq_iff_eq.mp (show (b==b')=true from h)
    exact AO C (FJ (t:=.int b) LJ rfl (fun _=>rfl)) rfl
   | _=>exact nF h
  | _=>exact nF h
 | .cS b,c,X,EX,tn,C,e,hn,h=>by
  cases e with
  | Constant k j q =>
   cases k with
   | str b' =>
    cases beq_iff_eq.mp (show (b==b')=true from h)
    exact AO C (FJ (t:=.str b) Qk rfl (fun _=>rfl)) rfl
   | _=>exact nF h
  | _=>exact nF h
 | .gl y d,c,X,EX,tn,C,e,hn,h=>by
  cases e with
  | Name y' q =>
   have h:((y==y') && glB c.sc y' && AT y' && D.scal d)=true:=h
   obtain ⟨h,h4⟩:=Aa h
   obtain ⟨h,h3⟩:=Aa h
   obtain ⟨h1,h2⟩:=Aa h
   cases beq_iff_eq.mp h1
   obtain ⟨u,m,r⟩:=hn (.gl y d) (aaU.mpr rfl)
   obtain ⟨e1,e2⟩:=Rc h4
   exact AO C (FJ (t:=dT d) (JZ (C.gl h2) m r (Bh h3).1) e2 (fun _=>by rw [e1]; rfl)) rfl
  | _=>exact nF h
 | .tup es,c,X,EX,tn,C,e,hn,h=>by
  cases e with
  | Tuple xs k q =>
   obtain ⟨h1,h2⟩:=Aa (show (ckEs c es xs && decide (es.len<=1000))=true from h)
   exact AO C (OU (sndA es C xs hn h1).1 (of_decide_eq_true h2)) rfl
  | _=>exact nF h
 | .lst es,c,X,EX,tn,C,e,hn,h=>by
  cases e with
  | List xs q =>
   obtain ⟨h1,h2⟩:=Aa (show (ckEs c es xs && decide (es.len<=1000))=true from h)
   exact AO C (OV (sndA es C xs hn h1).1 (of_decide_eq_true h2)) rfl
  | _=>exact nF h
 | .bin o a b,c,X,EX,tn,C,e,hn,h=>by
  cases e with
  | BinOp l op r q =>
   obtain ⟨h,h3⟩:=Aa (show ((op==K3 o) && ckE c a l && ckE c b r)=true from h)
   obtain ⟨h1,h2⟩:=Aa h
   cases beq_iff_eq.mp h1
   obtain ⟨n1,n2⟩:=AI hn
   exact AO C (O2 (snd a C l n1 h2).1 (snd b C r n2 h3).1) rfl
  | _=>exact nF h
 | .neg a,c,X,EX,tn,C,e,hn,h=>by
  cases e with
  | UnaryOp o l q =>
   cases o with
   | USub=>exact AO C (Kf (snd a C l hn h).1) rfl
   | _=>exact nF h
  | _=>exact nF h
 | .not a,c,X,EX,tn,C,e,hn,h=>by
  cases e with
  | UnaryOp o l q =>
   cases o with
   | Not =>
    obtain ⟨h1,h2⟩:=snd a C (tn:=tn) l hn h
    exact ⟨O6 h1,fun ht=>NE (h2 ht)⟩
   | _=>exact nF h
  | _=>exact nF h
 | .cmp o a b,c,X,EX,tn,C,e,hn,h=>by
  cases e with
  | Compare l ops rs q =>
   match ops,rs,h with
   | [op],[r],h =>
    obtain ⟨h,h4⟩:=Aa (show ((op==Bf o) && ckE c a l && ckE c b r && DJ r)=true from h)
    obtain ⟨h,h3⟩:=Aa h
    obtain ⟨h1,h2⟩:=Aa h
    cases beq_iff_eq.mp h1
    obtain ⟨n1,n2⟩:=AI hn
    have A:=(snd a C (tn:=tn) l n1 h2).1
    have B:=(snd b C (tn:=tn) r n2 h3).1
    exact ⟨O3 C.K C.hu A B (DK h4),fun _=>NB C.K C.hu A B (DK h4)⟩
   | [],_,h=>exact nF h
   | [_],[],h=>exact nF h
   | [_],_ :: _ :: _,h=>exact nF h
   | _ :: _ :: _,_,h=>exact nF h
  | _=>exact nF h
 | .chain o o' a b d,c,X,EX,tn,C,e,hn,h=>by
  cases e with
  | Compare l ops rs q =>
   match ops,rs,h with
   | [op,op'],[r,r'],h =>
    obtain ⟨h,h6⟩:=Aa (show ((op==Bf o) && (op'==Bf o') && ckE c a l && ckE c b r && ckE c d r' && DJ r')=true from h)
    obtain ⟨h,h5⟩:=Aa h
    obtain ⟨h,h4⟩:=Aa h
    obtain ⟨h,h3⟩:=Aa h
    obtain ⟨h1,h2⟩:=Aa h
    cases beq_iff_eq.mp h1
    cases beq_iff_eq.mp h2
    obtain ⟨n1,n2⟩:=AI hn
    obtain ⟨n2,n3⟩:=AI n2
    have A:=(snd a C (tn:=tn) l n1 h3).1
    have B:=(snd b C (tn:=tn) r n2 h4).1
    have D:=(snd d C (tn:=tn) r' n3 h5).1
    exact ⟨Mm C.K C.hu A B D (DK h6),fun _=>K6 C.K C.hu A B D (DK h6)⟩
   | [],_,h=>exact nF h
   | [_],_,h=>exact nF h
   | [_,_],[],h=>exact nF h
   | [_,_],[_],h=>exact nF h
   | [_,_],_ :: _ :: _ :: _,h=>exact nF h
   | _ :: _ :: _ :: _,_,h=>exact nF h
  | _=>exact nF h
 | .isN n a,c,X,EX,tn,C,e,hn,h=>by
  cases e with
  | Compare l ops rs q =>
   match ops,rs,h with
   | [op],[r],h =>
    obtain ⟨h,h3⟩:=Aa (show ((op==if n then .IsNot else .Is) && Mu r && ckE c a l)=true from h)
    obtain ⟨h1,h2⟩:=Aa h
    cases beq_iff_eq.mp h1
    have A:=(snd a C (tn:=tn) l hn h3).1
    cases r with
    | Constant k j q' =>
     cases k with
     | none=>exact ⟨O5 A,fun _=>NC A⟩
     | _=>cases h2
    | _=>cases h2
   | [],_,h=>exact nF h
   | [_],[],h=>exact nF h
   | [_],_ :: _ :: _,h=>exact nF h
   | _ :: _ :: _,_,h=>exact nF h
  | _=>exact nF h
 | .bo k es,c,X,EX,tn,C,e,hn,h=>by
  cases e with
  | BoolOp op xs q =>
   obtain ⟨h1,h2⟩:=Aa (show ((op==if k then .And else .Or) && ckEs c es xs)=true from h)
   cases beq_iff_eq.mp h1
   obtain ⟨a1,a2⟩:=(sndA es C (tn:=tn) xs hn h2).2 k q
   exact ⟨a1,fun ht=>(a2 ht).pt⟩
  | _=>exact nF h
 | .ix a i,c,X,EX,tn,C,e,hn,h=>by
  cases e with
  | Subscript l r q =>
   obtain ⟨h,h3⟩:=Aa (show (ckE c a l && ckE c i r && CW r)=true from h)
   obtain ⟨h1,h2⟩:=Aa h
   obtain ⟨n1,n2⟩:=AI hn
   exact AO C (Q8 C.K (snd a C l n1 h1).1 (snd i C r n2 h2).1 h3) rfl
  | _=>exact nF h
 | .ixL a i,c,X,EX,tn,C,e,hn,h=>by
  cases e with
  | Subscript l r q =>
   obtain ⟨h,h3⟩:=Aa (show (ckE c a l && ckE c i r && CW r)=true from h)
   obtain ⟨h1,h2⟩:=Aa h
   obtain ⟨n1,n2⟩:=AI hn
   exact AO C (O9 (snd a C l n1 h1).1 (snd i C r n2 h2).1 h3) rfl
  | _=>exact nF h
 | .slc a lo hi,c,X,EX,tn,C,e,hn,h=>by
  cases e with
  | Subscript l r q =>
   cases r with
   | Slice lo' hi' st q2 =>
    cases st with
    | none =>
     obtain ⟨h,h3⟩:=Aa (show (ckE c a l && GI lo.isCN (ckE c lo) lo' && GI hi.isCN (ckE c hi) hi')=true from h)
     obtain ⟨h1,h2⟩:=Aa h
     obtain ⟨n1,n2⟩:=AI hn
     obtain ⟨n2,n3⟩:=AI n2
     have cn:∀ {y:E},y.isCN=true->y=.cN:=fun {y} z=>by cases y <;> first | rfl | cases z
     have P1:PO X lo' (lO p EX tn lo):=by
      cases lo' with
      | none=>cases cn h2; exact HG
      | some l' =>
       obtain ⟨g1,g2⟩:=Aa h2
       exact HH (snd lo C l' n2 g2).1 (by simpa using g1)
     have P2:PO X hi' (lO p EX tn hi):=by
      cases hi' with
      | none=>cases cn h3; exact HG
      | some l' =>
       obtain ⟨g1,g2⟩:=Aa h3
       exact HH (snd hi C l' n3 g2).1 (by simpa using g1)
     exact AO C (Pb (snd a C l n1 h1).1 P1 P2) rfl
    | some _=>exact nF h
   | _=>exact nF h
  | _=>exact nF h
 | .rev a,c,X,EX,tn,C,e,hn,h=>by
  cases e with
  | Subscript l r q =>
   cases r with
   | Slice lo' hi' st q2 =>
    match lo',hi',st,h with
    | none,none,some st,h =>
     obtain ⟨h1,h2⟩:=Aa (show (ckE c a l && Ld st)=true from h)
     obtain ⟨k,p1,p2,rfl⟩:=Pn h2
     exact AO C (Pj (snd a C l hn h1).1 (Kf (FJ (t:=.int 1) LJ rfl (fun _=>rfl))) C.K) rfl
    | some _,_,_,h=>exact nF h
    | none,some _,_,h=>exact nF h
    | none,none,none,h=>exact nF h
   | _=>exact nF h
  | _=>exact nF h
 | .call f es,c,X,EX,tn,C,e,hn,h=>by
  cases e with
  | Call fn xs ks q =>
   cases fn with
   | Name y q' =>
    cases ks with
    | nil =>
     obtain ⟨h,h7⟩:=Aa (show ((y==f.name) && glB c.sc y && AT y && ckEs c es xs && decide (es.len=f.ar) && decide (0 < es.len) && c.cm)=true from h)
     obtain ⟨h,h6⟩:=Aa h
     obtain ⟨h,h5⟩:=Aa h
     obtain ⟨h,h4⟩:=Aa h
     obtain ⟨h,h3⟩:=Aa h
     obtain ⟨h1,h2⟩:=Aa h
     cases beq_iff_eq.mp h1
     obtain ⟨s1,s2⟩:=Cj h4
     obtain ⟨f1,f2⟩:=hn (.fn f) (aac ..)
     have A:=(sndA es C (tn:=tn) xs (fun n m=>hn n (aaa _ m)) h4).1
     cases es with
     | nil=>cases of_decide_eq_true h6
     | cons e1 r1 =>
      cases xs with
      | nil=>cases s2
      | cons x1 xr=>exact AO C (NH C.pass f2 ((C.room h7).mono f1) (C.gl h2) (Bh h3).1 A s1 (of_decide_eq_true h5)) rfl
    | cons _ _=>exact nF h
   | _=>exact nF h
  | _=>exact nF h
 | .callB f es,c,X,EX,tn,C,e,hn,h=>by
  cases e with
  | Call fn xs ks q =>
   cases fn with
   | Name y q' =>
    cases ks with
    | nil =>
     obtain ⟨h,h7⟩:=Aa (show ((y==f.name) && glB c.sc y && AT y && ckEs c es xs && decide (es.len=f.ar) && decide (0 < es.len) && c.cm)=true from h)
     obtain ⟨h,h6⟩:=Aa h
     obtain ⟨h,h5⟩:=Aa h
     obtain ⟨h,h4⟩:=Aa h
     obtain ⟨h,h3⟩:=Aa h
     obtain ⟨h1,h2⟩:=Aa h
     cases beq_iff_eq.mp h1
     obtain ⟨s1,s2⟩:=Cj h4
     obtain ⟨f1,f2⟩:=hn (.fn f) (aac ..)
     have A:=(sndA es C (tn:=tn) xs (fun n m=>hn n (aaa _ m)) h4).1
     cases es with
     | nil=>cases of_decide_eq_true h6
     | cons e1 r1 =>
      cases xs with
      | nil=>cases s2
      | cons x1 xr=>exact AO C (Mo C.pass f2 ((C.room h7).mono f1) (C.gl h2) (Bh h3).1 A s1 (of_decide_eq_true h5)) rfl
    | cons _ _=>exact nF h
   | _=>exact nF h
  | _=>exact nF h
 | .bi b es,c,X,EX,tn,C,e,hn,h=>by
  cases e with
  | Call fn xs ks q =>
   cases fn with
   | Name y q' =>
    cases ks with
    | nil =>
     obtain ⟨h,h6⟩:=Aa (show ((y==Mt b) && glB c.sc y && Rb b && ckEs c es xs && decide (0 < es.len) && (c.cm || Fs b))=true from h)
     obtain ⟨h,h5⟩:=Aa h
     obtain ⟨h,h4⟩:=Aa h
     obtain ⟨h,h3⟩:=Aa h
     obtain ⟨h1,h2⟩:=Aa h
     cases beq_iff_eq.mp h1
     obtain ⟨s1,s2⟩:=Cj h4
     have A:=(sndA es C (tn:=tn) xs hn h4).1
     cases es with
     | nil=>cases of_decide_eq_true h5
     | cons e1 r1 =>
      cases xs with
      | nil=>cases s2
      | cons x1 xr =>
       refine AO C ?_ rfl
       cases b with
       | len=>exact Pc C.blt A s1 (C.gl h2)
       | min=>exact Pf C.blt A s1 (C.calm (by rw [show Fs .min=false from rfl,acx] at h6; exact h6)) (C.gl h2)
       | max=>exact Pe C.blt A s1 (C.calm (by rw [show Fs .max=false from rfl,acx] at h6; exact h6)) (C.gl h2)
       | maxL=>exact NJ C.blt A s1 (C.calm (by rw [show Fs .maxL=false from rfl,acx] at h6; exact h6)) (C.gl h2)
       | int=>exact Pd C.blt A s1 (C.gl h2)
       | list=>exact NI C.blt A s1 (C.gl h2)
    | cons _ _=>exact nF h
   | _=>exact nF h
  | _=>exact nF h
 | .isi a k,c,X,EX,tn,C,e,hn,h=>by
  cases e with
  | Call fn xs ks q =>
   cases fn with
   | Name y q' =>
    match xs,ks,h with
    | [l,r],[],h =>
     obtain ⟨h,h5⟩:=Aa (show ((y==("isinstance" : Str)) && glB c.sc y && ckE c a l && NM c k r && Ap l)=true from h)
     obtain ⟨h,h4⟩:=Aa h
     obtain ⟨h,h3⟩:=Aa h
     obtain ⟨h1,h2⟩:=Aa h
     cases beq_iff_eq.mp h1
     obtain ⟨n1,n2⟩:=AI hn
     obtain ⟨v,cv,e1,e2,e3,e4⟩:=Rf C h4 (fun n e=>n1 _ (by subst e; exact aaU.mpr rfl))
     exact AO C (Po C (snd a C l n2 h3).1 e1 h5 e3 (C.gl h2) e2 e4) rfl
    | [],_,h=>exact nF h
    | [_],_,h=>exact nF h
    | _ :: _ :: _ :: _,_,h=>exact nF h
    | [_,_],_ :: _,h=>exact nF h
   | _=>exact nF h
  | _=>exact nF h
 | .comp0 nl fr g it elt,c,X,EX,tn,C,e,hn,h=>by
  cases e with
  | ListComp elt' gens scope q =>
   obtain ⟨tg,iter,ifs,rfl,h⟩:=GH h
   obtain ⟨h,h7⟩:=Aa h
   obtain ⟨h,h6⟩:=Aa h
   obtain ⟨h,h5⟩:=Aa h
   obtain ⟨h,h4⟩:=Aa h
   obtain ⟨h,h3⟩:=Aa h
   obtain ⟨h,h2⟩:=Aa h
   obtain ⟨h,h1⟩:=Aa h
   obtain ⟨hcm,h0⟩:=Aa h
   cases ifs with
   | cons _ _=>cases h0
   | nil =>
   have h2:=of_decide_eq_true h2
   subst h2
   obtain ⟨S,nd⟩:=Os C h1
   obtain ⟨n1,n2⟩:=AI hn
   refine AO C (Mr (C.calm hcm) S (sndI it C iter n1 h4) (fun i hi=>of_decide_eq_true (aaw.mp h3 i hi)) (fun z=>⟨?_,?_⟩) (EY h5)) rfl
   ·exact G9 (C.blk nd z) h6
   ·exact (snd elt (C.blk nd z) elt' (fun n m=>(n2 n m).blk) h7).1
  | _=>exact nF h
theorem sndA {p:Px} {lv:Nat}:∀ (es:Es) {c:CkC} {X:Cx} {EX:EXT} {tn:List Nat} (C:Ct p c lv X EX) (xs:List Expr),(∀ n ∈ es.need,NeedOk p lv X n)->ckEs c es xs=true ->
  PA X xs (lEs p EX tn es)/\∀ (k:Bool) (q:Pos),PE X (.BoolOp (if k then .And else .Or) xs q) (lE p EX tn (.bo k es))/\(es.tsts=true->PW X (.BoolOp (if k then .And else .Or) xs q) (lT p EX tn (.bo k es)))
 | .nil,c,X,EX,tn,C,xs,hn,h=>by
  cases xs with
  | nil =>
   refine ⟨Nz,fun k q=>⟨fun pins s σ H Q I h=>?_,fun _ wh pins s σ H Q I h=>?_⟩⟩
   ·obtain ⟨τ,rfl,hF,j,k',hj,h⟩:=h
    simp only [ev,evBo] at h
    exact nE h
   ·obtain ⟨τ,rfl,hF,hj,h⟩:=h
    simp only [tv,ev,evBo] at h
    exact nE h
  | cons _ _=>exact nF h
 | .cons e r,c,X,EX,tn,C,xs,hn,h=>by
  cases xs with
  | nil=>exact nF h
  | cons x xs =>
   obtain ⟨h,h3⟩:=Aa (show (ckE c e x && Ap x && ckEs c r xs)=true from h)
   obtain ⟨h1,h2⟩:=Aa h
   obtain ⟨n1,n2⟩:=AI hn
   obtain ⟨A1,A2⟩:=snd e C (tn:=tn) x n1 h1
   obtain ⟨B1,B2⟩:=sndA r C (tn:=tn) xs n2 h3
   refine ⟨Mi A1 B1 (Am h2),fun k q=>?_⟩
   cases r with
   | nil =>
    cases xs with
    | nil=>exact ⟨Q6 A1,fun z=>O8 (A2 (Aa (show (e.tst && true)=true from z)).1)⟩
    | cons _ _=>exact nF h3
   | cons e' r' =>
    cases xs with
    | nil=>exact nF h3
    | cons x' xs' =>
     obtain ⟨C1,C2⟩:=B2 k q
     exact ⟨O7 A1 C1,fun z=>let ⟨z1,z2⟩:=Aa (show (e.tst && (Es.cons e' r').tsts)=true from z); NF (A2 z1) (C2 z2)⟩
theorem sndI {p:Px} {lv:Nat}:∀ (it:It) {c:CkC} {X:Cx} {EX:EXT} {tn:List Nat} {tg:Expr} (C:Ct p c lv X EX) (e:Expr),(∀ n ∈ it.need,NeedOk p lv X n)->ckI c tg it e=true->PI X tg e (lI p EX tn it)
 | .seq a,c,X,EX,tn,tg,C,e,hn,h=>NL C.K (snd a C e hn h).1
 | .seqL a,c,X,EX,tn,tg,C,e,hn,h=>Mq C.K (snd a C e hn h).1
 | .r1 a,c,X,EX,tn,tg,C,e,hn,h=>by
  cases e with
  | Call fn xs ks q =>
   cases fn with
   | Name y q' =>
    match xs,ks,h with
    | [l],[],h =>
     obtain ⟨h,h4⟩:=Aa (show ((y==("range" : Str)) && glB c.sc y && ckE c a l && Ap l)=true from h)
     obtain ⟨h,h3⟩:=Aa h
     obtain ⟨h1,h2⟩:=Aa h
     cases beq_iff_eq.mp h1
     exact Pg (snd a C l hn h3).1 h4 (C.gl h2) (C.blt _ (by simp [D1]))
    | [],_,h=>exact nF h
    | _ :: _ :: _,_,h=>exact nF h
    | [_],_ :: _,h=>exact nF h
   | _=>exact nF h
  | _=>exact nF h
 | .r2 a b,c,X,EX,tn,tg,C,e,hn,h=>by
  cases e with
  | Call fn xs ks q =>
   cases fn with
   | Name y q' =>
    match xs,ks,h with
    | [l,r],[],h =>
     obtain ⟨h,h6⟩:=Aa (show ((y==("range" : Str)) && glB c.sc y && ckE c a l && Ap l && ckE c b r && Ap r)=true from h)
     obtain ⟨h,h5⟩:=Aa h
     obtain ⟨h,h4⟩:=Aa h
     obtain ⟨h,h3⟩:=Aa h
     obtain ⟨h1,h2⟩:=Aa h
     cases beq_iff_eq.mp h1
     obtain ⟨n1,n2⟩:=AI hn
     exact Ph (snd a C l n1 h3).1 (snd b C r n2 h5).1 h4 h6 (C.gl h2) (C.blt _ (by simp [D1]))
    | [],_,h=>exact nF h
    | [_],_,h=>exact nF h
    | _ :: _ :: _ :: _,_,h=>exact nF h
    | [_,_],_ :: _,h=>exact nF h
   | _=>exact nF h
  | _=>exact nF h
end
end Pu
end
section
namespace Pu
open PySem PySem.Spec PyProof.Rows PySem.W L2
inductive Md where
 | sh
 | ow (k:Nat)
 | br (k:Nat)
 | dead
 deriving DecidableEq
noncomputable abbrev Ms:=List Md
noncomputable def Md.tn:Md->Nat
 | .sh=>0
 | .ow k=>k
 | .br k=>k
 | .dead=>99
noncomputable def Md.le:Md->Md->Bool
 | _,.dead=>true
 | .sh,.sh=>true
 | .ow _,.sh=>true
 | .ow k,.ow k'=>decide (0 < k'/\k'<=k)
 | .br k,.br k'=>decide (k=k')
 | _,_=>false
noncomputable def Md.small:Md->Bool
 | .ow k=>decide (0 < k/\k < 90)
 | .br k=>decide (k < 90)
 | _=>true
noncomputable def Md.meet (a b:Md):Md:=if a=b then a else match a,b with
 | .ow k,.ow k'=>if 0 < min k k' then .ow (min k k') else .sh
 | .ow _,.sh=>.sh
 | .sh,.ow _=>.sh
 | _,_=>.dead
noncomputable def tnM (m:Ms):List Nat:=m.map Md.tn
theorem AX {m:Ms} {i j:Nat} (h:(tnM m)[i]?=some j):∃ d,m[i]?=some d/\d.tn=j:=by
 unfold tnM at h
 rw [aan] at h
 exact aau.mp h
theorem AJ {m:Ms} {i:Nat} {d:Md} (h:m[i]?=some d):(tnM m)[i]?=some d.tn:=by
 unfold tnM; rw [aan,h]; rfl
noncomputable def Own (m:Ms) (τ:Ft) (a:Addr):Prop:=∃ (i:Nat) (t:T) (k:Nat),τ[i]?=some (some t)/\m[i]?=some (.ow k)/\a ∈ t.adr k
noncomputable def Md.low:Md->Nat
 | .sh=>0
 | .ow _=>0
 | .br k=>k
 | .dead=>99
structure Sf (p:Px) (H0:Hp) (A0:Addr->Prop) (m:Ms) (τ:Ft) (H:Hp):Prop where
 len:τ.length=m.length
 small:∀ d ∈ m,d.small=true
 same:Same H0 H
 ok:Fok p (tnM m) τ H
 own:∀ (i:Nat) (t:T) (k:Nat) (a:Addr),τ[i]?=some (some t)->m[i]?=some (.ow k)->a ∈ t.adr k->H0 a=none/\∃ vs,H a=some (.lst vs)
 src:∀ a,Sh (tnM m) τ a->H0 a=none\/A0 a
 nd:∀ (i:Nat) (t:T) (k:Nat),τ[i]?=some (some t)->m[i]?=some (.ow k)->t.Nd k
 sep:∀ (i j:Nat) (t u:T) (k:Nat) (d:Md),i ≠ j->τ[i]?=some (some t)->m[i]?=some (.ow k)->τ[j]?=some (some u)->m[j]?=some d->d ≠ .dead->∀ a ∈ t.adr k,a ∉ u.rest d.low
 top:∀ (i j:Nat) (t u:T) (k k2:Nat),τ[i]?=some (some t)->m[i]?=some (.ow k)->τ[j]?=some (some u)->m[j]?=some (.br k2)->∀ a ts,t=.lst a ts->a ∉ u.rest 0
section
variable {p:Px} {H0:Hp} {A0:Addr->Prop} {m m':Ms} {τ:Ft} {H H':Hp}
theorem Sf.at (S:Sf p H0 A0 m τ H) {i:Nat} {t:T} {d:Md} (e:τ[i]?=some (some t)) (h:m[i]?=some d) (hd:d ≠ .dead):t.Ok p H:=by
 refine S.ok i t d.tn e (AJ h) ?_
 have:=S.small d (aae h)
 cases d with
 | sh=>exact (by decide:(0:Nat) < 90)
 | ow k=>exact (of_decide_eq_true this).2
 | br k=>exact of_decide_eq_true this
 | dead=>exact absurd rfl hd
theorem Sf.ownOk (S:Sf p H0 A0 m τ H) {a:Addr} (o:Own m τ a):H0 a=none/\∃ vs,H a=some (.lst vs):=by
 obtain ⟨i,t,k,e,h,q⟩:=o
 exact S.own i t k a e h q
theorem Sf.disj (S:Sf p H0 A0 m τ H) {a:Addr} (o:Own m τ a):¬ Sh (tnM m) τ a:=by
 rintro ⟨j,u,jj,e',h',l,q'⟩
 obtain ⟨i,t,k,e,h,q⟩:=o
 obtain ⟨d,hd,rfl⟩:=AX h'
 have hdd:d ≠ .dead:=fun z=>by subst z; exact absurd l (by decide)
 by_cases z:i=j
 ·subst z
  rw [h] at hd; cases hd
  rw [e] at e'
  cases e'
  exact (S.nd i _ k e h).2 a q' q
 ·refine S.sep i j t u k d z e h e' hd hdd a q (T.rest_le u ?_ q')
  cases d <;> simp [Md.low,Md.tn]
theorem Sf.grow (S:Sf p H0 A0 m τ H) (s:Same H H'):Sf p H0 A0 m τ H' :=
 ⟨S.len,S.small,S.same.trans s,S.ok.same s,fun i t k a e h q=>⟨(S.own i t k a e h q).1,let ⟨vs,z⟩:=(S.own i t k a e h q).2; ⟨vs,s _ _ z⟩⟩,S.src,S.nd,S.sep,S.top⟩
noncomputable def leM (m m':Ms):Bool:=decide (m.length=m'.length) && (m.zip m').all fun q=>q.1.le q.2
theorem Dk (h:leM m m'=true) {i:Nat} {d':Md} (e:m'[i]?=some d'):∃ d,m[i]?=some d/\d.le d'=true:=by
 unfold leM at h
 obtain ⟨h1,h2⟩:=Aa h
 have h1:=of_decide_eq_true h1
 have hi:i < m.length:=by
  rw [h1]; exact (aaq.mp e).1
 refine ⟨m[i],aah hi,aaw.mp h2 (m[i],d') (Km (aah hi) e)⟩
theorem Gc {m:Ms} (h:∀ d ∈ m,d.small=true):leM m m=true:=by
 unfold leM
 simp only [decide_true,abZ]
 refine aaw.mpr fun q hq=>?_
 obtain ⟨i,hi,e⟩:=abp hq
 have hi':i < m.length:=by simpa using hi
 have hs:=h m[i] (List.getElem_mem hi')
 have:q=(m[i],m[i]):=by rw [<- e]; simp
 rw [this]
 generalize m[i]=d at hs
 cases d <;> simp_all [Md.le,Md.small]
theorem Sf.weak (S:Sf p H0 A0 m τ H) (h:leM m m'=true):Sf p H0 A0 m' τ H:=by
 have hl:m.length=m'.length:=of_decide_eq_true (Aa (show (decide (m.length=m'.length) && _)=true from h)).1
 have shd:∀ a,Sh (tnM m') τ a->Sh (tnM m) τ a\/Own m τ a:=by
  rintro a ⟨i,t,j,e,ej,l,q⟩
  obtain ⟨d',hd',rfl⟩:=AX ej
  obtain ⟨d,hd,le⟩:=Dk h hd'
  have sm:=S.small d (aae hd)
  cases d' with
  | dead=>exact absurd l (by decide)
  | sh =>
   cases d with
   | sh=>exact .inl ⟨i,t,0,e,AJ hd,by decide,q⟩
   | ow k =>
    rcases (T.all_iff t k).mp q with z | z
    ·exact .inr ⟨i,t,k,e,hd,z⟩
    ·exact .inl ⟨i,t,k,e,AJ hd,(of_decide_eq_true sm).2,z⟩
   | _=>cases le
  | ow k' =>
   cases d with
   | ow k =>
    rcases (T.all_iff t k).mp (T.rest_le t (aar _) q) with z | z
    ·exact .inr ⟨i,t,k,e,hd,z⟩
    ·exact .inl ⟨i,t,k,e,AJ hd,(of_decide_eq_true sm).2,z⟩
   | _=>cases le
  | br k' =>
   cases d with
   | br k =>
    have:k=k':=of_decide_eq_true le
    subst this
    exact .inl ⟨i,t,k,e,AJ hd,of_decide_eq_true sm,q⟩
   | _=>cases le
 have ownd:∀ {i:Nat} {k':Nat},m'[i]?=some (.ow k')->∃ k,m[i]?=some (.ow k)/\k'<=k:=by
  intro i k' hd'
  obtain ⟨d,hd,le⟩:=Dk h hd'
  cases d with
  | ow k=>exact ⟨k,hd,(of_decide_eq_true le).2⟩
  | _=>cases le
 refine ⟨S.len.trans hl,fun d' hd'=>?_,S.same,fun i t j e ej l=>?_,fun i t k' a e hk q=>?_,fun a sh=>?_,fun i t k' e hk=>?_,fun i j t u k' d' ne e hk e' hd' nd a q=>?_,fun i j t u k' k2 e hk e' hd' a ts z=>?_⟩
 ·obtain ⟨i,hi,rfl⟩:=abp hd'
  obtain ⟨d,hd,le⟩:=Dk h (aah hi)
  have sm:=S.small d (aae hd)
  generalize m'[i]=d' at le
  cases d' <;> cases d <;> simp_all [Md.le,Md.small] <;> omega
 ·obtain ⟨d',hd',rfl⟩:=AX ej
  obtain ⟨d,hd,le⟩:=Dk h hd'
  refine S.at e hd fun z=>?_
  subst z
  cases d' <;> first | exact absurd l (by decide) | cases le
 ·obtain ⟨k,hd,le⟩:=ownd hk
  exact S.own i t k a e hd (T.adr_le t le q)
 ·rcases shd a sh with z | z
  ·exact S.src a z
  ·exact .inl (S.ownOk z).1
 ·obtain ⟨k,hd,le⟩:=ownd hk
  exact T.nd_le t le (S.nd i t k e hd)
 ·obtain ⟨k,hd,le⟩:=ownd hk
  obtain ⟨d,hdj,lj⟩:=Dk h hd'
  have hdd:d ≠ .dead:=fun z=>by subst z; cases d' <;> first | exact nd rfl | cases lj
  refine fun q'=>S.sep i j t u k d ne e hd e' hdj hdd a (T.adr_le t le q) (T.rest_le u ?_ q')
  cases d' <;> cases d <;> first | exact aar _ | (cases lj; done) | exact absurd rfl nd | skip
  exact acD (of_decide_eq_true lj)
 ·obtain ⟨k,hd,le⟩:=ownd hk
  obtain ⟨d,hdj,lj⟩:=Dk h hd'
  cases d with
  | br k3=>exact S.top i j t u k k3 e hd e' hdj a ts z
  | _=>cases lj
structure Stp (m m':Ms) (wr:List Nat) (τ τ':Ft) (H H':Hp):Prop where
 keep:∀ a u,H a=some u->¬ Own m τ a->H' a=some u
 grow:∀ a,Own m' τ' a->Own m τ a\/H a=none
 wr:∀ i,i ∉ wr->τ'[i]?=τ[i]?
theorem Own.weak (h:leM m m'=true) {a:Addr} (o:Own m' τ a):Own m τ a:=by
 obtain ⟨i,t,k,e,hk,q⟩:=o
 obtain ⟨d,hd,le⟩:=Dk h hk
 cases d with
 | ow k2=>exact ⟨i,t,k2,e,hd,T.adr_le t (of_decide_eq_true le).2 q⟩
 | _=>cases le
theorem Stp.refl (wr:List Nat) (h:leM m m'=true) (s:Same H H'):Stp m m' wr τ τ H H':=⟨fun a u e _=>s a u e,fun a o=>.inl (o.weak h),fun _ _=>rfl⟩
theorem Stp.trans {m1 m2 m3:Ms} {w1 w2:List Nat} {τ1 τ2 τ3:Ft} {H1 H2 H3:Hp} (a:Stp m1 m2 w1 τ1 τ2 H1 H2) (b:Stp m2 m3 w2 τ2 τ3 H2 H3):Stp m1 m3 (w1 ++ w2) τ1 τ3 H1 H3:=by
 refine ⟨fun x u e n=>b.keep x u (a.keep x u e n) fun o=>?_,fun x o=>?_,fun i hi=>?_⟩
 ·rcases a.grow x o with z | z
  ·exact n z
  ·rw [e] at z; cases z
 ·rcases b.grow x o with z | z
  ·exact a.grow x z
  ·cases q:H1 x with
   | none=>exact .inr rfl
   | some u =>
    refine .inl (Classical.byContradiction fun n=>?_)
    rw [a.keep x u q n] at z; cases z
 ·rw [b.wr i (fun h=>hi (aak _ h)),a.wr i (fun h=>hi (aaz _ h))]
theorem Stp.mono {w1 w2:List Nat} {τ':Ft} (a:Stp m m' w1 τ τ' H H') (h:∀ i ∈ w1,i ∈ w2):Stp m m' w2 τ τ' H H':=⟨a.keep,a.grow,fun i hi=>a.wr i fun q=>hi (h i q)⟩
end
noncomputable def mdK (k:Nat):Md:=if k=0 then .sh else .ow k
theorem Fu {k k':Nat} (h:mdK k=.ow k'):k'=k/\k ≠ 0:=by unfold mdK at h; split at h <;> simp_all
theorem Rg {k k':Nat} (h:mdK k=.br k'):False:=by unfold mdK at h; split at h <;> simp_all
section
variable {p:Px} {H0:Hp} {A0:Addr->Prop} {m m':Ms} {τ:Ft} {H H1:Hp}
theorem Af {α:Type} {l:List α} {x i:Nat} {v w:α} (h:(l.set x v)[i]?=some w):(i=x/\w=v)\/(i ≠ x/\l[i]?=some w):=by
 by_cases z:x=i
 ·subst z
  rw [abq] at h
  cases q:l[x]? with
  | none=>rw [q] at h; cases h
  | some y =>
   rw [q] at h
   exact .inl ⟨rfl,by simpa using h.symm⟩
 ·rw [aap z] at h
  exact .inr ⟨fun e=>z e.symm,h⟩
theorem Rh {x k ke:Nat} {t:T} (S:Sf p H0 A0 m τ H) (R:Rs p (Sh (tnM m) τ) H H1 0 ke t) (hk:k<=ke) (hx:x < m.length) (h90:k < 90):Sf p H0 A0 (m.set x (mdK k)) (τ.set x (some t)) H1/\Stp m (m.set x (mdK k)) [x] τ (τ.set x (some t)) H H1:=by
 have S1:=S.grow R.same
 have dom:∀ {i:Nat} {u:T} {d:Md},τ[i]?=some (some u)->m[i]?=some d->d ≠ .dead->∀ a ∈ u.rest 0,H a ≠ none:=fun e hd nd a q=>(S.at e hd nd).dom q
 have tnew:∀ a ∈ t.adr k,H a=none:=fun a q=>(R.new a (T.adr_le t hk q)).1
 have town:∀ a,Own m τ a->a ∉ t.rest 0:=fun a o q=>by
  rcases R.src a q with z | z
  ·obtain ⟨_,vs,e⟩:=S.ownOk o
   rw [e] at z; cases z
  ·exact S.disj o z
 have owns:∀ a,Own (m.set x (mdK k)) (τ.set x (some t)) a->a ∈ t.adr k\/Own m τ a:=by
  rintro a ⟨i,u,k',e,hk',q⟩
  rcases Af e with ⟨rfl,e2⟩ | ⟨ne,e⟩
  ·cases e2
   rcases Af hk' with ⟨_,z⟩ | ⟨z,_⟩
   ·obtain ⟨rfl,_⟩:=Fu z.symm
    exact .inl q
   ·exact absurd rfl z
  ·rcases Af hk' with ⟨z,_⟩ | ⟨_,z⟩
   ·exact absurd z ne
   ·exact .inr ⟨i,u,k',e,z,q⟩
 refine ⟨⟨by rw [aaB,aaB]; exact S.len,fun d hd=>?_,S1.same,fun i u j e ej l=>?_,fun i u k' a e hk' q=>?_,fun a sh=>?_,fun i u k' e hk'=>?_,fun i j u w k' d ne e hk' e' hd nd a q=>?_,fun i j u w k' k2 e hk' e' hd a ts z=>?_⟩,
  fun a u e _=>R.same a u e,fun a o=>?_,fun i hi=>?_⟩
 ·rcases ab2 hd with z | z
  ·exact S.small d z
  ·subst z
   unfold mdK
   split
   ·rfl
   ·exact decide_eq_true ⟨by omega,h90⟩
 ·obtain ⟨d,hd,rfl⟩:=AX ej
  rcases Af e with ⟨rfl,e2⟩ | ⟨ne,e⟩
  ·cases e2; exact R.ok
  ·rcases Af hd with ⟨z,_⟩ | ⟨_,z⟩
   ·exact absurd z ne
   ·exact S1.ok i u _ e (AJ z) l
 ·rcases Af e with ⟨rfl,e2⟩ | ⟨ne,e⟩
  ·cases e2
   rcases Af hk' with ⟨_,z⟩ | ⟨z,_⟩
   ·obtain ⟨rfl,_⟩:=Fu z.symm
    have:=R.new a (T.adr_le _ hk q)
    exact ⟨S.same.free this.1,this.2⟩
   ·exact absurd rfl z
  ·rcases Af hk' with ⟨z,_⟩ | ⟨_,z⟩
   ·exact absurd z ne
   ·exact S1.own i u k' a e z q
 ·obtain ⟨i,u,j,e,ej,l,q⟩:=sh
  obtain ⟨d,hd,rfl⟩:=AX ej
  rcases Af e with ⟨rfl,e2⟩ | ⟨ne,e⟩
  ·cases e2
   rcases R.src a (T.rest_le _ (aar _) q) with z | z
   ·exact .inl (S.same.free z)
   ·exact S.src a z
  ·rcases Af hd with ⟨z,_⟩ | ⟨_,z⟩
   ·exact absurd z ne
   ·exact S.src a ⟨i,u,_,e,AJ z,l,q⟩
 ·rcases Af e with ⟨rfl,e2⟩ | ⟨ne,e⟩
  ·cases e2
   rcases Af hk' with ⟨_,z⟩ | ⟨z,_⟩
   ·obtain ⟨rfl,_⟩:=Fu z.symm
    exact T.nd_le _ hk R.nd
   ·exact absurd rfl z
  ·rcases Af hk' with ⟨z,_⟩ | ⟨_,z⟩
   ·exact absurd z ne
   ·exact S.nd i u k' e z
 ·rcases Af e with ⟨rfl,e2⟩ | ⟨n1,e1⟩
  ·cases e2
   rcases Af hk' with ⟨_,z⟩ | ⟨z,_⟩
   ·obtain ⟨rfl,_⟩:=Fu z.symm
    rcases Af e' with ⟨z',_⟩ | ⟨n2,e3⟩
    ·exact absurd z'.symm ne
    ·rcases Af hd with ⟨z',_⟩ | ⟨_,hd3⟩
     ·exact absurd z' n2
     ·exact fun q'=>dom e3 hd3 nd a (T.rest_le w (aar _) q') (tnew a q)
   ·exact absurd rfl z
  ·rcases Af hk' with ⟨z,_⟩ | ⟨_,hk3⟩
   ·exact absurd z n1
   ·rcases Af e' with ⟨z4,e2⟩ | ⟨n2,e3⟩
    ·cases e2
     exact fun q'=>town a ⟨i,u,k',e1,hk3,q⟩ (T.rest_le _ (aar _) q')
    ·rcases Af hd with ⟨z,_⟩ | ⟨_,hd3⟩
     ·exact absurd z n2
     ·exact S.sep i j u w k' d ne e1 hk3 e3 hd3 nd a q
 ·rcases Af hd with ⟨_,z'⟩ | ⟨n2,hd3⟩
  ·exact (Rg z'.symm).elim
  ·rcases Af e' with ⟨z',_⟩ | ⟨_,e3⟩
   ·exact absurd z' n2
   ·rcases Af e with ⟨z4,e2⟩ | ⟨n1,e1⟩
    ·cases e2
     rcases Af hk' with ⟨_,z'⟩ | ⟨z',_⟩
     ·obtain ⟨z5,hk0⟩:=Fu z'.symm
      subst z
      have mem:a ∈ (T.lst a ts).adr k:=by
       cases k with
       | zero=>exact absurd rfl hk0
       | succ n=>exact aac ..
      exact fun q'=>dom e3 hd3 (by intro c; cases c) a q' (tnew a mem)
     ·exact absurd z4 z'
    ·rcases Af hk' with ⟨z',_⟩ | ⟨_,hk3⟩
     ·exact absurd z' n1
     ·exact S.top i j u w k' k2 e1 hk3 e3 hd3 a ts z
 ·rcases owns a o with z | z
  ·exact .inr (tnew a z)
  ·exact .inl z
 ·rw [aap (fun z=>hi (by simp [z]))]
noncomputable def Aq (m:Ms) (is:List Nat) (d:Md):Ms:=is.foldl (fun m i=>m.set i d) m
theorem DC (d:Md):∀ (is:List Nat) (m:Ms),(Aq m is d).length=m.length
 | [],m=>rfl
 | i :: is,m=>by show (Aq (m.set i d) is d).length=_; rw [DC d is,aaB]
theorem DL {d d':Md}:∀ {is:List Nat} {m:Ms} {i:Nat},(Aq m is d)[i]?=some d'->(i ∈ is/\d'=d)\/(i ∉ is/\m[i]?=some d')
 | [],m,i,h=>.inr ⟨by simp,h⟩
 | j :: is,m,i,h=>by
  rcases DL (is:=is) (m:=m.set j d) h with ⟨z1,z2⟩ | ⟨z1,z2⟩
  ·exact .inl ⟨aaa _ z1,z2⟩
  ·rcases Af z2 with ⟨rfl,e⟩ | ⟨ne,e⟩
   ·exact .inl ⟨aac ..,e⟩
   ·exact .inr ⟨fun q=>by rcases aai.mp q with q | q; exact ne q; exact z1 q,e⟩
theorem Fv:∀ {is:List Nat} {ts:List T} {τ τ':Ft} {i:Nat},B3 is ts τ=some τ'->i ∉ is->τ'[i]?=τ[i]?
 | [],[],τ,τ',i,h,_=>by cases h; rfl
 | [],t :: ts,τ,τ',i,h,_=>by cases h
 | j :: is,[],τ,τ',i,h,_=>by cases h
 | j :: is,t :: ts,τ,τ',i,h,hi=>by
  rw [Fv (is:=is) (ts:=ts) (τ:=τ.set j (some t)) h (fun q=>hi (aaa _ q)),aap (fun z=>hi (by simp [z]))]
theorem JF {g:Tg} {t:T} {τ τ':Ft} {i:Nat} (h:Cu g t τ=some τ') (hi:i ∉ g.sl):τ'[i]?=τ[i]?:=by
 cases g with
 | nm k=>cases h; rw [aap (fun z=>hi (by simp [Tg.sl,z]))]
 | tp is=>cases t <;> first | cases h | exact Fv h hi
theorem Pp {is:List Nat} {τ':Ft} (S:Sf p H0 A0 m τ H) (s:Same H H1) (hlen:τ'.length=τ.length) (hin:∀ (i:Nat) (u:T),i ∈ is->τ'[i]?=some (some u)->u.Ok p H1/\∀ a ∈ u.rest 0,(H0 a=none\/A0 a)/\¬ Own m τ a) (hout:∀ i,i ∉ is->τ'[i]?=τ[i]?) :
  Sf p H0 A0 (Aq m is .sh) τ' H1/\Stp m (Aq m is .sh) is τ τ' H H1:=by
 have S1:=S.grow s
 have AO:∀ {i:Nat} {u:T} {d:Md},τ'[i]?=some (some u)->(Aq m is .sh)[i]?=some d->(d=.sh/\u.Ok p H1/\∀ a ∈ u.rest 0,(H0 a=none\/A0 a)/\¬ Own m τ a)\/(τ[i]?=some (some u)/\m[i]?=some d):=by
  intro i u d e hd
  rcases DL hd with ⟨z1,z2⟩ | ⟨z1,z2⟩
  ·exact .inl ⟨z2,hin i u z1 e⟩
  ·exact .inr ⟨(hout i z1) ▸ e,z2⟩
 have town:∀ {u:T},(∀ a ∈ u.rest 0,(H0 a=none\/A0 a)/\¬ Own m τ a)->∀ a,Own m τ a->a ∉ u.rest 0:=fun src a o q=>(src a q).2 o
 refine ⟨⟨by rw [hlen,DC]; exact S.len,fun d hd=>?_,S1.same,fun i u j e ej l=>?_,fun i u k' a e hk' q=>?_,fun a sh=>?_,fun i u k' e hk'=>?_,fun i j u w k' d ne e hk' e' hd nd a q=>?_,fun i j u w k' k2 e hk' e' hd a ts z=>?_⟩,
  fun a u e _=>s a u e,fun a o=>?_,fun i hi=>hout i hi⟩
 ·obtain ⟨i,hi,rfl⟩:=abp hd
  rcases DL (aah hi) with ⟨_,z⟩ | ⟨_,z⟩
  ·rw [z]; rfl
  ·exact S.small _ (aae z)
 ·obtain ⟨d,hd,rfl⟩:=AX ej
  rcases AO e hd with ⟨_,q,_⟩ | ⟨q1,q2⟩
  ·exact q
  ·exact S1.ok i u _ q1 (AJ q2) l
 ·rcases AO e hk' with ⟨z,_⟩ | ⟨q1,q2⟩
  ·cases z
  ·exact S1.own i u k' a q1 q2 q
 ·obtain ⟨i,u,j,e,ej,l,q⟩:=sh
  obtain ⟨d,hd,rfl⟩:=AX ej
  rcases AO e hd with ⟨_,_,q'⟩ | ⟨q1,q2⟩
  ·exact (q' a (T.rest_le u (aar _) q)).1
  ·exact S.src a ⟨i,u,_,q1,AJ q2,l,q⟩
 ·rcases AO e hk' with ⟨z,_⟩ | ⟨q1,q2⟩
  ·cases z
  ·exact S.nd i u k' q1 q2
 ·rcases AO e hk' with ⟨z,_⟩ | ⟨q1,q2⟩
  ·cases z
  ·rcases AO e' hd with ⟨_,_,q'⟩ | ⟨q3,q4⟩
   ·exact fun q5=>town q' a ⟨i,u,k',q1,q2,q⟩ (T.rest_le w (aar _) q5)
   ·exact S.sep i j u w k' d ne q1 q2 q3 q4 nd a q
 ·rcases AO e hk' with ⟨z,_⟩ | ⟨q1,q2⟩
  ·cases z
  ·rcases AO e' hd with ⟨z',_⟩ | ⟨q3,q4⟩
   ·cases z'
   ·exact S.top i j u w k' k2 q1 q2 q3 q4 a ts z
 ·obtain ⟨i,u,k',e,hk',q⟩:=o
  rcases AO e hk' with ⟨z,_⟩ | ⟨q1,q2⟩
  ·cases z
  ·exact .inl ⟨i,u,k',q1,q2,q⟩
theorem Sf.fine (S:Sf p H0 A0 m τ H) {a:Addr} (h:H a=none\/Sh (tnM m) τ a):(H0 a=none\/A0 a)/\¬ Own m τ a:=by
 rcases h with z | z
 ·refine ⟨.inl (S.same.free z),fun o=>?_⟩
  obtain ⟨_,vs,e⟩:=S.ownOk o
  rw [e] at z; cases z
 ·exact ⟨S.src a z,fun o=>S.disj o z⟩
theorem Mv {g:Tg} {t:T} {τ':Ft} (S:Sf p H0 A0 m τ H) (s:Same H H1) (ok:t.Ok p H1) (src:∀ a ∈ t.rest 0,(H0 a=none\/A0 a)/\¬ Own m τ a) (h:Cu g t τ=some τ'):Sf p H0 A0 (Aq m g.sl .sh) τ' H1/\Stp m (Aq m g.sl .sh) g.sl τ τ' H H1:=by
 refine Pp S s (HY h) (fun i u hi e=>?_) (fun i hi=>JF h hi)
 rcases GF (P:=fun o=>∀ w,o=some w->w.Ok p H1/\∀ a ∈ w.rest 0,(H0 a=none\/A0 a)/\¬ Own m τ a) h (fun w e=>by cases e; exact ⟨ok,src⟩)
   (fun a ts e u hu w e'=>by
    cases e'
    rcases e with e | e
    ·subst e
     exact ⟨T.oks_iff.mp ok.2 u hu,fun b q=>src b (T.mem_rests.mpr ⟨u,hu,q⟩)⟩
    ·subst e
     exact ⟨T.oks_iff.mp ok.2 u hu,fun b q=>src b (aaa _ (T.mem_rests.mpr ⟨u,hu,q⟩))⟩) i (some u) e with q | ⟨q,_⟩
 ·exact q u rfl
 ·exact absurd hi q
theorem Sn {g:Tg} {t:T} {τ':Ft} (S:Sf p H0 A0 m τ H) (s:Same H H1) (ok:t.Ok p H1) (src:∀ a ∈ t.rest 0,H a=none\/Sh (tnM m) τ a) (h:Cu g t τ=some τ'):Sf p H0 A0 (Aq m g.sl .sh) τ' H1/\Stp m (Aq m g.sl .sh) g.sl τ τ' H H1 :=
 Mv S s ok (fun a q=>S.fine (src a q)) h
end
noncomputable def AH:List (Bool × Int)->T->Option T
 | [],t=>some t
 | (false,i) :: r,.lst _ ts=>(ixN ts.length i).bind fun j=>(ts[j]?).bind fun t=>AH r t
 | (true,i) :: r,.tup _ ts=>(ixN ts.length i).bind fun j=>(ts[j]?).bind fun t=>AH r t
 | _,_=>none
noncomputable def CY (s:T):List (Bool × Int)->T->Option T
 | [],_=>some s
 | (false,i) :: r,.lst a ts=>(ixN ts.length i).bind fun j=>(ts[j]?).bind fun t=>(CY s r t).map fun t'=>.lst a (ts.set j t')
 | (true,i) :: r,.tup a ts=>(ixN ts.length i).bind fun j=>(ts[j]?).bind fun t=>(CY s r t).map fun t'=>.tup a (ts.set j t')
 | _,_=>none
noncomputable def lnP:List (Bool × Int)->Nat
 | []=>0
 | (false,_) :: r=>lnP r + 1
 | (true,_) :: r=>lnP r
theorem Ec {α:Type} {l:List α} {j:Nat} {x:α} (h:l[j]?=some x):∃ l1 l2,l=l1 ++ x :: l2/\∀ y,l.set j y=l1 ++ y :: l2:=by
 obtain ⟨hj,e⟩:=aaq.mp h
 refine ⟨l.take j,l.drop (j + 1),?_,fun y=>?_⟩
 ·rw [<- e,List.getElem_cons_drop,List.take_append_drop]
 ·rw [List.set_eq_take_append_cons_drop,if_pos hj]
theorem DV {l1 l2:List T} {c:T} {k:Nat}:T.Nds (l1 ++ c :: l2) k ↔ T.Nds (l1 ++ l2) k/\c.Nd k/\(∀ a ∈ c.adr k,a ∉ T.rests (l1 ++ l2) 0)/\(∀ a ∈ T.adrs (l1 ++ l2) k,a ∉ c.rest 0):=by
 induction l1 with
 | nil =>
  rw [aaT,aaT,T.nds_cons]
  exact ⟨fun ⟨a,b,c,d⟩=>⟨b,a,c,d⟩,fun ⟨b,a,c,d⟩=>⟨a,b,c,d⟩⟩
 | cons x l1 ih =>
  rw [aa4,aa4,T.nds_cons,T.nds_cons,ih]
  simp only [T.rests_append,T.adrs_append,T.rests,T.adrs,aaf,not_or]
  constructor
  ·rintro ⟨h1,⟨h2,h3,h4,h5⟩,h6,h7⟩
   refine ⟨⟨h1,h2,fun a q=>⟨(h6 a q).1,(h6 a q).2.2⟩,fun a q=>h7 a ?_⟩,h3,fun a q=>⟨fun z=>h7 a (.inr (.inl q)) z,h4 a q⟩,fun a q=>?_⟩
   ·rcases q with q | q
    ·exact .inl q
    ·exact .inr (.inr q)
   ·rcases q with q | q
    ·exact (h6 a q).2.1
    ·exact h5 a q
  ·rintro ⟨⟨h1,h2,h6,h7⟩,h3,h4,h5⟩
   refine ⟨h1,⟨h2,h3,fun a q=>(h4 a q).2,fun a q=>h5 a (.inr q)⟩,fun a q=>⟨(h6 a q).1,h5 a (.inl q),(h6 a q).2⟩,fun a q=>?_⟩
   rcases q with q | q | q
   ·exact h7 a (.inl q)
   ·exact (h4 a q).1
   ·exact h7 a (.inr q)
section
variable {p:Px}
theorem D2:∀ (q:List (Bool × Int)) {t s:T} {k:Nat},AH q t=some s->lnP q<=k->(∀ b ∈ s.rest 0,b ∈ t.rest 0)/\(∀ b ∈ s.adr (k - lnP q),b ∈ t.adr k)
 | [],t,s,k,h,_=>by cases h; exact ⟨fun b q=>q,fun b q=>q⟩
 | (false,i) :: r,.lst a ts,s,k,h,hl=>by
  simp only [AH] at h
  obtain ⟨j,_,h⟩:=bS h
  obtain ⟨c,hc,h⟩:=bS h
  cases k with
  | zero=>simp [lnP] at hl
  | succ k =>
   obtain ⟨h1,h2⟩:=D2 r (k:=k) h (by simp [lnP] at hl; exact hl)
   refine ⟨fun b q=>aaa _ (T.mem_rests.mpr ⟨c,aae hc,h1 b q⟩),fun b q=>aaa _ (T.mem_adrs.mpr ⟨c,aae hc,h2 b ?_⟩)⟩
   have:k + 1 - lnP ((false,i) :: r)=k - lnP r:=by simp only [lnP]; omega
   rw [this] at q; exact q
 | (true,i) :: r,.tup a ts,s,k,h,hl=>by
  simp only [AH] at h
  obtain ⟨j,_,h⟩:=bS h
  obtain ⟨c,hc,h⟩:=bS h
  obtain ⟨h1,h2⟩:=D2 r (k:=k) h hl
  exact ⟨fun b q=>T.mem_rests.mpr ⟨c,aae hc,h1 b q⟩,fun b q=>T.mem_adrs.mpr ⟨c,aae hc,h2 b q⟩⟩
 | (false,i) :: r,.tup a ts,s,k,h,_=>by cases h
 | (true,i) :: r,.lst a ts,s,k,h,_=>by cases h
 | (b,i) :: r,.non,s,k,h,_=>by cases b <;> cases h
 | (b,i) :: r,.bl _,s,k,h,_=>by cases b <;> cases h
 | (b,i) :: r,.int _,s,k,h,_=>by cases b <;> cases h
 | (b,i) :: r,.str _,s,k,h,_=>by cases b <;> cases h
 | (b,i) :: r,.exn _ _,s,k,h,_=>by cases b <;> cases h
theorem Mw {l1 l2:List T} {c c':T} {k:Nat} {F N:Addr->Prop} (hFN:∀ b,F b->N b) (nds:T.Nds (l1 ++ c :: l2) k) (nd':c'.Nd k) (hA:∀ b ∈ c'.adr k,b ∈ c.adr k\/F b) (hB:∀ b ∈ c'.rest k,b ∈ c.rest k\/N b) (hF:∀ b,F b->b ∉ T.rests (l1 ++ c :: l2) 0) (hN:∀ b,N b->b ∉ T.adrs (l1 ++ c :: l2) k) :
  T.Nds (l1 ++ c' :: l2) k/\(∀ b ∈ T.adrs (l1 ++ c' :: l2) k,b ∈ T.adrs (l1 ++ c :: l2) k\/F b)/\(∀ b ∈ T.rests (l1 ++ c' :: l2) k,b ∈ T.rests (l1 ++ c :: l2) k\/N b):=by
 obtain ⟨m1,m2,m3,m4⟩:=DV.mp nds
 have inm:∀ b,b ∈ T.rests (l1 ++ l2) 0->b ∈ T.rests (l1 ++ c :: l2) 0:=fun b q=>by
  simp only [T.rests_append,T.rests,aaf] at q ⊢
  rcases q with q | q
  ·exact .inl q
  ·exact .inr (.inr q)
 have ina:∀ b,b ∈ T.adrs (l1 ++ l2) k->b ∈ T.adrs (l1 ++ c :: l2) k:=fun b q=>by
  simp only [T.adrs_append,T.adrs,aaf] at q ⊢
  rcases q with q | q
  ·exact .inl q
  ·exact .inr (.inr q)
 have cm:∀ b,b ∈ c.adr k->b ∈ T.adrs (l1 ++ c :: l2) k:=fun b q=>by
  simp only [T.adrs_append,T.adrs,aaf]
  exact .inr (.inl q)
 refine ⟨DV.mpr ⟨m1,nd',fun b q q'=>?_,fun b q q'=>?_⟩,fun b q=>?_,fun b q=>?_⟩
 ·rcases hA b q with z | z
  ·exact m3 b z q'
  ·exact hF b z (inm b q')
 ·rcases (T.all_iff c' k).mp q' with z | z
  ·rcases hA b z with y | y
   ·exact m4 b q ((T.all_iff c k).mpr (.inl y))
   ·exact hN b (hFN b y) (ina b q)
  ·rcases hB b z with y | y
   ·exact m4 b q ((T.all_iff c k).mpr (.inr y))
   ·exact hN b y (ina b q)
 ·simp only [T.adrs_append,T.adrs,aaf] at q ⊢
  rcases q with q | q | q
  ·exact .inl (.inl q)
  ·exact (hA b q).imp (fun z=>.inr (.inl z)) id
  ·exact .inl (.inr (.inr q))
 ·simp only [T.rests_append,T.rests,aaf] at q ⊢
  rcases q with q | q | q
  ·exact .inl (.inl q)
  ·exact (hB b q).imp (fun z=>.inr (.inl z)) id
  ·exact .inl (.inr (.inr q))
theorem Dl {H H':Hp} {a:Addr} {t:T} (hkeep:∀ b w,H b=some w->b ≠ a->H' b=some w) (hpl:∃ vs,H a=some (.lst vs)) (ok:t.Ok p H) (hn:a ∉ t.rest 0):t.Ok p H':=by
 refine ok.keep fun b w e q=>hkeep b w e fun z=>?_
 subst z
 rcases q with q | q
 ·exact hn q
 ·obtain ⟨vs,z⟩:=hpl
  rw [z] at e
  exact q vs (Option.some.inj e).symm
theorem IP {H H':Hp} {a:Addr} {ts us:List T} {F N:Addr->Prop} (hkeep:∀ b w,H b=some w->b ≠ a->H' b=some w) (hpl:∃ vs,H a=some (.lst vs)) (hs:(T.lst a us).Ok p H') (hFN:∀ b,F b->N b) :
  ∀ (q:List (Bool × Int)) {t:T} {k:Nat},AH q t=some (.lst a ts)->lnP q < k->t.Nd k->t.Ok p H->(∀ b,F b->b ∉ t.rest 0)->(∀ b,N b->b ∉ t.adr k)->(∀ b ∈ T.adrs us (k - 1 - lnP q),b ∈ T.adrs ts (k - 1 - lnP q)\/F b) ->
   (∀ b ∈ T.rests us (k - 1 - lnP q),b ∈ T.rests ts (k - 1 - lnP q)\/N b)->T.Nds us (k - 1 - lnP q) ->
   ∃ t',CY (.lst a us) q t=some t'/\t'.val=t.val/\t'.Ok p H'/\t'.Nd k/\(∀ b ∈ t'.adr k,b ∈ t.adr k\/F b)/\(∀ b ∈ t'.rest k,b ∈ t.rest k\/N b)
 | [],t,k,h,hl,nd,ok,hF,hN,hA,hB,hnd=>by
  cases h
  cases k with
  | zero=>cases hl
  | succ k =>
   have e:k + 1 - 1 - lnP []=k:=by simp [lnP]
   rw [e] at hA hB hnd
   obtain ⟨n1,n2⟩:=nd
   simp only [T.adr,aaC] at n1
   refine ⟨_,rfl,rfl,hs,⟨?_,fun b m m'=>?_⟩,fun b m=>?_,fun b m=>hB b m⟩
   ·simp only [T.adr,aaC]
    refine ⟨fun m=>?_,hnd.1⟩
    rcases hA a m with z | z
    ·exact n1.1 z
    ·exact hF a z (aac ..)
   ·simp only [T.adr,T.rest,aai] at m m'
    rcases m' with rfl | m'
    ·rcases hB b m with z | z
     ·exact n2 b z (aac ..)
     ·exact hN b z (aac ..)
    ·exact hnd.2 b m m'
   ·simp only [T.adr,aai] at m ⊢
    rcases m with m | m
    ·exact .inl (.inl m)
    ·exact (hA b m).imp .inr id
 | (false,i) :: r,.lst b0 cs,k,h,hl,nd,ok,hF,hN,hA,hB,hnd=>by
  simp only [AH] at h
  obtain ⟨j,hj,h⟩:=bS h
  obtain ⟨c,hc,h⟩:=bS h
  cases k with
  | zero=>cases hl
  | succ k =>
   have hl':lnP r < k:=by simp only [lnP] at hl; omega
   have e:k + 1 - 1 - lnP ((false,i) :: r)=k - 1 - lnP r:=by simp only [lnP]; omega
   rw [e] at hA hB hnd
   obtain ⟨n1,n2⟩:=nd
   simp only [T.adr,T.rest,aaC] at n1 n2
   have nds:T.Nds cs k:=⟨n1.2,fun x hx hy=>n2 x hx (aaa _ hy)⟩
   have hcm:=aae hc
   obtain ⟨l1,l2,e1,e2⟩:=Ec hc
   rw [e1] at nds
   obtain ⟨m1,m2,m3,m4⟩:=DV.mp nds
   obtain ⟨ain,aad⟩:=D2 r (k:=k) h (by omega)
   have aadr:a ∈ c.adr k:=aad a (by
    have:k - lnP r=(k - lnP r - 1) + 1:=by omega
    rw [this]; exact aac ..)
   obtain ⟨c',p1,p2,p3,p4,p5,p6⟩:=IP hkeep hpl hs hFN r h hl' m2 (T.oks_iff.mp ok.2 c hcm) (fun b f q=>hF b f (aaa _ (T.mem_rests.mpr ⟨c,hcm,q⟩))) (fun b n q=>hN b n (aaa _ (T.mem_adrs.mpr ⟨c,hcm,q⟩))) hA hB hnd
   obtain ⟨q1,q2,q3⟩:=Mw hFN nds p4 p5 p6 (fun b f q=>hF b f (aaa _ (by rw [e1]; exact q))) (fun b n q=>hN b n (aaa _ (by rw [e1]; exact q)))
   have ab:b0 ≠ a:=fun z=>n1.1 (by rw [z,T.mem_adrs]; exact ⟨c,hcm,aadr⟩)
   have hv:(l1 ++ c' :: l2).map T.val=cs.map T.val:=by rw [e1]; simp [p2]
   refine ⟨.lst b0 (l1 ++ c' :: l2),by simp only [CY,hj,aa3,hc,p1,aaW,e2],rfl,⟨?_,T.oks_iff.mpr fun w hw=>?_⟩,⟨?_,fun b m m'=>?_⟩,fun b m=>?_,fun b m=>?_⟩
   ·rw [hv]
    rcases ok.1 with z | ⟨o,z⟩
    ·exact .inl (hkeep _ _ z ab)
    ·exact .inr ⟨o,hkeep _ _ z ab⟩
   ·rcases aaf.mp hw with hw | hw
    ·refine Dl hkeep hpl (T.oks_iff.mp ok.2 w (by rw [e1]; exact aaz _ hw)) fun q=>m3 a aadr ?_
     rw [T.rests_append]; exact aaz _ (T.mem_rests.mpr ⟨w,hw,q⟩)
    ·rcases aai.mp hw with rfl | hw
     ·exact p3
     ·refine Dl hkeep hpl (T.oks_iff.mp ok.2 w (by rw [e1]; exact aak _ (aaa _ hw))) fun q=>m3 a aadr ?_
      rw [T.rests_append]; exact aak _ (T.mem_rests.mpr ⟨w,hw,q⟩)
   ·simp only [T.adr,aaC]
    refine ⟨fun m=>?_,q1.1⟩
    rcases q2 b0 m with z | z
    ·exact n1.1 (by rw [e1]; exact z)
    ·exact hF b0 z (aac ..)
   ·simp only [T.adr,T.rest,aai] at m m'
    rcases m' with rfl | m'
    ·rcases q3 b m with z | z
     ·exact n2 b (by rw [e1]; exact z) (aac ..)
     ·exact hN b z (aac ..)
    ·exact q1.2 b m m'
   ·simp only [T.adr,aai] at m ⊢
    rcases m with m | m
    ·exact .inl (.inl m)
    ·rw [e1]; exact (q2 b m).imp .inr id
   ·simp only [T.rest] at m ⊢
    rw [e1]; exact q3 b m
 | (true,i) :: r,.tup b0 cs,k,h,hl,nd,ok,hF,hN,hA,hB,hnd=>by
  simp only [AH] at h
  obtain ⟨j,hj,h⟩:=bS h
  obtain ⟨c,hc,h⟩:=bS h
  have hl':lnP r < k:=hl
  have nds:T.Nds cs k:=nd
  have hcm:=aae hc
  obtain ⟨l1,l2,e1,e2⟩:=Ec hc
  rw [e1] at nds
  obtain ⟨m1,m2,m3,m4⟩:=DV.mp nds
  obtain ⟨ain,aad⟩:=D2 r (k:=k) h (by omega)
  have aadr:a ∈ c.adr k:=aad a (by
   have:k - lnP r=(k - lnP r - 1) + 1:=by omega
   rw [this]; exact aac ..)
  obtain ⟨c',p1,p2,p3,p4,p5,p6⟩:=IP hkeep hpl hs hFN r h hl' m2 (T.oks_iff.mp ok.2 c hcm) (fun b f q=>hF b f (T.mem_rests.mpr ⟨c,hcm,q⟩)) (fun b n q=>hN b n (T.mem_adrs.mpr ⟨c,hcm,q⟩)) hA hB hnd
  obtain ⟨q1,q2,q3⟩:=Mw hFN nds p4 p5 p6 (fun b f q=>hF b f (by rw [T.rest,e1]; exact q)) (fun b n q=>hN b n (by rw [T.adr,e1]; exact q))
  have ab:b0 ≠ a:=fun z=>by
   obtain ⟨vs,y⟩:=hpl
   have:=ok.1
   rw [z,y] at this; cases this
  have hv:(l1 ++ c' :: l2).map T.val=cs.map T.val:=by rw [e1]; simp [p2]
  refine ⟨.tup b0 (l1 ++ c' :: l2),by simp only [CY,hj,aa3,hc,p1,aaW,e2],rfl,⟨?_,T.oks_iff.mpr fun w hw=>?_⟩,q1,fun b m=>?_,fun b m=>?_⟩
  ·rw [hv]; exact hkeep _ _ ok.1 ab
  ·rcases aaf.mp hw with hw | hw
   ·refine Dl hkeep hpl (T.oks_iff.mp ok.2 w (by rw [e1]; exact aaz _ hw)) fun q=>m3 a aadr ?_
    rw [T.rests_append]; exact aaz _ (T.mem_rests.mpr ⟨w,hw,q⟩)
   ·rcases aai.mp hw with rfl | hw
    ·exact p3
    ·refine Dl hkeep hpl (T.oks_iff.mp ok.2 w (by rw [e1]; exact aak _ (aaa _ hw))) fun q=>m3 a aadr ?_
     rw [T.rests_append]; exact aak _ (T.mem_rests.mpr ⟨w,hw,q⟩)
  ·simp only [T.adr] at m ⊢
   rw [e1]; exact q2 b m
  ·simp only [T.rest] at m ⊢
   rw [e1]; exact q3 b m
 | (false,i) :: r,.tup a ts,k,h,_,_,_,_,_,_,_,_=>by cases h
 | (true,i) :: r,.lst a ts,k,h,_,_,_,_,_,_,_,_=>by cases h
 | (b,i) :: r,.non,k,h,_,_,_,_,_,_,_,_=>by cases b <;> cases h
 | (b,i) :: r,.bl _,k,h,_,_,_,_,_,_,_,_=>by cases b <;> cases h
 | (b,i) :: r,.int _,k,h,_,_,_,_,_,_,_,_=>by cases b <;> cases h
 | (b,i) :: r,.str _,k,h,_,_,_,_,_,_,_,_=>by cases b <;> cases h
 | (b,i) :: r,.exn _ _,k,h,_,_,_,_,_,_,_,_=>by cases b <;> cases h
end
theorem GJ:∀ (q:List (Bool × Int)) {t s:T} {k:Nat},AH q t=some s->lnP q<=k->t.Nd k->s.Nd (k - lnP q)
 | [],t,s,k,h,_,n=>by cases h; exact n
 | (false,i) :: r,.lst a ts,s,k,h,hl,n=>by
  simp only [AH] at h
  obtain ⟨j,_,h⟩:=bS h
  obtain ⟨c,hc,h⟩:=bS h
  cases k with
  | zero=>simp [lnP] at hl
  | succ k =>
   obtain ⟨n1,n2⟩:=n
   simp only [T.adr,T.rest,aaC] at n1 n2
   have nds:T.Nds ts k:=⟨n1.2,fun x hx hy=>n2 x hx (aaa _ hy)⟩
   obtain ⟨l1,l2,e1,_⟩:=Ec hc
   rw [e1] at nds
   have:=GJ r (k:=k) h (by simp [lnP] at hl; exact hl) (DV.mp nds).2.1
   have e:k + 1 - lnP ((false,i) :: r)=k - lnP r:=by simp only [lnP]; omega
   rw [e]; exact this
 | (true,i) :: r,.tup a ts,s,k,h,hl,n=>by
  simp only [AH] at h
  obtain ⟨j,_,h⟩:=bS h
  obtain ⟨c,hc,h⟩:=bS h
  have nds:T.Nds ts k:=n
  obtain ⟨l1,l2,e1,_⟩:=Ec hc
  rw [e1] at nds
  exact GJ r (k:=k) h hl (DV.mp nds).2.1
 | (false,i) :: r,.tup a ts,s,k,h,_,_=>by cases h
 | (true,i) :: r,.lst a ts,s,k,h,_,_=>by cases h
 | (b,i) :: r,.non,s,k,h,_,_=>by cases b <;> cases h
 | (b,i) :: r,.bl _,s,k,h,_,_=>by cases b <;> cases h
 | (b,i) :: r,.int _,s,k,h,_,_=>by cases b <;> cases h
 | (b,i) :: r,.str _,s,k,h,_,_=>by cases b <;> cases h
 | (b,i) :: r,.exn _ _,s,k,h,_,_=>by cases b <;> cases h
theorem JG {ts:List T} {j:Nat} {t:T} (h:ts[j]?=some t):(T.dats ts)[j]?=some t.dat:=by rw [T.dats_map,aan,h]; rfl
theorem Gd (ts:List T) (j:Nat) (t:T):T.dats (ts.set j t)=(T.dats ts).set j t.dat:=by rw [T.dats_map,T.dats_map,ab6]
theorem Ha {f:List D->Option (List D)}:∀ (q:List (Bool × Int)) {t:T} {d':D},BB f q t.dat=some d'->∃ a ts ds',AH q t=some (.lst a ts)/\f (T.dats ts)=some ds'/\∀ us t',T.dats us=ds'->CY (.lst a us) q t=some t'->t'.dat=d'
 | [],t,d',h=>by
  cases t with
  | lst a ts =>
   simp only [T.dat,BB] at h
   obtain ⟨ds',h1,rfl⟩:=aau.mp h
   exact ⟨a,ts,ds',rfl,h1,fun us t' e1 e2=>by cases e2; simp [T.dat,e1]⟩
  | _=>cases h
 | (b,i) :: r,t,d',h=>by
  cases b with
  | false =>
   cases t with
   | lst a ts =>
    simp only [T.dat,BB,Ag] at h
    obtain ⟨j,hj,h⟩:=bS h
    obtain ⟨d,hd,h⟩:=bS h
    obtain ⟨d2,h1,rfl⟩:=aau.mp h
    obtain ⟨c,hc,rfl⟩:=EV hd
    obtain ⟨a',ts',ds',s1,s2,s3⟩:=Ha r h1
    refine ⟨a',ts',ds',by simp only [AH,hj,aa3,hc,s1],s2,fun us t' e1 e2=>?_⟩
    simp only [CY,hj,aa3,hc] at e2
    obtain ⟨c',e3,rfl⟩:=aau.mp e2
    simp only [T.dat,Gd,s3 us c' e1 e3]
   | _=>cases h
  | true =>
   cases t with
   | tup a ts =>
    simp only [T.dat,BB,Ag] at h
    obtain ⟨j,hj,h⟩:=bS h
    obtain ⟨d,hd,h⟩:=bS h
    obtain ⟨d2,h1,rfl⟩:=aau.mp h
    obtain ⟨c,hc,rfl⟩:=EV hd
    obtain ⟨a',ts',ds',s1,s2,s3⟩:=Ha r h1
    refine ⟨a',ts',ds',by simp only [AH,hj,aa3,hc,s1],s2,fun us t' e1 e2=>?_⟩
    simp only [CY,hj,aa3,hc] at e2
    obtain ⟨c',e3,rfl⟩:=aau.mp e2
    simp only [T.dat,Gd,s3 us c' e1 e3]
   | _=>cases h
section
variable {p:Px} {H0:Hp} {A0:Addr->Prop} {m m1:Ms} {τ:Ft} {H H1:Hp}
theorem IQ {x k:Nat} {t:T} {q:List (Bool × Int)} {a:Addr} {ts us:List T} {F N:Addr->Prop} (S:Sf p H0 A0 m τ H) (s:Same H H1) (hx:τ[x]?=some (some t)) (hm:m[x]?=some (.ow k)) (hq:AH q t=some (.lst a ts)) (hl:lnP q < k) (hus:T.Oks p H1 us) (hFN:∀ b,F b->N b)
  (hA:∀ b ∈ T.adrs us (k - 1 - lnP q),b ∈ T.adrs ts (k - 1 - lnP q)\/F b) (hB:∀ b ∈ T.rests us (k - 1 - lnP q),b ∈ T.rests ts (k - 1 - lnP q)\/N b) (hnd:T.Nds us (k - 1 - lnP q))
  (f0:∀ b,F b->b ∉ t.rest 0) (f1:∀ b,F b->H0 b=none/\∃ vs,H1 b=some (.lst vs)) (f4:∀ b,F b->Own m τ b\/H b=none) (n0:∀ b,N b->b ∉ t.adr k) (n1:∀ b,N b->H0 b=none\/A0 b)
  (hlen:m1.length=m.length) (hmx:m1[x]?=some (.ow k)) (hmo:∀ (j:Nat) (d:Md),j ≠ x->m1[j]?=some d->d ≠ .dead->m[j]?=some d/\(q ≠ []->∀ k2,d ≠ .br k2))
  (f2:∀ (j:Nat) (u:T) (d:Md),j ≠ x->τ[j]?=some (some u)->m1[j]?=some d->d ≠ .dead->∀ b,F b->b ∉ u.rest d.low) (n2:∀ (i:Nat) (u:T) (k':Nat),i ≠ x->τ[i]?=some (some u)->m1[i]?=some (.ow k')->∀ b,N b->b ∉ u.adr k') :
  ∃ t',CY (.lst a us) q t=some t'/\t'.val=t.val/\Sf p H0 A0 m1 (τ.set x (some t')) (L2.upd H1 a (.lst (us.map T.val)))/\Stp m m1 [x] τ (τ.set x (some t')) H (L2.upd H1 a (.lst (us.map T.val))):=by
 have S1:=S.grow s
 obtain ⟨ain,aad⟩:=D2 q (k:=k) hq (by omega)
 have ek:k - lnP q=(k - 1 - lnP q) + 1:=by omega
 have aadr:a ∈ t.adr k:=aad a (by rw [ek]; exact aac ..)
 have arest:a ∈ t.rest 0:=(T.all_iff t k).mpr (.inl aadr)
 have nds:=GJ q hq (by omega:lnP q<=k) (S.nd x t k hx hm)
 rw [ek] at nds
 obtain ⟨nd1,nd2⟩:=nds
 simp only [T.adr,T.rest,aaC] at nd1 nd2
 have hpl:∃ vs,H1 a=some (.lst vs):=(S1.own x t k a hx hm aadr).2
 have hkeep:∀ b w,H1 b=some w->b ≠ a->L2.upd H1 a (.lst (us.map T.val)) b=some w:=fun b w e n=>by rw [Ar n]; exact e
 have aus:a ∉ T.rests us 0:=fun z=>by
  rcases (T.alls_iff us (k - 1 - lnP q)).mp z with z | z
  ·rcases hA a z with y | y
   ·exact nd1.1 y
   ·exact f0 a y arest
  ·rcases hB a z with y | y
   ·exact nd2 a y (aac ..)
   ·exact n0 a y aadr
 have hs:(T.lst a us).Ok p (L2.upd H1 a (.lst (us.map T.val))):=⟨.inl AW,T.oks_iff.mpr fun u hu=>Dl hkeep hpl (T.oks_iff.mp hus u hu) fun z=>aus (T.mem_rests.mpr ⟨u,hu,z⟩)⟩
 obtain ⟨t',p1,p2,p3,p4,p5,p6⟩:=IP hkeep hpl hs hFN q hq hl (S.nd x t k hx hm) (S1.at hx hm (by intro c; cases c)) f0 n0 hA hB hnd
 have all':∀ b ∈ t'.rest 0,b ∈ t.rest 0\/N b:=fun b z=>by
  rcases (T.all_iff t' k).mp z with z | z
  ·exact (p5 b z).imp (fun y=>(T.all_iff t k).mpr (.inl y)) (hFN b)
  ·exact (p6 b z).imp (fun y=>(T.all_iff t k).mpr (.inr y)) id
 have sm0:0 < k/\k < 90:=of_decide_eq_true (S.small _ (aae hm))
 have sm:=sm0.2
 have other:∀ {j:Nat} {u:T} {d:Md},j ≠ x->τ[j]?=some (some u)->m1[j]?=some d->d ≠ .dead->u.Ok p (L2.upd H1 a (.lst (us.map T.val))):=by
  intro j u d ne e hd nd
  obtain ⟨h1,h2⟩:=hmo j d ne hd nd
  refine Dl hkeep hpl (S1.at e h1 nd) ?_
  cases d with
  | sh=>exact S.sep x j t u k _ (Ne.symm ne) hx hm e h1 nd a aadr
  | ow k2=>exact S.sep x j t u k _ (Ne.symm ne) hx hm e h1 nd a aadr
  | br k2 =>
   cases q with
   | nil =>
    cases hq
    exact S.top x j _ u k k2 hx hm e h1 a ts rfl
   | cons _ _=>exact absurd rfl (h2 (by simp) k2)
  | dead=>exact absurd rfl nd
 refine ⟨t',p1,p2,⟨by rw [aaB,hlen]; exact S.len,fun d hd=>?_,fun b u e=>?_,fun i u j e ej l=>?_,fun i u k' b e hk' z=>?_,fun b sh=>?_,fun i u k' e hk'=>?_,fun i j u w k' d ne e hk' e' hd nd b z=>?_,fun i j u w k' k2 e hk' e' hd b cs z=>?_⟩,
  fun b u e n=>?_,fun b o=>?_,fun i hi=>?_⟩
 ·obtain ⟨i,hi,rfl⟩:=abp hd
  by_cases z:i=x
  ·subst z
   rw [aah hi] at hmx
   rw [Option.some.inj hmx]
   exact decide_eq_true sm0
  ·by_cases y:m1[i]=.dead
   ·rw [y]; rfl
   ·exact S.small _ (aae (hmo i _ z (aah hi) y).1)
 ·rw [Ar (fun z=>by
   have:=(S.own x t k a hx hm aadr).1
   rw [z] at e
   rw [this] at e; cases e)]
  exact S1.same b u e
 ·obtain ⟨d,hd,rfl⟩:=AX ej
  rcases Af e with ⟨rfl,e2⟩ | ⟨ne,e1⟩
  ·cases e2; exact p3
  ·exact other ne e1 hd (fun z=>by subst z; exact absurd l (by decide))
 ·rcases Af e with ⟨rfl,e2⟩ | ⟨ne,e1⟩
  ·cases e2
   rw [hmx] at hk'
   cases hk'
   rcases p5 b z with y | y
   ·obtain ⟨y1,vs,y2⟩:=S1.own i t k b hx hm y
    by_cases w:b=a
    ·subst w; exact ⟨y1,_,AW⟩
    ·exact ⟨y1,vs,hkeep _ _ y2 w⟩
   ·obtain ⟨y1,vs,y2⟩:=f1 b y
    exact ⟨y1,vs,hkeep _ _ y2 fun w=>f0 b y (w ▸ arest)⟩
  ·obtain ⟨h1,_⟩:=hmo i _ ne hk' (by intro c; cases c)
   obtain ⟨y1,vs,y2⟩:=S1.own i u k' b e1 h1 z
   exact ⟨y1,vs,hkeep _ _ y2 fun w=>S.sep x i t u k _ (Ne.symm ne) hx hm e1 h1 (by intro c; cases c) a aadr (w ▸ (T.all_iff u k').mpr (.inl z))⟩
 ·obtain ⟨i,u,j,e,ej,l,z⟩:=sh
  obtain ⟨d,hd,rfl⟩:=AX ej
  rcases Af e with ⟨rfl,e2⟩ | ⟨ne,e1⟩
  ·cases e2
   rw [hmx] at hd
   cases hd
   rcases p6 b z with y | y
   ·exact S.src b ⟨i,t,k,hx,AJ hm,sm,y⟩
   ·exact n1 b y
  ·obtain ⟨h1,_⟩:=hmo i _ ne hd (fun z=>by subst z; exact absurd l (by decide))
   exact S.src b ⟨i,u,_,e1,AJ h1,l,z⟩
 ·rcases Af e with ⟨rfl,e2⟩ | ⟨ne,e1⟩
  ·cases e2
   rw [hmx] at hk'
   cases hk'
   exact p4
  ·exact S.nd i u k' e1 (hmo i _ ne hk' (by intro c; cases c)).1
 ·rcases Af e with ⟨rfl,e2⟩ | ⟨ne1,e1⟩
  ·cases e2
   rw [hmx] at hk'
   cases hk'
   rcases Af e' with ⟨z',_⟩ | ⟨ne2,e3⟩
   ·exact absurd z'.symm ne
   ·rcases p5 b z with y | y
    ·exact S.sep i j t w k d ne hx hm e3 (hmo j d ne2 hd nd).1 nd b y
    ·exact f2 j w d ne2 e3 hd nd b y
  ·obtain ⟨h1,_⟩:=hmo i _ ne1 hk' (by intro c; cases c)
   rcases Af e' with ⟨z',e2⟩ | ⟨ne2,e3⟩
   ·cases e2
    subst z'
    rw [hmx] at hd
    cases hd
    intro y
    rcases all' b y with y | y
    ·exact S.sep i j u t k' _ ne e1 h1 hx hm (by intro c; cases c) b z y
    ·exact n2 i u k' ne1 e1 hk' b y z
   ·exact S.sep i j u w k' d ne e1 h1 e3 (hmo j d ne2 hd nd).1 nd b z
 ·have ne2:j ≠ x:=fun y=>by subst y; rw [hmx] at hd; cases hd
  rcases Af e' with ⟨y,_⟩ | ⟨_,e3⟩
  ·exact absurd y ne2
  obtain ⟨h3,h4⟩:=hmo j _ ne2 hd (by intro c; cases c)
  rcases Af e with ⟨rfl,e2⟩ | ⟨ne1,e1⟩
  ·cases e2
   rw [hmx] at hk'
   cases hk'
   cases q with
   | nil =>
    cases hq
    cases p1
    cases z
    exact S.top i j _ w k k2 hx hm e3 h3 _ ts rfl
   | cons _ _=>exact absurd rfl (h4 (by simp) k2)
  ·exact S.top i j u w k' k2 e1 (hmo i _ ne1 hk' (by intro c; cases c)).1 e3 h3 b cs z
 ·rw [Ar (show b ≠ a from fun z=>n ⟨x,t,k,hx,hm,by rw [z]; exact aadr⟩)]
  exact s b u e
 ·obtain ⟨i,u,k',e,hk',z⟩:=o
  rcases Af e with ⟨rfl,e2⟩ | ⟨ne,e1⟩
  ·cases e2
   rw [hmx] at hk'
   cases hk'
   rcases p5 b z with y | y
   ·exact .inl ⟨i,t,k,hx,hm,y⟩
   ·exact f4 b y
  ·exact .inl ⟨i,u,k',e1,(hmo i _ ne hk' (by intro c; cases c)).1,z⟩
 ·rw [aap (fun z=>hi (by simp [z]))]
end
structure Zx where
 p:Px
 H0:Hp
 A0:Addr->Prop
 EX:EXT
 mx:Ms
 dep:Nat
noncomputable def Um.kind:Um->Nat
 | .append=>1
 | .insert=>3
 | .extend=>2
 | _=>0
mutual
noncomputable def wrS:S->List Nat
 | .asg x _ _=>[x]
 | .dem _ _=>[]
 | .dead _=>[]
 | .asgT xs _=>xs
 | .mut x _ _ _=>[x]
 | .expr _=>[]
 | .iff _ a b=>wrSs a ++ wrSs b
 | .wh _ b=>wrSs b
 | .for_ g _ b=>g.sl ++ wrSs b
 | .ret _=>[]
 | .retT _=>[]
 | .raise _ _=>[]
 | .eachZ x z y _=>[x,z,y]
noncomputable def wrSs:Ss->List Nat
 | .nil=>[]
 | .cons s r=>wrS s ++ wrSs r
end
noncomputable def So (a b:Ms):Ms:=List.zipWith Md.meet a b
noncomputable def Lh:Option Ms->Option Ms->Option Ms
 | none,b=>b
 | a,none=>a
 | some a,some b=>some (So a b)
noncomputable def okJ:Option Ms->Option Ms->Bool
 | some a,some r=>leM a r
 | none,_=>true
 | some _,none=>false
noncomputable def It.nmOf:It->Option Nat
 | .seqL (.nm x)=>some x
 | _=>none
noncomputable def rk (m:Ms) (e:E):Option Nat:=match e with
 | .nm i=>match m[i]? with
  | some (.ow k)=>some k
  | some .sh=>some 0
  | _=>none
 | e=>(jk (tnM m) e).bind fun x=>if x.1=0 then some x.2 else none
noncomputable def Ik (m:Ms):E->Option (Nat × Nat)
 | .nm i=>match m[i]? with
  | some (.ow k)=>some (i,k)
  | _=>none
 | _=>none
theorem NN {m:Ms} {e:E} {i k:Nat} (h:Ik m e=some (i,k)):e=.nm i/\m[i]?=some (.ow k):=by
 unfold Ik at h
 split at h
 ·split at h
  ·cases h; exact ⟨rfl,‹_›⟩
  ·cases h
 ·cases h
noncomputable def rkT (m:Ms):List Nat->Es->Option Nat
 | _,.nil=>some 9
 | I,.cons e r=>match Ik m e with
  | some (i,k)=>if i ∈ I then none else (rkT m (i :: I) r).bind fun k2=>some (min k k2)
  | none=>(jk (tnM m) e).bind fun c=>if c.1=0 then (rkT m I r).bind fun k2=>some (min c.2 k2) else none
noncomputable def AB (m:Ms):Ms:=m.map fun d=>match d with
 | .br _=>.dead
 | d=>d
noncomputable def EB (m:Ms):List (Bool × E)->Bool
 | []=>true
 | (_,e) :: r=>(jk (tnM m) e).isSome && EB m r
noncomputable def lnE:List (Bool × E)->Nat
 | []=>0
 | (false,_) :: r=>lnE r + 1
 | (true,_) :: r=>lnE r
noncomputable def Es.mvOf (m:Ms):Es->Option (Nat × Nat)
 | .cons (.nm y) .nil=>match m[y]? with
  | some (.ow k)=>some (y,k)
  | _=>none
 | _=>none
mutual
noncomputable def msS (mx:Ms) (dep:Nat):S->Ms->Option (Option Ms)
 | .asg x k e,m=>(jk (tnM m) e).bind fun c=>if c.1=0/\k<=c.2/\x < m.length/\k < 90/\leM m mx=true then some (some (m.set x (mdK k))) else none
 | .dem x k,m=>if leM m (m.set x (mdK k))=true then some (some (m.set x (mdK k))) else none
 | .dead x,m=>if leM m (m.set x .dead)=true then some (some (m.set x .dead)) else none
 | .asgT xs e,m=>(jk (tnM m) e).bind fun c=>if c.1=0/\leM m mx=true then some (some (Aq m xs .sh)) else none
 | .mut x p u es,m=>match m[x]? with
  | some (.ow k)=>if lnE p < k/\EB m p=true/\leM m mx=true then (match es.mvOf m with
    | some (y,ky)=>if u=.append/\y ≠ x/\k - 1 - lnE p<=ky/\p.isEmpty=true then some (some (m.set y (.br ky))) else none
    | none=>(jks (tnM m) es).bind fun c=>if (c.1=0\/(u=.extend/\c.1<=1))/\(k - 1 - lnE p=0\/(u.kind=1/\k - 1 - lnE p<=c.2)\/(u.kind=2/\k - lnE p<=c.2)\/u.kind=0) then some (some (if p.isEmpty then m else AB m)) else none) else none
  | _=>none
 | .expr e,m=>(jk (tnM m) e).bind fun _=>if leM m mx=true then some (some m) else none
 | .iff c a b,m=>(jk (tnM m) c).bind fun _=>if leM m mx=true then (msSs mx dep a m).bind fun ra=>(msSs mx dep b m).bind fun rb=>if okJ ra (Lh ra rb)=true/\okJ rb (Lh ra rb)=true then some (Lh ra rb) else none
  else none
 | .wh c b,m=>(jk (tnM m) c).bind fun _=>if leM m mx=true then (msSs mx dep b m).bind fun r=>match r with
   | none=>some (some m)
   | some mb=>if leM mb m=true then some (some m) else none
  else none
 | .for_ g it b,m=>(jkI (tnM m) it).bind fun j=>if leM m mx=true/\leM m (Aq m g.sl .dead)=true/\(j=0\/∃ x,it.nmOf=some x/\x ∉ wrSs b/\x ∉ g.sl) then (msSs mx dep b (Aq (Aq m g.sl .dead) g.sl .sh)).bind fun r=>match r with
   | none=>some (some (Aq m g.sl .dead))
   | some mb=>if leM mb (Aq m g.sl .dead)=true then some (some (Aq m g.sl .dead)) else none
  else none
 | .ret e,m=>(rk m e).bind fun k=>if dep<=k/\leM m mx=true then some none else none
 | .retT es,m=>(rkT m [] es).bind fun k=>if dep<=k/\leM m mx=true then some none else none
 | .raise _ es,m=>(jks (tnM m) es).bind fun _=>if leM m mx=true then some none else none
 | .eachZ x z y e,m=>match m[y]? with
  | some (.ow k)=>(jk (tnM m) e).bind fun c=>if k=2/\x ≠ y/\z ≠ y/\x ≠ z/\x < m.length/\z < m.length/\c.1=0/\leM m mx=true/\leM m (((AB m).set x .dead).set z .dead)=true then some (some (((AB m).set x .dead).set z .dead)) else none
  | _=>none
noncomputable def msSs (mx:Ms) (dep:Nat):Ss->Ms->Option (Option Ms)
 | .nil,m=>some (some m)
 | .cons s r,m=>(msS mx dep s m).bind fun o=>match o with
  | none=>some none
  | some m1=>msSs mx dep r m1
end
noncomputable def lOut (Z:Zx) (m:Ms) (r:Option Ms) (w:List Nat) (o:Out) (τ:Ft) (H:Hp) (D:Ends):Prop:=match o with
 | .nxt δ'=>∀ (m':Ms) (τ':Ft) (H':Hp),r=some m'->dτ τ'=δ'->Sf Z.p Z.H0 Z.A0 m' τ' H'->Stp m m' w τ τ' H H'->D.nx (vτ τ') H'
 | .ret d=>∀ (t:T) (H':Hp),t.dat=d->Rs Z.p Z.A0 Z.H0 H' 0 Z.dep t->D.rt t.val H'
 | .exc c δ'=>Z.p.has c=true->∀ (τ':Ft) (H':Hp),dτ τ'=δ'->Sf Z.p Z.H0 Z.A0 Z.mx τ' H'->Stp m Z.mx w τ τ' H H'->Z.EX (vτ τ') (.ref (Z.p.cl c)) none H'
 | .bad=>False
noncomputable def lS (Z:Zx) (s:S):TS:=fun D σ H=>∃ τ m r,σ=vτ τ/\Sf Z.p Z.H0 Z.A0 m τ H/\msS Z.mx Z.dep s m=some r/\lOut Z m r (wrS s) (ex s (dτ τ)) τ H D
noncomputable def lSs (Z:Zx) (s:Ss):TS:=fun D σ H=>∃ τ m r,σ=vτ τ/\Sf Z.p Z.H0 Z.A0 m τ H/\msSs Z.mx Z.dep s m=some r/\lOut Z m r (wrSs s) (exs s (dτ τ)) τ H D
theorem PSs.mono {X:Cx} {st:List Stmt} {t t':TS} (h:PSs X st t) (m:∀ D σ H,t' D σ H->t D σ H):PSs X st t':=fun pins s σ H D I q=>h pins s σ H D I (m _ _ _ q)
section
variable {Z:Zx} {m:Ms} {r:Option Ms} {w:List Nat} {τ:Ft} {H:Hp} {D:Ends} {X:Cx} {pos:Pos}
theorem lOut.lg {α:Type} {q:Res α} {f:α->Out} (S:Sf Z.p Z.H0 Z.A0 m τ H) (hm:leM m Z.mx=true) (h:lOut Z m r w (q.out (dτ τ) f) τ H D):Lg Z.p Z.EX (vτ τ) q H fun a=>lOut Z m r w (f a) τ H D:=by
 cases q with
 | ok a=>exact h
 | exc c=>exact fun hc H' s=>h hc τ H' rfl ((S.weak hm).grow s) (Stp.refl w hm s)
 | bad=>exact h
theorem AC {c:Prop} [Decidable c] {α:Type} {x y:α} (h:(if c then some x else none)=some y):c/\x=y:=by
 split at h
 ·exact ⟨‹_›,Option.some.inj h⟩
 ·cases h
theorem Ri {x k:Nat} {e:E} {σ:L2.St} (h:lS Z (.asg x k e) D σ H):∃ τ m,σ=vτ τ/\Sf Z.p Z.H0 Z.A0 m τ H/\G4 (lE Z.p Z.EX (tnM m) e) (ER x) D σ H:=by
 obtain ⟨τ,m,r,rfl,S,hr,h⟩:=h
 simp only [msS] at hr
 obtain ⟨⟨j1,k1⟩,h1,hr⟩:=bS hr
 obtain ⟨⟨c1,c2,c3,c4,c5⟩,rfl⟩:=AC hr
 have c1:j1=0:=c1
 subst c1
 refine ⟨τ,m,rfl,S,τ,rfl,S.ok,0,k1,h1,?_⟩
 simp only [ex] at h
 refine (h.lg S c5).mono (Same.refl _) fun d _ h t H1 ht R=>?_
 subst ht
 obtain ⟨S2,P2⟩:=Rh S R c2 c3 c4
 show D.nx ((vτ τ).set x (some t.val)) H1
 rw [<- FN]
 exact h _ _ H1 rfl (Dj τ x t) S2 P2
end
theorem GK {m:Ms} {i:Nat} {d:Md} (h:(AB m)[i]?=some d):(d=.dead)\/(m[i]?=some d/\∀ k2,d ≠ .br k2):=by
 unfold AB at h
 rw [aan] at h
 obtain ⟨d',h1,h2⟩:=aau.mp h
 cases d' with
 | br k=>exact .inl h2.symm
 | sh=>cases h2; exact .inr ⟨h1,by simp⟩
 | ow k=>cases h2; exact .inr ⟨h1,by simp⟩
 | dead=>exact .inl h2.symm
theorem HI {m:Ms} {i k:Nat} (h:m[i]?=some (.ow k)):(AB m)[i]?=some (.ow k):=by
 unfold AB; rw [aan,h]; rfl
section
variable {p:Px} {H0:Hp} {A0:Addr->Prop} {m:Ms} {τ:Ft} {H H1:Hp}
theorem Rj {x k:Nat} {t:T} {q:List (Bool × Int)} {a:Addr} {ts us es:List T} (S:Sf p H0 A0 m τ H) (s:Same H H1) (hx:τ[x]?=some (some t)) (hm:m[x]?=some (.ow k)) (hq:AH q t=some (.lst a ts)) (hl:lnP q < k) (hus:T.Oks p H1 us)
  (hA:∀ b ∈ T.adrs us (k - 1 - lnP q),b ∈ T.adrs ts (k - 1 - lnP q)\/b ∈ T.adrs es (k - 1 - lnP q)) (hB:∀ b ∈ T.rests us (k - 1 - lnP q),b ∈ T.rests ts (k - 1 - lnP q)\/b ∈ T.rests es 0)
  (hnd:T.Nds ts (k - 1 - lnP q)->(∀ b ∈ T.adrs es (k - 1 - lnP q),b ∉ T.rests ts 0)->(∀ b ∈ T.adrs ts (k - 1 - lnP q),b ∉ T.rests es 0)->T.Nds us (k - 1 - lnP q))
  (src:∀ b ∈ T.rests es 0,H b=none\/Sh (tnM m) τ b) (new:∀ b ∈ T.adrs es (k - 1 - lnP q),H b=none/\∃ vs,H1 b=some (.lst vs)) :
  ∃ t',CY (.lst a us) q t=some t'/\t'.val=t.val/\Sf p H0 A0 (if q.isEmpty then m else AB m) (τ.set x (some t')) (L2.upd H1 a (.lst (us.map T.val)))/\Stp m (if q.isEmpty then m else AB m) [x] τ (τ.set x (some t')) H (L2.upd H1 a (.lst (us.map T.val))):=by
 have dom:∀ {j:Nat} {u:T} {d:Md},τ[j]?=some (some u)->m[j]?=some d->d ≠ .dead->∀ b ∈ u.rest 0,H b ≠ none:=fun e hd nd b z=>(S.at e hd nd).dom z
 obtain ⟨ain,aad⟩:=D2 q (k:=k) hq (by omega)
 have ek:k - lnP q=(k - 1 - lnP q) + 1:=by omega
 have nds:=GJ q hq (by omega:lnP q<=k) (S.nd x t k hx hm)
 rw [ek] at nds aad
 have ndt:T.Nds ts (k - 1 - lnP q):=by
  obtain ⟨n1,n2⟩:=nds
  simp only [T.adr,T.rest,aaC] at n1 n2
  exact ⟨n1.2,fun b z y=>n2 b z (aaa _ y)⟩
 have hxd:∀ b ∈ t.rest 0,H b ≠ none:=dom hx hm (by intro c; cases c)
 have notOwn:∀ b ∈ T.rests es 0,¬ Own m τ b:=fun b z o=>by
  rcases src b z with y | y
  ·obtain ⟨_,vs,e⟩:=S.ownOk o
   rw [e] at y; cases y
  ·exact S.disj o y
 have hm1:∀ (j:Nat) (d:Md),(if q.isEmpty then m else AB m)[j]?=some d->d ≠ .dead->m[j]?=some d/\(q ≠ []->∀ k2,d ≠ .br k2):=by
  intro j d hd nd
  cases q with
  | nil=>exact ⟨hd,fun z=>absurd rfl z⟩
  | cons z r =>
   rcases GK hd with y | ⟨y1,y2⟩
   ·exact absurd y nd
   ·exact ⟨y1,fun _=>y2⟩
 refine IQ (F:=fun b=>b ∈ T.adrs es (k - 1 - lnP q)) (N:=fun b=>b ∈ T.rests es 0) S s hx hm hq hl hus (fun b z=>(T.alls_iff es _).mpr (.inl z)) hA hB ?_ (fun b z y=>hxd b y (new b z).1) (fun b z=>⟨S.same.free (new b z).1,(new b z).2⟩) (fun b z=>.inr (new b z).1)
  (fun b z y=>notOwn b z ⟨x,t,k,hx,hm,y⟩) (fun b z=>?_) ?_ ?_ (fun j d _ hd nd=>hm1 j d hd nd) (fun j u d ne e hd nd b z y=>?_) (fun i u k' ne e hk b z y=>?_)
 ·refine hnd ndt (fun b z y=>?_) (fun b z y=>?_)
  ·exact hxd b (ain b (aaa _ y)) (new b z).1
  ·exact notOwn b y ⟨x,t,k,hx,hm,aad b (aaa _ z)⟩
 ·rcases src b z with y | y
  ·exact .inl (S.same.free y)
  ·exact S.src b y
 ·split
  ·rfl
  ·unfold AB; rw [aab]
 ·split
  ·exact hm
  ·exact HI hm
 ·exact dom e (hm1 j d hd nd).1 nd b (T.rest_le u (aar _) y) (new b z).1
 ·exact notOwn b z ⟨i,u,k',e,(hm1 i _ hk (by intro c; cases c)).1,y⟩
theorem IR {ts:List T} {e:T} {k:Nat} (ne:e.Nd k) (h1:T.Nds ts k) (h2:∀ b ∈ T.adrs [e] k,b ∉ T.rests ts 0) (h3:∀ b ∈ T.adrs ts k,b ∉ T.rests [e] 0):T.Nds (ts ++ [e]) k :=
 T.nds_append h1 (T.nds_cons.mpr ⟨ne,by simp [T.Nds,T.adrs],by simp [T.rests],by simp [T.adrs]⟩) h3 h2
theorem NO {ts us:List T} {k:Nat} (h:us.Perm ts) (n:T.Nds ts k):T.Nds us k:=by
 induction h with
 | nil=>exact n
 | cons x _ ih =>
  rename_i l1 l2 hp
  obtain ⟨a,b,c,d⟩:=T.nds_cons.mp n
  refine T.nds_cons.mpr ⟨a,ih b,fun z hz y=>c z hz ?_,fun z hz=>d z ?_⟩
  ·obtain ⟨w,hw,q⟩:=T.mem_rests.mp y
   exact T.mem_rests.mpr ⟨w,hp.mem_iff.mp hw,q⟩
  ·obtain ⟨w,hw,q⟩:=T.mem_adrs.mp hz
   exact T.mem_adrs.mpr ⟨w,hp.mem_iff.mp hw,q⟩
 | swap x y l =>
  obtain ⟨a,b,c,d⟩:=T.nds_cons.mp n
  obtain ⟨a2,b2,c2,d2⟩:=T.nds_cons.mp b
  simp only [T.rests,T.adrs,aaf,not_or] at c d
  refine T.nds_cons.mpr ⟨a2,T.nds_cons.mpr ⟨a,b2,fun z hz=>(c z hz).2,fun z hz=>d z (.inr hz)⟩,fun z hz=>?_,fun z hz=>?_⟩
  ·simp only [T.rests,aaf,not_or]
   exact ⟨d z (.inl hz),c2 z hz⟩
  ·simp only [T.adrs,aaf] at hz
   rcases hz with hz | hz
   ·exact (c z hz).1
   ·exact d2 z hz
 | trans _ _ i1 i2=>exact i1 (i2 n)
theorem Kn {ts us:List T} {k:Nat} (h:us.Sublist ts) (n:T.Nds ts k):T.Nds us k:=by
 induction h with
 | slnil=>exact n
 | cons x _ ih=>exact ih (T.nds_cons.mp n).2.1
 | cons_cons x hs ih =>
  rename_i l1 l2
  obtain ⟨a,b,c,d⟩:=T.nds_cons.mp n
  refine T.nds_cons.mpr ⟨a,ih b,fun z hz y=>c z hz ?_,fun z hz=>d z ?_⟩
  ·obtain ⟨w,hw,q⟩:=T.mem_rests.mp y
   exact T.mem_rests.mpr ⟨w,hs.subset hw,q⟩
  ·obtain ⟨w,hw,q⟩:=T.mem_adrs.mp hz
   exact T.mem_adrs.mpr ⟨w,hs.subset hw,q⟩
end
theorem HJ:∀ (q:List (Bool × E)) (δ:Fr) (c:Nat),evP q δ ≠ .exc c
 | [],δ,c=>by simp [evP]
 | (t,e) :: r,δ,c=>by
  simp only [evP]
  split
  ·cases h:evP r δ with
   | ok is=>simp
   | exc c'=>exact absurd h (HJ r δ c')
   | bad=>simp
  ·simp
theorem IS:∀ (q:List (Bool × E)) {δ:Fr} {b:Bool} {e:E} {is:List (Bool × Int)},evP (q ++ [(b,e)]) δ=.ok is->∃ js i,evP q δ=.ok js/\ev e δ=.ok (.int i)/\is=js ++ [(b,i)]
 | [],δ,b,e,is,h=>by
  simp only [aaT,evP] at h
  split at h
  ·rename_i i he
   simp only [Res.bind_ok] at h
   cases h
   exact ⟨[],i,rfl,he,rfl⟩
  ·cases h
 | (t,e') :: r,δ,b,e,is,h=>by
  simp only [aa4,evP] at h
  split at h
  ·rename_i i' he'
   obtain ⟨js',h1,h2⟩:=Res.bind_eq_ok h
   cases h2
   obtain ⟨js,i,h3,h4,rfl⟩:=IS r h1
   exact ⟨(t,i') :: js,i,by simp only [evP,he',h3,Res.bind_ok],h4,rfl⟩
  ·cases h
theorem Fw:∀ (q:List (Bool × Int)) {t s':T} {b:Bool} {i:Int},AH (q ++ [(b,i)]) t=some s'->∃ s,AH q t=some s/\AH [(b,i)] s=some s'
 | [],t,s',b,i,h=>⟨t,rfl,h⟩
 | (c,j) :: r,t,s',b,i,h=>by
  cases c with
  | false =>
   cases t with
   | lst a ts =>
    simp only [aa4,AH] at h ⊢
    obtain ⟨n,h1,h⟩:=bS h
    obtain ⟨u,h2,h⟩:=bS h
    obtain ⟨s,h3,h4⟩:=Fw r h
    exact ⟨s,by rw [h1]; simp only [aa3]; rw [h2]; exact h3,h4⟩
   | _=>cases h
  | true =>
   cases t with
   | tup a ts =>
    simp only [aa4,AH] at h ⊢
    obtain ⟨n,h1,h⟩:=bS h
    obtain ⟨u,h2,h⟩:=bS h
    obtain ⟨s,h3,h4⟩:=Fw r h
    exact ⟨s,by rw [h1]; simp only [aa3]; rw [h2]; exact h3,h4⟩
   | _=>cases h
theorem FO {p:Px} {H:Hp}:∀ (q:List (Bool × Int)) {t s:T},t.Ok p H->AH q t=some s->s.Ok p H
 | [],t,s,ok,h=>by cases h; exact ok
 | (c,j) :: r,t,s,ok,h=>by
  cases c with
  | false =>
   cases t with
   | lst a ts =>
    simp only [AH] at h
    obtain ⟨n,h1,h⟩:=bS h
    obtain ⟨u,h2,h⟩:=bS h
    exact FO r (T.oks_iff.mp ok.2 u (aae h2)) h
   | _=>cases h
  | true =>
   cases t with
   | tup a ts =>
    simp only [AH] at h
    obtain ⟨n,h1,h⟩:=bS h
    obtain ⟨u,h2,h⟩:=bS h
    exact FO r (T.oks_iff.mp ok.2 u (aae h2)) h
   | _=>cases h
theorem Pq {b:Bool} {i:Int} {s s':T} (h:AH [(b,i)] s=some s'):(∃ a ts,s=.lst a ts/\atI (ts.map T.val) i=some s'.val)\/(∃ a ts,s=.tup a ts/\atI (ts.map T.val) i=some s'.val):=by
 cases b with
 | false =>
  cases s with
  | lst a ts =>
   simp only [AH] at h
   obtain ⟨n,h1,h⟩:=bS h
   obtain ⟨u,h2,h⟩:=bS h
   cases h
   refine .inl ⟨a,ts,rfl,?_⟩
   unfold atI
   rw [aab,IK,h1]
   show (ts.map T.val)[n]?=_
   rw [aan,h2]; rfl
  | _=>cases h
 | true =>
  cases s with
  | tup a ts =>
   simp only [AH] at h
   obtain ⟨n,h1,h⟩:=bS h
   obtain ⟨u,h2,h⟩:=bS h
   cases h
   refine .inr ⟨a,ts,rfl,?_⟩
   unfold atI
   rw [aab,IK,h1]
   show (ts.map T.val)[n]?=_
   rw [aan,h2]; rfl
  | _=>cases h
noncomputable def Ot (tn:List Nat) (q:List (Bool × E)):Prop:=∀ e ∈ q,(jk tn e.2).isSome=true
noncomputable def lPl (p:Px) (EX:EXT) (tn:List Nat) (x:Nat) (q:List (Bool × E)):TE:=fun σ H Q=>∃ τ t is s,σ=vτ τ/\Fok p tn τ H/\Ot tn q/\τ[x]?=some (some t)/\t.Ok p H/\evP q (dτ τ)=.ok is/\AH is t=some s/\∀ H',Same H H'->Q s.val H'
noncomputable def Ge (c:CkC) (x:Nat):List (Bool × E)->Expr->Bool
 | [],.Name y _=>(c.N[x]?==some y) && BN c.sc y && AT y
 | (_,e) :: r,.Subscript o i _=>Ge c x r o && ckE c e i && CW i
 | _,_=>false
section
variable {p:Px} {c:CkC} {lv:Nat} {X:Cx} {EX:EXT} {tn:List Nat} {pos np:Pos}
theorem Ou (C:Ct p c lv X EX) {x:Nat}:∀ {rp:List (Bool × E)} {o:Expr},(∀ e ∈ rp,∀ n ∈ e.2.need,NeedOk p lv X n)->Ge c x rp o=true->PE X o (lPl p EX tn x rp.reverse)
 | [],o,hn,h=>by
  cases o with
  | Name y q =>
   obtain ⟨h,h3⟩:=Aa (show ((c.N[x]?==some y) && BN c.sc y && AT y)=true from h)
   obtain ⟨h1,h2⟩:=Aa h
   obtain ⟨d1,d2⟩:=Bh h3
   refine PE.mono (CP (by rw [C.N]; exact beq_iff_eq.mp h1) (C.vis h2) d1 d2) fun σ H Q h=>?_
   obtain ⟨τ,t,is,s,rfl,hF,_,ht,ok,e,hs,hq⟩:=h
   simp only [List.reverse_nil,evP] at e
   cases e
   cases hs
   exact ⟨_,BZ ht,hq H (Same.refl _)⟩
  | _=>exact nF h
 | (b,e) :: rp,o,hn,h=>by
  cases o with
  | Subscript o' i q =>
   obtain ⟨h,h3⟩:=Aa (show (Ge c x rp o' && ckE c e i && CW i)=true from h)
   obtain ⟨h1,h2⟩:=Aa h
   have A:=Ou C (rp:=rp) (o:=o') (fun e he=>hn e (aaa _ he)) h1
   have B:=(snd e C (tn:=tn) i (hn (b,e) (aac ..)) h2).1
   refine PE.mono (KW (G5.or L6) A B (Fk h3)) fun σ H Q h=>?_
   rw [ab0] at h
   obtain ⟨τ,t,is,s,rfl,hF,hj,ht,ok,ev1,hs,hq⟩:=h
   obtain ⟨js,n,e1,e2,rfl⟩:=IS _ ev1
   obtain ⟨s1,hs1,hs2⟩:=Fw _ hs
   refine ⟨τ,t,js,s1,rfl,hF,fun e he=>hj e (aaz _ he),ht,ok,e1,hs1,fun H1 sm=>?_⟩
   obtain ⟨⟨j,k⟩,hj'⟩:=aat.mp (hj (b,e) (aak _ (aaU.mpr rfl)))
   refine ⟨τ,rfl,hF.same sm,j,k,hj',?_⟩
   rw [e2]
   intro t2 H2 ht2 R
   have hv:t2.val=.int n:=by cases t2 <;> simp [T.dat] at ht2 <;> simp [T.val,ht2]
   rw [hv]
   have ok1:=(FO _ ok hs1).same (sm.trans R.same)
   rcases Pq hs2 with ⟨a,ts,rfl,at1⟩ | ⟨a,ts,rfl,at1⟩
   ·exact .inl ⟨a,_,n,_,rfl,rfl,.inl ok1.1,at1,hq H2 (sm.trans R.same)⟩
   ·exact .inr ⟨a,_,n,_,rfl,rfl,SqT.of ok1.1,at1,hq H2 (sm.trans R.same)⟩
  | _=>exact nF h
theorem Fx {m:Ms}:∀ {q:List (Bool × E)},EB m q=true->Ot (tnM m) q
 | [],_=>fun e he=>nomatch he
 | (b,e) :: r,h=>by
  obtain ⟨h1,h2⟩:=Aa (show ((jk (tnM m) e).isSome && EB m r)=true from h)
  intro e' he
  rcases aai.mp he with rfl | he
  ·exact h1
  ·exact Fx h2 e' he
theorem Mx:∀ {q:List (Bool × E)} {δ:Fr} {is:List (Bool × Int)},evP q δ=.ok is->lnP is=lnE q/\is.isEmpty=q.isEmpty
 | [],δ,is,h=>by simp only [evP] at h; cases h; exact ⟨rfl,rfl⟩
 | (b,e) :: r,δ,is,h=>by
  simp only [evP] at h
  split at h
  ·obtain ⟨js,h1,h2⟩:=Res.bind_eq_ok h
   cases h2
   have:=(Mx h1).1
   cases b <;> simp [lnP,lnE,this]
  ·cases h
theorem Pr {δ:Fr} {x:Nat} {f:D->Option D} {Z:Zx} {m:Ms} {r:Option Ms} {w:List Nat} {τ:Ft} {H:Hp} {En:Ends} (h:lOut Z m r w (upd (dτ τ) x f) τ H En):∃ t d',τ[x]?=some (some t)/\f t.dat=some d'/\lOut Z m r w (.nxt ((dτ τ).set x (some d'))) τ H En:=by
 unfold upd at h
 cases q:(dτ τ)[x]? with
 | none=>rw [q] at h; exact nE h
 | some o =>
  rw [q] at h
  cases o with
  | none=>exact nE h
  | some d =>
   have:get (dτ τ) x=.ok d:=by unfold get; rw [q]
   obtain ⟨t,ht,rfl⟩:=Di this
   simp only at h
   cases q2:f t.dat with
   | none=>rw [q2] at h; exact nE h
   | some d'=>rw [q2] at h; exact ⟨t,d',ht,q2,h⟩
end
theorem Fy {α β:Type} (f:α->β):∀ (l:List α) (i:Nat),(l.eraseIdx i).map f=(l.map f).eraseIdx i
 | [],_=>rfl
 | _ :: _,0=>rfl
 | a :: l,i + 1=>by simp [Fy f l i]
theorem IU {τ:Ft} {x:Nat} {t t':T} (h:τ[x]?=some (some t)) (e:t'.val=t.val):vτ (τ.set x (some t'))=vτ τ:=by
 rw [FN,e]
 refine List.ext_getElem? fun i=>?_
 by_cases z:x=i
 ·subst z
  rw [abq,BZ h]; rfl
 ·rw [aap z]
theorem IV {H:Hp} {a:Addr} {vs:List V} (h:Rd H a (.lst vs)) (hp:∃ ws,H a=some (.lst ws)):H a=some (.lst vs):=by
 obtain ⟨ws,e⟩:=hp
 rw [e,GB h (.inl e)]
section
variable {Z:Zx} {m:Ms} {r:Option Ms} {w:List Nat} {τ:Ft} {H:Hp} {D:Ends} {X:Cx} {pos:Pos} {σ:L2.St}
theorem Ko {K:Frag} {H:Hp} {a:Addr} {vs:List V} (h:H a=some (.lst vs)):tyV K "list" (.ref a) H:=.inl ⟨rfl,_,SqL.of h⟩
theorem IW {x:Nat} {q:List (Bool × E)} {u:Um} {es:Es} {k:Nat} (S:Sf Z.p Z.H0 Z.A0 m τ H) (hmx:m[x]?=some (.ow k)) (c2:lnE q < k) (c4:EB m q=true) (h:lOut Z m r [x] (ex (.mut x q u es) (dτ τ)) τ H D) :
  ∃ t is ds a ts ds',τ[x]?=some (some t)/\evP q (dτ τ)=.ok is/\evs es (dτ τ)=.ok ds/\AH is t=some (.lst a ts)/\lnP is=lnE q/\is.isEmpty=q.isEmpty/\umD u ds (T.dats ts)=some ds' /\
   (∀ H3,Same H H3->H3 a=some (.lst (ts.map T.val))/\T.Oks Z.p H3 ts/\a ∈ t.adr k) /\
   (∀ us m' H3 t',T.dats us=ds'->r=some m'->CY (.lst a us) is t=some t'->t'.val=t.val->Sf Z.p Z.H0 Z.A0 m' (τ.set x (some t')) (L2.upd H3 a (.lst (us.map T.val)))->Stp m m' [x] τ (τ.set x (some t')) H (L2.upd H3 a (.lst (us.map T.val)))->D.nx (vτ τ) (L2.upd H3 a (.lst (us.map T.val)))):=by
 simp only [ex] at h
 cases ep:evP q (dτ τ) with
 | exc c=>exact absurd ep (HJ _ _ _)
 | bad=>rw [ep] at h; exact nE h
 | ok is =>
 rw [ep] at h
 cases ee:evs es (dτ τ) with
 | exc c=>rw [ee] at h; exact nE h
 | bad=>rw [ee] at h; exact nE h
 | ok ds =>
 rw [ee] at h
 simp only at h
 obtain ⟨t,d',ht,hu,h⟩:=Pr (δ:=dτ τ) h
 obtain ⟨a,ts,ds',hs,hf,hd'⟩:=Ha is hu
 obtain ⟨l1,l2⟩:=Mx ep
 refine ⟨t,is,ds,a,ts,ds',ht,rfl,rfl,hs,l1,l2,hf,fun H3 sH3=>?_,fun us m' H3 t' e1 e2 p1 p2 S4 P4=>?_⟩
 ·have S3:=S.grow sH3
  have hl:lnP is < k:=by rw [l1]; exact c2
  have aadr:a ∈ t.adr k:=(D2 is (k:=k) hs (by omega)).2 a (by
   have:k - lnP is=(k - lnP is - 1) + 1:=by omega
   rw [this]; exact aac ..)
  have okt:=FO _ (S3.at ht hmx (by intro c; cases c)) hs
  exact ⟨IV okt.1 (S3.own x t k a ht hmx aadr).2,okt.2,aadr⟩
 ·have:=h m' _ _ e2 (by rw [Dj,hd' us t' e1 p1]) S4 P4
  rw [IU ht p2] at this
  exact this
noncomputable def rUm:Um->V->List V->Hp->VK->Prop
 | .append=>FI
 | .extend=>fun x vs H Q=>∃ l b xs zs,x=.ref l/\vs=[.ref b]/\H l=some (.lst xs)/\Rd H b (.lst zs)/\xs.length + zs.length<=sizeLine/\Q .non (L2.upd H l (.lst (xs ++ zs)))
 | .pop=>QM
 | .popAt=>L8
 | .clear=>L9
 | .reverse=>IE
 | .insert=>J8
noncomputable def NP:V->List V->Hp->VK->Prop:=fun x vs H Q=>∃ l b xs zs,x=.ref l/\vs=[.ref b]/\H l=some (.lst xs)/\Rd H b (.lst zs)/\xs.length + zs.length<=sizeLine/\Q .non (L2.upd H l (.lst (xs ++ zs)))
end
section
variable {X:Cx}
theorem Li:MtM X "list.extend" NP:=by
 intro pins s σ H x vs v us Q I rx rv h
 obtain ⟨l,b,xs,zs,rfl,rfl,hH,hB,hz,q⟩:=h
 cases rx
 obtain ⟨u,rfl,ru⟩:=rv.one
 cases ru
 obtain ⟨z,its,n,r,hl,e⟩:=I.lstM hH
 obtain ⟨z2,its2,n2,r2,hl2,e2⟩:=Inv.lstR I hB
 have hsz:its.toArray.size + its2.toArray.size<=sizeLine:=by rw [aal,aal]; omega
 have hlong:¬ (!its.toArray.isEmpty && Builtin.List.listTooLong (its.toArray.size + its2.toArray.size))=true:=by
  rw [ID hsz,acp]
  exact aaQ
 refine call_meets F.slot_list_extend ⟨_,e,rfl⟩ F.entry_list_extend (F.args_list_extend_2 _ _)
  (AutoSeq1.list_extend_list_list_0 l its.toArray n b its2.toArray n2 hlong (by rw [aal]; omega) (by omega)) ⟨e,e2,?_⟩
 refine ⟨.non,_,I.lset (its':=its ++ its2) hH e (by simp) (r.append r2) ?_,rfl,q⟩
 rw [aav]
 omega
end
section
variable {Z:Zx} {m:Ms} {r:Option Ms} {w:List Nat} {τ:Ft} {H:Hp} {D:Ends} {X:Cx} {pos:Pos} {σ:L2.St}
theorem Ps {x:Nat} {q:List (Bool × E)} {u:Um} {es:Es} {k:Nat} (hK:X.K=Z.p.K) (S:Sf Z.p Z.H0 Z.A0 m τ H) (hmx:m[x]?=some (.ow k)) (c2:lnE q < k) (c4:EB m q=true) {j1 k1:Nat} (h1:jks (tnM m) es=some (j1,k1))
  (hc:(j1=0\/(u=.extend/\j1<=1))/\(k - 1 - lnE q=0\/(u.kind=1/\k - 1 - lnE q<=k1)\/(u.kind=2/\k - lnE q<=k1)\/u.kind=0)) (hr:r=some (if q.isEmpty then m else AB m)) (h:lOut Z m r [x] (ex (.mut x q u es) (dτ τ)) τ H D) :
  lPl Z.p Z.EX (tnM m) x q (vτ τ) H fun v H1=>tyV X.K "list" v H1/\lEs Z.p Z.EX (tnM m) es (vτ τ) H1 fun vs H2=>rUm u v vs H2 fun _ H3=>D.nx (vτ τ) H3:=by
 obtain ⟨t,is,ds,a,ts,ds',ht,ep,ee,hs,l1,l2,hf,hpl,hnx⟩:=IW S hmx c2 c4 h
 subst hr
 refine ⟨τ,t,is,.lst a ts,rfl,S.ok,Fx c4,ht,S.at ht hmx (by intro c; cases c),ep,hs,fun H1 s1=>⟨Ko (hpl H1 s1).1,?_⟩⟩
 refine ⟨τ,rfl,S.ok.same s1,j1,k1,h1,?_⟩
 rw [ee]
 intro tes H2 hte R
 subst hte
 have s2:Same H H2:=s1.trans R.same
 obtain ⟨p0,okt,aadr⟩:=hpl H2 s2
 have hl:lnP is < k:=by rw [l1]; exact c2
 have fin:∀ us es',T.dats us=ds'->T.Oks Z.p H2 us->(∀ b ∈ T.adrs us (k - 1 - lnP is),b ∈ T.adrs ts (k - 1 - lnP is)\/b ∈ T.adrs es' (k - 1 - lnP is))->(∀ b ∈ T.rests us (k - 1 - lnP is),b ∈ T.rests ts (k - 1 - lnP is)\/b ∈ T.rests es' 0) ->
   (T.Nds ts (k - 1 - lnP is)->(∀ b ∈ T.adrs es' (k - 1 - lnP is),b ∉ T.rests ts 0)->(∀ b ∈ T.adrs ts (k - 1 - lnP is),b ∉ T.rests es' 0)->T.Nds us (k - 1 - lnP is))->(∀ b ∈ T.rests es' 0,H b=none\/Sh (tnM m) τ b)->(∀ b ∈ T.adrs es' (k - 1 - lnP is),H b=none/\∃ vs,H2 b=some (.lst vs)) ->
   D.nx (vτ τ) (L2.upd H2 a (.lst (us.map T.val))):=by
  intro us es' e1 e2 e3 e4 e5 e6 e7
  obtain ⟨t',p1,p2,S4,P4⟩:=Rj (us:=us) (es:=es') S s2 ht hmx hs hl e2 e3 e4 e5 e6 e7
  rw [l2] at S4 P4
  exact hnx us _ H2 t' e1 rfl p1 p2 S4 P4
 have hz:ts.length<=sizeLine\/True:=.inr trivial
 cases u with
 | append =>
  rcases tes with _ | ⟨te,_ | ⟨te2,ter⟩⟩
  ·cases hf
  ·simp only [T.dats,umD] at hf
   obtain ⟨hlt,rfl⟩:=AC hf
   have hj:j1=0:=by
    rcases hc.1 with z | ⟨z,_⟩
    ·exact z
    ·cases z
   subst hj
   have hk1:k - 1 - lnP is<=k1\/k - 1 - lnP is=0:=by
    rw [l1]
    rcases hc.2 with z | ⟨_,z⟩ | ⟨z,_⟩ | z
    ·exact .inr z
    ·exact .inl z
    ·cases z
    ·cases z
   refine ⟨a,_,te.val,rfl,rfl,p0,by rw [aab,<- Ag]; exact hlt,?_⟩
   have:=fin (ts ++ [te]) [te] (by rw [T.dats_map,aao,<- T.dats_map]; rfl) (T.oks_iff.mpr fun w hw=>by
     rcases aaf.mp hw with z | z
     ·exact T.oks_iff.mp okt w z
     ·exact T.oks_iff.mp R.ok w z)
    (fun b z=>by rw [T.adrs_append,aaf] at z; exact z) (fun b z=>by
     rw [T.rests_append,aaf] at z
     refine z.imp id fun z=>?_
     simp only [T.rests,aaR] at z ⊢
     exact T.rest_le te (aar _) z)
    (fun n1 n2 n3=>IR (by
     rcases hk1 with z | z
     ·exact (T.nds_le z R.nd:T.Nds [te] _) |> fun w=>(T.nds_cons.mp w).1
     ·rw [z]; exact T.nd_zero te) n1 n2 n3)
    (fun b z=>(R.src b z).imp s1.free id) (fun b z=>by
     rcases hk1 with y | y
     ·obtain ⟨w,hw,z⟩:=T.mem_adrs.mp z
      have:=R.new b (T.mem_adrs.mpr ⟨w,hw,T.adr_le w y z⟩)
      exact ⟨s1.free this.1,this.2⟩
     ·rw [y,T.adrs_zero] at z; cases z)
   rw [aao] at this
   exact this
  ·have:umD .append (T.dats (te :: te2 :: ter)) (T.dats ts)=none:=rfl
   rw [this] at hf; cases hf
 | extend =>
  rcases tes with _ | ⟨te,_ | ⟨te2,ter⟩⟩
  ·cases hf
  ·cases te with
   | lst b0 es' =>
    simp only [T.dats,T.dat,umD] at hf
    obtain ⟨hlt,rfl⟩:=AC hf
    have hj:j1<=1:=by
     rcases hc.1 with z | ⟨_,z⟩
     ·omega
     ·exact z
    have hk1:k - 1 - lnP is + 1<=k1\/k - 1 - lnP is=0:=by
     rw [l1]
     rcases hc.2 with z | ⟨z,_⟩ | ⟨_,z⟩ | z
     ·exact .inr z
     ·cases z
     ·exact .inl (by omega)
     ·cases z
    refine ⟨a,b0,_,_,rfl,rfl,p0,R.ok.1.1,by rw [aab,aab,<- Ag,<- Ag]; exact hlt,?_⟩
    have nde:T.Nds es' (k - 1 - lnP is):=by
     rcases hk1 with z | z
     ·obtain ⟨n1,n2⟩:=(T.nds_cons.mp (T.nds_le z R.nd)).1
      simp only [T.adr,T.rest,aaC] at n1 n2
      exact ⟨n1.2,fun b y w=>n2 b y (aaa _ w)⟩
     ·rw [z]; exact T.nds_zero _
    have:=fin (ts ++ es') es' (by rw [T.dats_map,aao,<- T.dats_map,<- T.dats_map]) (T.oks_iff.mpr fun w hw=>by
      rcases aaf.mp hw with z | z
      ·exact T.oks_iff.mp okt w z
      ·exact T.oks_iff.mp R.ok.1.2 w z)
     (fun b z=>by rw [T.adrs_append,aaf] at z; exact z) (fun b z=>by
      rw [T.rests_append,aaf] at z
      refine z.imp id fun z=>?_
      obtain ⟨w,hw,z2⟩:=T.mem_rests.mp z
      exact T.mem_rests.mpr ⟨w,hw,T.rest_le w (aar _) z2⟩)
     (fun n1 n2 n3=>T.nds_append n1 nde n3 n2)
     (fun b z=>(R.src b (by
      simp only [T.rests,aaR]
      exact T.rest_le (.lst b0 es') hj (j':=1) z)).imp s1.free id) (fun b z=>by
      rcases hk1 with y | y
      ·have:=R.new b (T.mem_adrs.mpr ⟨.lst b0 es',aaU.mpr rfl,T.adr_le (.lst b0 es') y (aaa _ z)⟩)
       exact ⟨s1.free this.1,this.2⟩
      ·rw [y,T.adrs_zero] at z; cases z)
    rw [aao] at this
    exact this
   | _=>cases hf
  ·have:umD .extend (T.dats (te :: te2 :: ter)) (T.dats ts)=none:=rfl
   rw [this] at hf; cases hf
 | insert =>
  rcases tes with _ | ⟨te1,_ | ⟨te,_ | ⟨te3,ter⟩⟩⟩
  ·cases hf
  ·cases te1 <;> cases hf
  ·cases te1 with
   | int i =>
    simp only [T.dats,T.dat,umD,Om] at hf
    obtain ⟨hlt,rfl⟩:=AC hf
    have hj:j1=0:=by
     rcases hc.1 with z | ⟨z,_⟩
     ·exact z
     ·cases z
    subst hj
    have hk0:k - 1 - lnP is=0:=by
     rw [l1]
     rcases hc.2 with z | ⟨z,_⟩ | ⟨z,_⟩ | z
     ·exact z
     ·cases z
     ·cases z
     ·cases z
    have hlen:(T.dats ts).length=(ts.map T.val).length:=by rw [Ag,aab]
    have hpos:Fh (T.dats ts).length i=L2.F9 (ts.map T.val).length i:=by
     rw [hlen]
     unfold Fh L2.F9
     split <;> omega
    refine ⟨a,_,i,te.val,rfl,rfl,p0,hlt.2.1,hlt.2.2,by rw [<- hlen]; exact hlt.1,?_⟩
    rw [<- hpos]
    generalize Fh (T.dats ts).length i=n at *
    have:=fin (ts.take n ++ te :: ts.drop n) [te] (by rw [T.dats_map,T.dats_map,aao,aaF,abL,abM]) (T.oks_iff.mpr fun w hw=>by
      rcases aaf.mp hw with z | z
      ·exact T.oks_iff.mp okt w (abA z)
      ·rcases aai.mp z with rfl | z
       ·exact T.oks_iff.mp R.ok w (by simp)
       ·exact T.oks_iff.mp okt w (abz z))
     (fun b z=>by rw [hk0,T.adrs_zero] at z; cases z) (fun b z=>by
      rw [hk0] at z ⊢
      obtain ⟨w,hw,z2⟩:=T.mem_rests.mp z
      rcases aaf.mp hw with y | y
      ·exact .inl (T.mem_rests.mpr ⟨w,abA y,z2⟩)
      ·rcases aai.mp y with rfl | y
       ·exact .inr (T.mem_rests.mpr ⟨w,aaU.mpr rfl,z2⟩)
       ·exact .inl (T.mem_rests.mpr ⟨w,abz y,z2⟩))
     (fun _ _ _=>by rw [hk0]; exact T.nds_zero _)
     (fun b z=>(R.src b (by
      obtain ⟨w,hw,z2⟩:=T.mem_rests.mp z
      exact T.mem_rests.mpr ⟨w,aaa _ hw,z2⟩)).imp s1.free id) (fun b z=>by rw [hk0,T.adrs_zero] at z; cases z)
    rw [aao,aaF,abL,abM] at this
    exact this
   | _=>cases hf
  ·have:umD .insert (T.dats (te1 :: te :: te3 :: ter)) (T.dats ts)=none:=by cases te1 <;> rfl
   rw [this] at hf; cases hf
 | pop =>
  rcases tes with _ | ⟨te,ter⟩
  ·simp only [T.dats,umD] at hf
   split at hf
   ·cases hf
   ·rename_i hne
    cases hf
    have hlen:0 < ts.length:=by
     rcases abY ts.length with z | z
     ·exact absurd (by rw [abd z]; rfl) hne
     ·exact z
    refine ⟨a,_,(ts.map T.val)[(ts.map T.val).length - 1]'(by simp; omega),rfl,rfl,p0,aah (by simp; omega),?_⟩
    have:=fin ts.dropLast [] (by rw [T.dats_map,T.dats_map,acI]) (T.oks_iff.mpr fun w hw=>T.oks_iff.mp okt w (abR _ hw))
     (fun b z=>by
      obtain ⟨w,hw,z2⟩:=T.mem_adrs.mp z
      exact .inl (T.mem_adrs.mpr ⟨w,abR _ hw,z2⟩)) (fun b z=>by
      obtain ⟨w,hw,z2⟩:=T.mem_rests.mp z
      exact .inl (T.mem_rests.mpr ⟨w,abR _ hw,z2⟩))
     (fun n1 _ _=>Kn (List.dropLast_sublist ts) n1) (fun b z=>nomatch z) (fun b z=>nomatch z)
    rw [acI] at this
    exact this
  ·have:umD .pop (T.dats (te :: ter)) (T.dats ts)=none:=rfl
   rw [this] at hf; cases hf
 | popAt =>
  rcases tes with _ | ⟨te,_ | ⟨te2,ter⟩⟩
  ·cases hf
  ·cases te with
   | int i =>
    simp only [T.dats,T.dat,umD,un1,Ka] at hf
    split at hf
    ·rename_i hb
     obtain ⟨j,hj,rfl⟩:=aau.mp hf
     rw [Ag] at hj
     obtain ⟨q1,q2,_,_⟩:=L2.J3 (n:=ts.length) (i:=i) (j:=j) hj
     refine ⟨a,_,i,j,(ts.map T.val)[j]'(by simpa using q2),rfl,rfl,p0,hb.1,hb.2,by rw [aab]; exact q1,aah (by simpa using q2),?_⟩
     have sub:∀ w ∈ ts.eraseIdx j,w ∈ ts:=fun w hw=>(acq ts j).subset hw
     have:=fin (ts.eraseIdx j) [] (by rw [T.dats_map,T.dats_map,Fy]) (T.oks_iff.mpr fun w hw=>T.oks_iff.mp okt w (sub w hw))
      (fun b z=>by
       obtain ⟨w,hw,z2⟩:=T.mem_adrs.mp z
       exact .inl (T.mem_adrs.mpr ⟨w,sub w hw,z2⟩)) (fun b z=>by
       obtain ⟨w,hw,z2⟩:=T.mem_rests.mp z
       exact .inl (T.mem_rests.mpr ⟨w,sub w hw,z2⟩))
      (fun n1 _ _=>Kn (acq ts j) n1) (fun b z=>nomatch z) (fun b z=>nomatch z)
     rw [Fy] at this
     exact this
    ·cases hf
   | _=>cases hf
  ·have:umD .popAt (T.dats (te :: te2 :: ter)) (T.dats ts)=none:=rfl
   rw [this] at hf; cases hf
 | clear =>
  rcases tes with _ | ⟨te,ter⟩
  ·cases hf
   refine ⟨a,_,rfl,rfl,p0,?_⟩
   exact fin [] [] rfl trivial (fun b z=>nomatch z) (fun b z=>nomatch z) (fun n1 _ _=>by simp [T.Nds,T.adrs]) (fun b z=>nomatch z) (fun b z=>nomatch z)
  ·have:umD .clear (T.dats (te :: ter)) (T.dats ts)=none:=rfl
   rw [this] at hf; cases hf
 | reverse =>
  rcases tes with _ | ⟨te,ter⟩
  ·cases hf
   refine ⟨a,_,rfl,rfl,p0,?_⟩
   have:=fin ts.reverse [] (by rw [T.dats_map,T.dats_map,abB]) (T.oks_iff.mpr fun w hw=>T.oks_iff.mp okt w (abm.mp hw))
    (fun b z=>by
     obtain ⟨w,hw,z2⟩:=T.mem_adrs.mp z
     exact .inl (T.mem_adrs.mpr ⟨w,abm.mp hw,z2⟩)) (fun b z=>by
     obtain ⟨w,hw,z2⟩:=T.mem_rests.mp z
     exact .inl (T.mem_rests.mpr ⟨w,abm.mp hw,z2⟩))
    (fun n1 _ _=>NO (List.reverse_perm ts) n1) (fun b z=>nomatch z) (fun b z=>nomatch z)
   rw [abB] at this
   exact this
  ·have:umD .reverse (T.dats (te :: ter)) (T.dats ts)=none:=rfl
   rw [this] at hf; cases hf
end
section
variable {p:Px} {H0:Hp} {A0:Addr->Prop} {m:Ms} {τ:Ft} {H H1:Hp}
theorem Sq {y ky:Nat} {ty:T} (S:Sf p H0 A0 (m.set y .dead) τ H) (hy:τ[y]?=some (some ty)) (hm:y < m.length) (h90:ky < 90) (ok:ty.Ok p H) (src:∀ a ∈ ty.rest ky,H0 a=none\/A0 a)
  (sep:∀ (i:Nat) (t:T) (k:Nat),τ[i]?=some (some t)->(m.set y .dead)[i]?=some (.ow k)->∀ a ∈ t.adr k,a ∉ ty.rest ky) (top:∀ (i:Nat) (t:T) (k:Nat),τ[i]?=some (some t)->(m.set y .dead)[i]?=some (.ow k)->∀ a ts,t=.lst a ts->a ∉ ty.rest 0):Sf p H0 A0 (m.set y (.br ky)) τ H:=by
 have back:∀ {i:Nat} {d:Md},(m.set y (.br ky))[i]?=some d->(i=y/\d=.br ky)\/(i ≠ y/\(m.set y .dead)[i]?=some d):=by
  intro i d h
  rcases Af h with z | ⟨z1,z2⟩
  ·exact .inl z
  ·exact .inr ⟨z1,by rw [aap (Ne.symm z1)]; exact z2⟩
 have ow':∀ {i k:Nat},(m.set y (.br ky))[i]?=some (.ow k)->(m.set y .dead)[i]?=some (.ow k):=by
  intro i k h
  rcases back h with ⟨_,z⟩ | ⟨_,z⟩
  ·cases z
  ·exact z
 refine ⟨by have:=S.len; rw [aaB] at this ⊢; exact this,fun d hd=>?_,S.same,fun i t j e ej l=>?_,fun i t k a e hk q=>S.own i t k a e (ow' hk) q,fun a sh=>?_,fun i t k e hk=>S.nd i t k e (ow' hk),fun i j t u k d ne e hk e' hd nd a q=>?_,fun i j t u k k2 e hk e' hd a ts z=>?_⟩
 ·obtain ⟨i,hi,rfl⟩:=abp hd
  rcases back (aah hi) with ⟨_,z⟩ | ⟨_,z⟩
  ·rw [z]; exact decide_eq_true h90
  ·exact S.small _ (aae z)
 ·obtain ⟨d,hd,rfl⟩:=AX ej
  rcases back hd with ⟨rfl,z⟩ | ⟨_,z⟩
  ·rw [hy] at e; cases e; exact ok
  ·exact S.ok i t _ e (AJ z) l
 ·obtain ⟨i,t,j,e,ej,l,q⟩:=sh
  obtain ⟨d,hd,rfl⟩:=AX ej
  rcases back hd with ⟨rfl,z⟩ | ⟨_,z⟩
  ·rw [hy] at e; cases e; subst z; exact src a q
  ·exact S.src a ⟨i,t,_,e,AJ z,l,q⟩
 ·rcases back hd with ⟨rfl,z⟩ | ⟨_,z⟩
  ·rw [hy] at e'; cases e'; subst z; exact sep i t k e (ow' hk) a q
  ·exact S.sep i j t u k d ne e (ow' hk) e' z nd a q
 ·rcases back hd with ⟨rfl,z'⟩ | ⟨_,z'⟩
  ·rw [hy] at e'; cases e'; exact top i t k e (ow' hk) a ts z
  ·exact S.top i j t u k k2 e (ow' hk) e' z' a ts z
theorem Pt {x y k ky:Nat} {ty:T} {a:Addr} {ts:List T} (S:Sf p H0 A0 m τ H) (s:Same H H1) (hx:τ[x]?=some (some (.lst a ts))) (hm:m[x]?=some (.ow k)) (hy:τ[y]?=some (some ty)) (hmy:m[y]?=some (.ow ky)) (hne:y ≠ x) (hk:k - 1<=ky) :
  Sf p H0 A0 (m.set y (.br ky)) (τ.set x (some (.lst a (ts ++ [ty])))) (L2.upd H1 a (.lst ((ts ++ [ty]).map T.val)))/\Stp m (m.set y (.br ky)) [x] τ (τ.set x (some (.lst a (ts ++ [ty])))) H (L2.upd H1 a (.lst ((ts ++ [ty]).map T.val))):=by
 have S1:=S.grow s
 have sm:0 < k/\k < 90:=of_decide_eq_true (S.small _ (aae hm))
 have smy:0 < ky/\ky < 90:=of_decide_eq_true (S.small _ (aae hmy))
 have no:∀ {k0:Nat},Md.ow k0 ≠ .dead:=by intro k0 c; cases c
 have hyl:y < m.length:=(aaq.mp hmy).1
 have sxy:∀ b ∈ (T.lst a ts).adr k,b ∉ ty.rest 0:=S.sep x y _ ty k _ (Ne.symm hne) hx hm hy hmy no
 have syx:∀ b ∈ ty.adr ky,b ∉ (T.lst a ts).rest 0:=S.sep y x ty _ ky _ hne hy hmy hx hm no
 obtain ⟨k',rfl⟩:∃ k',k=k' + 1:=⟨k - 1,by omega⟩
 have aadr:a ∈ (T.lst a ts).adr (k' + 1):=aac ..
 have ndx:=S.nd x _ _ hx hm
 have ndt:T.Nds ts k':=by
  obtain ⟨n1,n2⟩:=ndx
  simp only [T.adr,T.rest,aaC] at n1 n2
  exact ⟨n1.2,fun b z y=>n2 b z (aaa _ y)⟩
 have hk':k'<=ky:=by omega
 have okx:=S1.at hx hm no
 have oky:=S1.at hy hmy no
 have e0:k' + 1 - 1 - lnP []=k':=by simp [lnP]
 obtain ⟨t',p1,p2,S2,P2⟩:=IQ (F:=fun b=>b ∈ ty.adr k') (N:=fun b=>b ∈ ty.rest 0) (m1:=m.set y .dead) (us:=ts ++ [ty]) (q:=[]) S s hx hm rfl (by simp [lnP])
  (T.oks_iff.mpr fun w hw=>by
   rcases aaf.mp hw with z | z
   ·exact T.oks_iff.mp okx.2 w z
   ·cases aaU.mp z; exact oky)
  (fun b z=>(T.all_iff ty k').mpr (.inl z))
  (by
   rw [e0]
   intro b z
   rw [T.adrs_append,aaf] at z
   exact z.imp id fun z=>by simpa [T.adrs] using z)
  (by
   rw [e0]
   intro b z
   rw [T.rests_append,aaf] at z
   exact z.imp id fun z=>T.rest_le ty (aar k') (by simpa [T.rests] using z))
  (by
   rw [e0]
   exact IR (T.nd_le ty hk' (S.nd y ty ky hy hmy)) ndt (fun b z w=>syx b (T.adr_le ty hk' (by simpa [T.adrs] using z)) (aaa _ w)) (fun b z w=>sxy b (aaa _ z) (by simpa [T.rests] using w)))
  (fun b z=>syx b (T.adr_le ty hk' z)) (fun b z=>S1.own y ty ky b hy hmy (T.adr_le ty hk' z)) (fun b z=>.inl ⟨y,ty,ky,hy,hmy,T.adr_le ty hk' z⟩) (fun b z w=>sxy b w z)
  (fun b z=>by
   rcases (T.all_iff ty ky).mp z with w | w
   ·exact .inl (S.own y ty ky b hy hmy w).1
   ·exact S.src b ⟨y,ty,ky,hy,AJ hmy,smy.2,w⟩)
  (by rw [aaB]) (by rw [aap hne]; exact hm)
  (fun j d ne hd nd=>by
   rcases Af hd with ⟨_,z⟩ | ⟨_,z⟩
   ·exact absurd z nd
   ·exact ⟨z,fun w=>absurd rfl w⟩)
  (fun j u d ne e hd nd b z=>by
   rcases Af hd with ⟨_,w⟩ | ⟨w,hd⟩
   ·exact absurd w nd
   ·exact S.sep y j ty u ky d (Ne.symm w) hy hmy e hd nd b (T.adr_le ty hk' z))
  (fun i u k2 ne e hk2 b z w=>by
   rcases Af hk2 with ⟨_,w'⟩ | ⟨w',hk2⟩
   ·cases w'
   ·exact S.sep i y u ty k2 _ w' e hk2 hy hmy no b w z)
 cases p1
 have hy':(τ.set x (some (.lst a (ts ++ [ty]))))[y]?=some (some ty):=by rw [aap (Ne.symm hne)]; exact hy
 have atop:a ∉ ty.rest 0:=sxy a aadr
 refine ⟨Sq S2 hy' hyl smy.2 ?_ (fun b z=>S.src b ⟨y,ty,ky,hy,AJ hmy,smy.2,z⟩) (fun i t k2 e hk2 b z w=>?_) (fun i t k2 e hk2 b cs z=>?_),P2.keep,fun b o=>P2.grow b ?_,P2.wr⟩
 ·refine Dl (H:=H1) (fun b w e n=>by rw [Ar n]; exact e) (S1.own x _ _ a hx hm aadr).2 oky atop
 ·rcases Af e with ⟨rfl,e2⟩ | ⟨n1,e1⟩
  ·cases e2
   rcases Af hk2 with ⟨w',_⟩ | ⟨_,hk2⟩
   ·exact hne w'.symm
   ·rw [hm] at hk2
    cases hk2
    simp only [T.adr,T.adrs_append,T.adrs,aai,aaf,aaR] at z
    rcases z with rfl | z | z
    ·exact atop (T.rest_le ty (aar _) w)
    ·exact sxy b (aaa _ z) (T.rest_le ty (aar _) w)
    ·exact (S.nd y ty ky hy hmy).2 b w (T.adr_le ty hk' z)
  ·rcases Af hk2 with ⟨_,w'⟩ | ⟨w',hk2⟩
   ·cases w'
   ·exact S.sep i y t ty k2 _ w' e1 hk2 hy hmy no b z (T.rest_le ty (aar _) w)
 ·rcases Af e with ⟨rfl,e2⟩ | ⟨n1,e1⟩
  ·cases e2
   cases z
   exact atop
  ·rcases Af hk2 with ⟨_,w'⟩ | ⟨w',hk2⟩
   ·cases w'
   ·subst z
    have:=of_decide_eq_true (S.small _ (aae hk2))
    refine S.sep i y _ ty k2 _ w' e1 hk2 hy hmy no b ?_
    obtain ⟨k3,rfl⟩:∃ k3,k2=k3 + 1:=⟨k2 - 1,by omega⟩
    exact aac ..
 ·obtain ⟨i,t,k2,e,hk2,z⟩:=o
  refine ⟨i,t,k2,e,?_,z⟩
  rcases Af hk2 with ⟨_,w'⟩ | ⟨w',hk2⟩
  ·cases w'
  ·rw [aap (Ne.symm w')]; exact hk2
end
section
variable {Z:Zx} {m:Ms} {r:Option Ms} {τ:Ft} {H:Hp} {D:Ends} {X:Cx}
theorem Rk {x y k ky:Nat} (S:Sf Z.p Z.H0 Z.A0 m τ H) (hmx:m[x]?=some (.ow k)) (hmy:m[y]?=some (.ow ky)) (hne:y ≠ x) (hk:k - 1<=ky) (hr:r=some (m.set y (.br ky))) (h:lOut Z m r [x] (ex (.mut x [] .append (.cons (.nm y) .nil)) (dτ τ)) τ H D) :
  lPl Z.p Z.EX (tnM m) x [] (vτ τ) H fun v H1=>tyV X.K "list" v H1/\(Oi (KJ y) QE) (vτ τ) H1 fun vs H2=>FI v vs H2 fun _ H3=>D.nx (vτ τ) H3:=by
 have sm:0 < k/\k < 90:=of_decide_eq_true (S.small _ (aae hmx))
 obtain ⟨t,is,ds,a,ts,ds',ht,ep,ee,hs,l1,l2,hf,hpl,hnx⟩:=IW S hmx (by simp [lnE]; omega) rfl h
 cases ep
 cases hs
 subst hr
 simp only [evs,ev] at ee
 obtain ⟨d,e1,ee⟩:=Res.bind_eq_ok ee
 cases ee
 obtain ⟨ty,hy,rfl⟩:=Di e1
 simp only [umD] at hf
 obtain ⟨hlt,rfl⟩:=AC hf
 refine ⟨τ,_,[],.lst a ts,rfl,S.ok,Fx rfl,ht,S.at ht hmx (by intro c; cases c),rfl,rfl,fun H1 s1=>⟨Ko (hpl H1 s1).1,?_⟩⟩
 refine ⟨ty.val,BZ hy,?_⟩
 show FI (.ref a) [ty.val] H1 (fun _ H3=>D.nx (vτ τ) H3)
 refine ⟨a,_,ty.val,rfl,rfl,(hpl H1 s1).1,by rw [aab,<- Ag]; exact hlt,?_⟩
 obtain ⟨S2,P2⟩:=Pt S s1 ht hmx hy hmy hne hk
 have:=hnx (ts ++ [ty]) _ H1 _ (by rw [T.dats_map,aao,<- T.dats_map]; rfl) rfl rfl rfl S2 P2
 rw [aao] at this
 exact this
end
section
variable {Z:Zx} {m:Ms} {r:Option Ms} {w:List Nat} {τ:Ft} {H:Hp} {D:Ends} {X:Cx} {pos:Pos} {σ:L2.St}
theorem Pv {K:Frag} {xs:List Nat} {e:E} (h:lS Z (.asgT xs e) D σ H):∃ m,G4 (lE Z.p Z.EX (tnM m) e) (lG K (.tp xs)) D σ H:=by
 obtain ⟨τ,m,r,rfl,S,hr,h⟩:=h
 refine ⟨m,?_⟩
 simp only [msS] at hr
 obtain ⟨⟨j1,k1⟩,h1,hr⟩:=bS hr
 obtain ⟨⟨c1,c2⟩,rfl⟩:=AC hr
 have c1:j1=0:=c1
 subst c1
 simp only [ex] at h
 refine ⟨τ,rfl,S.ok,0,k1,h1,(h.lg S c2).mono (Same.refl _) fun d _ h t H1 ht R=>?_⟩
 subst ht
 rw [Fo] at h
 cases q:Cu (.tp xs) t τ with
 | none=>rw [q] at h; exact nE h
 | some τ' =>
  rw [q] at h
  obtain ⟨S2,P2⟩:=Sn S R.same R.ok R.src q
  exact Ii R.ok q (h _ τ' H1 rfl rfl S2 P2)
theorem Pw {e:E} (h:lS Z (.expr e) D σ H):∃ m,Of (lE Z.p Z.EX (tnM m) e) D σ H:=by
 obtain ⟨τ,m,r,rfl,S,hr,h⟩:=h
 refine ⟨m,?_⟩
 simp only [msS] at hr
 obtain ⟨⟨j1,k1⟩,h1,hr⟩:=bS hr
 obtain ⟨c2,rfl⟩:=AC hr
 simp only [ex] at h
 exact ⟨τ,rfl,S.ok,j1,k1,h1,(h.lg S c2).mono (Same.refl _) fun d _ h t H1 ht R=>h m τ H1 rfl rfl (S.grow R.same) (Stp.refl _ (Gc S.small) R.same)⟩
theorem NQ {c:Nat} {es:Es} (h:lS Z (.raise c es) D σ H):∃ m,lEs Z.p Z.EX (tnM m) es σ H fun vs H1=>vs.length=es.len/\(Z.p.has c=true->Z.EX σ (.ref (Z.p.cl c)) none H1):=by
 obtain ⟨τ,m,r,rfl,S,hr,h⟩:=h
 refine ⟨m,?_⟩
 simp only [msS] at hr
 obtain ⟨⟨j1,k1⟩,h1,hr⟩:=bS hr
 obtain ⟨c2,rfl⟩:=AC hr
 simp only [ex] at h
 refine ⟨τ,rfl,S.ok,j1,k1,h1,(h.lg S c2).mono (Same.refl _) fun ds e h ts H1 hts R=>⟨?_,fun hc=>h hc τ H1 rfl ((S.weak c2).grow R.same) (Stp.refl _ c2 R.same)⟩⟩
 rw [aab,<- Ag,hts,BM _ _ _ e]
theorem Rl {e:E} (h:lS Z (.ret e) D σ H):(∃ (i:Nat) (t:T),e=.nm i/\σ[i]?=some (some t.val)/\D.rt t.val H)\/∃ m,lE Z.p Z.EX (tnM m) e σ H D.rt:=by
 obtain ⟨τ,m,r,rfl,S,hr,h⟩:=h
 simp only [msS] at hr
 obtain ⟨k,hk,hr⟩:=bS hr
 obtain ⟨⟨c1,c2⟩,rfl⟩:=AC hr
 simp only [ex] at h
 have gen:∀ j,(jk (tnM m) e=some (j,k))->j=0->∃ m,lE Z.p Z.EX (tnM m) e (vτ τ) H D.rt:=by
  intro j hj hz
  subst hz
  refine ⟨m,τ,rfl,S.ok,0,k,hj,(h.lg S c2).mono (Same.refl _) fun d _ h t H1 ht R=>h t H1 ht ⟨S.same.trans R.same,R.ok,fun a q=>?_,fun a q=>?_,T.nd_le t c1 R.nd⟩⟩
  ·rcases R.src a q with z | z
   ·exact .inl (S.same.free z)
   ·exact S.src a z
  ·have:=R.new a (T.adr_le t c1 q)
   exact ⟨S.same.free this.1,this.2⟩
 by_cases hnm:∃ i,e=.nm i
 ·obtain ⟨i,rfl⟩:=hnm
  simp only [rk] at hk
  cases q:get (dτ τ) i with
  | exc c=>unfold get at q; split at q <;> cases q
  | bad=>simp only [ev,q] at h; exact nE h
  | ok d =>
   obtain ⟨t,ht,rfl⟩:=Di q
   simp only [ev,q] at h
   refine .inl ⟨i,t,rfl,BZ ht,h t H rfl ?_⟩
   split at hk
   ·rename_i k0 hm
    cases hk
    have sm:0 < k/\k < 90:=of_decide_eq_true (S.small _ (aae hm))
    refine ⟨S.same,S.at ht hm (by intro c; cases c),fun a z=>?_,fun a z=>S.own i t k a ht hm (T.adr_le t c1 z),T.nd_le t c1 (S.nd i t k ht hm)⟩
    rcases (T.all_iff t k).mp z with y | y
    ·exact .inl (S.own i t k a ht hm y).1
    ·exact S.src a ⟨i,t,k,ht,AJ hm,sm.2,y⟩
   ·rename_i hm
    cases hk
    have c1:Z.dep=0:=by omega
    rw [c1]
    exact ⟨S.same,S.at ht hm (by intro c; cases c),fun a z=>S.src a ⟨i,t,0,ht,AJ hm,by decide,z⟩,by rw [T.adr_zero]; simp,T.nd_zero t⟩
   ·cases hk
 ·refine .inr ?_
  have:rk m e=(jk (tnM m) e).bind fun x=>if x.1=0 then some x.2 else none:=by
   cases e <;> first | rfl | exact absurd ⟨_,rfl⟩ hnm
  rw [this] at hk
  obtain ⟨⟨j1,k1⟩,h1,hk⟩:=bS hk
  obtain ⟨z,rfl⟩:=AC hk
  exact gen j1 h1 z
theorem lOut.weak {r1 r2:Option Ms} {w1 w2:List Nat} {o:Out} (h:lOut Z m r2 w2 o τ H D) (hj:okJ r1 r2=true) (hw:∀ i ∈ w1,i ∈ w2):lOut Z m r1 w1 o τ H D:=by
 cases o with
 | nxt δ' =>
  intro m' τ' H' e1 e2 S P
  subst e1
  cases r2 with
  | none=>cases hj
  | some m2=>exact h m2 τ' H' rfl e2 (S.weak hj) ⟨P.keep,fun a o=>P.grow a (o.weak hj),fun i hi=>P.wr i fun q=>hi (hw i q)⟩
 | ret d=>exact h
 | exc c δ'=>exact fun hc τ' H' e S P=>h hc τ' H' e S (P.mono hw)
 | bad=>exact h
theorem Rm {c:E} {a b:Ss} (h:lS Z (.iff c a b) D σ H):∃ m,Qr (lT Z.p Z.EX (tnM m) c) (lSs Z a) (lSs Z b) D σ H:=by
 obtain ⟨τ,m,r,rfl,S,hr,h⟩:=h
 refine ⟨m,?_⟩
 simp only [msS] at hr
 obtain ⟨⟨j1,k1⟩,h1,hr⟩:=bS hr
 split at hr
 ·rename_i c2
  obtain ⟨ra,h2,hr⟩:=bS hr
  obtain ⟨rb,h3,hr⟩:=bS hr
  obtain ⟨⟨c3,c4⟩,rfl⟩:=AC hr
  simp only [ex] at h
  refine ⟨τ,rfl,S.ok,by rw [h1]; rfl,(h.lg S c2).mono (Same.refl _) fun t _ h H1 s1=>?_⟩
  have S1:=S.grow s1
  have shift:∀ {o:Out} {r0:Option Ms} {w0:List Nat},lOut Z m r0 w0 o τ H D->lOut Z m r0 w0 o τ H1 D:=by
   intro o r0 w0 h
   cases o with
   | nxt δ'=>exact fun m' τ' H' e1 e2 S P=>h m' τ' H' e1 e2 S ⟨fun a u e n=>P.keep a u (s1 a u e) n,fun a o=>(P.grow a o).imp id s1.free,P.wr⟩
   | ret d=>exact h
   | exc c δ'=>exact fun hc τ' H' e S P=>h hc τ' H' e S ⟨fun a u e n=>P.keep a u (s1 a u e) n,fun a o=>(P.grow a o).imp id s1.free,P.wr⟩
   | bad=>exact h
  cases t with
  | true =>
   rw [if_pos rfl] at h
   show (if true=true then lSs Z a D (vτ τ) H1 else lSs Z b D (vτ τ) H1)
   rw [if_pos rfl]
   exact ⟨τ,m,ra,rfl,S1,h2,shift (h.weak c3 fun i hi=>aaz _ hi)⟩
  | false =>
   rw [if_neg (by decide)] at h
   show (if false=true then lSs Z a D (vτ τ) H1 else lSs Z b D (vτ τ) H1)
   rw [if_neg (by decide)]
   exact ⟨τ,m,rb,rfl,S1,h3,shift (h.weak c4 fun i hi=>aak _ hi)⟩
 ·cases hr
theorem lOut.shift {H1:Hp} {o:Out} (s1:Same H H1) (h:lOut Z m r w o τ H D):lOut Z m r w o τ H1 D:=by
 cases o with
 | nxt δ'=>exact fun m' τ' H' e1 e2 S P=>h m' τ' H' e1 e2 S ⟨fun a u e n=>P.keep a u (s1 a u e) n,fun a o=>(P.grow a o).imp id s1.free,P.wr⟩
 | ret d=>exact h
 | exc c δ'=>exact fun hc τ' H' e S P=>h hc τ' H' e S ⟨fun a u e n=>P.keep a u (s1 a u e) n,fun a o=>(P.grow a o).imp id s1.free,P.wr⟩
 | bad=>exact h
theorem lOut.after {m1:Ms} {τ1:Ft} {H1:Hp} {w1 w2:List Nat} {o:Out} (P:Stp m m1 w1 τ τ1 H H1) (hw1:∀ i ∈ w1,i ∈ w) (hw2:∀ i ∈ w2,i ∈ w) (h:lOut Z m r w o τ H D):lOut Z m1 r w2 o τ1 H1 D:=by
 cases o with
 | nxt δ'=>exact fun m' τ' H' e1 e2 S Q=>h m' τ' H' e1 e2 S ((P.trans Q).mono fun i hi=>by
   rcases aaf.mp hi with z | z
   ·exact hw1 i z
   ·exact hw2 i z)
 | ret d=>exact h
 | exc c δ'=>exact fun hc τ' H' e S Q=>h hc τ' H' e S ((P.trans Q).mono fun i hi=>by
   rcases aaf.mp hi with z | z
   ·exact hw1 i z
   ·exact hw2 i z)
 | bad=>exact h
theorem Rn {s:S} {rest:Ss} (h:lSs Z (.cons s rest) D σ H):lS Z s { D with nx:=lSs Z rest D } σ H:=by
 obtain ⟨τ,m,r,rfl,S,hr,h⟩:=h
 simp only [msSs] at hr
 obtain ⟨r1,h1,hr⟩:=bS hr
 refine ⟨τ,m,r1,rfl,S,h1,?_⟩
 simp only [exs] at h
 cases q:ex s (dτ τ) with
 | nxt δ' =>
  rw [q] at h
  intro m' τ' H' e1 e2 S' P
  subst e1
  simp only at hr
  refine ⟨τ',m',r,rfl,S',hr,?_⟩
  rw [e2]
  exact h.after P (fun i hi=>aaz _ hi) (fun i hi=>aak _ hi)
 | ret d=>rw [q] at h; exact h
 | exc c δ' =>
  rw [q] at h
  exact fun hc τ' H' e S' P=>h hc τ' H' e S' (P.mono fun i hi=>aaz _ hi)
 | bad=>rw [q] at h; exact h
theorem Ro (h:lSs Z .nil D σ H):D.nx σ H:=by
 obtain ⟨τ,m,r,rfl,S,hr,h⟩:=h
 cases hr
 exact h m τ H rfl rfl S (Stp.refl _ (Gc S.small) (Same.refl _))
theorem Py {s:S} {rest:Ss} (hs:(∃ x k,s=.dem x k)\/(∃ x,s=.dead x)) (h:lSs Z (.cons s rest) D σ H):lSs Z rest D σ H:=by
 obtain ⟨τ,m,r,rfl,S,hr,h⟩:=h
 simp only [msSs] at hr
 obtain ⟨r1,h1,hr⟩:=bS hr
 rcases hs with ⟨x,k,rfl⟩ | ⟨x,rfl⟩
 ·simp only [msS] at h1
  obtain ⟨c,rfl⟩:=AC h1
  refine ⟨τ,_,r,rfl,S.weak c,hr,?_⟩
  simp only [exs,ex,Out.then_nxt] at h
  exact h.after (w1:=[]) (Stp.refl _ c (Same.refl _)) (fun i hi=>nomatch hi) (fun i hi=>aak _ hi)
 ·simp only [msS] at h1
  obtain ⟨c,rfl⟩:=AC h1
  refine ⟨τ,_,r,rfl,S.weak c,hr,?_⟩
  simp only [exs,ex,Out.then_nxt] at h
  exact h.after (w1:=[]) (Stp.refl _ c (Same.refl _)) (fun i hi=>nomatch hi) (fun i hi=>aak _ hi)
end
section
variable {Z:Zx} {m:Ms} {r:Option Ms} {w:List Nat} {τ:Ft} {H:Hp} {D:Ends} {X:Cx} {pos:Pos} {σ:L2.St}
theorem Sr {c:E} {b:Ss} (h:lS Z (.wh c b) D σ H):∃ m,LQ (lT Z.p Z.EX (tnM m) c) (lSs Z b) D σ H:=by
 obtain ⟨τ,m,r,rfl,S,hr,h⟩:=h
 refine ⟨m,?_⟩
 simp only [msS] at hr
 obtain ⟨⟨j1,k1⟩,h1,hr⟩:=bS hr
 split at hr
 ·rename_i c2
  obtain ⟨rb,h2,hr⟩:=bS hr
  have hrb:r=some m/\okJ rb (some m)=true:=by
   cases rb with
   | none=>exact ⟨(Option.some.inj hr).symm,rfl⟩
   | some mb =>
    obtain ⟨z,e⟩:=AC hr
    exact ⟨e.symm,z⟩
  obtain ⟨rfl,hj⟩:=hrb
  simp only [ex] at h
  refine ⟨fun n σ H'=>∃ τ',σ=vτ τ'/\Sf Z.p Z.H0 Z.A0 m τ' H'/\Stp m m (wrSs b) τ τ' H H'/\lOut Z m (some m) (wrSs b) (AM (tv c) (exs b) n (dτ τ')) τ H D,⟨FU,τ,rfl,S,Stp.refl _ (Gc S.small) (Same.refl _),h⟩,?_⟩
  rintro n σ' H' ⟨τ',rfl,S',P',h'⟩
  cases n with
  | zero=>exact nE h'
  | succ n =>
   simp only [AM] at h'
   have hb:=h'.after (w:=wrSs b) (w1:=wrSs b) (w2:=wrSs b) P' (fun _ z=>z) (fun _ z=>z)
   refine ⟨τ',rfl,S'.ok,by rw [h1]; rfl,(hb.lg S' c2).mono (Same.refl _) fun t et hb2 H1 s1=>?_⟩
   rw [et] at h'
   simp only [Res.out_ok] at h'
   cases t with
   | false =>
    show (if false=true then _ else D.nx (vτ τ') H1)
    rw [if_neg (by decide)]
    rw [if_neg (by decide)] at h'
    exact h' m τ' H1 rfl rfl (S'.grow s1) ⟨fun a u e n=>s1 _ _ (P'.keep a u e n),P'.grow,P'.wr⟩
   | true =>
    rw [if_pos rfl] at h' hb2
    show (if true=true then _ else _)
    rw [if_pos rfl]
    refine ⟨fun σ2 H2=>∃ τ2,σ2=vτ τ2/\Sf Z.p Z.H0 Z.A0 m τ2 H2/\Stp m m (wrSs b) τ τ2 H H2/\lOut Z m (some m) (wrSs b) (AM (tv c) (exs b) n (dτ τ2)) τ H D,fun σ2 H2 q=>⟨n,ab7 n,q⟩,?_⟩
    refine ⟨τ',m,rb,rfl,S'.grow s1,h2,?_⟩
    have hb3:=hb2.shift s1
    have P1:Stp m m (wrSs b) τ τ' H H1:=⟨fun a u e n=>s1 _ _ (P'.keep a u e n),P'.grow,P'.wr⟩
    cases q:exs b (dτ τ') with
    | nxt δ2 =>
     rw [q] at h'
     intro m' τ2 H2 e1 e2 S2 P2
     subst e1
     have hle:leM m' m=true:=hj
     refine ⟨τ2,rfl,S2.weak hle,((P1.trans P2).mono (w2:=wrSs b) (fun i hi=>by simpa using hi)) |> fun P3=>⟨P3.keep,fun a o=>P3.grow a (Own.weak hle o),P3.wr⟩,?_⟩
     rw [e2]; exact h'
    | ret d=>rw [q] at hb3; exact hb3
    | exc c' δ'=>rw [q] at hb3; exact hb3
    | bad=>rw [q] at hb3; exact hb3
 ·cases hr
theorem Stp.lesser {m1 m2:Ms} {τ':Ft} {H':Hp} (h:leM m1 m2=true) (P:Stp m m1 w τ τ' H H'):Stp m m2 w τ τ' H H':=⟨P.keep,fun a o=>P.grow a (Own.weak h o),P.wr⟩
theorem IX {K:Frag} {g:Tg} {b:Ss} {J:L2.It} {us:List T} {ds:List Pu.D} {j:Nat} {H1:Hp} {rb:Option Ms} (S:Sf Z.p Z.H0 Z.A0 m τ H) (IT:ItOk Z.p (Sh (tnM m) τ) H H1 J us j ds) (hd:leM m (Aq m g.sl .dead)=true)
  (h2:msSs Z.mx Z.dep b (Aq (Aq m g.sl .dead) g.sl .sh)=some rb) (hj:okJ rb (some (Aq m g.sl .dead))=true)
  (per:∀ (τ':Ft) (H':Hp),Sf Z.p Z.H0 Z.A0 (Aq m g.sl .dead) τ' H'->Stp m (Aq m g.sl .dead) (g.sl ++ wrSs b) τ τ' H1 H'->T.Oks Z.p H' us)
  (h:lOut Z m (some (Aq m g.sl .dead)) (g.sl ++ wrSs b) (AU g (exs b) ds (dτ τ)) τ H1 D) :
  ∃ W:Nat->Nat->L2.St->Hp->Prop,(∃ n,W 0 n (vτ τ) H1)/\∀ i n σ H,W i n σ H->(J.stop i H/\D.nx σ H)\/(J.go i H/\∃ N:L2.St->Hp->Prop,(∀ σ' H',N σ' H'->∃ n',n' < n/\W (i + 1) n' σ' H')/\∀ x H',J.yld i H x H'->lG K g x σ H' fun σ2 H2=>lSs Z b { D with nx:=N,ct:=N,bk:=D.nx } σ2 H2):=by
 have S1:=S.grow IT.same
 have fineU:∀ a,(H a=none\/Sh (tnM m) τ a)->(Z.H0 a=none\/Z.A0 a)/\¬ Own m τ a:=fun a q=>S.fine q
 refine ⟨fun i n σ H'=>n=ds.length - i/\i<=ds.length/\∃ τ',σ=vτ τ'/\Sf Z.p Z.H0 Z.A0 (Aq m g.sl .dead) τ' H'/\Stp m (Aq m g.sl .dead) (g.sl ++ wrSs b) τ τ' H1 H'/\lOut Z m (some (Aq m g.sl .dead)) (g.sl ++ wrSs b) (AU g (exs b) (ds.drop i) (dτ τ')) τ H1 D,
  ⟨ds.length,by simp,aar _,τ,rfl,S1.weak hd,Stp.refl _ hd (Same.refl _),by simpa using h⟩,?_⟩
 rintro i n σ' H' ⟨rfl,hi,τ',rfl,S',P',h'⟩
 have usok:=per τ' H' S' P'
 rcases abG i ds.length with hlt | hge
 ·have hdi:ds[i]?=some ds[i]:=aah hlt
  rw [abi hlt] at h'
  simp only [AU] at h'
  refine .inr ⟨IT.go i H' usok hlt,fun σ2 H2=>∃ τ2,σ2=vτ τ2/\Sf Z.p Z.H0 Z.A0 (Aq m g.sl .dead) τ2 H2/\Stp m (Aq m g.sl .dead) (g.sl ++ wrSs b) τ τ2 H1 H2/\lOut Z m (some (Aq m g.sl .dead)) (g.sl ++ wrSs b) (AU g (exs b) (ds.drop (i + 1)) (dτ τ2)) τ H1 D,
   fun σ2 H2 q=>⟨ds.length - (i + 1),by omega,rfl,hlt,q⟩,fun x H'' y=>?_⟩
  obtain ⟨s2,t,rfl,ht,tok,tus,tsrc⟩:=IT.yld i H' x H'' ds[i] usok hdi y
  rw [<- ht,Fo] at h'
  cases q:Cu g t τ' with
  | none=>rw [q] at h'; exact nE h'
  | some τ2 =>
   rw [q] at h'
   simp only [aaW] at h'
   have src:∀ a ∈ t.rest 0,(Z.H0 a=none\/Z.A0 a)/\¬ Own (Aq m g.sl .dead) τ' a:=fun a z=>by
    refine ⟨(fineU a (tsrc a z)).1,fun o=>?_⟩
    rcases P'.grow a o with w | w
    ·exact (fineU a (tsrc a z)).2 w
    ·obtain ⟨v,hv,z2⟩:=T.mem_rests.mp (tus a z)
     exact (T.oks_iff.mp IT.ok v hv).dom z2 w
   obtain ⟨S2,P2⟩:=Mv S' s2 tok src q
   refine Ii tok q ⟨τ2,_,rb,rfl,S2,h2,?_⟩
   have P3:=P'.trans P2
   have h3:=h'.after (w:=g.sl ++ wrSs b) (w2:=wrSs b) P3 (fun i hi=>by
    simp only [aaf] at hi ⊢
    rcases hi with (hi | hi) | hi
    ·exact .inl hi
    ·exact .inr hi
    ·exact .inl hi) (fun i hi=>aak _ hi)
   cases e:exs b (dτ τ2) with
   | nxt δ3 =>
    rw [e] at h'
    intro m' τ3 H3 e1 e2 S3 P4
    subst e1
    have hle:leM m' (Aq m g.sl .dead)=true:=hj
    refine ⟨τ3,rfl,S3.weak hle,Stp.lesser hle ((P3.trans P4).mono fun i hi=>?_),?_⟩
    ·simp only [aaf] at hi ⊢
     rcases hi with ((hi | hi) | hi) | hi
     ·exact .inl hi
     ·exact .inr hi
     ·exact .inl hi
     ·exact .inr hi
    ·rw [e2]; exact h'
   | ret d=>rw [e] at h3; exact h3
   | exc c' δ'=>rw [e] at h3; exact h3
   | bad=>rw [e] at h3; exact h3
 ·refine .inl ⟨IT.stop i H' usok hge,?_⟩
  have hil:i=ds.length:=acf hi hge
  subst hil
  rw [List.drop_length] at h'
  exact h' _ τ' H' rfl rfl S' P'
theorem Rp {K:Frag} {g:Tg} {it:It} {b:Ss} (h:lS Z (.for_ g it b) D σ H):(∃ m,Qv (lI Z.p Z.EX (tnM m) it) (lG K g) (lSs Z b) D σ H) \/
  (∃ x,it=.seqL (.nm x)/\∃ v a xs,σ[x]?=some (some v)/\v=.ref a/\SqL X.K H a xs/\(X.K=Z.p.K->xs.length<=sizeLine->∃ W:Nat->Nat->L2.St->Hp->Prop,(∃ n,W 0 n σ H)/\∀ i n σ H,W i n σ H->((Itl X.K a).stop i H/\D.nx σ H)\/((Itl X.K a).go i H/\∃ N:L2.St->Hp->Prop,(∀ σ' H',N σ' H'->∃ n',n' < n/\W (i + 1) n' σ' H') /\
   ∀ x H',(Itl X.K a).yld i H x H'->lG K g x σ H' fun σ2 H2=>lSs Z b { D with nx:=N,ct:=N,bk:=D.nx } σ2 H2))):=by
 obtain ⟨τ,m,r,rfl,S,hr,h⟩:=h
 simp only [msS] at hr
 obtain ⟨j,h1,hr⟩:=bS hr
 split at hr
 ·rename_i c
  obtain ⟨c1,c2,c3⟩:=c
  obtain ⟨rb,h2,hr⟩:=bS hr
  have hrb:r=some (Aq m g.sl .dead)/\okJ rb (some (Aq m g.sl .dead))=true:=by
   cases rb with
   | none=>exact ⟨(Option.some.inj hr).symm,rfl⟩
   | some mb =>
    obtain ⟨z,e⟩:=AC hr
    exact ⟨e.symm,z⟩
  obtain ⟨rfl,hj⟩:=hrb
  simp only [ex] at h
  by_cases z:j=0
  ·subst z
   refine .inl ⟨m,τ,rfl,S.ok,0,h1,(h.lg S c1).mono (Same.refl _) fun ds _ h J us H1 IT=>?_⟩
   refine IX S IT c2 h2 hj (fun τ' H' S' P'=>?_) (h.shift IT.same)
   have S1:=S.grow IT.same
   refine T.oks_iff.mpr fun u hu=>(T.oks_iff.mp IT.ok u hu).keep fun a w e q=>P'.keep a w e fun o=>?_
   rcases q with q | q
   ·exact (S.fine (IT.src a (T.mem_rests.mpr ⟨u,hu,q⟩))).2 o
   ·obtain ⟨_,vs,e2⟩:=S1.ownOk o
    rw [e2] at e
    exact q vs (Option.some.inj e).symm
  ·rcases c3 with c3 | ⟨x,c3,c4,c5⟩
   ·exact absurd c3 z
   ·have hit:it=.seqL (.nm x):=by
     unfold It.nmOf at c3
     split at c3
     ·cases c3; rfl
     ·cases c3
    subst hit
    refine .inr ⟨x,rfl,?_⟩
    have hlg:=h.lg S c1
    cases q:get (dτ τ) x with
    | exc c=>unfold get at q; split at q <;> cases q
    | bad=>simp only [evI,ev,q,Res.bind_bad] at hlg; exact nE hlg
    | ok d =>
     obtain ⟨t,ht,rfl⟩:=Di q
     simp only [evI,ev,q,Res.bind_ok] at hlg
     cases t with
     | lst a ts =>
      simp only [jkI] at h1
      obtain ⟨⟨j1,k1⟩,h3,h1⟩:=bS h1
      obtain ⟨hj1,e1⟩:=AC h1
      have e1:j1=j:=e1
      subst e1
      simp only [jk] at h3
      split at h3
      ·rename_i j' hj'
       obtain ⟨hlt,e⟩:=DI h3
       cases e
       have okt:=S.ok x _ j1 ht hj' (of_decide_eq_true hlt)
       refine ⟨_,a,ts.map T.val,BZ ht,rfl,.inl okt.1,fun hK hz=>?_⟩
       have R:Rs Z.p (Sh (tnM m) τ) H H j1 0 (.lst a ts):=⟨Same.refl _,okt,fun b m'=>.inr ⟨x,_,j1,ht,hj',of_decide_eq_true hlt,m'⟩,by rw [T.adr_zero]; simp,T.nd_zero _⟩
       refine IX S (Fm hK R hj1 (by simpa using hz)) c2 h2 hj (fun τ' H' S' P'=>?_) hlg
       obtain ⟨d,hd,ed⟩:=AX hj'
       have hdd:d ≠ .dead:=fun w=>by subst w; subst ed; exact absurd (of_decide_eq_true hlt) (by decide)
       have hx':(Aq m g.sl .dead)[x]?=some d:=by
        have hlen:x < (Aq m g.sl .dead).length:=by rw [DC]; exact (aaq.mp hd).1
        rcases DL (aah hlen) with ⟨w,_⟩ | ⟨_,w⟩
        ·exact absurd w c5
        ·rw [aah hlen]
         rw [hd] at w
         exact w.symm
       refine ⟨S'.at (i:=x) (by rw [P'.wr x (fun w=>by rcases aaf.mp w with w | w; exact c5 w; exact c4 w)]; exact ht) hx' hdd,trivial⟩
      ·cases h3
     | _=>exact nE hlg
 ·cases hr
end
section
variable {p:Px} {H0:Hp} {A0:Addr->Prop} {m:Ms} {τ:Ft} {H H1:Hp}
theorem Kp {x:Nat} {s:Option T} (S:Sf p H0 A0 m τ H):Sf p H0 A0 (m.set x .dead) (τ.set x s) H:=by
 have back:∀ {i:Nat} {u:T} {d:Md},d ≠ .dead->(τ.set x s)[i]?=some (some u)->(m.set x .dead)[i]?=some d->τ[i]?=some (some u)/\m[i]?=some d:=by
  intro i u d nd e h
  rcases Af h with ⟨_,z⟩ | ⟨z1,z2⟩
  ·exact absurd z nd
  ·rcases Af e with ⟨z,_⟩ | ⟨_,e⟩
   ·exact absurd z z1
   ·exact ⟨e,z2⟩
 have no:∀ {k:Nat},Md.ow k ≠ .dead:=by intro k c; cases c
 have nb:∀ {k:Nat},Md.br k ≠ .dead:=by intro k c; cases c
 have lt:∀ {d:Md},d.tn < 90->d ≠ .dead:=fun l z=>by subst z; exact absurd l (by decide)
 refine ⟨by rw [aaB,aaB]; exact S.len,fun d hd=>?_,S.same,fun i t j e ej l=>?_,fun i t k a e hk q=>?_,fun a sh=>?_,fun i t k e hk=>?_,fun i j t u k d ne e hk e' hd nd a q=>?_,fun i j t u k k2 e hk e' hd a ts z=>?_⟩
 ·rcases ab2 hd with z | z
  ·exact S.small d z
  ·subst z; rfl
 ·obtain ⟨d,hd,rfl⟩:=AX ej
  obtain ⟨q1,q2⟩:=back (lt l) e hd
  exact S.ok i t _ q1 (AJ q2) l
 ·obtain ⟨q1,q2⟩:=back no e hk
  exact S.own i t k a q1 q2 q
 ·obtain ⟨i,t,j,e,ej,l,q⟩:=sh
  obtain ⟨d,hd,rfl⟩:=AX ej
  obtain ⟨q1,q2⟩:=back (lt l) e hd
  exact S.src a ⟨i,t,_,q1,AJ q2,l,q⟩
 ·obtain ⟨q1,q2⟩:=back no e hk
  exact S.nd i t k q1 q2
 ·obtain ⟨q1,q2⟩:=back no e hk
  obtain ⟨q3,q4⟩:=back nd e' hd
  exact S.sep i j t u k d ne q1 q2 q3 q4 nd a q
 ·obtain ⟨q1,q2⟩:=back no e hk
  obtain ⟨q3,q4⟩:=back nb e' hd
  exact S.top i j t u k k2 q1 q2 q3 q4 a ts z
end
noncomputable def OwnN (m:Ms) (τ:Ft) (I:List Nat) (a:Addr):Prop:=∃ (i:Nat) (t:T) (k:Nat),i ∉ I/\τ[i]?=some (some t)/\m[i]?=some (.ow k)/\a ∈ t.adr k
structure RO (p:Px) (m:Ms) (τ:Ft) (I:List Nat) (k:Nat) (H H':Hp) (ts:List T):Prop where
 same:Same H H'
 ok:T.Oks p H' ts
 src:∀ a ∈ T.rests ts 0,H a=none\/Sh (tnM m) τ a\/OwnN m τ I a
 new:∀ a ∈ T.adrs ts k,(H a=none/\∃ vs,H' a=some (.lst vs))\/OwnN m τ I a
 nd:T.Nds ts k
section
variable {p:Px} {H0:Hp} {A0:Addr->Prop} {m:Ms} {τ:Ft} {H H1 H2:Hp}
theorem OwnN.own {I:List Nat} {a:Addr} (h:OwnN m τ I a):Own m τ a:=let ⟨i,t,k,_,e,q,z⟩:=h; ⟨i,t,k,e,q,z⟩
theorem Rq {I:List Nat} {k:Nat}:RO p m τ I k H H []:=⟨Same.refl _,trivial,by simp [T.rests],by simp [T.adrs],by simp [T.Nds,T.adrs]⟩
theorem Rr {I:List Nat} {i k k2:Nat} {t:T} {ts:List T} (S:Sf p H0 A0 m τ H) (ht:τ[i]?=some (some t)) (hm:m[i]?=some (.ow k)) (hi:i ∉ I) (r:RO p m τ (i :: I) k2 H H2 ts):RO p m τ I (min k k2) H H2 (t :: ts):=by
 have no:∀ {k:Nat},Md.ow k ≠ .dead:=by intro k c; cases c
 have okt:=S.at ht hm no
 have mono:∀ {a:Addr},OwnN m τ (i :: I) a->OwnN m τ I a:=fun ⟨j,u,kj,n,e,q,z⟩=>⟨j,u,kj,fun w=>n (aaa _ w),e,q,z⟩
 have sm:0 < k/\k < 90:=of_decide_eq_true (S.small _ (aae hm))
 refine ⟨r.same,⟨okt.same r.same,r.ok⟩,fun a q=>?_,fun a q=>?_,T.nds_cons.mpr ⟨T.nd_le t (aaZ ..) (S.nd i t k ht hm),T.nds_le (aaV ..) r.nd,fun a q q'=>?_,fun a q q'=>?_⟩⟩
 ·simp only [T.rests,aaf] at q
  rcases q with q | q
  ·rcases (T.all_iff t k).mp q with z | z
   ·exact .inr (.inr ⟨i,t,k,hi,ht,hm,z⟩)
   ·exact .inr (.inl ⟨i,t,k,ht,AJ hm,sm.2,z⟩)
  ·rcases r.src a q with z | z | z
   ·exact .inl z
   ·exact .inr (.inl z)
   ·exact .inr (.inr (mono z))
 ·simp only [T.adrs,aaf] at q
  rcases q with q | q
  ·exact .inr ⟨i,t,k,hi,ht,hm,T.adr_le t (aaZ ..) q⟩
  ·obtain ⟨u,hu,q⟩:=T.mem_adrs.mp q
   exact (r.new a (T.mem_adrs.mpr ⟨u,hu,T.adr_le u (aaV ..) q⟩)).imp id mono
 ·have q1:=T.adr_le t (aaZ k k2) q
  have o:Own m τ a:=⟨i,t,k,ht,hm,q1⟩
  rcases r.src a q' with z | z | ⟨j,u,kj,n,e,w,z⟩
  ·obtain ⟨_,vs,e⟩:=S.ownOk o
   rw [e] at z; cases z
  ·exact S.disj o z
  ·have ne:i ≠ j:=fun y=>n (by rw [y]; exact aac ..)
   exact S.sep i j t u k _ ne ht hm e w no a q1 ((T.all_iff u kj).mpr (.inl z))
 ·obtain ⟨u,hu,q⟩:=T.mem_adrs.mp q
  rcases r.new a (T.mem_adrs.mpr ⟨u,hu,T.adr_le u (aaV ..) q⟩) with z | ⟨j,u,kj,n,e,w,z⟩
  ·exact okt.dom q' z.1
  ·have ne:j ≠ i:=fun y=>n (by rw [y]; exact aac ..)
   exact S.sep j i u t kj _ ne e w ht hm no a z q'
theorem Rt {I:List Nat} {k k2:Nat} {t:T} {ts:List T} (S:Sf p H0 A0 m τ H) (R:Rs p (Sh (tnM m) τ) H H1 0 k t) (r:RO p m τ I k2 H1 H2 ts):RO p m τ I (min k k2) H H2 (t :: ts):=by
 have R2:=R.fwd r.same
 refine ⟨R2.same,⟨R2.ok,r.ok⟩,fun a q=>?_,fun a q=>?_,T.nds_cons.mpr ⟨T.nd_le t (aaZ ..) R.nd,T.nds_le (aaV ..) r.nd,fun a q q'=>?_,fun a q q'=>?_⟩⟩
 ·simp only [T.rests,aaf] at q
  rcases q with q | q
  ·exact (R.src a q).imp id .inl
  ·exact (r.src a q).imp R.same.free id
 ·simp only [T.adrs,aaf] at q
  rcases q with q | q
  ·exact .inl (R2.new a (T.adr_le t (aaZ ..) q))
  ·obtain ⟨u,hu,q⟩:=T.mem_adrs.mp q
   exact (r.new a (T.mem_adrs.mpr ⟨u,hu,T.adr_le u (aaV ..) q⟩)).imp (fun z=>⟨R.same.free z.1,z.2⟩) id
 ·have n1:=R.new a (T.adr_le t (aaZ ..) q)
  rcases r.src a q' with z | z | z
  ·obtain ⟨vs,e⟩:=n1.2
   rw [e] at z; cases z
  ·exact S.ok.dom z n1.1
  ·obtain ⟨_,vs,e⟩:=S.ownOk z.own
   rw [n1.1] at e; cases e
 ·obtain ⟨u,hu,q⟩:=T.mem_adrs.mp q
  rcases r.new a (T.mem_adrs.mpr ⟨u,hu,T.adr_le u (aaV ..) q⟩) with z | z
  ·exact R.ok.dom q' z.1
  ·rcases R.src a q' with y | y
   ·obtain ⟨_,vs,e⟩:=S.ownOk z.own
    rw [e] at y; cases y
   ·exact S.disj z.own y
end
noncomputable def lRO (Z:Zx) (m:Ms) (τ:Ft) (I:List Nat) (es:Es):TA:=fun σ H Q=>σ=vτ τ/\Sf Z.p Z.H0 Z.A0 m τ H/\∃ k,rkT m I es=some k/\Lg Z.p Z.EX σ (evs es (dτ τ)) H (fun ds=>∀ ts H',T.dats ts=ds->RO Z.p m τ I k H H' ts->Q (ts.map T.val) H')
section
variable {Z:Zx} {m:Ms} {τ:Ft} {H:Hp} {D:Ends} {σ:L2.St}
theorem Pz {es:Es} (hl:es.len<=1000) (h:lS Z (.retT es) D σ H):∃ m τ,QF (lRO Z m τ [] es) σ H D.rt:=by
 obtain ⟨τ,m,r,rfl,S,hr,h⟩:=h
 simp only [msS] at hr
 obtain ⟨k,hk,hr⟩:=bS hr
 obtain ⟨⟨c1,c2⟩,rfl⟩:=AC hr
 simp only [ex] at h
 refine ⟨m,τ,rfl,S,k,hk,(h.lg S c2).mono (Same.refl _) fun ds e h ts H1 hts R=>⟨?_,fun a ha=>?_⟩⟩
 ·have:=BM _ _ _ e
  rw [aab,<- Ag,hts,this]
  exact aaD hl (by decide)
 ·have sm:Same H1 (L2.upd H1 a (.tup (ts.map T.val))):=fun a' u e=>by
   rw [L2.Ar (fun z=>by subst z; rw [ha] at e; cases e)]; exact e
  refine h (.tup a ts) _ (by simp [T.dat,hts]) ⟨S.same.trans (R.same.trans sm),⟨L2.AW ..,R.ok.same sm⟩,fun b q=>?_,fun b q=>?_,T.nds_le c1 R.nd⟩
  ·rcases R.src b q with z | z | z
   ·exact .inl (S.same.free z)
   ·exact S.src b z
   ·exact .inl (S.ownOk z.own).1
  ·obtain ⟨u,hu,q⟩:=T.mem_adrs.mp q
   rcases R.new b (T.mem_adrs.mpr ⟨u,hu,T.adr_le u c1 q⟩) with ⟨z,vs,e⟩ | z
   ·exact ⟨S.same.free z,vs,sm _ _ e⟩
   ·obtain ⟨z1,vs,e⟩:=S.ownOk z.own
    exact ⟨z1,vs,sm _ _ (R.same _ _ e)⟩
end
section
variable {Z:Zx} {D:Ends} {X:Cx} {σ:L2.St} {H:Hp}
theorem GL (m:Ms) (x:Nat):AB (m.set x .dead)=(AB m).set x .dead:=by
 unfold AB
 rw [ab6]
theorem JH (m:Ms):AB (AB m)=AB m:=by
 unfold AB
 rw [aaM]
 apply aaN
 intro d _
 cases d <;> rfl
theorem HK {m:Ms} {τ:Ft} {x:Nat} {s:Option T} (hx:m.set x .dead=m):Stp m m [x] τ (τ.set x s) H H:=by
 refine ⟨fun b w e _=>e,fun b o=>?_,fun j hj=>?_⟩
 ·obtain ⟨j,w,kj,e1,e2,e3⟩:=o
  by_cases z:j=x
  ·subst z
   have hl:=(aaq.mp e2).1
   rw [<- hx,aa8 hl] at e2
   cases e2
  ·rw [aap (fun w=>z w.symm)] at e1
   exact .inl ⟨j,w,kj,e1,e2,e3⟩
 ·have:x ≠ j:=fun z=>hj (by simp [z])
  rw [aap this]
theorem Ru {p:Px} {H0:Hp} {A0:Addr->Prop} {m:Ms} {τ:Ft} {H H1:Hp} {y:Nat} {t:T} {q:List (Bool × Int)} {a:Addr} {ts us:List T} (S:Sf p H0 A0 m τ H) (s:Same H H1) (hx:τ[y]?=some (some t)) (hm:m[y]?=some (.ow 2)) (hq:AH q t=some (.lst a ts)) (hl:lnP q=1) (hkb:AB m=m) (hus:T.Oks p H1 us)
  (src:∀ b ∈ T.rests us 0,(H0 b=none\/A0 b)/\¬ Own m τ b) :
  ∃ t',CY (.lst a us) q t=some t'/\t'.val=t.val/\Sf p H0 A0 m (τ.set y (some t')) (L2.upd H1 a (.lst (us.map T.val)))/\Stp m m [y] τ (τ.set y (some t')) H (L2.upd H1 a (.lst (us.map T.val))):=by
 have hm1:∀ (j:Nat) (d:Md),m[j]?=some d->d ≠ .dead->m[j]?=some d/\(q ≠ []->∀ k2,d ≠ .br k2):=by
  intro j d hd nd
  refine ⟨hd,fun _=>?_⟩
  rw [<- hkb] at hd
  rcases GK hd with y | ⟨y1,y2⟩
  ·exact absurd y nd
  ·exact y2
 have e0:2 - 1 - lnP q=0:=by omega
 refine IQ (F:=fun _=>False) (N:=fun b=>b ∈ T.rests us 0) S s hx hm hq (by omega) hus (fun _ z=>z.elim) (fun b z=>?_) (fun b z=>?_) ?_ (fun _ z=>z.elim) (fun _ z=>z.elim) (fun _ z=>z.elim)
  (fun b z y=>(src b z).2 ⟨_,_,_,hx,hm,y⟩) (fun b z=>(src b z).1) rfl hm (fun j d _ hd nd=>hm1 j d hd nd) (fun j u d _ _ _ _ b z=>z.elim) (fun i u k' ne e hk b z y=>(src b z).2 ⟨i,u,k',e,hk,y⟩)
 ·rw [e0,T.adrs_zero] at z; cases z
 ·rw [e0] at z; exact .inr z
 ·rw [e0]; exact T.nds_zero _
theorem My {n i:Nat} (h:i < n):ixN n (i:Int)=some i:=by
 unfold ixN
 rw [if_pos (by omega),if_pos (by omega)]
 rfl
theorem PB {p:Px} {EX:EXT} {tn:List Nat} {e:E} {Q Q':VK} (h:lE p EX tn e σ H Q) (m:∀ v H1,Q v H1->Q' v H1):lE p EX tn e σ H Q':=by
 obtain ⟨τ,e1,F,j,k,hj,h⟩:=h
 exact ⟨τ,e1,F,j,k,hj,h.mono (Same.refl _) fun d _ q t H' ht R=>m _ _ (q t H' ht R)⟩
theorem PD {x z y:Nat} {e:E} (h:lS Z (.eachZ x z y e) D σ H):∃ (m:Ms) (a:Addr),σ[y]?=some (some (.ref a))/\lE Z.p Z.EX (tnM m) e σ H fun v H1=>∃ b xs ys,v=.ref b/\SqL X.K H1 a xs/\SqL X.K H1 b ys/\∃ W:Nat->Nat->L2.St->Hp->Prop,(∃ n,W 0 n σ H1)/\∀ i n σ H,W i n σ H->((Itz X.K a b).stop i H/\D.nx σ H)\/((Itz X.K a b).go i H/\∃ N:L2.St->Hp->Prop,(∀ σ' H',N σ' H'->∃ n',n' < n/\W (i + 1) n' σ' H') /\
   ∀ v H',(Itz X.K a b).yld i H v H'->lG X.K (.tp [x,z]) v σ H' fun σ2 H2=>∃ w,σ2[z]?=some (some w)/\QW X.K (KJ x) w σ2 H2 fun σ3 H3=>N σ3 H3):=by
 obtain ⟨τ,m,r,rfl,S,hr,h⟩:=h
 simp only [msS] at hr
 split at hr
 ·rename_i k hmy
  obtain ⟨⟨j1,k1⟩,hjk,hr⟩:=bS hr
  obtain ⟨⟨hk2,hxy,hzy,hxz,hxl,hzl,c1,c2,hle⟩,hr⟩:=AC hr
  cases hr
  subst hk2
  have c1:j1=0:=c1
  subst c1
  obtain ⟨m1,hm1⟩:∃ m1,m1=((AB m).set x .dead).set z .dead:=⟨_,rfl⟩
  rw [<- hm1] at hle h
  have hmy1:m1[y]?=some (.ow 2):=by rw [hm1,aap hzy,aap hxy]; exact HI hmy
  have hmz1:m1.set z .dead=m1:=by rw [hm1,List.set_set]
  have hmx1:m1.set x .dead=m1:=by rw [hm1,List.set_comm _ _ (fun w=>hxz w.symm),List.set_set]
  have hkb:AB m1=m1:=by rw [hm1,GL,GL,JH]
  simp only [ex] at h
  cases q:get (dτ τ) y with
  | exc c=>unfold get at q; split at q <;> cases q
  | bad=>rw [q] at h; exact nE h
  | ok d0 =>
   obtain ⟨t0,ht0,hd0⟩:=Di q
   rw [q] at h
   simp only [Res.out_ok] at h
   cases t0 with
   | lst a ts =>
    subst hd0
    have h:lOut Z m (some m1) [x,z,y] ((ev e (dτ τ)).out (dτ τ) fun d=>Fi d fun es=>BC x z y es 0 (dτ τ)) τ H D:=h
    refine ⟨m,a,by rw [BZ ht0]; rfl,τ,rfl,S.ok,0,k1,hjk,(h.lg S c2).mono (Same.refl _) fun d _ h t H1 ht R=>?_⟩
    subst ht
    cases t with
    | lst b us =>
     have h:lOut Z m (some m1) [x,z,y] (BC x z y (T.dats us) 0 (dτ τ)) τ H D:=h
     have h:=h.shift R.same
     have S1:Sf Z.p Z.H0 Z.A0 m τ H1:=S.grow R.same
     have okt0:=S1.at ht0 hmy (by intro c; cases c)
     refine ⟨b,_,_,rfl,.inl okt0.1,.inl R.ok.1,fun i n σ' H'=>n=us.length - i/\i<=us.length/\∃ τ' ts',σ'=vτ τ'/\Sf Z.p Z.H0 Z.A0 m1 τ' H'/\Stp m m1 [x,z,y] τ τ' H1 H'/\τ'[y]?=some (some (.lst a ts'))/\ts'.length=ts.length/\lOut Z m (some m1) [x,z,y] (BC x z y (T.dats (us.drop i)) i (dτ τ')) τ H1 D,
      ⟨us.length,by simp,aar _,τ,ts,rfl,S1.weak hle,Stp.refl _ hle (Same.refl _),ht0,rfl,by simpa using h⟩,?_⟩
     rintro i n σ' H' ⟨rfl,hi,τ',ts',rfl,S',P',hy',hl',h'⟩
     have srcE:∀ c ∈ (T.lst b us).rest 0,(Z.H0 c=none\/Z.A0 c)/\¬ Own m1 τ' c:=fun c hc=>by
      have f:=S.fine (R.src c hc)
      refine ⟨f.1,fun o=>?_⟩
      rcases P'.grow c o with q | q
      ·exact f.2 q
      ·exact R.ok.dom hc q
     have okE:(T.lst b us).Ok Z.p H':=R.ok.keep fun c w e q=>P'.keep c w e fun o=>by
      rcases q with q | q
      ·exact (S.fine (R.src c q)).2 o
      ·obtain ⟨_,vs,e2⟩:=S1.ownOk o
       rw [e2] at e
       exact q vs (Option.some.inj e).symm
     have okY:=S'.at hy' hmy1 (by intro c; cases c)
     have ey:(dτ τ')[y]?=some (some (.lst (T.dats ts'))):=by unfold dτ; rw [aan,hy']; rfl
     rcases abG i us.length with hlt | hge
     ·obtain ⟨ui,hui⟩:∃ ui,us[i]?=some ui:=⟨_,aah hlt⟩
      have hdrop:us.drop i=ui :: us.drop (i + 1):=by
       rw [abi hlt]; congr 1; exact (aaq.mp hui).2
      rw [hdrop] at h'
      simp only [T.dats,BC] at h'
      rw [ey] at h'
      simp only at h'
      rcases abG i ts'.length with hlt2 | hge2
      ·obtain ⟨ti,hti⟩:∃ ti,ts'[i]?=some ti:=⟨_,aah hlt2⟩
       have hvi:(ts'.map T.val)[i]?=some ti.val:=by rw [aan,hti]; rfl
       have hwi:(us.map T.val)[i]?=some ui.val:=by rw [aan,hui]; rfl
       rw [JG hti] at h'
       simp only at h'
       refine .inr ⟨⟨_,_,_,_,.inl okY.1,hvi,.inl okE.1,hwi⟩,fun σ2 H2=>∃ τ2 ts2,σ2=vτ τ2/\Sf Z.p Z.H0 Z.A0 m1 τ2 H2/\Stp m m1 [x,z,y] τ τ2 H1 H2/\τ2[y]?=some (some (.lst a ts2))/\ts2.length=ts.length/\lOut Z m (some m1) [x,z,y] (BC x z y (T.dats (us.drop (i + 1))) (i + 1) (dτ τ2)) τ H1 D,
        fun σ2 H2 q=>⟨us.length - (i + 1),by omega,rfl,hlt,q⟩,fun v H'' yl=>?_⟩
       obtain ⟨t,hn,rfl,yl⟩:=yl
       have yl:=yl _ _ _ _ (.inl okY.1) hvi (.inl okE.1) hwi
       cases ti with
       | lst l rts =>
        cases ui with
        | lst b' uts =>
         have h':lOut Z m (some m1) [x,z,y] (if (T.dats rts).length + (T.dats uts).length<=LIM then BC x z y (T.dats (us.drop (i + 1))) (i + 1) ((((dτ τ').set x (some (.lst (T.dats rts)))).set z (some (.lst (T.dats uts)))).set y (some (.lst ((T.dats ts').set i (.lst (T.dats uts)))))) else .bad) τ H1 D:=h'
         split at h'
         ·rename_i hLIM
          have s2:Same H' H'':=by subst yl; exact Same.new hn
          have okr:=T.oks_iff.mp okY.2 _ (aae hti)
          have oku:=T.oks_iff.mp okE.2 _ (aae hui)
          have hH:H'' t=some (.tup [(T.lst l rts).val,(T.lst b' uts).val]):=by subst yl; exact L2.AW
          refine Ii (p:=Z.p) (t:=.tup t [.lst l rts,.lst b' uts]) (τ':=(τ'.set x (some (.lst l rts))).set z (some (.lst b' uts))) ⟨hH,okr.same s2,oku.same s2,trivial⟩ rfl ?_
          obtain ⟨τ2,hτ2⟩:∃ τ2,τ2=(τ'.set x (some (.lst l rts))).set z (some (.lst b' uts)):=⟨_,rfl⟩
          rw [<- hτ2]
          have lx:x < τ'.length:=by rw [S'.len,hm1,aaB,aaB]; unfold AB; rw [aab]; exact hxl
          have lz:z < τ'.length:=by rw [S'.len,hm1,aaB,aaB]; unfold AB; rw [aab]; exact hzl
          have S2:Sf Z.p Z.H0 Z.A0 m1 τ2 H':=by
           have:=Kp (x:=z) (s:=some (.lst b' uts)) (Kp (x:=x) (s:=some (.lst l rts)) S')
           rw [hmx1,hmz1,<- hτ2] at this
           exact this
          have P2:Stp m1 m1 ([x] ++ [z]) τ' τ2 H' H':=by rw [hτ2]; exact (HK hmx1).trans (HK hmz1)
          have hy2:τ2[y]?=some (some (.lst a ts')):=by rw [hτ2,aap hzy,aap hxy]; exact hy'
          have hx2:τ2[x]?=some (some (.lst l rts)):=by rw [hτ2,aap (fun w=>hxz w.symm),aa8 lx]
          have hz2:τ2[z]?=some (some (.lst b' uts)):=by rw [hτ2,aa8 (by rw [aaB]; exact lz)]
          have hmem:l ∈ (T.lst a ts').adr 2:=aaa _ (T.mem_adrs.mpr ⟨_,aae hti,aac ..⟩)
          have hbm:b' ∈ (T.lst b us).rest 0:=aaa _ (T.mem_rests.mpr ⟨_,aae hui,aac ..⟩)
          have hne:l ≠ b':=fun w=>(srcE b' hbm).2 (w ▸ ⟨y,_,2,hy',hmy1,hmem⟩)
          have hpl:H'' l=some (.lst (rts.map T.val)):=s2 _ _ (IV okr.1 (S'.own y _ 2 l hy' hmy1 hmem).2)
          obtain ⟨t',p1,p2,S3,P3⟩:=Ru (q:=[(false,(i:Int))]) (us:=uts) S2 s2 hy2 hmy1 (by show (ixN ts'.length (i:Int)).bind (fun j=>(ts'[j]?).bind fun t=>AH [] t)=_; rw [My hlt2]; show (ts'[i]?).bind (fun t=>AH [] t)=_; rw [hti]; rfl) rfl hkb (T.oks_iff.mpr fun w hw=>(T.oks_iff.mp (oku.same s2).2 w hw)) (fun c hc=>by
           have hcm:c ∈ (T.lst b us).rest 0:=aaa _ (T.mem_rests.mpr ⟨_,aae hui,aaa _ hc⟩)
           have f:=srcE c hcm
           refine ⟨f.1,fun o=>?_⟩
           rcases P2.grow c o with q | q
           ·exact f.2 q
           ·exact okE.dom hcm q)
          refine ⟨.ref b',BZ hz2,.ref l,BZ hx2,l,b',rts.map T.val,uts.map T.val,rfl,rfl,hpl,.inl (oku.same s2).1,hne,?_,?_⟩
          ·rw [aab,aab]
           rw [Ag,Ag] at hLIM
           exact aaD hLIM (by decide)
          ·have et:t'=.lst a (ts'.set i (.lst l uts)):=by
            have p1:(ixN ts'.length (i:Int)).bind (fun j=>(ts'[j]?).bind fun t=>(CY (.lst l uts) [] t).map fun t'=>T.lst a (ts'.set j t'))=some t':=p1
            rw [My hlt2] at p1
            have p1:(ts'[i]?).bind (fun t=>(CY (.lst l uts) [] t).map fun t'=>T.lst a (ts'.set i t'))=some t':=p1
            rw [hti] at p1
            exact (Option.some.inj p1).symm
           subst et
           refine ⟨_,ts'.set i (.lst l uts),(IU hy2 p2).symm,S3,((P'.trans P2).trans P3).mono (fun j hj=>by simpa [aaf,aai,or_assoc,or_comm,or_left_comm] using hj),?_,by rw [aaB]; exact hl',?_⟩
           ·exact aa8 (aaq.mp hy2).1
           ·rw [Dj,hτ2,Dj,Dj]
            simp only [T.dat,Gd]
            exact h'
         ·exact nE h'
        | _=>exact nE h'
       | _=>exact nE h'
      ·refine .inl ⟨⟨_,_,.inl okY.1,.inl okE.1,.inl (by rw [aab]; exact hge2)⟩,?_⟩
       have en:(T.dats ts')[i]?=none:=List.getElem?_eq_none (by rw [Ag]; exact hge2)
       rw [en] at h'
       exact h' _ τ' H' rfl rfl S' P'
     ·refine .inl ⟨⟨_,_,.inl okY.1,.inl okE.1,.inr (by rw [aab]; exact hge)⟩,?_⟩
      rw [List.drop_eq_nil_of_le hge] at h'
      exact h' _ τ' H' rfl rfl S' P'
    | _=>exact nE h
   | _=>subst hd0; exact nE h
 ·cases hr
end
noncomputable def EZ:List (Bool × E)->List Nd1
 | []=>[]
 | (_,e) :: r=>e.need ++ EZ r
mutual
noncomputable def S.need:S->List Nd1
 | .asg _ _ e=>e.need
 | .dem _ _=>[]
 | .dead _=>[]
 | .asgT _ e=>e.need
 | .mut _ q _ es=>EZ q ++ es.need
 | .expr e=>e.need
 | .iff c a b=>c.need ++ (a.need ++ b.need)
 | .wh c b=>c.need ++ b.need
 | .for_ _ it b=>it.need ++ b.need
 | .ret e=>e.need
 | .retT es=>es.need
 | .eachZ _ _ _ e=>e.need
 | .raise c es=>.rs c :: es.need
noncomputable def Ss.need:Ss->List Nd1
 | .nil=>[]
 | .cons s r=>s.need ++ r.need
end
noncomputable def IY:Um->Str
 | .append => "append"
 | .extend => "extend"
 | .insert => "insert"
 | .pop => "pop"
 | .popAt => "pop"
 | .clear => "clear"
 | .reverse => "reverse"
noncomputable def NR:Um->Nat->Bool
 | .append,n=>decide (n=1)
 | .extend,n=>decide (n=1)
 | .popAt,n=>decide (n=1)
 | .insert,n=>decide (n=2)
 | _,n=>decide (n=0)
noncomputable def EC:Expr->Bool
 | .ListComp _ _ _ _=>false
 | .SetComp _ _ _ _=>false
 | .DictComp _ _ _ _ _=>false
 | _=>true
noncomputable def Fz:Expr->Bool
 | .Tuple _ _ _=>false
 | _=>true
noncomputable def IZ (c:CkC):List Expr->Bool
 | [.Name x _,.Name y _]=>(c.sc.names.lookup x==some .cell) || (c.sc.names.lookup y==some .cell)
 | _=>false
noncomputable def I0:Expr->Bool
 | .Call _ _ _ _=>false
 | _=>true
noncomputable def two:Expr->Option (Expr × Expr)
 | .Tuple es _ _=>match es with
  | [a,b]=>some (a,b)
  | _=>none
 | _=>none
noncomputable def nmOf:Expr->Option (Str × Pos)
 | .Name x p=>some (x,p)
 | _=>none
noncomputable def ED:Stmt->Option (Str × Str × List Expr × Nat × Pos × Str × Expr × Str × Str × Str)
 | .For (.Tuple [.Name a p1,.Name b p2] k q) (.Call (.Name f _) [.Name y p3,e] [] _) [.Assign [.Subscript (.Name a2 _) (.Slice none none none _) _] (.Name b2 _) _] [] _=>some (a,b,[.Name a p1,.Name b p2],k,q,y,e,f,a2,b2)
 | _=>none
theorem Mz {st:Stmt} {a b y f a2 b2:Str} {es:List Expr} {k:Nat} {q:Pos} {e:Expr} (h:ED st=some (a,b,es,k,q,y,e,f,a2,b2)):∃ p1 p2 p3 p4 p5 p6 p7 p8 p9 p10 p11,es=[.Name a p1,.Name b p2]/\st=.For (.Tuple [.Name a p1,.Name b p2] k q) (.Call (.Name f p4) [.Name y p3,e] [] p5) [.Assign [.Subscript (.Name a2 p6) (.Slice none none none p7) p8] (.Name b2 p9) p10] [] p11:=by
 unfold ED at h
 split at h
 ·cases h; exact ⟨_,_,_,_,_,_,_,_,_,_,_,rfl,rfl⟩
 ·cases h
mutual
noncomputable def ckS (c:CkC):S->Stmt->Bool
 | .asg x _ e,.Assign [.Name y _] e' _=>(c.N[x]?==some y) && EW c y && ckE c e e'
 | .asgT xs e,.Assign [.Tuple ts k q] e' _=>ckG c (.tp xs) (.Tuple ts k q) && ckE c e e' && (Fz e' || IZ c ts)
 | .mut x q u es,.Expr (.Call (.Attribute o name ap) xs [] cp) _=>Ge c x q.reverse o && (name==IY u) && ckEs c es xs && (ap.endLine==cp.line) && I0 o && decide (es.len < 20) && NR u es.len
 | .expr e,.Expr e' _=>ckE c e e' && EC e'
 | .iff t a b,.If t' a' b' _=>ckE c t t' && t.tst && ckSs c a a' && ckSs c b b'
 | .wh t b,.While t' b' [] _=>ckE c t t' && t.tst && ckSs c b b' && c.rz
 | .for_ g it b,.For tg it' b' [] _=>ckG c g tg && ckI c tg it it' && DJ it' && ckSs c b b' && c.rz && c.cm
 | .ret e,.Return (some e') _=>ckE c e e'
 | .retT es,.Return (some (.Tuple xs _ _)) _=>ckEs c es xs && decide (es.len<=1000)
 | .raise n es,.Raise (some (.Call (.Name x _) xs [] _)) none _=>(x==A8 n) && glB c.sc x && AT x && ckEs c es xs && decide (0 < es.len) && decide (es.len<=1000) && c.rz && c.cm
 | .eachZ x z y e,st=>match ED st with
  | some (a,b,es,k,q,yn,e',f,a2,b2)=>(f==("zip" : Str)) && glB c.sc f && ckG c (.tp [x,z]) (.Tuple es k q) && ckE c (.nm y) (.Name yn q) && ckE c e e' && Ap e' && (a2==a) && (b2==b) && BN c.sc a && AT a && BN c.sc b && AT b && (c.N[x]?==some a) && (c.N[z]?==some b) && c.rz && c.cm
  | none=>false
 | _,_=>false
noncomputable def ckSs (c:CkC):Ss->List Stmt->Bool
 | .nil,[]=>true
 | .cons (.dem _ _) r,st=>ckSs c r st
 | .cons (.dead _) r,st=>ckSs c r st
 | .cons s r,x :: xs=>ckS c s x && ckSs c r xs
 | _,_=>false
end
structure Cs (Z:Zx) (c:CkC) (lv:Nat) (X:Cx) (E:XK):Prop where
 ct:Ct Z.p c lv X Z.EX
 ex:c.rz=true->Z.EX=fun _=>E
 xw:c.rz=true->K0 X E
 po:c.rz=true->PassesOwn (model X.prog X.w) X.A X.env X.xe
 kind:c.sc.kind=.function
 stk:X.stack=X.env :: X.outer
 frm:X.env.frame=some X.env.locals
section
variable {Z:Zx} {c:CkC} {lv:Nat} {X:Cx} {E:XK} {pos:Pos}
theorem GM {e:Expr} {t:Option Expr} {n:Nat} {env:Env} (h:EC e=true):swapsWith e t n env=pure false:=by
 cases e <;> first | rfl | cases h
theorem JI {q:List (Bool × Pu.E)}:∀ e ∈ q,∀ n ∈ e.2.need,n ∈ EZ q:=by
 induction q with
 | nil=>intro e he; cases he
 | cons a q ih =>
  intro e he n hn
  obtain ⟨b,e0⟩:=a
  rcases aai.mp he with rfl | he
  ·exact aaz _ hn
  ·exact aak _ (ih e he n hn)
theorem NS (C:Cs Z c lv X E) {x k:Nat} {e:Pu.E} {y:Str} {py:Pos} {e':Expr} (hn:∀ n ∈ e.need,NeedOk Z.p lv X n) (h1:(c.N[x]?==some y)=true) (h2:EW c y=true) (h3:ckE c e e'=true):PS X (.Assign [.Name y py] e' pos) (lS Z (.asg x k e)):=by
 have hN:X.N[x]?=some y:=by rw [C.ct.N]; exact beq_iff_eq.mp h1
 obtain ⟨l1,l2⟩:=C.ct.loc h2
 intro pins s σ H D I h
 obtain ⟨τ,m,rfl,S,h⟩:=Ri h
 by_cases hc:EC e'=true
 ·exact LP C.ct.nd hN l1 (snd e C.ct (tn:=tnM m) e' hn h3).1 (GM hc) l2 pins s _ H D I h
 ·cases e' with
  | ListComp elt' gens scope q =>
   have hsw:∃ b:Bool,swapsWith (.ListComp elt' gens scope q) (some (.Name y py)) pos.line X.env=pure b:=⟨_,rfl⟩
   obtain ⟨b,hsw⟩:=hsw
   cases b with
   | false=>exact LP C.ct.nd hN l1 (snd e C.ct (tn:=tnM m) _ hn h3).1 hsw l2 pins s _ H D I h
   | true =>
    cases e with
    | comp0 nl fr g it elt =>
     obtain ⟨tg,iter,ifs,rfl,h3⟩:=GH h3
     obtain ⟨h3,g7⟩:=Aa h3
     obtain ⟨h3,g6⟩:=Aa h3
     obtain ⟨h3,g5⟩:=Aa h3
     obtain ⟨h3,g4⟩:=Aa h3
     obtain ⟨h3,g3⟩:=Aa h3
     obtain ⟨h3,g2⟩:=Aa h3
     obtain ⟨h3,g1⟩:=Aa h3
     obtain ⟨gc,g0⟩:=Aa h3
     cases ifs with
     | cons _ _=>cases g0
     | nil =>
     have g2:=of_decide_eq_true g2
     subst g2
     obtain ⟨Sc,nd⟩:=Os C.ct g1
     obtain ⟨n1,n2⟩:=AI hn
     refine Lb (C.ct.calm gc) Sc (sndI it C.ct (tn:=tnM m) iter n1 g4) (fun i hi=>of_decide_eq_true (aaw.mp g3 i hi)) (fun z=>⟨?_,?_⟩) (EY g5) C.ct.nd hN l1 l2 hsw pins s _ H D I h
     ·exact G9 (C.ct.blk nd z) g6
     ·exact (snd elt (C.ct.blk nd z) elt' (fun n m=>(n2 n m).blk) g7).1
    | _=>exact nF h3
  | SetComp _ _ _ _ =>
   cases e with
   | _=>exact nF h3
  | DictComp _ _ _ _ _ =>
   cases e with
   | _=>exact nF h3
  | _=>exact absurd rfl hc
theorem MA {ts:List Expr} {k:Nat} {q:Pos} {e':Expr} {env:Env} (h:Fz e'=true):swappedStores [.Tuple ts k q] e' env=pure none:=by
 cases e' <;> first | rfl | cases h
theorem NT (x:Str) (p:Pos):(Expr.Name x p).pos=p:=rfl
theorem MB {x y:Str} {px py q:Pos} {k:Nat} {e':Expr} {env:Env} (h:env.kindOf x=some .cell\/env.kindOf y=some .cell):swappedStores [.Tuple [.Name x px,.Name y py] k q] e' env=pure none:=by
 cases e' with
 | Tuple vs k2 q2 =>
  have key:([Expr.Name x px,.Name y py].filterMap fun | .Name id pos=>(if env.kindOf id==some .local && pos.line==px.line then some id else none) | _=>none).length ≠ 2:=by
   rcases h with h | h <;> simp only [abe,List.filterMap_nil,h] <;> simp <;> split <;> simp
  have key2:(([Expr.Name x px,.Name y py].filterMap fun | .Name id pos=>(if env.kindOf id==some .local && pos.line==px.line then some id else none) | _=>none).length != 2)=true:=by simpa using key
  unfold swappedStores
  simp only [aa2,List.length_nil,List.head?_cons,aaW,Option.getD_some,NT,aaK,Nat.reduceAdd,key2,Bool.true_or,if_true,pure_bind]
  split
  ·rfl
  ·split
   ·rfl
   ·exact if_pos (abW.mpr (.inl key2))
 | _=>rfl
theorem NU {c:CkC} {ts:List Expr} {k:Nat} {q:Pos} {e':Expr} {env:Env} (hs:env.scope=c.sc) (h:(Fz e' || IZ c ts)=true):swappedStores [.Tuple ts k q] e' env=pure none:=by
 rcases abW.mp h with h | h
 ·exact MA h
 ·unfold IZ at h
  split at h
  ·refine MB ?_
   rw [abW,beq_iff_eq,beq_iff_eq,<- hs] at h
   exact h
  ·cases h
theorem NV {ts:List Expr} {k:Nat} {q:Pos} {e':Expr} {env:Env} {n:Nat}:swapsWithSole [.Tuple ts k q] e' n env=pure false:=by
 cases e' <;> rfl
theorem MC (C:Cs Z c lv X E) {xs:List Nat} {e:Pu.E} {ts:List Expr} {k:Nat} {q:Pos} {e':Expr} (hn:∀ n ∈ e.need,NeedOk Z.p lv X n) (h1:ckG c (.tp xs) (.Tuple ts k q)=true) (h2:ckE c e e'=true) (h3:(Fz e' || IZ c ts)=true):PS X (.Assign [.Tuple ts k q] e' pos) (lS Z (.asgT xs e)):=by
 intro pins s σ H D I h
 obtain ⟨m,h⟩:=Pv (K:=X.K) h
 exact LO (snd e C.ct (tn:=tnM m) e' hn h2).1 (G9 C.ct h1) NV (NU C.ct.sc h3) rfl pins s σ H D I h
theorem MD (C:Cs Z c lv X E) {e:Pu.E} {e':Expr} (hn:∀ n ∈ e.need,NeedOk Z.p lv X n) (h1:ckE c e e'=true) (h2:EC e'=true):PS X (.Expr e' pos) (lS Z (.expr e)):=by
 intro pins s σ H D I h
 obtain ⟨m,h⟩:=Pw h
 exact Cg (snd e C.ct (tn:=tnM m) e' hn h1).1 (GM h2) pins s σ H D I h
theorem Gf {p:Px} {EX:EXT} {tn:List Nat} {K:Frag} {u:V->List V->Hp->VK->Prop} {x:Nat} {q:List (Bool × Pu.E)} {σ:L2.St} {H:Hp} {Q:Hp->Prop} (h:lPl p EX tn x q σ H fun v H1=>tyV K "list" v H1/\lEs p EX tn .nil σ H1 fun vs H2=>u v vs H2 fun _ H3=>Q H3) :
  lPl p EX tn x q σ H fun v H1=>tyV K "list" v H1/\u v [] H1 fun _ H3=>Q H3:=by
 obtain ⟨τ,t,is,s,e1,e2,e3,e4,e5,e6,e7,h⟩:=h
 refine ⟨τ,t,is,s,e1,e2,e3,e4,e5,e6,e7,fun H' s'=>?_⟩
 obtain ⟨h1,τ2,rfl,hF,j,k,hj,h2⟩:=h H' s'
 exact ⟨h1,h2 [] H' rfl ⟨Same.refl _,trivial,by simp [T.rests],by simp [T.adrs],by simp [T.Nds,T.adrs]⟩⟩
theorem ME {x:Nat} {rp:List (Bool × Pu.E)} {o:Expr} {name:Str} {env:Env} (h:Ge c x rp o=true):attributeBase o name env (eval o env)=eval o env:=by
 cases rp with
 | nil=>cases o <;> first | rfl | exact nF h
 | cons a r=>obtain ⟨b,e⟩:=a; cases o <;> first | rfl | exact nF h
theorem NW (C:Cs Z c lv X E) {x:Nat} {q:List (Bool × Pu.E)} {u:Um} {es:Es} {o:Expr} {xs:List Expr} {ap cp:Pos} (n1:∀ n ∈ EZ q,NeedOk Z.p lv X n) (n2:∀ n ∈ es.need,NeedOk Z.p lv X n)
  (h1:Ge c x q.reverse o=true) (h2:ckEs c es xs=true) (h3:(ap.endLine==cp.line)=true) (h5:NR u es.len=true):PS X (.Expr (.Call (.Attribute o (IY u) ap) xs [] cp) pos) (lS Z (.mut x q u es)):=by
 intro pins s σ H D I h
 obtain ⟨τ,m,r,rfl,S,hr,h⟩:=h
 have A:PE X o (lPl Z.p Z.EX (tnM m) x q):=by
  have A:=Ou C.ct (tn:=tnM m) (x:=x) (rp:=q.reverse) (o:=o) (fun e he n hn=>n1 n (JI e (abm.mp he) n hn)) h1
  rwa [List.reverse_reverse] at A
 have hb:∀ name:Str,attributeBase o name X.env (eval o X.env)=eval o X.env:=fun name=>ME h1
 obtain ⟨st,sl⟩:=Cj h2
 simp only [msS] at hr
 split at hr
 ·rename_i k hmx
  split at hr
  ·rename_i hc
   obtain ⟨c1,c2,c3⟩:=hc
   cases hmv:es.mvOf m with
   | some yk =>
    obtain ⟨y,ky⟩:=yk
    rw [hmv] at hr
    obtain ⟨⟨d1,d2,d3,d4⟩,rfl⟩:=AC hr
    subst d1
    have hq:q=[]:=by cases q with | nil=>rfl | cons _ _=>cases d4
    subst hq
    have hes:es=.cons (.nm y) .nil/\m[y]?=some (.ow ky):=by
     unfold Es.mvOf at hmv
     split at hmv
     ·split at hmv
      ·cases hmv; exact ⟨rfl,‹_›⟩
      ·cases hmv
     ·cases hmv
    obtain ⟨rfl,hmy⟩:=hes
    cases xs with
    | nil=>cases sl
    | cons a xr =>
     cases xr with
     | cons _ _=>cases sl
     | nil =>
      obtain ⟨g,_⟩:=Aa (show (ckE c (.nm y) a && Ap a && ckEs c .nil [])=true from h2)
      obtain ⟨g1,g2⟩:=Aa g
      cases a with
      | Name z pz =>
       obtain ⟨g,g5⟩:=Aa (show ((c.N[y]?==some z) && BN c.sc z && AT z)=true from g1)
       obtain ⟨g3,g4⟩:=Aa g
       obtain ⟨e1,e2⟩:=Bh g5
       have hv:PE X (.Name z pz) (KJ y):=CP (by rw [C.ct.N]; exact beq_iff_eq.mp g3) (C.ct.vis g4) e1 e2
       refine Cg (Gw PySem.F.plainAttrs_list PySem.F.slot_list_append PySem.F.type_list_append Ea A (Bz hv DW rfl) (hb _) rfl h3 rfl rfl) rfl pins s _ H D I ?_
       exact Rk (X:=X) S hmx hmy d2 (by simpa [lnE] using d3) rfl h
      | _=>exact nF g1
   | none =>
    rw [hmv] at hr
    obtain ⟨⟨j1,k1⟩,g1,hr⟩:=bS hr
    obtain ⟨hcc,rfl⟩:=AC hr
    have B:=(sndA es C.ct (tn:=tnM m) xs n2 h2).1
    have M:=Ps (X:=X) C.ct.K S hmx c1 c2 g1 hcc rfl h
    have one:∀ {y:Expr},Ap y=true->((backTo cp (starEach [y] X.env)).all (fun x=>!x.1) && (backToKw cp (keywordEach [] X.env)).all (fun x=>x.1.isSome) && decide ([y].length + ([]:List Keyword).length + (if ([]:List Keyword).isEmpty then 0 else 1) < 30))=true:=by
     intro y hy
     rw [Am hy]; rfl
    cases u with
    | append =>
     have h5:es.len=1:=of_decide_eq_true h5
     match xs,sl,st with
     | [y],_,st =>
      have hy:Ap y=true:=by simpa using st
      exact Cg (Gw PySem.F.plainAttrs_list PySem.F.slot_list_append PySem.F.type_list_append Ea A B (hb _) (one hy) h3 (Am hy) rfl) rfl pins s _ H D I M
     | [],sl,_=>rw [h5] at sl; cases sl
     | _ :: _ :: _,sl,_=>rw [h5] at sl; cases sl
    | extend =>
     have h5:es.len=1:=of_decide_eq_true h5
     match xs,sl,st with
     | [y],_,st =>
      have hy:Ap y=true:=by simpa using st
      exact Cg (Gw PySem.F.plainAttrs_list PySem.F.slot_list_extend PySem.F.type_list_extend Li A B (hb _) (one hy) h3 (Am hy) rfl) rfl pins s _ H D I M
     | [],sl,_=>rw [h5] at sl; cases sl
     | _ :: _ :: _,sl,_=>rw [h5] at sl; cases sl
    | popAt =>
     have h5:es.len=1:=of_decide_eq_true h5
     match xs,sl,st with
     | [y],_,st =>
      have hy:Ap y=true:=by simpa using st
      exact Cg (Gw PySem.F.plainAttrs_list PySem.F.slot_list_pop PySem.F.type_list_pop Nl A B (hb _) (one hy) h3 (Am hy) rfl) rfl pins s _ H D I M
     | [],sl,_=>rw [h5] at sl; cases sl
     | _ :: _ :: _,sl,_=>rw [h5] at sl; cases sl
    | insert =>
     have h5:es.len=2:=of_decide_eq_true h5
     match xs,sl,st with
     | [y,y'],_,st =>
      have hy:Ap y=true/\Ap y'=true:=by simpa using st
      exact Cg (Gw PySem.F.plainAttrs_list PySem.F.slot_list_insert PySem.F.type_list_insert Mf A B (hb _) (by rw [Am hy.1,Am hy.2]; rfl) h3 (Am hy.1) (by rw [Am hy.2]; rfl)) rfl pins s _ H D I M
     | [],sl,_=>rw [h5] at sl; cases sl
     | [_],sl,_=>rw [h5] at sl; cases sl
     | _ :: _ :: _ :: _,sl,_=>rw [h5] at sl; cases sl
    | pop =>
     have h5:es.len=0:=of_decide_eq_true h5
     rw [h5] at sl
     cases xs with
     | cons _ _=>cases sl
     | nil =>
      cases es with
      | cons _ _=>cases h5
      | nil =>
       refine Cg (IC PySem.F.plainAttrs_list PySem.F.slot_list_pop PySem.F.type_list_pop QN A (hb _) h3) rfl pins s _ H D I ?_
       exact Gf M
    | clear =>
     have h5:es.len=0:=of_decide_eq_true h5
     rw [h5] at sl
     cases xs with
     | cons _ _=>cases sl
     | nil =>
      cases es with
      | cons _ _=>cases h5
      | nil =>
       refine Cg (IC PySem.F.plainAttrs_list PySem.F.slot_list_clear PySem.F.type_list_clear Nm A (hb _) h3) rfl pins s _ H D I ?_
       exact Gf M
    | reverse =>
     have h5:es.len=0:=of_decide_eq_true h5
     rw [h5] at sl
     cases xs with
     | cons _ _=>cases sl
     | nil =>
      cases es with
      | cons _ _=>cases h5
      | nil =>
       refine Cg (IC PySem.F.plainAttrs_list PySem.F.slot_list_reverse PySem.F.type_list_reverse KZ A (hb _) h3) rfl pins s _ H D I ?_
       exact Gf M
  ·cases hr
 ·cases hr
end
section
variable {Z:Zx} {c:CkC} {lv:Nat} {X:Cx} {E:XK} {pos:Pos}
theorem NX (C:Cs Z c lv X E) {e:Pu.E} {e':Expr} (hn:∀ n ∈ e.need,NeedOk Z.p lv X n) (h1:ckE c e e'=true):PS X (.Return (some e') pos) (lS Z (.ret e)):=by
 intro pins s σ H D I h
 rcases Rl h with ⟨i,t,rfl,hs,hq⟩ | ⟨m,h⟩
 ·cases e' with
  | Name y q =>
   obtain ⟨g,h3⟩:=Aa (show ((c.N[i]?==some y) && BN c.sc y && AT y)=true from h1)
   obtain ⟨h1,h2⟩:=Aa g
   obtain ⟨d1,d2⟩:=Bh h3
   exact Iu (CP (by rw [C.ct.N]; exact beq_iff_eq.mp h1) (C.ct.vis h2) d1 d2) pins s σ H D I ⟨_,hs,hq⟩
  | _=>exact nF h1
 ·exact Iu (snd e C.ct (tn:=tnM m) e' hn h1).1 pins s σ H D I h
theorem Lj (C:Cs Z c lv X E) {n:Nat} {es:Es} {xs:List Expr} {np cp:Pos} (hn:∀ n ∈ es.need,NeedOk Z.p lv X n) (hr:NeedOk Z.p lv X (.rs n)) (h1:glB c.sc (A8 n)=true) (h2:AT (A8 n)=true) (h3:ckEs c es xs=true) (h4:0 < es.len) (h5:es.len<=1000) (hrz:c.rz=true) (hcm:c.cm=true) :
  PS X (.Raise (some (.Call (.Name (A8 n) np) xs [] cp)) none pos) (lS Z (.raise n es)):=by
 intro pins s σ H D I h
 obtain ⟨m,h⟩:=NQ h
 obtain ⟨r1,r2,r3⟩:=hr
 obtain ⟨s1,s2⟩:=Cj h3
 have A:=(sndA es C.ct (tn:=tnM m) xs hn h3).1
 cases xs with
 | nil=>rw [<- s2] at h4; cases h4
 | cons x xr =>
  rw [aaI,aaj] at s1
  refine Nt (C.xw hrz) (C.ct.calm hcm) (C.ct.gl h1) r2 r3 A (Bh h2).1 (Am s1.1) (A5 s1.2) pins s σ H D I ?_
  obtain ⟨τ,e,hF,j,k,hj,h⟩:=h
  refine ⟨τ,e,hF,j,k,hj,h.mono (Same.refl _) fun ds _ hd ts H1 ht R=>?_⟩
  obtain ⟨q1,q2⟩:=hd ts H1 ht R
  refine ⟨by rw [q1]; exact aaD h5 (by decide),?_⟩
  have:=q2 r1
  rw [C.ex hrz] at this
  exact this
end
section
variable {Z:Zx} {c:CkC} {lv:Nat} {X:Cx} {E:XK} {pos:Pos}
theorem Lk (C:Cs Z c lv X E) {m:Ms} {τ:Ft}:∀ (es:Es) {I:List Nat} (xs:List Expr),(∀ n ∈ es.need,NeedOk Z.p lv X n)->ckEs c es xs=true->PA X xs (lRO Z m τ I es)
 | .nil,I,xs,hn,h=>by
  cases xs with
  | nil =>
   refine PA.mono DW fun σ H Q h=>?_
   obtain ⟨rfl,S,k,hk,h⟩:=h
   exact h [] H rfl Rq
  | cons _ _=>exact nF h
 | .cons e r,I,xs,hn,h=>by
  cases xs with
  | nil=>exact nF h
  | cons x xs =>
   obtain ⟨h,h3⟩:=Aa (show (ckE c e x && Ap x && ckEs c r xs)=true from h)
   obtain ⟨h1,h2⟩:=Aa h
   obtain ⟨n1,n2⟩:=AI hn
   cases q:Ik m e with
   | some ik =>
    obtain ⟨i,k⟩:=ik
    obtain ⟨rfl,hm⟩:=NN q
    cases x with
    | Name y py =>
     obtain ⟨g,g3⟩:=Aa (show ((c.N[i]?==some y) && BN c.sc y && AT y)=true from h1)
     obtain ⟨g1,g2⟩:=Aa g
     obtain ⟨d1,d2⟩:=Bh g3
     refine PA.mono (Bz (CP (by rw [C.ct.N]; exact beq_iff_eq.mp g1) (C.ct.vis g2) d1 d2) (Lk C (m:=m) (τ:=τ) r (I:=i :: I) xs n2 h3) (Am h2)) fun σ H Q h=>?_
     obtain ⟨rfl,S,k0,hk,h⟩:=h
     rw [rkT,q] at hk
     simp only at hk
     split at hk
     ·cases hk
     ·rename_i hi
      obtain ⟨k2,hk2,hk⟩:=bS hk
      cases hk
      simp only [evs,ev] at h
      cases q2:get (dτ τ) i with
      | exc c=>unfold get at q2; split at q2 <;> cases q2
      | bad=>rw [q2] at h; exact nE h
      | ok d =>
       obtain ⟨t,ht,rfl⟩:=Di q2
       rw [q2,Res.bind_ok] at h
       refine ⟨_,BZ ht,rfl,S,k2,hk2,h.bind.mono (Same.refl _) fun ds _ h ts H1 hts R=>?_⟩
       exact h (t :: ts) H1 (by simp [T.dats,hts]) (Rr S ht hm hi R)
    | _=>exact nF h1
   | none =>
    refine PA.mono (Bz (snd e C.ct (tn:=tnM m) x n1 h1).1 (Lk C (m:=m) (τ:=τ) r (I:=I) xs n2 h3) (Am h2)) fun σ H Q h=>?_
    obtain ⟨rfl,S,k0,hk,h⟩:=h
    rw [rkT,q] at hk
    simp only at hk
    obtain ⟨⟨j1,k1⟩,hj,hk⟩:=bS hk
    split at hk
    ·rename_i hz
     have hz:j1=0:=hz
     subst hz
     obtain ⟨k2,hk2,hk⟩:=bS hk
     cases hk
     simp only [evs] at h
     refine l1 S.ok hj h fun d t H1 ht R h=>?_
     subst ht
     refine ⟨rfl,S.grow R.same,k2,hk2,h.bind.mono R.same fun ds _ h ts H2 hts R2=>?_⟩
     exact h (t :: ts) H2 (by simp [T.dats,hts]) (Rt S R R2)
    ·cases hk
end
mutual
theorem SZ {Z:Zx} {c:CkC} {lv:Nat} {X:Cx} {E:XK} (C:Cs Z c lv X E):∀ (s:S) (st:Stmt),(∀ n ∈ s.need,NeedOk Z.p lv X n)->ckS c s st=true->PS X st (lS Z s)
 | .asg x k e,st,hn,h=>by
  cases st with
  | Assign ts e' q =>
   match ts,h with
   | [t],h =>
    cases t with
    | Name y py =>
     obtain ⟨h,h3⟩:=Aa (show ((c.N[x]?==some y) && EW c y && ckE c e e')=true from h)
     obtain ⟨h1,h2⟩:=Aa h
     exact NS C hn h1 h2 h3
    | _=>exact nF h
   | [],h=>exact nF h
   | t :: _ :: _,h=>cases t <;> exact nF h
  | _=>exact nF h
 | .dem _ _,st,hn,h=>by cases st <;> exact nF h
 | .dead _,st,hn,h=>by cases st <;> exact nF h
 | .asgT xs e,st,hn,h=>by
  cases st with
  | Assign ts e' q =>
   match ts,h with
   | [t],h =>
    cases t with
    | Tuple es k py =>
     obtain ⟨h,h3⟩:=Aa (show (ckG c (.tp xs) (.Tuple es k py) && ckE c e e' && (Fz e' || IZ c es))=true from h)
     obtain ⟨h1,h2⟩:=Aa h
     exact MC C hn h1 h2 h3
    | _=>exact nF h
   | [],h=>exact nF h
   | t :: _ :: _,h=>cases t <;> exact nF h
  | _=>exact nF h
 | .mut x q u es,st,hn,h=>by
  cases st with
  | Expr v q2 =>
   cases v with
   | Call f xs ks cp =>
    cases f with
    | Attribute o name ap =>
     cases ks with
     | nil =>
      obtain ⟨h,h8⟩:=Aa (show (Ge c x q.reverse o && (name==IY u) && ckEs c es xs && (ap.endLine==cp.line) && I0 o && decide (es.len < 20) && NR u es.len)=true from h)
      obtain ⟨h,h7⟩:=Aa h
      obtain ⟨h,h5⟩:=Aa h
      obtain ⟨h,h4⟩:=Aa h
      obtain ⟨h,h3⟩:=Aa h
      obtain ⟨h1,h2⟩:=Aa h
      cases beq_iff_eq.mp h2
      obtain ⟨n1,n2⟩:=AI hn
      exact NW C n1 n2 h1 h3 h4 h8
     | cons _ _=>exact nF h
    | _=>exact nF h
   | _=>exact nF h
  | _=>exact nF h
 | .expr e,st,hn,h=>by
  cases st with
  | Expr v q2 =>
   obtain ⟨h1,h2⟩:=Aa (show (ckE c e v && EC v)=true from h)
   exact MD C hn h1 h2
  | _=>exact nF h
 | .iff t a b,st,hn,h=>by
  cases st with
  | If t' a' b' q =>
   obtain ⟨h,h4⟩:=Aa (show (ckE c t t' && t.tst && ckSs c a a' && ckSs c b b')=true from h)
   obtain ⟨h,h3⟩:=Aa h
   obtain ⟨h1,h2⟩:=Aa h
   obtain ⟨n1,n2⟩:=AI hn
   obtain ⟨n2,n3⟩:=AI n2
   intro pins s σ H D I h
   obtain ⟨m,h⟩:=Rm h
   exact R4 ((snd t C.ct (tn:=tnM m) t' n1 h1).2 h2) (sndSs C a a' n2 h3) (sndSs C b b' n3 h4) pins s σ H D I h
  | _=>exact nF h
 | .wh t b,st,hn,h=>by
  cases st with
  | While t' b' el q =>
   cases el with
   | nil =>
    obtain ⟨h,hrz⟩:=Aa (show (ckE c t t' && t.tst && ckSs c b b' && c.rz)=true from h)
    obtain ⟨h,h3⟩:=Aa h
    obtain ⟨h1,h2⟩:=Aa h
    obtain ⟨n1,n2⟩:=AI hn
    intro pins s σ H D I h
    obtain ⟨m,h⟩:=Sr h
    exact Nb (C.po hrz) ((snd t C.ct (tn:=tnM m) t' n1 h1).2 h2) (sndSs C b b' n2 h3) pins s σ H D I h
   | cons _ _=>exact nF h
  | _=>exact nF h
 | .for_ g it b,st,hn,h=>by
  cases st with
  | For tg it' b' el q =>
   cases el with
   | nil =>
    obtain ⟨h,hcm⟩:=Aa (show (ckG c g tg && ckI c tg it it' && DJ it' && ckSs c b b' && c.rz && c.cm)=true from h)
    obtain ⟨h,hrz⟩:=Aa h
    obtain ⟨h,h4⟩:=Aa h
    obtain ⟨h,h3⟩:=Aa h
    obtain ⟨h1,h2⟩:=Aa h
    obtain ⟨n1,n2⟩:=AI hn
    have B:=sndSs C b b' n2 h4
    intro pins s σ H D I h
    rcases Rp (K:=X.K) (X:=X) h with ⟨m,h⟩ | ⟨x,rfl,v,a,xs,e1,rfl,sq,hW⟩
    ·exact Iw (C.po hrz) (C.ct.calm hcm) (sndI it C.ct (tn:=tnM m) it' n1 h2) (G9 C.ct h1) B (EY h3) pins s σ H D I h
    ·cases it' with
     | Name y q' =>
      obtain ⟨g,g3⟩:=Aa (show ((c.N[x]?==some y) && BN c.sc y && AT y)=true from h2)
      obtain ⟨g1,g2⟩:=Aa g
      obtain ⟨d1,d2⟩:=Bh g3
      refine Iw (C.po hrz) (C.ct.calm hcm) (IM (CP (by rw [C.ct.N]; exact beq_iff_eq.mp g1) (C.ct.vis g2) d1 d2)) (G9 C.ct h1) B (EY h3) pins s σ H D I ?_
      exact ⟨_,e1,a,rfl,.inl ⟨xs,sq,hW C.ct.K⟩⟩
     | _=>exact nF h2
   | cons _ _=>exact nF h
  | _=>exact nF h
 | .ret e,st,hn,h=>by
  cases st with
  | Return v q =>
   cases v with
   | some e'=>exact NX C hn h
   | none=>exact nF h
  | _=>exact nF h
 | .eachZ x z y e,st,hn,h=>by
  cases w0:ED st with
  | none =>
   have h:(match ED st with | some (a,b,es,k,q,yn,e',f,a2,b2)=>(f==("zip" : Str)) && glB c.sc f && ckG c (.tp [x,z]) (.Tuple es k q) && ckE c (.nm y) (.Name yn q) && ckE c e e' && Ap e' && (a2==a) && (b2==b) && BN c.sc a && AT a && BN c.sc b && AT b && (c.N[x]?==some a) && (c.N[z]?==some b) && c.rz && c.cm | none=>false)=true:=h
   rw [w0] at h; cases h
  | some w =>
   obtain ⟨a,b,es,k,q,yn,e',f,a2,b2⟩:=w
   have h:(match ED st with | some (a,b,es,k,q,yn,e',f,a2,b2)=>(f==("zip" : Str)) && glB c.sc f && ckG c (.tp [x,z]) (.Tuple es k q) && ckE c (.nm y) (.Name yn q) && ckE c e e' && Ap e' && (a2==a) && (b2==b) && BN c.sc a && AT a && BN c.sc b && AT b && (c.N[x]?==some a) && (c.N[z]?==some b) && c.rz && c.cm | none=>false)=true:=h
   rw [w0] at h
   obtain ⟨p1,p2,p3,p4,p5,p6,p7,p8,p9,p10,p11,rfl,rfl⟩:=Mz w0
   obtain ⟨h,hcm⟩:=Aa (show ((f==("zip" : Str)) && glB c.sc f && ckG c (.tp [x,z]) (.Tuple [.Name a p1,.Name b p2] k q) && ckE c (.nm y) (.Name yn q) && ckE c e e' && Ap e' && (a2==a) && (b2==b) && BN c.sc a && AT a && BN c.sc b && AT b && (c.N[x]?==some a) && (c.N[z]?==some b) && c.rz && c.cm)=true from h)
   obtain ⟨h,hrz⟩:=Aa h
   obtain ⟨h,h14⟩:=Aa h
   obtain ⟨h,h13⟩:=Aa h
   obtain ⟨h,h12⟩:=Aa h
   obtain ⟨h,h11⟩:=Aa h
   obtain ⟨h,h10⟩:=Aa h
   obtain ⟨h,h9⟩:=Aa h
   obtain ⟨h,h8⟩:=Aa h
   obtain ⟨h,h7⟩:=Aa h
   obtain ⟨h,h6⟩:=Aa h
   obtain ⟨h,h5⟩:=Aa h
   obtain ⟨h,h4⟩:=Aa h
   obtain ⟨h,h3⟩:=Aa h
   obtain ⟨h1,h2⟩:=Aa h
   cases beq_iff_eq.mp h1
   cases beq_iff_eq.mp h7
   cases beq_iff_eq.mp h8
   intro pins s σ H D I h
   obtain ⟨g,g3⟩:=Aa (show ((c.N[y]?==some yn) && BN c.sc yn && AT yn)=true from h4)
   obtain ⟨g1,g2⟩:=Aa g
   obtain ⟨d1,d2⟩:=Bh g3
   obtain ⟨d3,d4⟩:=Bh h10
   obtain ⟨d5,d6⟩:=Bh h12
   obtain ⟨m,a0,e1,hE⟩:=PD (X:=X) h
   refine Iw (C.po hrz) (C.ct.calm hcm) (Ra (C.ct.gl h2) (C.ct.blt _ (by simp [D1])) (Bz (CP (by rw [C.ct.N]; exact beq_iff_eq.mp g1) (C.ct.vis g2) d1 d2) (Bz (snd e C.ct (tn:=tnM m) e' hn h5).1 DW (Am h6)) rfl) (by show _ :: _=_; rw [Am h6]; rfl) (Am h6)) (G9 C.ct h3)
    (OD (LO (CP (by rw [C.ct.N]; exact beq_iff_eq.mp h14) (C.ct.vis h11) d5 d6) (QX (CP (by rw [C.ct.N]; exact beq_iff_eq.mp h13) (C.ct.vis h9) d3 d4)))) (by intro _; rfl) pins s σ H D I ?_
   refine ⟨_,e1,?_⟩
   exact PB hE fun v H1 ⟨b,xs,ys,ev,sq1,sq2,W⟩=>⟨a0,b,by rw [ev],xs,ys,sq1,sq2,fun _=>W⟩
 | .retT es,st,hn,h=>by
  cases st with
  | Return v q =>
   cases v with
   | none=>exact nF h
   | some e' =>
    cases e' with
    | Tuple xs k2 p2 =>
     obtain ⟨h1,h2⟩:=Aa (show (ckEs c es xs && decide (es.len<=1000))=true from h)
     intro pins s σ H D I hq
     obtain ⟨m,τ,hq⟩:=Pz (of_decide_eq_true h2) hq
     exact Iu (L4 (Lk C es xs hn h1)) pins s σ H D I hq
    | _=>exact nF h
  | _=>exact nF h
 | .raise n es,st,hn,h=>by
  cases st with
  | Raise v w q =>
   cases v with
   | none=>exact nF h
   | some v =>
    cases v with
    | Call f xs ks cp =>
     cases f with
     | Name x np =>
      cases ks with
      | nil =>
       cases w with
       | none =>
        obtain ⟨h,hcm⟩:=Aa (show ((x==A8 n) && glB c.sc x && AT x && ckEs c es xs && decide (0 < es.len) && decide (es.len<=1000) && c.rz && c.cm)=true from h)
        obtain ⟨h,hrz⟩:=Aa h
        obtain ⟨h,h6⟩:=Aa h
        obtain ⟨h,h5⟩:=Aa h
        obtain ⟨h,h4⟩:=Aa h
        obtain ⟨h,h3⟩:=Aa h
        obtain ⟨h1,h2⟩:=Aa h
        cases beq_iff_eq.mp h1
        exact Lj C (fun n m=>hn n (aaa _ m)) (hn _ (aac ..)) h2 h3 h4 (of_decide_eq_true h5) (of_decide_eq_true h6) hrz hcm
       | some _=>exact nF h
      | cons _ _=>exact nF h
     | _=>exact nF h
    | _=>exact nF h
  | _=>exact nF h
theorem sndSs {Z:Zx} {c:CkC} {lv:Nat} {X:Cx} {E:XK} (C:Cs Z c lv X E):∀ (s:Ss) (st:List Stmt),(∀ n ∈ s.need,NeedOk Z.p lv X n)->ckSs c s st=true->PSs X st (lSs Z s)
 | .nil,st,hn,h=>by
  cases st with
  | nil=>exact fun pins s σ H D I h=>OC pins s σ H D I (Ro h)
  | cons _ _=>exact nF h
 | .cons s r,st,hn,h=>by
  obtain ⟨n1,n2⟩:=AI hn
  have skip:(∃ x k,s=.dem x k)\/(∃ x,s=.dead x)->ckSs c r st=true->PSs X st (lSs Z (.cons s r)):=fun hs h=>PSs.mono (sndSs C r st n2 h) fun D σ H q=>Py hs q
  by_cases hd:(∃ x k,s=.dem x k)\/(∃ x,s=.dead x)
  ·refine skip hd ?_
   rcases hd with ⟨x,k,rfl⟩ | ⟨x,rfl⟩
   ·exact h
   ·exact h
  ·cases st with
   | nil=>cases s <;> first | exact nF h | exact absurd (.inl ⟨_,_,rfl⟩) hd | exact absurd (.inr ⟨_,rfl⟩) hd
   | cons x xs =>
    have h:(ckS c s x && ckSs c r xs)=true:=by
     cases s <;> first | exact h | exact absurd (.inl ⟨_,_,rfl⟩) hd | exact absurd (.inr ⟨_,rfl⟩) hd
    obtain ⟨h1,h2⟩:=Aa h
    exact PSs.mono (M9 (SZ C s x n1 h1) (sndSs C r xs n2 h2)) fun D σ H q=>Rn q
end
structure Lw where
 p:Px
 P:Program
 w:World
 mg:Str->Option Value
 base:Heap
structure Lw.Ok (L:Lw):Prop where
 blt:∀ y ∈ D1,L.mg y=none
 bt:∀ y ∈ (["bool", "dict", "ValueError"]:List Str),L.mg y=none
 kx:Kx L.p
noncomputable def NY (L:Lw) (F:Fn):Prop:=∃ ps:List Str,ps.length=F.ar/\Has L.P L.w L.p.K L.mg L.base F.name F.lv ps (spF L.p F)
noncomputable def NeedG (L:Lw) (lv:Nat):Nd1->Prop
 | .fn F=>F.lv<=lv/\NY L F
 | .cl n=>L.p.has n=true/\L.mg (A8 n)=some (.ref (L.p.cl n))
 | .rs n=>L.p.has n=true/\nsIn L.p.K mainGlobals (A8 n)=some (some (.ref (L.p.cl n)))/\excIn L.p.K (L.p.cl n) F8 "ValueError.__new__" = true
 | .gl x d=>∃ u,L.mg x=some u/\RelV (dT d).val u
noncomputable def AllN (f:Nd1->Prop):List Nd1->Prop
 | []=>True
 | n :: r=>f n/\AllN f r
theorem AllN.mem {f:Nd1->Prop}:∀ {l:List Nd1},AllN f l->∀ n ∈ l,f n
 | [],_,n,h=>by cases h
 | m :: r,h,n,hn=>by
  rcases aai.mp hn with rfl | hn
  ·exact h.1
  ·exact AllN.mem h.2 n hn
noncomputable def As (name:Str) (ar lv dep n:Nat) (body:Ss):Fn:=⟨name,ar,lv,dep,fun ds=>if ds.length=ar then run n body ds else .bad⟩
theorem Al {x:Str} {ar lv dep n:Nat} {b:Ss} {ds:List D} (h:ds.length=ar):(As x ar lv dep n b).den ds=run n b ds:=if_pos h
noncomputable def m0 (ar n:Nat):Ms:=aam ar .sh ++ aam (n - ar) .dead
noncomputable def τ0 (n:Nat) (ts:List T):Ft:=ts.map some ++ aam (n - ts.length) none
theorem vτ0 (N:List Str) (ts:List T):vτ (τ0 N.length ts)=L2.AL N (ts.map T.val):=by
 unfold vτ τ0 L2.AL
 rw [aao,aaM,aaM,abb,aab]
 rfl
theorem dτ0 (n:Nat) (ts:List T):dτ (τ0 n ts)=Pu.AL n (T.dats ts):=by
 unfold dτ τ0 Pu.AL
 rw [aao,aaM,T.dats_map,aaM,abb,aab]
 rfl
theorem Ja {ar n i:Nat} {d:Md} (h:(m0 ar n)[i]?=some d):(i < ar/\d=.sh)\/(ar<=i/\d=.dead):=by
 unfold m0 at h
 by_cases hi:i < ar
 ·rw [aaL (by simpa using hi),aaO,if_pos hi] at h
  exact .inl ⟨hi,(Option.some.inj h).symm⟩
 ·rw [aay (by simpa using hi),aaO] at h
  split at h
  ·exact .inr ⟨aba hi,(Option.some.inj h).symm⟩
  ·cases h
theorem Kq {n i:Nat} {ts:List T} {t:T} (h:(τ0 n ts)[i]?=some (some t)):t ∈ ts:=by
 unfold τ0 at h
 have:=aae h
 rw [aaf] at this
 rcases this with z | z
 ·obtain ⟨u,hu,e⟩:=aaA.mp z
  cases e; exact hu
 ·have:=(abH.mp z).2; cases this
theorem Kr {p:Px} {H:Hp}:∀ {ts:List T},T.Oks p H ts->∀ t ∈ ts,t.Ok p H
 | [],_,t,h=>by cases h
 | u :: r,h,t,ht=>by
  rcases aai.mp ht with rfl | ht
  ·exact h.1
  ·exact Kr h.2 t ht
theorem sf0 {p:Px} {H:Hp} {ts:List T} {n ar:Nat} (ok:T.Oks p H ts) (hl:ts.length=ar) (hn:ar<=n):Sf p H (fun a=>a ∈ T.rests ts 0) (m0 ar n) (τ0 n ts) H:=by
 have noOw:∀ {i k:Nat},(m0 ar n)[i]? ≠ some (.ow k):=fun {i k} h=>by
  rcases Ja h with ⟨_,z⟩ | ⟨_,z⟩ <;> cases z
 refine ⟨?_,fun d hd=>?_,Same.refl _,fun i t j h1 h2 h3=>Kr ok t (Kq h1),fun i t k a h1 h2=>absurd h2 noOw,?_,fun i t k h1 h2=>absurd h2 noOw,fun i j t u k d h0 h1 h2=>absurd h2 noOw,fun i j t u k k2 h1 h2=>absurd h2 noOw⟩
 ·unfold τ0 m0
  simp [hl]
 ·obtain ⟨i,hi⟩:=act hd
  rcases Ja hi with ⟨_,rfl⟩ | ⟨_,rfl⟩ <;> rfl
 ·rintro a ⟨i,t,j,h1,h2,h3,h4⟩
  obtain ⟨d,h5,rfl⟩:=AX h2
  right
  refine T.mem_rests.mpr ⟨t,Kq h1,?_⟩
  rcases Ja h5 with ⟨_,rfl⟩ | ⟨_,rfl⟩
  ·exact h4
  ·exact absurd h3 (by decide)
theorem NeedG.to {L:Lw} {lv:Nat} {n:Nd1} (h:NeedG L lv n) {X:Cx} (e1:X.prog=L.P) (e2:X.w=L.w) (e3:X.K=L.p.K) (e4:X.mg=L.mg) (e5:X.base=L.base):NeedOk L.p lv X n:=by
 cases n with
 | fn F =>
  refine ⟨h.1,?_⟩
  unfold K9
  rw [e1,e2,e3,e4,e5]
  exact h.2
 | cl n=>show _/\_; rw [e4]; exact h
 | rs n=>show _/\_/\_; rw [e3]; exact h
 | gl x d=>show ∃ u,_; rw [e4]; exact h
theorem MF {L:Lw} (O:L.Ok) {x:Str} {st:Stmt} {N ps:List Str} {ar lv dep:Nat} {body:Ss} {f:Addr} {fd:FuncData} (D:Fun L.p.K x x st f fd) (S:FnScope N ps (An st)) (har:ps.length=ar)
  (hck:ckSs ⟨N,An st,true,true,true⟩ body (AR st)=true) (hms:(msSs (aam N.length .dead) dep body (m0 ar N.length)).isSome=true) (hn:AllN (NeedG L lv) body.need):FnOk L.P L.w L.p.K L.mg L.base (CXe L.P L.w) (lv + 1) f fd ps (spF L.p (As x ar (lv + 1) dep N.length body)):=by
 have hpl:ps.length<=N.length:=by have:=congrArg aa9 S.pre; rw [abj] at this; omega
 refine Fun.okX D S (fun vs H Q E h=>?_) fun f cdv A outer s H vs Q E hr hsp=>?_
 ·obtain ⟨ts,rfl,_,h,_⟩:=h
  rw [aab,h]; exact har.symm
 ·obtain ⟨ts,rfl,ok,hl,h⟩:=hsp
  have hl:ts.length=ar:=hl
  obtain ⟨r,hr'⟩:=aat.mp hms
  let Z:Zx:=⟨L.p,H,fun a=>a ∈ T.rests ts 0,fun _=>E,aam N.length .dead,dep⟩
  have C:Cs Z ⟨N,An st,true,true,true⟩ lv (BL (CXe L.P L.w) L.P L.w L.p.K L.mg L.base N x (An st) f cdv A outer s H E) E:=by
   refine ⟨⟨rfl,rfl,rfl,S.nd,fun _=>rfl,fun _=>hr,hr.units,O.blt,O.bt,?_,fun _ _=>rfl,O.kx⟩,fun _=>rfl,fun _=>Nr fun _ _ _ h=>h,fun _=>PassesOwn.leaving,S.kind,rfl,rfl⟩
   intro pins σ H' s' e s'' I h
   exact Si (fun _ _ _ h=>h) pins σ H' s' e s'' I h
  refine ⟨_,sndSs C body (AR st) (fun n hnm=>(hn.mem n hnm).to rfl rfl rfl rfl rfl) hck,τ0 N.length ts,m0 ar N.length,r,(vτ0 N ts).symm,sf0 ok hl (by omega),hr',?_⟩
  have h:match (if (T.dats ts).length=ar then run N.length body (T.dats ts) else .bad) with
   | .ok d=>∀ t H',t.dat=d->Rs L.p (fun a=>a ∈ T.rests ts 0) H H' 0 dep t->Q t.val H'
   | .exc c=>L.p.has c=true->∀ H',Same H H'->E (.ref (L.p.cl c)) none H'
   | .bad=>False:=h
  rw [if_pos (by rw [T.dats_map,aab]; exact hl)] at h
  unfold run at h
  rw [dτ0]
  cases q:exs body (Pu.AL N.length (T.dats ts)) with
  | nxt δ =>
   rw [q] at h
   intro m' τ' H' e1 e2 S' P'
   exact h .non H' rfl (Rs.scal S'.same rfl)
  | ret d =>
   rw [q] at h
   exact h
  | exc c δ =>
   rw [q] at h
   intro hc τ' H' e S' P'
   exact h hc H' S'.same
  | bad=>rw [q] at h; exact h.elim
theorem PF {L:Lw} (O:L.Ok) {x:Str} {st:Stmt} {N ps:List Str} {ar lv dep:Nat} {body:Ss} (D:Df L.p.K L.mg x st ps) (S:FnScope N ps (An st)) (har:ps.length=ar)
  (hck:ckSs ⟨N,An st,true,true,true⟩ body (AR st)=true) (hms:(msSs (aam N.length .dead) dep body (m0 ar N.length)).isSome=true) (hn:AllN (NeedG L lv) body.need):NY L (As x ar (lv + 1) dep N.length body):=by
 obtain ⟨f,fd,F,m,b⟩:=D
 exact ⟨ps,har,f,fd,MF O F S har hck hms hn,m,F.kp,b⟩
noncomputable def S0:Value->Bool
 | .type x=>x == "list"
 | _=>false
noncomputable def noL (K:Frag):Bool:=K.all fun e=>!S0 e.2.cls
theorem MG {a:Addr} {o:Obj}:∀ {K:Frag},K.lookup a=some o->(a,o) ∈ K
 | [],h=>by cases h
 | (b,u) :: r,h=>by
  by_cases e:a=b
  ·subst e
   rw [List.lookup_cons_self] at h
   cases h
   exact aac
  ·have:(a==b)=false:=by simpa using e
   rw [List.lookup_cons,this] at h
   exact aaa _ (MG h)
theorem Rv {K:Frag} (h:noL K=true) {a:Addr} {o:Obj} (e:K.lookup a=some o):o.cls ≠ .type "list" := fun z=>by
 have:=aaw.mp h (a,o) (MG e)
 rw [z] at this
 cases this
noncomputable def spL (K:Frag):Sp:=fun vs H Q E=>∃ (a:Addr) (ns:List Int),vs=[.ref a]/\ns.length<=63/\SqL K H a (ns.map V.int)/\∀ H',Q (.bl true) H'
theorem Jb:∀ ns:List Int,(ns.map T.int).map T.val=ns.map V.int
 | []=>rfl
 | n :: r=>by rw [aaF,aaF,aaF,Jb r]; rfl
theorem Jc:∀ ns:List Int,T.dats (ns.map T.int)=ns.map D.int
 | []=>rfl
 | n :: r=>by rw [aaF,aaF,T.dats,Jc r]; rfl
theorem Ks {p:Px} {H:Hp}:∀ ns:List Int,T.Oks p H (ns.map T.int)
 | []=>trivial
 | n :: r=>⟨trivial,Ks r⟩
theorem Rw {P:Program} {w:World} {K:Frag} {mg:Str->Option Value} {base:Heap} {p:Px} {F:Fn} {f:Addr} {fd:FuncData} {ps:List Str} (hF:FnOk P w K mg base (CXe P w) F.lv f fd ps (spF p F)) (hp:p.K=K) (ha:F.ar=1) (hK:noL K=true)
  (hd:∀ ns:List Int,ns.length<=63->F.den [.lst (ns.map .int)]=.ok (.bl true)):FnOk P w K mg base (CXe P w) F.lv f fd ps (spL K):=by
 refine hF.imp fun vs H Q E h=>?_
 obtain ⟨a,ns,rfl,hl,hS,q⟩:=h
 have hR:Rd H a (.lst (ns.map V.int)):=by
  rcases hS with h | ⟨o,its,n,e,c,_⟩
  ·exact h
  ·exact absurd c (Rv hK e)
 refine ⟨[.lst a (ns.map T.int)],rfl,⟨⟨by rw [Jb]; exact hR,Ks ns⟩,trivial⟩,ha.symm,?_⟩
 have e:T.dats [T.lst a (ns.map T.int)]=[.lst (ns.map .int)]:=by
  show [D.lst (T.dats (ns.map T.int))]=_
  rw [Jc]
 rw [e,hd ns hl]
 intro t H' ht R
 cases t <;> first | cases ht | skip
 exact q H'
theorem Su {l:PySem.W.OpenLaw} {k:Nat} {q:Program} {loose:List Str} {XP:(Str->Option Value)->Heap->Prop} {YP:World->Heap->Prop} {d:DefRec} {K:Params->PySem.W.Frag} {x:Str} (hn:l.most=some 63) (hdf:d.params.defaults=[]) (hr:Room k callerA)
  (hY:∀ (w:World) (h:Heap),YP w h->(K w.params).In h)
  (F:∀ (w:World) (mg:Str->Option Value) (fa:Addr) (h:Heap),(K w.params).In h->h.Ns mainGlobals mg->mg d.name=some (.ref fa) ->
   ∃ fd:FuncData,(∀ (s:Shared) (u:Value),BindsTo s fd ⟨[u],[]⟩ [(x,u)])/\∀ base:Heap,(K w.params).In base->base.Ns mainGlobals mg->FnOk l.prog w (K w.params) mg base (CXe l.prog w) k fa fd [x] (spL (K w.params))) :
  PySem.W.WalkO q loose XP YP l.row.toRowW d [] (fun f vs=>PySem.call f vs) :=
 L2.OM (n:=63) (k:=k) (x:=x) (CX:=fun w=>CXe l.prog w) (sp:=fun w=>spL (K w.params)) hn (by decide) hdf hr hY F (fun _ _ a ns hl _ hS=>⟨a,ns,rfl,hl,hS,fun _=>rfl⟩) fun w H s e s' h=>by
  obtain ⟨_,_,_,_,_,_,_,_,_,_,_,_,_,_,_,_,_,_,z⟩:=h
  exact z
noncomputable def At (K:Frag) (x:Str) (st:Stmt):Prop:=∃ (f:Addr) (oc:Value) (od an:Option Addr) (sl:Array (Option Value)) (kV dc pm cd ct:Value),nsIn K mainGlobals x=some (some (.ref f))/\K.lookup f=some ⟨oc,od,.func (fnOf x x (BY st) (AR st) (An st) .none kV dc pm an cd ct),sl⟩/\codeIn K cd x=true/\keepIn K (.ref f)=true
theorem Av {K:Frag} {x:Str} {st:Stmt} {f:Addr} {oc:Value} {od an:Option Addr} {sl:Array (Option Value)} {kV dc pm cd ct:Value} (a:nsIn K mainGlobals x=some (some (.ref f))) (l:K.lookup f=some ⟨oc,od,.func (fnOf x x (BY st) (AR st) (An st) .none kV dc pm an cd ct),sl⟩) (c:codeIn K cd x=true) (k:keepIn K (.ref f)=true):At K x st:=⟨f,oc,od,an,sl,kV,dc,pm,cd,ct,a,l,c,k⟩
theorem Aj {K:Frag} {h:Heap} {mg:Str->Option Value} {x:Str} {st:Stmt} {ps:List Str} (X:K.In h) (G:h.Ns mainGlobals mg) (t:At K x st) (hb:∀ (kV doc pm:Value) (an:Option Addr) (cdv ct:Value) (us:List Value),us.length=ps.length->bindArgs (fnOf x x (BY st) (AR st) (An st) .none kV doc pm an cdv ct) ⟨us,[]⟩=pure (ps.zip us)):Df K mg x st ps:=by
 obtain ⟨f,oc,od,an,sl,kV,dc,pm,cd,ct,a,l,c,k⟩:=t
 exact Sj X G a l c k hb
theorem ba1 {fd:FuncData} {a0:Str} (h:∀ u0:Value,bindArgs fd ⟨[u0],[]⟩=pure [(a0,u0)]):∀ us:List Value,us.length=([a0]:List Str).length->bindArgs fd ⟨us,[]⟩=pure (([a0]:List Str).zip us)
 | [u0],_=>h u0
theorem ba2 {fd:FuncData} {a0 a1:Str} (h:∀ u0 u1:Value,bindArgs fd ⟨[u0,u1],[]⟩=pure [(a0,u0),(a1,u1)]):∀ us:List Value,us.length=([a0,a1]:List Str).length->bindArgs fd ⟨us,[]⟩=pure (([a0,a1]:List Str).zip us)
 | [u0,u1],_=>h u0 u1
theorem ba3 {fd:FuncData} {a0 a1 a2:Str} (h:∀ u0 u1 u2:Value,bindArgs fd ⟨[u0,u1,u2],[]⟩=pure [(a0,u0),(a1,u1),(a2,u2)]):∀ us:List Value,us.length=([a0,a1,a2]:List Str).length->bindArgs fd ⟨us,[]⟩=pure (([a0,a1,a2]:List Str).zip us)
 | [u0,u1,u2],_=>h u0 u1 u2
theorem ba4 {fd:FuncData} {a0 a1 a2 a3:Str} (h:∀ u0 u1 u2 u3:Value,bindArgs fd ⟨[u0,u1,u2,u3],[]⟩=pure [(a0,u0),(a1,u1),(a2,u2),(a3,u3)]):∀ us:List Value,us.length=([a0,a1,a2,a3]:List Str).length->bindArgs fd ⟨us,[]⟩=pure (([a0,a1,a2,a3]:List Str).zip us)
 | [u0,u1,u2,u3],_=>h u0 u1 u2 u3
structure ClsF (K:Frag) (x:Str) (C:Addr):Prop where
 q:nsIn K mainGlobals x=some (some (.ref C))
 x:XCls K C
 t:∀ T ∈ (["int", "bool", "str", "list", "tuple", "dict"]:List String),kitOne K (.ref C) (.type T)=some false
 v:kitOne K (.ref C) (.type "ValueError")=some true
theorem Rx {K:Frag} {x:Str} {C:Addr} {cd:ClassData} (q:nsIn K mainGlobals x=some (some (.ref C)))
  (ga:findIn K (.ref C) "__getattribute__" = some (some (.builtin "BaseException.__getattribute__"))) (gn:findIn K (.ref C) "__getattr__" = some none) (sb:subIn K (.ref C) (.type "BaseException")=some true)
  (cl:findIn K (.ref C) "__class__" = some (some (.builtin "object.__class__"))) (mo:mroIn K C (.type "object")=some true) (ty:typeIn K (.ref C)=some (.type "type")) (cc:clsIn K C=some cd)
  (t1:kitOne K (.ref C) (.type "int")=some false) (t2:kitOne K (.ref C) (.type "bool")=some false) (t3:kitOne K (.ref C) (.type "str")=some false) (t4:kitOne K (.ref C) (.type "list")=some false) (t5:kitOne K (.ref C) (.type "tuple")=some false) (t6:kitOne K (.ref C) (.type "dict")=some false)
  (v:kitOne K (.ref C) (.type "ValueError")=some true):ClsF K x C:=by
 refine ⟨q,⟨ga,gn,sb,cl,mo,ty,by rw [cc]; rfl⟩,fun T hT=>?_,v⟩
 simp only [aai,abk,or_false] at hT
 rcases hT with rfl | rfl | rfl | rfl | rfl | rfl <;> assumption
noncomputable abbrev Cs':=List (Nat × Addr)
noncomputable def clA:Cs'->Nat->Addr
 | [],_=>0
 | (c,a) :: r,n=>if n=c then a else clA r n
noncomputable def CK:Cs'->Nat->Bool
 | [],_=>false
 | (c,_) :: r,n=>n==c || CK r n
noncomputable def AllC {α:Type} (f:α->Prop):List α->Prop
 | []=>True
 | q :: r=>f q/\AllC f r
theorem AllC.mem {α:Type} {f:α->Prop}:∀ {l:List α},AllC f l->∀ n ∈ l,f n
 | [],_,n,h=>by cases h
 | m :: r,h,n,hn=>by
  rcases aai.mp hn with rfl | hn
  ·exact h.1
  ·exact AllC.mem h.2 n hn
theorem Dm:∀ {cs:Cs'} {n:Nat},CK cs n=true->(n,clA cs n) ∈ cs
 | [],n,h=>by cases h
 | (c,a) :: r,n,h=>by
  unfold CK at h
  unfold clA
  by_cases e:n=c
  ·subst e; rw [if_pos rfl]; exact aac
  ·rw [if_neg e]
   have:(n==c)=false:=by simpa using e
   rw [this,Bool.false_or] at h
   exact aaa _ (Dm h)
theorem Sv {K:Frag} {cs:Cs'} (h9:CK cs 999=false) (h:AllC (fun q=>ClsF K (A8 q.1) q.2) cs) (y:AllC (fun q=>AllC (fun r=>kitOne K (.ref q.2) (.ref r.2)=some (isa q.1 r.1)) cs) cs):Kx ⟨K,clA cs,CK cs⟩ :=
 ⟨h9,fun c hc=>(h.mem _ (Dm hc)).x,fun c hc=>(h.mem _ (Dm hc)).t,fun c hc=>(h.mem _ (Dm hc)).v,fun c d hc hd=>(y.mem _ (Dm hc)).mem _ (Dm hd)⟩
theorem Sw {K:Frag} {P:Program} {w:World} {mg:Str->Option Value} {base h:Heap} {cs:Cs'} (h9:CK cs 999=false) (X:K.In h) (G:h.Ns mainGlobals mg) (nb:AllC (fun y=>nsIn K mainGlobals y=some none) (D1 ++ (["bool", "dict", "ValueError"]:List Str))) (hc:AllC (fun q=>ClsF K (A8 q.1) q.2) cs) (y:AllC (fun q=>AllC (fun r=>kitOne K (.ref q.2) (.ref r.2)=some (isa q.1 r.1)) cs) cs):Lw.Ok ⟨⟨K,clA cs,CK cs⟩,P,w,mg,base⟩ :=
 ⟨fun z hz=>mg_none_of X G (nb.mem z (aaz _ hz)),fun z hz=>mg_none_of X G (nb.mem z (aak _ hz)),Sv h9 hc y⟩
noncomputable def dfB (N:List Str) (ps:List Str) (st:Stmt) (b:Ss) (dep:Nat):Bool :=
 decide ((An st).kind=.function) && !(An st).isCoroutine && !(An st).isGenerator && decide N.Nodup && decide (N.take ps.length=ps) && ps.all (fun x=>decide ((An st).names.lookup x=some .local\/(An st).names.lookup x=some .cell)) && (An st).names.all (fun y=>decide (y.2 ≠ .free)) && ckSs ⟨N,An st,true,true,true⟩ b (AR st) && (msSs (aam N.length .dead) dep b (m0 ps.length N.length)).isSome
theorem EF {N ps:List Str} {st:Stmt} {b:Ss} {dep:Nat} (h:dfB N ps st b dep=true):FnScope N ps (An st)/\ckSs ⟨N,An st,true,true,true⟩ b (AR st)=true/\(msSs (aam N.length .dead) dep b (m0 ps.length N.length)).isSome=true:=by
 unfold dfB at h
 simp only [aaj,decide_eq_true_eq,aaw,ab1] at h
 obtain ⟨⟨⟨⟨⟨⟨⟨⟨h1,h2⟩,h3⟩,h4⟩,h5⟩,h6⟩,h7⟩,h8⟩,h9⟩:=h
 exact ⟨⟨h1,h2,h3,h4,h5,h6,h7⟩,h8,h9⟩
theorem Ak {L:Lw} (O:L.Ok) {x:Str} {st:Stmt} {N ps:List Str} {lv dep:Nat} {b:Ss} (D:Df L.p.K L.mg x st ps) (h:dfB N ps st b dep=true) (hn:AllN (NeedG L lv) b.need):NY L (As x ps.length (lv + 1) dep N.length b) :=
 PF O D (EF h).1 rfl (EF h).2.1 (EF h).2.2 hn
theorem PH {l:PySem.W.OpenLaw} {w:World} {K:Frag} {h:Heap} {mg:Str->Option Value} {fa:Addr} {cs:Cs'} {x:Str} {st:Stmt} {N:List Str} {lv dep:Nat} {b:Ss} (X:K.In h) (G:h.Ns mainGlobals mg) (hfa:mg "law" = some (.ref fa)) (t:At K "law" st) (hck:dfB N [x] st b dep=true)
  (hb:∀ (kV dc pm:Value) (an:Option Addr) (cd ct:Value) (s:Shared) (v:Value),BindsTo s (fnOf "law" "law" (BY st) (AR st) (An st) .none kV dc pm an cd ct) ⟨[v],[]⟩ [(x,v)])
  (O:∀ base:Heap,Lw.Ok ⟨⟨K,clA cs,CK cs⟩,l.prog,w,mg,base⟩) (hn:∀ base:Heap,AllN (NeedG ⟨⟨K,clA cs,CK cs⟩,l.prog,w,mg,base⟩ lv) b.need) (nl:noL K=true)
  (hden:∀ ns:List Int,ns.length<=63->(As "law" 1 (lv + 1) dep N.length b).den [.lst (ns.map .int)]=.ok (.bl true)) :
  ∃ fd:FuncData,(∀ (s:Shared) (v:Value),BindsTo s fd ⟨[v],[]⟩ [(x,v)])/\∀ base:Heap,K.In base->base.Ns mainGlobals mg->FnOk l.prog w K mg base (CXe l.prog w) (lv + 1) fa fd [x] (spL K):=by
 obtain ⟨f,oc,od,an,sl,kV,dc,pm,cd,ct,a,l',c,k⟩:=t
 have e:=hfa.symm.trans (mg_of X G a)
 cases e
 refine ⟨_,hb kV dc pm an cd ct,fun base _ _=>?_⟩
 exact Rw (F:=As "law" 1 (lv + 1) dep N.length b) (MF (L:=⟨⟨K,clA cs,CK cs⟩,l.prog,w,mg,base⟩) (O base) (Mc (st:=st) l' c k) (EF hck).1 rfl (EF hck).2.1 (EF hck).2.2 (hn base)) rfl rfl nl hden
end Pu
end
namespace Pu
open PySem PySem.Spec PyProof.Rows PySem.W L2
noncomputable def GN:Ss :=
 (.cons (.ret (.bo true (.cons (.isi (.nm 0) .int) (.cons (.not (.isi (.nm 0) .bool)) .nil))))
 .nil)
noncomputable def F1:Fn:=As "is_whole" 1 1 9 1 GN
noncomputable def CZ:Ss :=
 (.cons (.ret (.bo true (.cons (.call F1 (.cons (.nm 0) .nil)) (.cons (.chain .le .le (.nm 1) (.nm 0) (.nm 2)) .nil))))
 .nil)
noncomputable def CD:Fn:=As "is_between" 3 2 9 3 CZ
theorem HZ (ds:List D) (h:ds.length=3):CD.den ds=run 3 CZ ds:=Al h
noncomputable def Cw:Ss :=
 (.cons (.mut 2 [] .append (.cons (.nm 3) .nil))
 (.cons (.asg 3 0 (.bin .fdiv (.bin .sub (.bin .add (.nm 3) (.nm 1)) (.cI 1)) (.nm 1)))
 .nil))
noncomputable def E0:Ss :=
 (.cons (.asg 1 0 (.ix (.nm 0) (.cI 1)))
 (.cons (.asg 2 2 (.lst .nil))
 (.cons (.asg 3 0 (.ix (.nm 0) (.cI 0)))
 (.cons (.dem 2 1)
 (.cons (.wh (.cmp .gt (.nm 3) (.cI 1))
 Cw)
 (.cons (.iff (.cmp .eq (.nm 3) (.cI 1))
 (.cons (.mut 2 [] .append (.cons (.nm 3) .nil))
 .nil)
 .nil)
 (.cons (.ret (.nm 2))
 .nil)))))))
noncomputable def Dy:Fn:=As "levels" 1 1 1 4 E0
theorem MH (ds:List D) (h:ds.length=1):Dy.den ds=run 4 E0 ds:=Al h
noncomputable def By:Ss :=
 (.cons (.iff (.bo false (.cons (.not (.isi (.nm 1) .tuple)) (.cons (.cmp .ne (.bi .len (.cons (.nm 1) .nil)) (.cI 2)) .nil)))
 (.cons (.ret (.cB false))
 .nil)
 .nil)
 (.cons (.iff (.not (.call CD (.cons (.ix (.nm 1) (.cI 0)) (.cons (.cI 0) (.cons (.bin .sub (.bi .len (.cons (.nm 0) .nil)) (.cI 1)) .nil)))))
 (.cons (.ret (.cB false))
 .nil)
 .nil)
 (.cons (.ret (.call CD (.cons (.ix (.nm 1) (.cI 1)) (.cons (.cI 0) (.cons (.bin .sub (.ix (.nm 0) (.ix (.nm 1) (.cI 0))) (.cI 1)) .nil)))))
 .nil)))
noncomputable def Br:Fn:=As "is_counted_node" 2 3 9 2 By
theorem FA (ds:List D) (h:ds.length=2):Br.den ds=run 2 By ds:=Al h
noncomputable def Ed:Ss :=
 (.cons (.ret (.call Br (.cons (.call Dy (.cons (.nm 0) .nil)) (.cons (.nm 1) .nil))))
 .nil)
noncomputable def E1:Fn:=As "is_node" 2 4 9 2 Ed
theorem Ll (ds:List D) (h:ds.length=2):E1.den ds=run 2 Ed ds:=Al h
noncomputable def C0:Ss :=
 (.cons (.iff (.not (.call E1 (.cons (.nm 0) (.cons (.nm 1) .nil))))
 (.cons (.raise 2 (.cons (.cS "this is no node of the shape") .nil))
 .nil)
 .nil)
 .nil)
noncomputable def BT:Fn:=As "check_node" 2 5 9 2 C0
theorem Ia (ds:List D) (h:ds.length=2):BT.den ds=run 2 C0 ds:=Al h
noncomputable def Ee:Ss :=
 (.cons (.asg 2 0 (.bin .mul (.nm 2) (.ix (.nm 0) (.cI 1))))
 .nil)
noncomputable def GO:Ss :=
 (.cons (.expr (.call BT (.cons (.nm 0) (.cons (.nm 1) .nil))))
 (.cons (.asg 2 0 (.cI 1))
 (.cons (.for_ (.nm 3) (.r1 (.ix (.nm 1) (.cI 0)))
 Ee)
 (.cons (.asg 4 0 (.bin .mul (.ix (.nm 1) (.cI 1)) (.nm 2)))
 (.cons (.ret (.tup (.cons (.nm 4) (.cons (.bi .min (.cons (.bin .add (.nm 4) (.nm 2)) (.cons (.ix (.nm 0) (.cI 0)) .nil))) .nil))))
 .nil)))))
noncomputable def Ck:Fn:=As "span" 2 6 0 5 GO
theorem PJ (ds:List D) (h:ds.length=2):Ck.den ds=run 5 GO ds:=Al h
noncomputable def Il:Ss :=
 (.cons (.asg 1 1 (.call Dy (.cons (.nm 0) .nil)))
 (.cons (.iff (.cmp .eq (.nm 1) (.lst .nil))
 (.cons (.ret .cN)
 .nil)
 .nil)
 (.cons (.ret (.tup (.cons (.bin .sub (.bi .len (.cons (.nm 1) .nil)) (.cI 1)) (.cons (.cI 0) .nil))))
 .nil)))
noncomputable def Jd:Fn:=As "top" 1 2 1 2 Il
theorem Ry (ds:List D) (h:ds.length=1):Jd.den ds=run 2 Il ds:=Al h
noncomputable def D3:Ss :=
 (.cons (.expr (.call BT (.cons (.nm 0) (.cons (.nm 1) .nil))))
 (.cons (.iff (.cmp .eq (.nm 1) (.call Jd (.cons (.nm 0) .nil)))
 (.cons (.ret .cN)
 .nil)
 .nil)
 (.cons (.ret (.tup (.cons (.bin .add (.ix (.nm 1) (.cI 0)) (.cI 1)) (.cons (.bin .fdiv (.ix (.nm 1) (.cI 1)) (.ix (.nm 0) (.cI 1))) .nil))))
 .nil)))
noncomputable def Cc:Fn:=As "parent" 2 6 1 2 D3
theorem HL (ds:List D) (h:ds.length=2):Cc.den ds=run 2 D3 ds:=Al h
noncomputable def C4:Ss :=
 (.cons (.expr (.call BT (.cons (.nm 0) (.cons (.nm 1) .nil))))
 (.cons (.iff (.cmp .eq (.ix (.nm 1) (.cI 0)) (.cI 0))
 (.cons (.ret (.lst .nil))
 .nil)
 .nil)
 (.cons (.asg 2 0 (.bin .sub (.ix (.nm 1) (.cI 0)) (.cI 1)))
 (.cons (.asg 3 0 (.bin .mul (.ix (.nm 1) (.cI 1)) (.ix (.nm 0) (.cI 1))))
 (.cons (.asg 4 0 (.bi .min (.cons (.bin .add (.nm 3) (.ix (.nm 0) (.cI 1))) (.cons (.ix (.call Dy (.cons (.nm 0) .nil)) (.nm 2)) .nil))))
 (.cons (.ret (.comp0 1 [2] (.nm 0) (.r2 (.nm 3) (.nm 4)) (.tup (.cons (.nm 1) (.cons (.nm 0) .nil)))))
 .nil))))))
noncomputable def Dv:Fn:=As "children" 2 6 1 5 C4
theorem F2 (ds:List D) (h:ds.length=2):Dv.den ds=run 5 C4 ds:=Al h
noncomputable def CF:Ss :=
 (.cons (.ret (.bo true (.cons (.cmp .le (.nm 1) (.ix (.nm 0) (.cI 0))) (.cons (.cmp .le (.ix (.nm 0) (.cI 1)) (.nm 2)) .nil))))
 .nil)
noncomputable def Bj:Fn:=As "lies_within" 3 1 9 3 CF
theorem Hb (ds:List D) (h:ds.length=3):Bj.den ds=run 3 CF ds:=Al h
noncomputable def Bp:Ss :=
 (.cons (.dem 4 0)
 (.cons (.asg 3 0 (.nm 4))
 (.cons (.asg 4 1 (.call Cc (.cons (.nm 0) (.cons (.nm 3) .nil))))
 .nil)))
noncomputable def BO:Ss :=
 (.cons (.asg 3 0 (.tup (.cons (.cI 0) (.cons (.nm 1) .nil))))
 (.cons (.asg 4 1 (.call Cc (.cons (.nm 0) (.cons (.nm 3) .nil))))
 (.cons (.wh (.bo true (.cons (.isN true (.nm 4)) (.cons (.call Bj (.cons (.callB Ck (.cons (.nm 0) (.cons (.nm 4) .nil))) (.cons (.nm 1) (.cons (.nm 2) .nil)))) .nil)))
 Bp)
 (.cons (.ret (.nm 3))
 .nil))))
noncomputable def Cp:Fn:=As "highest_within" 3 7 0 5 BO
theorem FT (ds:List D) (h:ds.length=3):Cp.den ds=run 5 BO ds:=Al h
noncomputable def C5:Ss :=
 (.cons (.asg 5 0 (.call Cp (.cons (.nm 0) (.cons (.nm 4) (.cons (.nm 2) .nil)))))
 (.cons (.mut 3 [] .append (.cons (.nm 5) .nil))
 (.cons (.asg 4 0 (.ix (.call Ck (.cons (.nm 0) (.cons (.nm 5) .nil))) (.cI 1)))
 .nil)))
noncomputable def EG:Ss :=
 (.cons (.iff (.bo false (.cons (.cmp .lt (.nm 1) (.cI 0)) (.cons (.cmp .gt (.nm 2) (.ix (.nm 0) (.cI 0))) (.cons (.cmp .gt (.nm 1) (.nm 2)) .nil))))
 (.cons (.raise 3 (.cons (.cS "these are no pages of the shape") .nil))
 .nil)
 .nil)
 (.cons (.asg 3 2 (.lst .nil))
 (.cons (.asg 4 0 (.nm 1))
 (.cons (.dem 3 1)
 (.cons (.wh (.cmp .lt (.nm 4) (.nm 2))
 C5)
 (.cons (.ret (.nm 3))
 .nil))))))
noncomputable def Dn:Fn:=As "cover" 3 8 1 6 EG
theorem Je (ds:List D) (h:ds.length=3):Dn.den ds=run 6 EG ds:=Al h
noncomputable def Dw:Ss :=
 (.cons (.ret (.comp0 1 [] (.nm 0) (.seq (.nm 0)) (.bi .len (.cons (.nm 0) .nil))))
 .nil)
noncomputable def D4:Fn:=As "counts_of" 1 1 9 1 Dw
theorem Jf (ds:List D) (h:ds.length=1):D4.den ds=run 1 Dw ds:=Al h
noncomputable def C6:Ss :=
 (.cons (.iff (.cmp .eq (.nm 0) (.lst .nil))
 (.cons (.ret (.lst .nil))
 .nil)
 .nil)
 (.cons (.ret (.bi .list (.cons (.ix (.nm 0) (.cI 0)) .nil)))
 .nil))
noncomputable def Dx:Fn:=As "rooms_of" 1 1 1 1 C6
theorem F3 (ds:List D) (h:ds.length=1):Dx.den ds=run 1 C6 ds:=Al h
noncomputable def C7:Ss :=
 (.cons (.ret (.tup (.cons (.bi .len (.cons (.call Dx (.cons (.nm 0) .nil)) .nil)) (.cons (.nm 1) .nil))))
 .nil)
noncomputable def B4:Fn:=As "shape_of" 2 2 0 2 C7
theorem F5 (ds:List D) (h:ds.length=2):B4.den ds=run 2 C7 ds:=Al h
noncomputable def DM:Ss :=
 (.cons (.ret (.call Br (.cons (.call D4 (.cons (.nm 0) .nil)) (.cons (.nm 1) .nil))))
 .nil)
noncomputable def Et:Fn:=As "has_node" 2 4 9 2 DM
theorem JJ (ds:List D) (h:ds.length=2):Et.den ds=run 2 DM ds:=Al h
noncomputable def BP:Ss :=
 (.cons (.iff (.not (.call Et (.cons (.nm 0) (.cons (.nm 1) .nil))))
 (.cons (.raise 2 (.cons (.cS "this is no node of the tree") .nil))
 .nil)
 .nil)
 .nil)
noncomputable def Cq:Fn:=As "check_has_node" 2 5 9 2 BP
theorem FV (ds:List D) (h:ds.length=2):Cq.den ds=run 2 BP ds:=Al h
noncomputable def FP:Ss :=
 (.cons (.expr (.call Cq (.cons (.nm 0) (.cons (.nm 1) .nil))))
 (.cons (.ret (.ix (.ix (.nm 0) (.ix (.nm 1) (.cI 0))) (.ix (.nm 1) (.cI 1))))
 .nil))
noncomputable def A9:Fn:=As "tells" 2 6 0 2 FP
theorem NZ (ds:List D) (h:ds.length=2):A9.den ds=run 2 FP ds:=Al h
noncomputable def Cy:Ss :=
 (.cons (.ret (.comp0 1 [0] (.nm 0) (.seq (.nm 1)) (.tup (.cons (.ix (.nm 0) (.cI 0)) (.cons (.ix (.nm 0) (.cI 1)) (.cons (.call A9 (.cons (.nm 1) (.cons (.nm 0) .nil))) .nil))))))
 .nil)
noncomputable def C8:Fn:=As "with_told" 2 7 1 2 Cy
theorem FB (ds:List D) (h:ds.length=2):C8.den ds=run 2 Cy ds:=Al h
noncomputable def AF:Ss :=
 (.cons (.mut 3 [] .append (.cons (.nm 4) .nil))
 (.cons (.iff (.cmp .ge (.call A9 (.cons (.nm 0) (.cons (.nm 4) .nil))) (.nm 1))
 (.cons (.ret (.nm 3))
 .nil)
 .nil)
 .nil))
noncomputable def BD:Ss :=
 (.cons (.asg 3 2 (.lst .nil))
 (.cons (.dem 3 1)
 (.cons (.for_ (.nm 4) (.seq (.nm 2))
 AF)
 (.cons (.ret (.nm 3))
 .nil))))
noncomputable def B8:Fn:=As "up_to_enough" 3 7 1 5 BD
theorem GP (ds:List D) (h:ds.length=3):B8.den ds=run 5 BD ds:=Al h
theorem GQ:B8.dep=1:=rfl
noncomputable def Bv:Ss :=
 (.cons (.asg 7 1 (.callB B8 (.cons (.nm 0) (.cons (.nm 2) (.cons (.nm 6) .nil)))))
 (.cons (.dem 7 0)
 (.cons (.dem 5 1)
 (.cons (.mut 5 [] .extend (.cons (.nm 7) .nil))
 (.cons (.iff (.cmp .lt (.call A9 (.cons (.nm 0) (.cons (.ix (.nm 7) (.neg (.cI 1))) .nil))) (.nm 2))
 (.cons (.ret (.nm 5))
 .nil)
 .nil)
 (.cons (.asg 6 1 (.call Dv (.cons (.nm 4) (.cons (.ix (.nm 7) (.neg (.cI 1))) .nil))))
 .nil))))))
noncomputable def Do:Ss :=
 (.cons (.asg 4 0 (.call B4 (.cons (.nm 0) (.cons (.nm 1) .nil))))
 (.cons (.asg 5 2 (.lst .nil))
 (.cons (.asg 6 1 (.call Dn (.cons (.nm 4) (.cons (.nm 3) (.cons (.ix (.nm 4) (.cI 0)) .nil)))))
 (.cons (.dem 5 1)
 (.cons (.wh (.cmp .ne (.nm 6) (.lst .nil))
 Bv)
 (.cons (.ret (.nm 5))
 .nil))))))
noncomputable def Dz:Fn:=As "walked" 4 9 1 8 Do
theorem HM (ds:List D) (h:ds.length=4):Dz.den ds=run 8 Do ds:=Al h
noncomputable def BE:Ss :=
 (.cons (.asg 4 1 (.call Dz (.cons (.nm 0) (.cons (.nm 1) (.cons (.nm 2) (.cons (.nm 3) .nil))))))
 (.cons (.iff (.bo false (.cons (.cmp .eq (.nm 4) (.lst .nil)) (.cons (.cmp .lt (.call A9 (.cons (.nm 0) (.cons (.ixL (.nm 4) (.neg (.cI 1))) .nil))) (.nm 2)) .nil)))
 (.cons (.ret .cN)
 .nil)
 .nil)
 (.cons (.ret (.ix (.ixL (.nm 4) (.neg (.cI 1))) (.cI 1)))
 .nil)))
noncomputable def BU:Fn:=As "first_from" 4 10 0 5 BE
theorem E9 (ds:List D) (h:ds.length=4):BU.den ds=run 5 BE ds:=Al h
noncomputable def EH:Ss :=
 (.cons (.ret (.call BU (.cons (.nm 0) (.cons (.nm 1) (.cons (.nm 2) (.cons (.cI 0) .nil))))))
 .nil)
noncomputable def CL:Fn:=As "first" 3 11 0 3 EH
theorem Jg (ds:List D) (h:ds.length=3):CL.den ds=run 3 EH ds:=Al h
theorem Jh:CL.dep=0:=rfl
noncomputable def BV:Ss :=
 (.cons (.iff (.isN false (.nm 2))
 (.cons (.ret (.tup (.cons (.nm 1) (.cons (.ix (.nm 0) (.cI 0)) .nil))))
 .nil)
 .nil)
 (.cons (.ret (.tup (.cons (.nm 1) (.cons (.nm 2) .nil))))
 .nil))
noncomputable def AY:Fn:=As "pages_up_to" 3 1 0 3 BV
theorem Hc (ds:List D) (h:ds.length=3):AY.den ds=run 3 BV ds:=Al h
theorem EI:AY.dep=0:=rfl
noncomputable def Cd:Ss :=
 (.cons (.ret (.call C8 (.cons (.nm 0) (.cons (.call Dn (.cons (.call B4 (.cons (.nm 0) (.cons (.nm 1) .nil))) (.cons (.ix (.nm 2) (.cI 0)) (.cons (.ix (.nm 2) (.cI 1)) .nil)))) .nil))))
 .nil)
noncomputable def BW:Fn:=As "paper_over" 3 9 1 3 Cd
theorem Fa (ds:List D) (h:ds.length=3):BW.den ds=run 3 Cd ds:=Al h
noncomputable def BX:Ss :=
 (.cons (.asg 3 2 (.callB CL (.cons (.nm 0) (.cons (.nm 1) (.cons (.nm 2) .nil)))))
 (.cons (.retT (.cons (.nm 3) (.cons (.call BW (.cons (.nm 0) (.cons (.nm 1) (.cons (.callB AY (.cons (.call B4 (.cons (.nm 0) (.cons (.nm 1) .nil))) (.cons (.cI 0) (.cons (.nm 3) .nil)))) .nil)))) .nil)))
 .nil))
noncomputable def AA:Fn:=As "first_paper" 3 12 1 4 BX
theorem EJ (ds:List D) (h:ds.length=3):AA.den ds=run 4 BX ds:=Al h
theorem EK:AA.dep=1:=rfl
noncomputable def DD:Ss :=
 (.cons (.asg 2 0 (.bin .mod (.bin .add (.bin .add (.bin .mul (.nm 2) (.cI 48271)) (.bin .mod (.nm 3) (.cI 1000003))) (.cI 1)) (.cI 2147483647)))
 .nil)
noncomputable def C9:Ss :=
 (.cons (.iff (.cmp .lt (.nm 1) (.bi .len (.cons (.nm 0) .nil)))
 (.cons (.ret (.ix (.nm 0) (.nm 1)))
 .nil)
 .nil)
 (.cons (.asg 2 0 (.cI 5))
 (.cons (.for_ (.nm 3) (.seq (.slc (.nm 0) .cN (.cI 63)))
 DD)
 (.cons (.ret (.bin .mod (.bin .add (.nm 2) (.bin .mul (.cI 7919) (.nm 1))) (.cI 1000003)))
 .nil))))
noncomputable def Cz:Fn:=As "_law_cell" 2 1 0 4 C9
theorem JK (ds:List D) (h:ds.length=2):Cz.den ds=run 4 C9 ds:=Al h
noncomputable def CG:Ss :=
 (.cons (.asg 2 0 (.bin .mod (.bin .pow (.bin .add (.bin .add (.bin .mod (.nm 0) (.cI 2147483629)) (.bin .mul (.cI 1013) (.nm 1))) (.cI 7919)) (.cI 3)) (.cI 2147483647)))
 (.cons (.asg 3 0 (.bin .mod (.bin .add (.bin .add (.bin .mul (.nm 2) (.cI 40699)) (.bin .mul (.bin .mul (.cI 3793) (.nm 1)) (.nm 1))) (.cI 11)) (.cI 2147483399)))
 (.cons (.ret (.bin .fdiv (.nm 3) (.cI 101)))
 .nil)))
noncomputable def Cl:Fn:=As "_law_mix" 2 1 1 4 CG
theorem Hd (ds:List D) (h:ds.length=2):Cl.den ds=run 4 CG ds:=Al h
noncomputable def AD:Ss :=
 (.cons (.iff (.cmp .lt (.nm 3) (.bin .pow (.cI 10) (.cI 18)))
 (.cons (.mut 5 [] .append (.cons (.bin .mod (.call Cl (.cons (.nm 3) (.cons (.nm 6) .nil))) (.ix (.nm 2) (.nm 6))) .nil))
 .nil)
 (.cons (.iff (.cmp .gt (.nm 4) (.cI 0))
 (.cons (.mut 5 [] .append (.cons (.bin .mod (.nm 4) (.ix (.nm 2) (.nm 6))) .nil))
 (.cons (.asg 4 0 (.bin .fdiv (.nm 4) (.ix (.nm 2) (.nm 6))))
 .nil))
 (.cons (.asg 7 0 (.call Cz (.cons (.nm 0) (.cons (.bin .mod (.bin .add (.bin .add (.nm 1) (.cI 1)) (.nm 6)) (.cI 63)) .nil))))
 (.cons (.mut 5 [] .append (.cons (.bin .mod (.call Cl (.cons (.nm 7) (.cons (.nm 6) .nil))) (.ix (.nm 2) (.nm 6))) .nil))
 .nil)))
 .nil))
 .nil)
noncomputable def CH:Ss :=
 (.cons (.asg 3 0 (.call Cz (.cons (.nm 0) (.cons (.nm 1) .nil))))
 (.cons (.asg 4 0 (.nm 3))
 (.cons (.asg 5 2 (.lst .nil))
 (.cons (.for_ (.nm 6) (.r1 (.bi .len (.cons (.nm 2) .nil)))
 AD)
 (.cons (.ret (.nm 5))
 .nil)))))
noncomputable def AK:Fn:=As "_law_row" 3 2 2 8 CH
theorem He (ds:List D) (h:ds.length=3):AK.den ds=run 8 CH ds:=Al h
noncomputable def Ax:Ss :=
 (.cons (.asg 7 0 (.ixL (.nm 3) (.bin .add (.cI 4) (.nm 6))))
 (.cons (.iff (.cmp .eq (.ixL (.nm 3) (.cI 2)) (.cI 1))
 (.cons (.asg 7 0 (.bin .mod (.nm 7) (.cI 3)))
 .nil)
 .nil)
 (.cons (.iff (.cmp .eq (.ixL (.nm 3) (.cI 2)) (.cI 2))
 (.cons (.asg 7 0 (.bin .mul (.ix (.lst (.cons (.cI 0) (.cons (.cI 0) (.cons (.cI 0) (.cons (.cI 1) .nil))))) (.bin .mod (.nm 7) (.cI 4))) (.bin .add (.cI 1) (.bin .fdiv (.nm 7) (.cI 4)))))
 .nil)
 .nil)
 (.cons (.iff (.cmp .eq (.ixL (.nm 3) (.cI 2)) (.cI 3))
 (.cons (.asg 7 0 (.bin .mod (.bin .add (.ixL (.nm 3) (.cI 3)) (.nm 6)) (.cI 13)))
 .nil)
 .nil)
 (.cons (.iff (.cmp .eq (.ixL (.nm 3) (.cI 2)) (.cI 4))
 (.cons (.asg 7 0 (.ixL (.nm 3) (.cI 3)))
 .nil)
 .nil)
 (.cons (.mut 5 [] .append (.cons (.bi .min (.cons (.bin .pow (.cI 10) (.cI 18)) (.cons (.bin .add (.bin .mul (.nm 7) (.nm 4)) (.bin .mul (.bi .int (.cons (.cmp .eq (.nm 7) (.cI 12)) .nil)) (.cI 4))) .nil))) .nil))
 .nil))))))
noncomputable def B9:Ss :=
 (.cons (.asg 3 2 (.call AK (.cons (.nm 0) (.cons (.nm 1) (.cons (.bin .add (.lst (.cons (.bin .add (.nm 2) (.cI 1)) (.cons (.cI 5) (.cons (.cI 6) (.cons (.cI 13) .nil))))) (.bin .mul (.lst (.cons (.cI 13) .nil)) (.nm 2))) .nil)))))
 (.cons (.asg 4 0 (.ix (.lst (.cons (.cI 1) (.cons (.cI 1) (.cons (.cI 7) (.cons (.bin .pow (.cI 10) (.cI 6)) (.cons (.cI 83333333333333333) .nil)))))) (.ixL (.nm 3) (.cI 1))))
 (.cons (.asg 5 2 (.lst .nil))
 (.cons (.dem 3 1)
 (.cons (.for_ (.nm 6) (.r1 (.ixL (.nm 3) (.cI 0)))
 Ax)
 (.cons (.ret (.nm 5))
 .nil))))))
noncomputable def BQ:Fn:=As "_law_rooms" 3 3 2 8 B9
theorem Gg (ds:List D) (h:ds.length=3):BQ.den ds=run 8 B9 ds:=Al h
noncomputable def CI:Ss :=
 (.cons (.ret (.bin .add (.cI 2) (.ix (.call AK (.cons (.nm 0) (.cons (.nm 1) (.cons (.lst (.cons (.cI 7) .nil)) .nil)))) (.cI 0))))
 .nil)
noncomputable def Dp:Fn:=As "_law_fan" 2 3 1 2 CI
theorem Hf (ds:List D) (h:ds.length=2):Dp.den ds=run 2 CI ds:=Al h
noncomputable def AZ:Ss :=
 (.cons (.asg 3 2 (.call AK (.cons (.nm 0) (.cons (.nm 1) (.cons (.lst (.cons (.cI 7) (.cons (.cI 200) (.cons (.cI 40) .nil)))) .nil)))))
 (.cons (.iff (.bo false (.cons (.cmp .eq (.ixL (.nm 3) (.cI 0)) (.cI 0)) (.cons (.cmp .eq (.bi .len (.cons (.nm 2) .nil)) (.cI 0)) .nil)))
 (.cons (.ret (.ix (.lst (.cons (.cI 0) (.cons (.cI 1) (.cons (.cI 2) (.cons (.bin .pow (.cI 10) (.cI 59)) .nil))))) (.bin .mod (.ixL (.nm 3) (.cI 1)) (.cI 4))))
 .nil)
 .nil)
 (.cons (.asg 4 0 (.ix (.nm 2) (.bin .mod (.ixL (.nm 3) (.cI 1)) (.bi .len (.cons (.nm 2) .nil)))))
 (.cons (.iff (.cmp .eq (.ixL (.nm 3) (.cI 0)) (.cI 1))
 (.cons (.ret (.bin .add (.bi .maxL (.cons (.nm 2) .nil)) (.bin .mod (.ixL (.nm 3) (.cI 2)) (.cI 2))))
 .nil)
 .nil)
 (.cons (.ret (.bi .max (.cons (.cI 0) (.cons (.bin .add (.nm 4) (.ixL (.lst (.cons (.cI 0) (.cons (.cI 0) (.cons (.cI 1) (.cons (.neg (.cI 1)) (.cons (.ixL (.nm 3) (.cI 2)) .nil)))))) (.bin .sub (.ixL (.nm 3) (.cI 0)) (.cI 2)))) .nil))))
 .nil)))))
noncomputable def AQ:Fn:=As "_law_need" 3 3 0 5 AZ
theorem Ca (ds:List D) (h:ds.length=3):AQ.den ds=run 5 AZ ds:=Al h
theorem Ef:AQ.dep=0:=rfl
noncomputable def AV:Ss :=
 (.cons (.mut 2 [] .append (.cons (.bin .fdiv (.bin .sub (.bin .add (.ixL (.nm 2) (.neg (.cI 1))) (.nm 1)) (.cI 1)) (.nm 1)) .nil))
 .nil)
noncomputable def Bm:Ss :=
 (.cons (.iff (.cmp .eq (.nm 0) (.cI 0))
 (.cons (.ret (.lst .nil))
 .nil)
 .nil)
 (.cons (.asg 2 1 (.lst (.cons (.nm 0) .nil)))
 (.cons (.wh (.cmp .gt (.ixL (.nm 2) (.neg (.cI 1))) (.cI 1))
 AV)
 (.cons (.ret (.nm 2))
 .nil))))
noncomputable def Bb:Fn:=As "_law_counts" 2 1 1 3 Bm
theorem DE (ds:List D) (h:ds.length=2):Bb.den ds=run 3 Bm ds:=Al h
noncomputable def Bs:Ss :=
 (.cons (.asg 4 0 (.bin .mul (.nm 4) (.nm 1)))
 .nil)
noncomputable def Cb:Ss :=
 (.cons (.asg 4 0 (.cI 1))
 (.cons (.for_ (.nm 5) (.r1 (.nm 2))
 Bs)
 (.cons (.ret (.tup (.cons (.bin .mul (.nm 3) (.nm 4)) (.cons (.bi .min (.cons (.nm 0) (.cons (.bin .add (.bin .mul (.nm 3) (.nm 4)) (.nm 4)) .nil))) .nil))))
 .nil)))
noncomputable def CM:Fn:=As "_law_reach" 4 1 1 6 Cb
theorem Gh (ds:List D) (h:ds.length=4):CM.den ds=run 6 Cb ds:=Al h
noncomputable def Bc:Ss :=
 (.cons (.asgT [7,8] (.call CM (.cons (.bi .len (.cons (.nm 0) .nil)) (.cons (.nm 1) (.cons (.nm 4) (.cons (.nm 6) .nil))))))
 (.cons (.mut 5 [] .append (.cons (.bi .maxL (.cons (.slc (.nm 0) (.nm 7) (.nm 8)) .nil)) .nil))
 .nil))
noncomputable def Bd:Ss :=
 (.cons (.asg 5 2 (.lst .nil))
 (.cons (.for_ (.nm 6) (.r1 (.ixL (.nm 3) (.nm 4)))
 Bc)
 (.cons (.mut 2 [] .append (.cons (.nm 5) .nil))
 .nil)))
noncomputable def BF:Ss :=
 (.cons (.asg 2 2 (.lst .nil))
 (.cons (.asg 3 1 (.call Bb (.cons (.bi .len (.cons (.nm 0) .nil)) (.cons (.nm 1) .nil))))
 (.cons (.for_ (.nm 4) (.r1 (.bi .len (.cons (.nm 3) .nil)))
 Bd)
 (.cons (.ret (.nm 2))
 .nil))))
noncomputable def Au:Fn:=As "_law_tree" 2 2 2 9 BF
theorem Eg (ds:List D) (h:ds.length=2):Au.den ds=run 9 BF ds:=Al h
theorem GR:Au.dep=2:=rfl
noncomputable def AE:Ss :=
 (.cons (.asg 9 0 (.bi .min (.cons (.nm 0) (.cons (.bin .add (.nm 5) (.nm 6)) .nil))))
 (.cons (.iff (.bo true (.cons (.cmp .eq (.bin .mod (.nm 5) (.nm 6)) (.cI 0)) (.cons (.cmp .le (.nm 9) (.nm 3)) .nil)))
 (.cons (.asg 7 0 (.tup (.cons (.nm 8) (.cons (.bin .fdiv (.nm 5) (.nm 6)) (.cons (.nm 9) .nil)))))
 .nil)
 .nil)
 (.cons (.asg 6 0 (.bin .mul (.nm 6) (.nm 1)))
 .nil)))
noncomputable def A6:Ss :=
 (.cons (.asg 6 0 (.cI 1))
 (.cons (.asg 7 0 (.tup (.cons (.cI 0) (.cons (.nm 5) (.cons (.bin .add (.nm 5) (.cI 1)) .nil)))))
 (.cons (.for_ (.nm 8) (.r1 (.bi .len (.cons (.call Bb (.cons (.nm 0) (.cons (.nm 1) .nil))) .nil)))
 AE)
 (.cons (.mut 4 [] .append (.cons (.slc (.nm 7) .cN (.cI 2)) .nil))
 (.cons (.asg 5 0 (.ix (.nm 7) (.cI 2)))
 .nil)))))
noncomputable def Bt:Ss :=
 (.cons (.asg 4 2 (.lst .nil))
 (.cons (.asg 5 0 (.nm 2))
 (.cons (.wh (.cmp .lt (.nm 5) (.nm 3))
 A6)
 (.cons (.ret (.nm 4))
 .nil))))
noncomputable def Ay:Fn:=As "_law_cover" 4 2 2 10 Bt
theorem D5 (ds:List D) (h:ds.length=4):Ay.den ds=run 10 Bt ds:=Al h
noncomputable def F6:Ss :=
 (.cons (.ret (.bo true (.cons (.isi (.nm 0) .int) (.cons (.not (.isi (.nm 0) .bool)) .nil))))
 .nil)
noncomputable def Bo:Fn:=As "_law_whole" 1 1 9 1 F6
noncomputable def Bu:Ss :=
 (.cons (.asg 4 2 (.call Au (.cons (.nm 0) (.cons (.nm 1) .nil))))
 (.cons (.ret (.comp0 2 [4] (.tp [0,1]) (.seq (.call Ay (.cons (.bi .len (.cons (.nm 0) .nil)) (.cons (.nm 1) (.cons (.nm 2) (.cons (.nm 3) .nil)))))) (.tup (.cons (.nm 0) (.cons (.nm 1) (.cons (.ixL (.ixL (.nm 2) (.nm 0)) (.nm 1)) .nil))))))
 .nil))
noncomputable def Az:Fn:=As "_law_paper" 4 3 1 5 Bu
theorem D6 (ds:List D) (h:ds.length=4):Az.den ds=run 5 Bu ds:=Al h
theorem D7:Az.dep=1:=rfl
noncomputable def AS:Ss :=
 (.cons (.iff (.cmp .ge (.ix (.nm 0) (.nm 3)) (.nm 1))
 (.cons (.ret (.nm 3))
 .nil)
 .nil)
 .nil)
noncomputable def BG:Ss :=
 (.cons (.for_ (.nm 3) (.r2 (.nm 2) (.bi .len (.cons (.nm 0) .nil)))
 AS)
 (.cons (.ret .cN)
 .nil))
noncomputable def AG:Fn:=As "_law_from" 3 1 0 4 BG
theorem GS (ds:List D) (h:ds.length=3):AG.den ds=run 4 BG ds:=Al h
theorem Eh:AG.dep=0:=rfl
noncomputable def DA:Ss :=
 (.cons (.iff (.isN false (.nm 0))
 (.cons (.ret (.nm 1))
 .nil)
 .nil)
 (.cons (.ret (.nm 0))
 .nil))
noncomputable def Da:Fn:=As "_law_end" 2 1 0 2 DA
theorem Lm (ds:List D) (h:ds.length=2):Da.den ds=run 2 DA ds:=Al h
noncomputable def Ba:Ss :=
 (.cons (.iff (.bo false (.cons (.not (.isi (.nm 2) .tuple)) (.cons (.cmp .inn (.cB false) (.comp0 1 [] (.nm 0) (.seq (.nm 2)) (.call Bo (.cons (.nm 0) .nil)))) .nil)))
 (.cons (.ret (.cB false))
 .nil)
 .nil)
 .nil)
noncomputable def Db:Ss :=
 (.cons (.iff (.bo false (.cons (.not (.isi (.nm 0) .tuple)) (.cons (.cmp .ne (.nm 0) (.nm 1)) (.cons (.not (.isi (.ix (.nm 0) (.cI 1)) .list)) .nil))))
 (.cons (.ret (.cB false))
 .nil)
 .nil)
 (.cons (.iff (.bo true (.cons (.isN true (.ix (.nm 0) (.cI 0))) (.cons (.not (.call Bo (.cons (.ix (.nm 0) (.cI 0)) .nil))) .nil)))
 (.cons (.ret (.cB false))
 .nil)
 .nil)
 (.cons (.for_ (.nm 2) (.seq (.ix (.nm 0) (.cI 1)))
 Ba)
 (.cons (.ret (.cB true))
 .nil))))
noncomputable def Bw:Fn:=As "_law_told" 2 2 9 3 Db
theorem JL (ds:List D) (h:ds.length=2):Bw.den ds=run 3 Db ds:=Al h
theorem JM:Bw.dep=9:=rfl
noncomputable def Dc:Ss :=
 (.cons (.asg 7 0 (.callB AQ (.cons (.nm 0) (.cons (.bin .add (.cI 2) (.nm 6)) (.cons (.nm 2) .nil)))))
 (.cons (.asg 8 0 (.callB AG (.cons (.nm 2) (.cons (.nm 7) (.cons (.cI 0) .nil)))))
 (.cons (.asg 9 0 (.tup (.cons (.nm 8) (.cons (.callB Az (.cons (.nm 2) (.cons (.nm 3) (.cons (.cI 0) (.cons (.call Da (.cons (.nm 8) (.cons (.bi .len (.cons (.nm 2) .nil)) .nil))) .nil))))) .nil))))
 (.cons (.asg 10 1 (.callB AA (.cons (.nm 5) (.cons (.nm 3) (.cons (.nm 7) .nil)))))
 (.cons (.iff (.not (.callB Bw (.cons (.nm 10) (.cons (.nm 9) .nil))))
 (.cons (.ret (.cB false))
 .nil)
 .nil)
 (.cons (.mut 10 [(true,(.cI 1))] .append (.cons (.tup (.cons (.cI 0) (.cons (.cI 0) (.cons (.cI 0) .nil)))) .nil))
 (.cons (.iff (.not (.call Bw (.cons (.callB AA (.cons (.nm 5) (.cons (.nm 3) (.cons (.nm 7) .nil)))) (.cons (.nm 9) .nil))))
 (.cons (.ret (.cB false))
 .nil)
 .nil)
 .nil)))))))
noncomputable def Ei:Ss :=
 (.cons (.asg 1 0 (.ix (.lst (.cons (.cI 60) (.cons (.cI 200) .nil))) (.bi .int (.cons (.cmp .eq (.ix (.call AK (.cons (.nm 0) (.cons (.cI 5) (.cons (.lst (.cons (.cI 8) .nil)) .nil)))) (.cI 0)) (.cI 0)) .nil))))
 (.cons (.asg 2 2 (.call BQ (.cons (.nm 0) (.cons (.cI 0) (.cons (.nm 1) .nil)))))
 (.cons (.asg 3 1 (.call Dp (.cons (.nm 0) (.cons (.cI 1) .nil))))
 (.cons (.asg 4 2 (.callB Au (.cons (.nm 2) (.cons (.nm 3) .nil))))
 (.cons (.dem 4 1)
 (.cons (.asg 5 2 (.comp0 1 [] (.nm 0) (.seqL (.nm 4)) (.bi .list (.cons (.nm 0) .nil))))
 (.cons (.for_ (.nm 6) (.r1 (.cI 3))
 Dc)
 (.cons (.iff (.cmp .ne (.nm 5) (.nm 4))
 (.cons (.ret (.cB false))
 .nil)
 .nil)
 (.cons (.dem 2 1)
 (.cons (.asg 11 1 (.rev (.nm 2)))
 (.cons (.eachZ 12 13 5 (.callB Au (.cons (.nm 11) (.cons (.nm 3) .nil))))
 (.cons (.asg 7 0 (.callB AQ (.cons (.nm 0) (.cons (.cI 2) (.cons (.nm 2) .nil)))))
 (.cons (.asg 8 0 (.callB AG (.cons (.nm 11) (.cons (.nm 7) (.cons (.cI 0) .nil)))))
 (.cons (.asg 9 0 (.tup (.cons (.nm 8) (.cons (.callB Az (.cons (.nm 11) (.cons (.nm 3) (.cons (.cI 0) (.cons (.call Da (.cons (.nm 8) (.cons (.bi .len (.cons (.nm 2) .nil)) .nil))) .nil))))) .nil))))
 (.cons (.ret (.call Bw (.cons (.callB AA (.cons (.nm 5) (.cons (.nm 3) (.cons (.nm 7) .nil)))) (.cons (.nm 9) .nil))))
 .nil)))))))))))))))
noncomputable def E2:Fn:=As "law" 1 13 9 14 Ei
theorem Ln (ds:List D) (h:ds.length=1):E2.den ds=run 14 Ei ds:=Al h
end Pu
section
namespace Pu
open PySem
theorem Bg {tg:Tg} {b:Fr->Out} (P:Nat->Fr->Prop):∀ {ds:List D} {δ:Fr} (n:Nat),P n δ->(∀ i d δ,ds[i]?=some d->P (n + i) δ->∃ δ' δ'',DH tg d δ=some δ'/\b δ'=.nxt δ''/\P (n + i + 1) δ'')->∃ δ',AU tg b ds δ=.nxt δ'/\P (n + ds.length) δ'
 | [],δ,n,h0,_=>⟨δ,rfl,h0⟩
 | d :: ds,δ,n,h0,hs=>by
  obtain ⟨δ',δ'',e1,e2,h1⟩:=hs 0 d δ rfl h0
  obtain ⟨δ3,e3,h3⟩:=Bg P (ds:=ds) (δ:=δ'') (n + 1) h1 fun i d δ hd hP=>by
   have:=hs (i + 1) d δ (by simpa using hd) (by rw [show n + (i + 1)=n + 1 + i by omega]; exact hP)
   rw [show n + (i + 1) + 1=n + 1 + i + 1 by omega] at this
   exact this
  refine ⟨δ3,?_,by rw [aa2,show n + (ds.length + 1)=n + 1 + ds.length by omega]; exact h3⟩
  unfold AU
  rw [e1]
  show (b δ').then _=_
  rw [e2]
  exact e3
theorem CA (i j:Int):b2 .add (.int i) (.int j)=.ok (.int (i + j)):=rfl
theorem Dd (i j:Int):b2 .sub (.int i) (.int j)=.ok (.int (i - j)):=rfl
theorem B5 (i j:Int) (h1:-(18446744073709551616) < i) (h2:i < 18446744073709551616):b2 .mul (.int i) (.int j)=.ok (.int (i * j)):=by
 show (if _ then _ else _)=_; rw [if_pos (.inl ⟨h1,h2⟩)]
theorem B6 (i j:Int) (h1:-(18446744073709551616) < j) (h2:j < 18446744073709551616):b2 .mul (.int i) (.int j)=.ok (.int (i * j)):=by
 show (if _ then _ else _)=_; rw [if_pos (.inr ⟨h1,h2⟩)]
theorem CB (i j:Int) (h1:0 < j):b2 .mod (.int i) (.int j)=.ok (.int (i % j)):=by
 show (if _ then _ else _)=_; rw [if_pos h1]
theorem B7 (i j:Int) (h1:0 < j) (h2:j < 1606938044258990275541962092341162602522202993782792835301376):b2 .fdiv (.int i) (.int j)=.ok (.int (i / j)):=by
 show (if _ then _ else _)=_; rw [if_pos ⟨h1,h2⟩]
theorem D8 (i j:Int) (h1:0<=j) (h2:j<=1000000) (h3:i.natAbs < 18446744073709551616):b2 .pow (.int i) (.int j)=.ok (.int (i ^ j.toNat)):=by
 show (if _ then _ else _)=_; rw [if_pos ⟨h1,h2,h3⟩]
theorem DN (i j:Int):c2 .lt (.int i) (.int j)=.ok (.bl (decide (i < j))):=rfl
theorem DO (i j:Int):c2 .le (.int i) (.int j)=.ok (.bl (decide (i<=j))):=rfl
theorem DP (i j:Int):c2 .gt (.int i) (.int j)=.ok (.bl (decide (j < i))):=rfl
theorem DQ (i j:Int):c2 .ge (.int i) (.int j)=.ok (.bl (decide (j<=i))):=rfl
theorem De (i j:Int):c2 .eq (.int i) (.int j)=.ok (.bl (i==j)):=rfl
theorem Dg (i j:Int):c2 .ne (.int i) (.int j)=.ok (.bl (!(i==j))):=rfl
theorem Dq (d:D) (r:Fr):get (some d :: r) 0=.ok d:=rfl
theorem Dr (o:Option D) (r:Fr) (i:Nat):get (o :: r) (i + 1)=get r i:=by
 unfold get; rw [aaY]
theorem Ad {n:Nat} {b:Ss} {ds:List D} {d:D} (h:exs b (Pu.AL n ds)=.ret d):run n b ds=.ok d:=by
 unfold run; rw [h]
noncomputable def FC (c k:Int):Int:=((((c % 2147483629 + 1013 * k + 7919) ^ 3 % 2147483647) * 40699 + 3793 * k * k + 11) % 2147483399) / 101
theorem Kt (c k:Int) (hk0:0<=k) (hk:k<=100000):Cl.den [.int c,.int k]=.ok (.int (FC c k)):=by
 have h1:0<=c % 2147483629:=aa7 _ (by decide)
 have h2:c % 2147483629 < 2147483629:=abt _ (by decide)
 have h3:(c % 2147483629 + 1013 * k + 7919).natAbs < 18446744073709551616:=by omega
 have h4:-(18446744073709551616) < k:=by omega
 have h5:k < 18446744073709551616:=by omega
 rw [Hd _ rfl]
 simp [run,CG,exs,ex,ev,evs,get,CA,B5,B6,CB,B7,D8,Pu.AL,h3,h4,h5,FC]
theorem E3 {ns:List Int} {d:D} (h:d ∈ ns.map D.int):∃ x,d=.int x:=by
 obtain ⟨x,_,e⟩:=aaA.mp h
 exact ⟨x,e.symm⟩
theorem Lo {ns:List Int} {d:D} {lo hi:Option Int} {i:Nat} (h:(cut (ns.map D.int) lo hi)[i]?=some d):∃ x,d=.int x:=by
 have:=aae h
 unfold cut at this
 exact E3 (abz (abA this))
theorem Gi {ns:List Int} {i:Int} (h0:0<=i) (h1:i < ns.length):∃ x,ns[i.toNat]?=some x/\atD (ns.map D.int) i=.ok (.int x):=by
 have hl:i.toNat < ns.length:=by omega
 refine ⟨ns[i.toNat],aah hl,?_⟩
 unfold atD ixN
 rw [aab,if_pos h0,if_pos h1]
 simp [hl]
theorem Ji (ns:List Int) (p:Int) (hp:0<=p):∃ i,Cz.den [.lst (ns.map .int),.int p]=.ok (.int i):=by
 rw [JK _ rfl]
 by_cases h:p < ns.length
 ·obtain ⟨x,_,e⟩:=Gi hp h
  refine ⟨x,?_⟩
  simp -implicitDefEqProofs [run,exs,ex,ev,evs,evI,evBo,tv,get,CC,CA,Dd,B5,B6,CB,B7,D8,DN,DO,DP,DQ,De,Dg,Pu.AL,biD,ixD,DY,ES,evP,upd,BB,umD,Du,Cr,CJ,Ci,CQ,E.isCN,CS,on1,on2,on3,DB,BA,Dt,CU,ET,Dh,Em,dI,dB,dS,dL,dT',un1,un0,C9,h,e]
 ·obtain ⟨δ',e,s,o,rfl⟩:=Bg (tg:=.nm 3) (b:=exs DD) (fun _ δ=>∃ (s:Int) (o:Option D),δ=[some (.lst (ns.map .int)),some (.int p),some (.int s),o]) (ds:=cut (ns.map D.int) none (some 63)) (δ:=[some (.lst (ns.map .int)),some (.int p),some (.int 5),none]) 0 ⟨5,none,rfl⟩ (by
   rintro i d δ hd ⟨s,o,rfl⟩
   obtain ⟨x,rfl⟩:=Lo hd
   refine ⟨_,_,rfl,?_,(s * 48271 + x % 1000003 + 1) % 2147483647,some (.int x),rfl⟩
   simp -implicitDefEqProofs [run,exs,ex,ev,evs,evI,evBo,tv,get,CC,CA,Dd,B5,B6,CB,B7,D8,DN,DO,DP,DQ,De,Dg,Pu.AL,biD,ixD,DY,ES,evP,upd,BB,umD,Du,Cr,CJ,Ci,CQ,E.isCN,CS,on1,on2,on3,DB,BA,Dt,CU,ET,Dh,Em,dI,dB,dS,dL,dT',un1,un0,DD])
  refine ⟨(s + 7919 * p) % 1000003,?_⟩
  simp -implicitDefEqProofs [run,exs,ex,ev,evs,evI,evBo,tv,get,CC,CA,Dd,B5,B6,CB,B7,D8,DN,DO,DP,DQ,De,Dg,Pu.AL,biD,ixD,DY,ES,evP,upd,BB,umD,Du,Cr,CJ,Ci,CQ,E.isCN,CS,on1,on2,on3,DB,BA,Dt,CU,ET,Dh,Em,dI,dB,dS,dL,dT',un1,un0,C9,h,e]
theorem Cm {a b:Int} {i:Nat} {d:D} (h:(Ao a b)[i]?=some d):d=.int (a + i)/\(i:Int) < b - a:=by
 unfold Ao at h
 rw [aan] at h
 obtain ⟨j,hj,e⟩:=aau.mp h
 obtain ⟨h1,h2⟩:=aaq.mp hj
 rw [List.getElem_range] at h2
 subst h2
 rw [abv] at h1
 exact ⟨e.symm,by omega⟩
theorem BR (a b:Int):(Ao a b).length=(b - a).toNat:=by unfold Ao; simp
theorem BH {a b:Int} (h1:-1000000<=a) (h2:a<=1000000) (h3:-1000000<=b) (h4:b<=1000000):Ny (.int a) (.int b)=.ok (Ao a b):=by
 show (if _ then _ else _)=_
 rw [if_pos]
 unfold Fg LIM
 simp -implicitDefEqProofs only [aaj,decide_eq_true_eq]
 omega
theorem CO {ns:List Int} {i:Nat} {x:Int} (h:ns[i]?=some x):atD (ns.map D.int) (i:Int)=.ok (.int x):=by
 have hl:=(aaq.mp h).1
 obtain ⟨y,e1,e2⟩:=Gi (ns:=ns) (i:=(i:Int)) (by omega) (by omega)
 rw [aaG,h] at e1
 cases e1
 exact e2
theorem Hg:b2 .pow (.int 10) (.int 18)=.ok (.int 1000000000000000000):=by
 rw [D8 _ _ (by decide) (by decide) (by decide)]; rfl
theorem Hh:b2 .pow (.int 10) (.int 59)=.ok (.int 100000000000000000000000000000000000000000000000000000000000):=by
 rw [D8 _ _ (by decide) (by decide) (by decide)]; rfl
theorem BI (ds:List D) (d:D) (h:ds.length < 16777216):umD .append [d] ds=some (ds ++ [d]):=by
 show (if _ then _ else _)=_
 exact if_pos h
section
variable {ns S xs:List Int} {p c left:Int} {i:Nat} {s:Int} {o2:Option D} (hs:0 < s) (hat:atD (S.map D.int) (i:Int)=.ok (.int s)) (hi:i<=1000) (hx:xs.length<=1000)
include hs hat hi hx
theorem Sx (h1:c < 1000000000000000000) :
  exs AD [some (.lst (ns.map .int)),some (.int p),some (.lst (S.map .int)),some (.int c),some (.int left),some (.lst (xs.map .int)),some (.int i),o2]=.nxt [some (.lst (ns.map .int)),some (.int p),some (.lst (S.map .int)),some (.int c),some (.int left),some (.lst ((xs ++ [FC c i % s]).map .int)),some (.int i),o2]:=by
 have hmx:=Kt c i (by omega) (by omega)
 have hap:=BI (xs.map D.int) (.int (FC c i % s)) (by rw [aab]; omega)
 simp -implicitDefEqProofs only [AD,exs,ex,tv,ev,evs,evI,evBo,Dq,Dr,Res.bind_ok,Res.out_ok,Out.then_nxt,Out.then_ret,aa5,aaY,Hg,Hh,CA,Dd,B5,B6,CB,B7,DN,DO,DP,DQ,De,Dg,CC,decide_true,decide_false,if_true,if_false,aaX,abg,abr,abx,evP,ixD,DY,ES,upd,BB,aaW,ab8,aao,abC,biD,Du,Cr,CJ,on1,on2,on3,DB,BA,Dt,CU,ET,Dh,Em,dI,dB,dS,dL,dT',un1,un0,Ci,CQ,E.isCN,CS,reduceCtorEq,Int.reduceLT,Int.reduceLE,Int.reduceNeg,Int.reduceBEq,h1,hmx,hat,hs,hap]
theorem Sy (h1:¬ c < 1000000000000000000) (h2:0 < left) (h3:s < 1606938044258990275541962092341162602522202993782792835301376) :
  exs AD [some (.lst (ns.map .int)),some (.int p),some (.lst (S.map .int)),some (.int c),some (.int left),some (.lst (xs.map .int)),some (.int i),o2]=.nxt [some (.lst (ns.map .int)),some (.int p),some (.lst (S.map .int)),some (.int c),some (.int (left / s)),some (.lst ((xs ++ [left % s]).map .int)),some (.int i),o2]:=by
 have hap:=BI (xs.map D.int) (.int (left % s)) (by rw [aab]; omega)
 simp -implicitDefEqProofs only [AD,exs,ex,tv,ev,evs,evI,evBo,Dq,Dr,Res.bind_ok,Res.out_ok,Out.then_nxt,Out.then_ret,aa5,aaY,Hg,Hh,CA,Dd,B5,B6,CB,B7,DN,DO,DP,DQ,De,Dg,CC,decide_true,decide_false,if_true,if_false,aaX,abg,abr,abx,evP,ixD,DY,ES,upd,BB,aaW,ab8,aao,abC,biD,Du,Cr,CJ,on1,on2,on3,DB,BA,Dt,CU,ET,Dh,Em,dI,dB,dS,dL,dT',un1,un0,Ci,CQ,E.isCN,CS,reduceCtorEq,Int.reduceLT,Int.reduceLE,Int.reduceNeg,Int.reduceBEq,h1,h2,h3,hat,hs,hap]
theorem Sz (h1:¬ c < 1000000000000000000) (h2:¬ 0 < left) {q:Int} (hq:Cz.den [.lst (ns.map .int),.int ((p + 1 + i) % 63)]=.ok (.int q)) :
  exs AD [some (.lst (ns.map .int)),some (.int p),some (.lst (S.map .int)),some (.int c),some (.int left),some (.lst (xs.map .int)),some (.int i),o2]=.nxt [some (.lst (ns.map .int)),some (.int p),some (.lst (S.map .int)),some (.int c),some (.int left),some (.lst ((xs ++ [FC q i % s]).map .int)),some (.int i),some (.int q)]:=by
 have hmx:=Kt q i (by omega) (by omega)
 have hap:=BI (xs.map D.int) (.int (FC q i % s)) (by rw [aab]; omega)
 simp -implicitDefEqProofs only [AD,exs,ex,tv,ev,evs,evI,evBo,Dq,Dr,Res.bind_ok,Res.out_ok,Out.then_nxt,Out.then_ret,aa5,aaY,Hg,Hh,CA,Dd,B5,B6,CB,B7,DN,DO,DP,DQ,De,Dg,CC,decide_true,decide_false,if_true,if_false,aaX,abg,abr,abx,evP,ixD,DY,ES,upd,BB,aaW,ab8,aao,abC,biD,Du,Cr,CJ,on1,on2,on3,DB,BA,Dt,CU,ET,Dh,Em,dI,dB,dS,dL,dT',un1,un0,Ci,CQ,E.isCN,CS,reduceCtorEq,Int.reduceLT,Int.reduceLE,Int.reduceNeg,Int.reduceBEq,h1,h2,hq,hmx,hat,hs,hap,Int.reduceLT]
end
theorem FQ (ns:List Int) (p:Int) (hp:0<=p) (S:List Int) (hl:S.length<=1000) (hS:∀ s ∈ S,0 < s/\s < 1606938044258990275541962092341162602522202993782792835301376) :
  ∃ xs:List Int,AK.den [.lst (ns.map .int),.int p,.lst (S.map .int)]=.ok (.lst (xs.map .int))/\xs.length=S.length/\∀ (j:Nat) (x s:Int),xs[j]?=some x->S[j]?=some s->0<=x/\x < s:=by
 obtain ⟨c,hc⟩:=Ji ns p hp
 obtain ⟨δ',e,left,xs,o1,o2,rfl,hx,hb⟩:=Bg (tg:=.nm 6) (b:=exs AD) (fun i δ=>∃ (left:Int) (xs:List Int) (o1 o2:Option D),δ=[some (.lst (ns.map .int)),some (.int p),some (.lst (S.map .int)),some (.int c),some (.int left),some (.lst (xs.map .int)),o1,o2]/\xs.length=i/\∀ (j:Nat) (x s:Int),xs[j]?=some x->S[j]?=some s->0<=x/\x < s)
  (ds:=Ao 0 (S.length:Int)) (δ:=[some (.lst (ns.map .int)),some (.int p),some (.lst (S.map .int)),some (.int c),some (.int c),some (.lst []),none,none]) 0 ⟨c,[],none,none,rfl,rfl,by simp⟩ (by
   rintro i d δ hd ⟨left,xs,o1,o2,rfl,hx,hb⟩
   obtain ⟨rfl,hi⟩:=Cm hd
   have hx:xs.length=i:=by omega
   have hi':i < S.length:=by omega
   have hs:S[i]?=some S[i]:=aah hi'
   have hsp:=hS S[i] (List.getElem_mem hi')
   have hat:=CO hs
   generalize S[i]=s at hs hsp hat
   have fin:∀ z:Int,0<=z->z < s->∀ (j:Nat) (x s:Int),(xs ++ [z])[j]?=some x->S[j]?=some s->0<=x/\x < s:=by
    intro z h0 h1 j x s e1 e2
    by_cases hj:j < xs.length
    ·rw [aaL hj] at e1
     exact hb j x s e1 e2
    ·rw [aay (by omega)] at e1
     have:j=i:=by
      have:=(aaq.mp e1).1
      simp at this; omega
     subst this
     rw [hx,Nat.sub_self] at e1
     rw [hs] at e2
     cases e2; cases e1
     exact ⟨h0,h1⟩
   have md:∀ y:Int,0<=y % s/\y % s < s:=fun y=>⟨aa7 _ (by omega),abt _ hsp.1⟩
   have hz:(0:Int) + (i:Int)=(i:Int):=by omega
   rw [hz]
   have len:∀ z:Int,(xs ++ [z]).length=0 + i + 1:=fun z=>by rw [aav,hx]; simp
   by_cases h1:c < 1000000000000000000
   ·exact ⟨_,_,rfl,Sx hsp.1 hat (by omega) (by omega) h1,left,xs ++ [FC c i % s],some (.int i),o2,rfl,len _,fin _ (md _).1 (md _).2⟩
   ·by_cases h2:0 < left
    ·exact ⟨_,_,rfl,Sy hsp.1 hat (by omega) (by omega) h1 h2 hsp.2,left / s,xs ++ [left % s],some (.int i),o2,rfl,len _,fin _ (md _).1 (md _).2⟩
    ·obtain ⟨q,hq⟩:=Ji ns ((p + 1 + i) % 63) (aa7 _ (by decide))
     exact ⟨_,_,rfl,Sz hsp.1 hat (by omega) (by omega) h1 h2 hq,left,xs ++ [FC q i % s],some (.int i),some (.int q),rfl,len _,fin _ (md _).1 (md _).2⟩)
 refine ⟨xs,?_,by rw [hx,BR]; omega,hb⟩
 have hr:=BH (a:=0) (b:=(S.length:Int)) (by omega) (by omega) (by omega) (by omega)
 refine (He _ rfl).trans (Ad ?_)
 simp -implicitDefEqProofs only [Pu.AL,aa9,aam,aa4,aaT,CH,exs,ex,tv,ev,evs,evI,evBo,Dq,Dr,Res.bind_ok,Res.out_ok,Out.then_nxt,Out.then_ret,aa5,aaY,Hg,Hh,CA,Dd,B5,B6,CB,B7,DN,DO,DP,DQ,De,Dg,CC,decide_true,decide_false,if_true,if_false,aaX,abg,abr,abx,evP,ixD,DY,ES,upd,BB,aaW,ab8,aao,abC,biD,Du,Cr,CJ,on1,on2,on3,DB,BA,Dt,CU,ET,Dh,Em,dI,dB,dS,dL,dT',un1,un0,Ci,CQ,E.isCN,CS,reduceCtorEq,Int.reduceLT,Int.reduceLE,Int.reduceNeg,Int.reduceBEq,hc,aab,hr,e]
theorem HN (i:Int):Bo.den [.int i]=.ok (.bl true):=rfl
theorem Jj (i:Int):F1.den [.int i]=.ok (.bl true):=rfl
theorem EL (i a b:Int):CD.den [.int i,.int a,.int b]=.ok (.bl (decide (a<=i/\i<=b))):=by
 refine (HZ _ rfl).trans (Ad ?_)
 by_cases h1:a<=i <;> by_cases h2:i<=b <;> simp -implicitDefEqProofs only [Pu.AL,aa9,aam,aa4,aaT,CZ,exs,ex,tv,ev,evs,evI,evBo,Dq,Dr,Res.bind_ok,Res.out_ok,Out.then_nxt,Out.then_ret,aa5,aaY,Hg,Hh,CA,Dd,B5,B6,CB,B7,DN,DO,DP,DQ,De,Dg,CC,decide_true,decide_false,if_true,if_false,aaX,abg,abr,abx,evP,ixD,DY,ES,upd,BB,aaW,ab8,aao,abC,biD,Du,Cr,CJ,on1,on2,on3,DB,BA,Dt,CU,ET,Dh,Em,dI,dB,dS,dL,dT',un1,un0,Ci,CQ,E.isCN,CS,reduceCtorEq,Int.reduceLT,Int.reduceLE,Int.reduceNeg,Int.reduceBEq,Jj,h1,h2,and_self,and_true,and_false]
theorem at0 (a b:D):atD [a,b] 0=.ok a:=rfl
theorem at1 (a b:D):atD [a,b] 1=.ok b:=rfl
theorem Rz {xs:List Int} (h:xs.length=1):∃ a,xs=[a]:=by
 match xs,h with
 | [a],_=>exact ⟨a,rfl⟩
section
variable (a b c d e f:D)
theorem S5:atD [a] 0=.ok a:=rfl
end
theorem HP {f:D->Res (Option D)} {g:D->Option D}:∀ {ds:List D},(∀ d ∈ ds,f d=.ok (g d))->Bl f ds=.ok (ds.filterMap g)
 | [],_=>rfl
 | d :: ds,h=>by
  unfold Bl
  rw [h d aac,HP (ds:=ds) fun x hx=>h x (aaa _ hx)]
  show Res.ok _=_
  rw [abe]
  cases g d <;> rfl
theorem Ce {nl:Nat} {fr:List Nat} {tg:Tg} {it:It} {elt:E} {δ:Fr} {ds:List D} {g:D->D} (hi:evI it δ=.ok ds) (h:∀ d ∈ ds,∃ δ',DH tg d (blk nl fr δ)=some δ'/\ev elt δ'=.ok (g d)):ev (.comp0 nl fr tg it elt) δ=.ok (.lst (ds.map g)):=by
 rw [ev,hi,Res.bind_ok,HP (g:=fun d=>some (g d)) (fun d hd=>by
  obtain ⟨δ',e1,e2⟩:=h d hd
  rw [e1]
  show (ev elt δ').bind _=_
  rw [e2]; rfl),Res.bind_ok,List.filterMap_eq_map']
theorem Ej {c:Fr->Res Bool} {b:Fr->Out} (P:Nat->Fr->Prop):∀ (k n m:Nat) {δ:Fr},P m δ->(∀ i δ,m<=i->i < m + k->P i δ->c δ=.ok true/\∃ δ',b δ=.nxt δ'/\P (i + 1) δ')->(∀ δ,P (m + k) δ->c δ=.ok false)->k < n->∃ δ',AM c b n δ=.nxt δ'/\P (m + k) δ'
 | 0,n + 1,m,δ,h0,_,h2,_=>by
  refine ⟨δ,?_,h0⟩
  unfold AM
  rw [h2 δ h0]; rfl
 | k + 1,n + 1,m,δ,h0,h1,h2,hn=>by
  obtain ⟨e1,δ',e2,h3⟩:=h1 m δ (aag _) (by omega) h0
  obtain ⟨δ2,e4,h4⟩:=Ej P k n (m + 1) h3 (fun i δ hi hl=>h1 i δ (by omega) (by omega)) (fun δ hd=>h2 δ (by rw [show m + (k + 1)=m + 1 + k by omega]; exact hd)) (by omega)
  refine ⟨δ2,?_,by rw [show m + (k + 1)=m + 1 + k by omega]; exact h4⟩
  unfold AM
  rw [e1,Res.out_ok,if_pos rfl,e2]
  exact e4
theorem MI (xs:List D) (h:xs.all (D.shp 7)=true):c2 .ne (.lst xs) (.lst [])=.ok (.bl (!xs.isEmpty)):=by
 show (if (D.shp 8 (.lst xs) && D.shp 8 (.lst [])) then _ else _)=_
 rw [show D.shp 8 (.lst xs)=true from h,show D.shp 8 (.lst [])=true from rfl]
 cases xs <;> rfl
theorem Lp {b:Int} {d:D} (h:d ∈ Ao 0 b):∃ i:Nat,d=.int i/\(i:Int) < b:=by
 obtain ⟨i,hi⟩:=act h
 obtain ⟨rfl,h⟩:=Cm hi
 exact ⟨i,by rw [abS],by omega⟩
theorem PK (a b:List D) (h:a.length + b.length<=16777216):b2 .add (.lst a) (.lst b)=.ok (.lst (a ++ b)):=by
 show (if _ then _ else _)=_
 exact if_pos h
noncomputable def cnt (p f i:Nat):Nat:=(p + f ^ i - 1) / f ^ i
theorem Gj (p f:Nat):cnt p f 0=p:=by unfold cnt; simp
theorem Jk {p f:Nat} (hf:1<=f) (i:Nat):cnt p f (i + 1)=(cnt p f i + f - 1) / f:=by
 unfold cnt
 have hw:0 < f ^ i:=abc (by omega)
 have h1:(p + f ^ i - 1) / f ^ i + f - 1=(p + f ^ (i + 1) - 1) / f ^ i:=by
  have e:p + f ^ (i + 1) - 1=(p + f ^ i - 1) + f ^ i * (f - 1):=by
   have:f ^ (i + 1)=f ^ i * (f - 1) + f ^ i:=by
    rw [abn,<- Nat.mul_succ]; congr 1; omega
   omega
  rw [e,Nat.add_mul_div_left _ _ hw]
  generalize (p + f ^ i - 1) / f ^ i=q
  omega
 rw [h1,ack,abn]
structure Hs (p f h:Nat):Prop where
 one:cnt p f h=1
 more:∀ i,i < h->1 < cnt p f i
theorem Ku {p f h:Nat} (hf:1<=f) (hh:p<=f ^ h) (hp:1<=p):cnt p f h=1:=by
 unfold cnt
 have hw:0 < f ^ h:=abc (by omega)
 apply acz <;> omega
theorem Ov {p f:Nat} (hf:2<=f) (hp:1<=p):∀ n:Nat,p<=f ^ n->∃ h,h<=n/\Hs p f h
 | 0,h=>⟨0,aag _,Ku (by omega) h hp,fun i hi=>absurd hi (by omega)⟩
 | n + 1,h=>by
  by_cases hn:p<=f ^ n
  ·obtain ⟨k,h1,h2⟩:=Ov hf hp n hn
   exact ⟨k,by omega,h2⟩
  ·refine ⟨n + 1,aag _,Ku (by omega) h hp,fun i hi=>?_⟩
   unfold cnt
   have hw:0 < f ^ i:=abc (by omega)
   have hm:f ^ i<=f ^ n:=abT (by omega) (by omega)
   have:2<=(p + f ^ i - 1) / f ^ i:=by
    rw [acr hw]; omega
   omega
theorem hs8 {p f:Nat} (hf:2<=f) (hp:1<=p) (hp2:p<=200):∃ h,h<=8/\Hs p f h:=by
 refine Ov hf hp 8 (aaD (show p<=2 ^ 8 by omega) (acA hf 8))
theorem N0 {f l:Nat} (hf:f<=8) (hl:l<=9):f ^ l<=134217728 :=
 aaD (acA hf l) (aaD (abT (by decide) hl) (by decide))
theorem Cf {p f l j:Nat} (hf:1<=f):j < cnt p f l ↔ j * f ^ l < p:=by
 unfold cnt
 have hw:0 < f ^ l:=abc (by omega)
 rw [<- Nat.succ_le_iff,acr hw,abQ]
 omega
theorem FD {p f l:Nat} (hf:1<=f):cnt p f l<=p:=by
 apply aba
 intro h
 have:=(Cf hf).mp h
 have hw:0 < f ^ l:=abc (by omega)
 have:=acb p hw
 omega
noncomputable def mx (b:Nat->Bool):Nat->Nat
 | 0=>0
 | l + 1=>if b (l + 1) then l + 1 else mx b l
theorem GT (b:Nat->Bool):∀ n,mx b n<=n
 | 0=>aag _
 | l + 1=>by unfold mx; split; exact aag _; exact Nat.le_succ_of_le (GT b l)
theorem Im {b:Nat->Bool} (h0:b 0=true):∀ n,b (mx b n)=true
 | 0=>h0
 | l + 1=>by unfold mx; split; assumption; exact Im h0 l
theorem Lq {b:Nat->Bool}:∀ n l,mx b n < l->l<=n->b l=false
 | 0,l,h,h2=>by unfold mx at h; omega
 | n + 1,l,h,h2=>by
  unfold mx at h
  split at h
  ·omega
  ·rename_i hb
   by_cases e:l=n + 1
   ·subst e; simpa using hb
   ·exact Lq n l h (by omega)
noncomputable def okL (p f a e l:Nat):Bool:=a % f ^ l==0 && decide (min p (a + f ^ l)<=e)
theorem EM {p f a e l:Nat}:okL p f a e l=true ↔ a % f ^ l=0/\min p (a + f ^ l)<=e:=by unfold okL; simp
theorem Jl {p f a e l k:Nat} (hf:1<=f) (h:okL p f a e l=true) (hk:k<=l):okL p f a e k=true:=by
 rw [EM] at h ⊢
 refine ⟨Nat.mod_eq_zero_of_dvd (Nat.dvd_trans (Nat.pow_dvd_pow f hk) (Nat.dvd_of_mod_eq_zero h.1)),?_⟩
 have:f ^ k<=f ^ l:=abT hf hk
 omega
noncomputable def lvA (p f h e a:Nat):Nat:=mx (okL p f a e) h
noncomputable def nxA (p f h e a:Nat):Nat:=min p (a + f ^ lvA p f h e a)
noncomputable def cov (p f h e:Nat):Nat->Nat->List (Nat × Nat)
 | 0,_=>[]
 | n + 1,a=>if a < e then (lvA p f h e a,a / f ^ lvA p f h e a) :: cov p f h e n (nxA p f h e a) else []
theorem N1 {p f a e:Nat} (h:a < e):okL p f a e 0=true:=by
 rw [EM,ab9,Nat.mod_one]; omega
theorem FE {p f h a e:Nat} (hae:a < e):a % f ^ lvA p f h e a=0/\nxA p f h e a<=e:=EM.mp (Im (N1 hae) h)
theorem Jm {p f h a e:Nat} (hf:1<=f) (hae:a < e) (hep:e<=p):a < nxA p f h e a:=by
 unfold nxA
 have:0 < f ^ lvA p f h e a:=abc (by omega)
 omega
end Pu
end
section
open Pu
local macro_rules | `(tactic| simp_arith [$xs,*] $[at $h:ident]?)=>`(tactic| simp -implicitDefEqProofs only [Pu.AL,aa9,aam,aa4,aaT,↓reduceIte,aaK,Nat.reduceAdd,Nat.reduceSub,acE,Int.reduceAdd,Int.reduceSub,Int.reduceMul,at0,at1,beq_self_eq_true,acv,acy,abZ,acn,acp,exs,ex,tv,ev,evs,evI,evBo,Dq,Dr,Res.bind_ok,Res.out_ok,Out.then_nxt,Out.then_ret,aa5,aaY,Hg,Hh,CA,Dd,B5,B6,CB,B7,DN,DO,DP,DQ,De,Dg,CC,decide_true,decide_false,if_true,if_false,aaX,abg,abr,abx,evP,ixD,DY,ES,upd,BB,aaW,ab8,aao,abC,biD,Du,Cr,CJ,on1,on2,on3,DB,BA,Dt,CU,ET,Dh,Em,dI,dB,dS,dL,dT',un1,un0,Ci,CQ,E.isCN,CS,reduceCtorEq,Int.reduceLT,Int.reduceLE,Int.reduceNeg,Int.reduceBEq,$xs,*] $[at $h:ident]?)
namespace Pu
open PySem
theorem E4 {c:Fr->Res Bool} {b:Fr->Out} {n:Nat} {δ δ':Fr} (h1:c δ=.ok true) (h2:b δ=.nxt δ'):AM c b (n + 1) δ=AM c b n δ':=by
 rw [AM,h1,Res.out_ok,if_pos rfl,h2,Out.then_nxt]
theorem Cn {c:Fr->Res Bool} {b:Fr->Out} {n:Nat} {δ:Fr} (h1:c δ=.ok false):AM c b (n + 1) δ=.nxt δ:=by
 rw [AM,h1,Res.out_ok]; rfl
noncomputable def iN (n:Nat):D:=.int n
noncomputable def A7 (xs:List Nat):D:=.lst (xs.map iN)
noncomputable def lvD (p f h:Nat):List Nat:=(aax (h + 1)).map (cnt p f)
noncomputable def shD (p f:Nat):D:=.tup [.int p,.int f]
noncomputable def Ai (l j:Nat):D:=.tup [.int l,.int j]
theorem MJ {m f:Nat} (hf:1<=f):((m:Int) + (f:Int) - 1) / (f:Int)=(((m + f - 1) / f:Nat):Int):=by
 rw [aca]; congr 1; omega
theorem Jn {xs:List Nat} {i:Nat} (h:i < xs.length):atD (xs.map iN) (i:Int)=.ok (.int (xs[i]:Nat)):=by
 unfold atD ixN
 rw [aab,if_pos (by omega),if_pos (by omega)]
 simp [h,iN]
theorem FR (p f i:Nat):((aax (i + 1)).map (cnt p f)).map iN=((aax i).map (cnt p f)).map iN ++ [.int (cnt p f i)]:=by
 rw [abE,aao,aao]; rfl
section
variable {p f h:Nat} (hf:2<=f) (hf8:f<=8) (H:Hs p f h) (hh:h<=8)
include hf hf8 H hh
theorem PL (xs:List D) (hl:xs.length<=1000) (i:Nat):exs Cw [some (shD p f),some (.int f),some (.lst xs),some (.int (cnt p f i))]=.nxt [some (shD p f),some (.int f),some (.lst (xs ++ [.int (cnt p f i)])),some (.int (cnt p f (i + 1)))]:=by
 have hap:=BI xs (.int (cnt p f i)) (by omega)
 have h1:0 < (f:Int):=by omega
 have h2:(f:Int) < 1606938044258990275541962092341162602522202993782792835301376:=by omega
 rw [Jk (by omega),<- MJ (by omega)]
 simp_arith [Cw,hap,h1,h2]
theorem PM:AM (tv (.cmp .gt (.nm 3) (.cI 1))) (exs Cw) FU [some (shD p f),some (.int f),some (.lst []),some (.int p)]=.nxt [some (shD p f),some (.int f),some (.lst (((aax h).map (cnt p f)).map iN)),some (.int (1:Nat))]:=by
 obtain ⟨δ',e,rfl⟩:=Ej (c:=tv (.cmp .gt (.nm 3) (.cI 1))) (b:=exs Cw) (fun i δ=>δ=[some (shD p f),some (.int f),some (.lst (((aax i).map (cnt p f)).map iN)),some (.int (cnt p f i))]) h FU 0 (δ:=[some (shD p f),some (.int f),some (.lst []),some (.int p)]) (by rw [Gj]; rfl) (by
   rintro i δ _ hi rfl
   have:=H.more i (by omega)
   have h1:(1:Int) < (cnt p f i:Int):=by omega
   refine ⟨?_,_,PL hf hf8 H hh _ (by simp; omega) i,by rw [FR]⟩
   simp_arith [h1]) (by
   rintro δ rfl
   rw [aaK,H.one]
   rfl) (by unfold FU; omega)
 rw [e,aaK,H.one]
theorem E5:Dy.den [shD p f]=.ok (A7 (lvD p f h)):=by
 have hl:=PM hf hf8 H hh
 have hap:=BI (((aax h).map (cnt p f)).map iN) (.int (1:Nat)) (by simp; omega)
 have e:=FR p f h
 rw [H.one] at e
 refine (MH _ rfl).trans (Ad ?_)
 unfold A7 lvD
 rw [e]
 unfold shD at hl ⊢
 have h1:((1:Nat):Int)=1:=rfl
 rw [h1] at hap hl ⊢
 simp_arith [E0,hl,hap]
end
theorem BJ (p f h:Nat):(lvD p f h).length=h + 1:=by unfold lvD; simp
theorem FS {p f h i:Nat} (hi:i<=h):(lvD p f h)[i]'(by rw [BJ]; omega)=cnt p f i:=by unfold lvD; simp
section
variable {p f h:Nat} (hf:2<=f) (hf8:f<=8) (H:Hs p f h) (hh:h<=8) {l j:Nat} (hl:l<=h) (hj:j < cnt p f l)
include hl hj
theorem Kv:Br.den [A7 (lvD p f h),Ai l j]=.ok (.bl true):=by
 have h1:=EL (l:Int) 0 (((lvD p f h).length:Int) - 1)
 rw [BJ,decide_eq_true (by omega)] at h1
 have h2:=EL (j:Int) 0 ((cnt p f l:Int) - 1)
 rw [decide_eq_true (by omega)] at h2
 have h3:=Jn (xs:=lvD p f h) (i:=l) (by rw [BJ]; omega)
 rw [FS hl] at h3
 have h4:(h:Int) + 1 - 1=h:=by omega
 refine (FA _ rfl).trans (Ad ?_)
 unfold A7 Ai
 have h5:=BJ p f h
 simp_arith [By,h1,h2,h3,h5,aab,aaK,Nat.reduceAdd,acE]
end
theorem Kw {n:Nat} {b:Ss} {ds:List D} {δ:Fr} (h:exs b (Pu.AL n ds)=.nxt δ):run n b ds=.ok .non:=by
 unfold run; rw [h]
theorem MK (a b c d:Int):c2 .eq (.tup [.int a,.int b]) (.tup [.int c,.int d])=.ok (.bl (a==c && (b==d && true))):=rfl
theorem N2 (xs:List Nat) (k:Nat):(xs.map iN).all (D.shp k)=true:=by
 rw [aaw]
 intro d hd
 obtain ⟨n,_,rfl⟩:=aaA.mp hd
 cases k <;> rfl
theorem FF (xs:List D) (h:xs.all (D.shp 7)=true):c2 .eq (.lst xs) (.lst [])=.ok (.bl xs.isEmpty):=by
 show (if (D.shp 8 (.lst xs) && D.shp 8 (.lst [])) then _ else _)=_
 rw [show D.shp 8 (.lst xs)=true from h,show D.shp 8 (.lst [])=true from rfl]
 cases xs <;> rfl
section
variable {p f h:Nat} (hf:2<=f) (hf8:f<=8) (H:Hs p f h) (hh:h<=8)
include hf hf8 H hh
section
variable {l j:Nat} (hl:l<=h) (hj:j < cnt p f l)
include hl hj
theorem JN:E1.den [shD p f,Ai l j]=.ok (.bl true):=by
 have h1:=E5 hf hf8 H hh
 have h2:=Kv hl hj
 refine (Ll _ rfl).trans (Ad ?_)
 simp_arith [Ed,h1,h2]
theorem Co:BT.den [shD p f,Ai l j]=.ok .non:=by
 have h1:=JN hf hf8 H hh hl hj
 refine (Ia _ rfl).trans (Kw (δ:=[some (shD p f),some (Ai l j)]) ?_)
 simp_arith [C0,h1]
end
theorem ML (l j:Nat):∃ o,AU (.nm 3) (exs Ee) (Ao 0 (l:Int)) [some (shD p f),some (Ai l j),some (.int 1),none,none]=.nxt [some (shD p f),some (Ai l j),some (.int ((f ^ l:Nat):Int)),o,none]:=by
 obtain ⟨δ',e,o,rfl⟩:=Bg (tg:=.nm 3) (b:=exs Ee) (fun i δ=>∃ o,δ=[some (shD p f),some (Ai l j),some (.int ((f ^ i:Nat):Int)),o,none]) (ds:=Ao 0 (l:Int)) (δ:=[some (shD p f),some (Ai l j),some (.int 1),none,none]) 0 ⟨none,rfl⟩ (by
  rintro i d δ hd ⟨o,rfl⟩
  refine ⟨_,_,rfl,?_,some d,rfl⟩
  have h1:-(18446744073709551616) < (f:Int):=by omega
  have h2:(f:Int) < 18446744073709551616:=by omega
  rw [abn,aaK,aa0]
  unfold shD
  simp_arith [Ee,h1,h2])
 rw [BR,ab5,aaG,aaK] at e
 exact ⟨o,e⟩
theorem Jo {l j:Nat} (hl:l<=h) (hj:j < cnt p f l):Ck.den [shD p f,Ai l j]=.ok (Ai (j * f ^ l) (min p (j * f ^ l + f ^ l))):=by
 have hc:=Co hf hf8 H hh hl hj
 obtain ⟨o,e⟩:=ML hf hf8 H hh l j
 have hr:=BH (a:=0) (b:=(l:Int)) (by omega) (by omega) (by omega) (by omega)
 have hw:=N0 (f:=f) (l:=l) hf8 (by omega)
 have h1:-(18446744073709551616) < ((f ^ l:Nat):Int):=by omega
 have h2:((f ^ l:Nat):Int) < 18446744073709551616:=by omega
 refine (PJ _ rfl).trans (Ad ?_)
 generalize f ^ l=w at *
 have h3:(((min p (j * w + w):Nat)):Int)=min ((j:Int) * w + w) p:=by rw [<- aa0]; omega
 unfold Ai at e hc ⊢
 unfold shD at e hc ⊢
 rw [h3,aa0]
 simp_arith [GO,hc,hr,e,h1,h2]
theorem Jp:Jd.den [shD p f]=.ok (Ai h 0):=by
 have h1:=E5 hf hf8 H hh
 have h2:=FF ((lvD p f h).map iN) (N2 _ _)
 have h3:((lvD p f h).map iN).isEmpty=false:=by
  rw [List.isEmpty_eq_false_iff_exists_mem]
  refine ⟨iN (cnt p f 0),aaA.mpr ⟨cnt p f 0,?_,rfl⟩⟩
  exact aaA.mpr ⟨0,by simp,rfl⟩
 rw [h3] at h2
 have h5:=BJ p f h
 refine (Ry _ rfl).trans (Ad ?_)
 unfold A7 at h1
 unfold Ai
 have h6:(((h + 1:Nat):Int) - 1)=h:=by omega
 simp_arith [Il,h1,h2,h5,h6,aab]
theorem Hi:Cc.den [shD p f,Ai h 0]=.ok .non:=by
 have hc:=Co hf hf8 H hh (l:=h) (j:=0) (aag _) (by rw [H.one]; decide)
 have ht:=Jp hf hf8 H hh
 have h1:(((h:Int)==(h:Int)) && (((0:Int)==(0:Int)) && true))=true:=by simp
 refine (HL _ rfl).trans (Ad ?_)
 unfold Ai at hc ht ⊢
 rw [show ((0:Nat):Int)=0 from rfl] at *
 simp_arith [D3,hc,ht,MK,h1]
theorem Lr {l j:Nat} (hl:l < h) (hj:j < cnt p f l):Cc.den [shD p f,Ai l j]=.ok (Ai (l + 1) (j / f)):=by
 have hc:=Co hf hf8 H hh (l:=l) (j:=j) (by omega) hj
 have ht:=Jp hf hf8 H hh
 have h1:(((l:Int)==(h:Int)) && ((j:Int)==(0:Int)))=false:=by
  have:((l:Int)==(h:Int))=false:=by simp; omega
  rw [this]; rfl
 have h2:0 < (f:Int):=by omega
 have h3:(f:Int) < 1606938044258990275541962092341162602522202993782792835301376:=by omega
 refine (HL _ rfl).trans (Ad ?_)
 unfold Ai shD at *
 rw [aca,Int.natCast_add]
 rw [show ((0:Nat):Int)=0 from rfl] at ht
 simp_arith [D3,hc,ht,MK,h1,h2,h3,Int.natCast_one]
end
theorem N3 (a b c d:Int):Bj.den [.tup [.int a,.int b],.int c,.int d]=.ok (.bl (decide (c<=a/\b<=d))):=by
 refine (Hb _ rfl).trans (Ad ?_)
 by_cases h1:c<=a <;> by_cases h2:b<=d <;> simp_arith [CF,h1,h2,and_self,and_true,and_false]
theorem PN (a b k:Nat):D.flat 9 k (Ai a b)=true:=rfl
noncomputable def Ah (q:Nat × Nat):D:=Ai q.1 q.2
noncomputable def E6 (p f h e n a:Nat):List D:=(cov p f h e n a).map Ah
section
variable {p f h:Nat} (hf:2<=f) (hf8:f<=8) (H:Hs p f h) (hh:h<=8)
include hf hf8 H hh
section
variable {a e:Nat} (hae:a < e) (hep:e<=p)
include hae hep
theorem GU (l:Nat):a / f ^ l < cnt p f l:=by
 rw [Cf (by omega)]
 have:=acB a (f ^ l)
 omega
theorem RA (l:Nat) (hl:l < h):Cc.den [shD p f,Ai l (a / f ^ l)]=.ok (Ai (l + 1) (a / f ^ (l + 1))):=by
 have:=Lr hf hf8 H hh hl (GU hf hf8 H hh hae hep l)
 rw [ack,<- abn] at this
 exact this
theorem MM (l:Nat) (hl:l<=h) (h0:a % f ^ l=0\/True):∃ b c:Nat,Ck.den [shD p f,Ai l (a / f ^ l)]=.ok (Ai b c)/\Bj.den [Ai b c,.int a,.int e]=.ok (.bl (okL p f a e l)):=by
 refine ⟨_,_,Jo hf hf8 H hh hl (GU hf hf8 H hh hae hep l),?_⟩
 unfold Ai
 rw [N3]
 congr 2
 have hw:0 < f ^ l:=abc (by omega)
 have hm:=abU a (f ^ l)
 rw [abl] at hm
 rw [abV,decide_eq_true_eq,EM]
 generalize f ^ l=w at *
 generalize a / w=q at *
 generalize a % w=r at *
 generalize q * w=x at *
 constructor
 ·rintro ⟨h1,h2⟩
  have:r=0:=by omega
  omega
 ·rintro ⟨h1,h2⟩
  omega
noncomputable def upD (p f h a l:Nat):D:=if l=h then .non else Ai (l + 1) (a / f ^ (l + 1))
theorem Ow (l:Nat) (hl:l<=h):Cc.den [shD p f,Ai l (a / f ^ l)]=.ok (upD p f h a l):=by
 unfold upD
 by_cases e':l=h
 ·rw [if_pos e']
  have h0:a / f ^ l=0:=by
   have:=GU hf hf8 H hh hae hep l
   rw [e',H.one,<- e'] at this
   exact Nat.lt_one_iff.mp this
  rw [h0,e']
  exact Hi hf hf8 H hh
 ·rw [if_neg e']
  exact RA hf hf8 H hh hae hep l (by omega)
theorem Ky (l:Nat) (hl:l<=h):tv (.bo true (.cons (.isN true (.nm 4)) (.cons (.call Bj (.cons (.callB Ck (.cons (.nm 0) (.cons (.nm 4) .nil))) (.cons (.nm 1) (.cons (.nm 2) .nil)))) .nil))) [some (shD p f),some (.int a),some (.int e),some (Ai l (a / f ^ l)),some (upD p f h a l)]=.ok (decide (l < h) && okL p f a e (l + 1)):=by
 unfold upD
 by_cases e':l=h
 ·have h1:decide (l < h)=false:=by simp; omega
  rw [if_pos e',h1]
  simp_arith []
 ·have h1:decide (l < h)=true:=by simp; omega
  rw [if_neg e',h1]
  obtain ⟨b,c,h2,h3⟩:=MM hf hf8 H hh hae hep (l + 1) (by omega) (.inr trivial)
  have h4:=PN b c Ck.dep
  simp_arith [show (Ai (l + 1) (a / f ^ (l + 1)))=.tup [.int ((l + 1:Nat):Int),.int ((a / f ^ (l + 1):Nat):Int)] from rfl]
  rw [show D.tup [.int ((l + 1:Nat):Int),.int ((a / f ^ (l + 1):Nat):Int)]=(Ai (l + 1) (a / f ^ (l + 1))) from rfl,h2]
  simp_arith [h4,h3]
theorem PQ (l:Nat) (hl:l < h):exs Bp [some (shD p f),some (.int a),some (.int e),some (Ai l (a / f ^ l)),some (upD p f h a l)]=.nxt [some (shD p f),some (.int a),some (.int e),some (Ai (l + 1) (a / f ^ (l + 1))),some (upD p f h a (l + 1))]:=by
 have h1:upD p f h a l=Ai (l + 1) (a / f ^ (l + 1)):=by unfold upD; rw [if_neg (by omega)]
 have h2:=Ow hf hf8 H hh hae hep (l + 1) (by omega)
 rw [h1]
 simp_arith [Bp,h2]
theorem RB:Cp.den [shD p f,.int a,.int e]=.ok (Ai (lvA p f h e a) (a / f ^ lvA p f h e a)):=by
 have hm:lvA p f h e a<=h:=GT _ _
 obtain ⟨δ',e',rfl⟩:=Ej (c:=tv (.bo true (.cons (.isN true (.nm 4)) (.cons (.call Bj (.cons (.callB Ck (.cons (.nm 0) (.cons (.nm 4) .nil))) (.cons (.nm 1) (.cons (.nm 2) .nil)))) .nil)))) (b:=exs Bp) (fun l δ=>δ=[some (shD p f),some (.int a),some (.int e),some (Ai l (a / f ^ l)),some (upD p f h a l)]) (lvA p f h e a) FU 0 (δ:=[some (shD p f),some (.int a),some (.int e),some (Ai 0 (a / f ^ 0)),some (upD p f h a 0)]) rfl (by
   rintro l δ _ hl rfl
   refine ⟨?_,_,PQ hf hf8 H hh hae hep l (by omega),rfl⟩
   rw [Ky hf hf8 H hh hae hep l (by omega),decide_eq_true (by omega),abZ]
   congr 1
   exact Jl (by omega) (Im (N1 hae) h) (show l + 1<=lvA p f h e a by omega)) (by
   rintro δ rfl
   rw [aaK,Ky hf hf8 H hh hae hep _ hm]
   by_cases h1:lvA p f h e a < h
   ·rw [Lq (b:=okL p f a e) h (lvA p f h e a + 1) (ab7 _) h1,acp]
   ·rw [decide_eq_false h1,acn]) (by unfold FU; omega)
 rw [aaK] at e'
 have h1:=Ow hf hf8 H hh hae hep 0 (by omega)
 rw [ab9,Nat.div_one] at h1 e'
 refine (FT _ rfl).trans (Ad ?_)
 unfold Ai at h1 e' ⊢
 rw [show ((0:Nat):Int)=0 from rfl] at h1 e'
 simp_arith [BO,h1,e']
theorem PR:Ck.den [shD p f,Ai (lvA p f h e a) (a / f ^ lvA p f h e a)]=.ok (Ai a (nxA p f h e a)):=by
 have h1:=Jo hf hf8 H hh (show lvA p f h e a<=h from GT (okL p f a e) h) (GU hf hf8 H hh hae hep (lvA p f h e a))
 rw [show a / f ^ lvA p f h e a * f ^ lvA p f h e a=a by
  have:=abU a (f ^ lvA p f h e a)
  rw [(FE hae).1,abl] at this
  exact this] at h1
 exact h1
theorem PU (b:Nat) (xs:List D) (hx:xs.length<=1000) (o:Option D):exs C5 [some (shD p f),some (.int b),some (.int e),some (.lst xs),some (.int a),o]=.nxt [some (shD p f),some (.int b),some (.int e),some (.lst (xs ++ [Ai (lvA p f h e a) (a / f ^ lvA p f h e a)])),some (.int (nxA p f h e a)),some (Ai (lvA p f h e a) (a / f ^ lvA p f h e a))]:=by
 have h1:=RB hf hf8 H hh hae hep
 have h2:=PR hf hf8 H hh hae hep
 generalize Ai (lvA p f h e a) (a / f ^ lvA p f h e a)=nd at *
 have h3:=BI xs nd (by omega)
 unfold Ai at h2
 simp_arith [C5,h1,h2,h3]
end
theorem Kz {e:Nat} (hep:e<=p) (b:Nat):∀ (n m a:Nat) (xs:List D) (o:Option D),e - a<=n->n < m->a<=e->xs.length + n<=1000->∃ o',AM (tv (.cmp .lt (.nm 4) (.nm 2))) (exs C5) m [some (shD p f),some (.int b),some (.int e),some (.lst xs),some (.int a),o]=.nxt [some (shD p f),some (.int b),some (.int e),some (.lst (xs ++ E6 p f h e n a)),some (.int e),o']
 | n,m + 1,a,xs,o,h1,h2,h3,h4=>by
  by_cases hae:a < e
  ·obtain ⟨n,rfl⟩:∃ k,n=k + 1:=⟨n - 1,by omega⟩
   have c1:(a:Int) < e:=by omega
   have hn:=Jm (p:=p) (f:=f) (h:=h) (by omega) hae hep
   have hn2:=(FE (p:=p) (f:=f) (h:=h) hae).2
   rw [E4 (by simp_arith [c1]) (PU hf hf8 H hh hae hep b xs (by omega) o)]
   obtain ⟨o',e'⟩:=Kz hep b n m (nxA p f h e a) (xs ++ [Ai (lvA p f h e a) (a / f ^ lvA p f h e a)]) (some (Ai (lvA p f h e a) (a / f ^ lvA p f h e a))) (by omega) (by omega) hn2 (by simp; omega)
   refine ⟨o',?_⟩
   rw [e',aa6]
   unfold E6
   rw [cov,if_pos hae]
   rfl
  ·have ha:a=e:=by omega
   subst ha
   have c1:¬ (a:Int) < a:=by omega
   refine ⟨o,?_⟩
   rw [Cn (by simp_arith [c1])]
   unfold E6
   cases n with
   | zero=>simp [cov]
   | succ n=>rw [cov,if_neg hae]; simp
theorem HQ {a e:Nat} (hae:a<=e) (hep:e<=p) (hp:p<=200):Dn.den [shD p f,.int a,.int e]=.ok (.lst (E6 p f h e 200 a)):=by
 obtain ⟨o,e'⟩:=Kz hf hf8 H hh hep a 200 FU a [] none (by omega) (by unfold FU; omega) hae (by simp)
 have c1:¬ (a:Int) < 0:=by omega
 have c2:¬ (p:Int) < e:=by omega
 have c3:¬ (e:Int) < a:=by omega
 rw [aaT] at e'
 refine (Je _ rfl).trans (Ad ?_)
 unfold shD at e' ⊢
 simp_arith [EG,c1,c2,c3,e']
end
theorem Hj (xs:List D) (d:D):atD (xs ++ [d]) (-1)=.ok d:=by
 unfold atD ixN
 rw [if_neg (by decide),if_pos (by rw [aav,abh]; omega),aav,abh]
 show (match (xs ++ [d])[((-1:Int) + ((xs.length + 1:Nat):Int)).toNat]? with | some d=>Res.ok d | none=>Res.bad)=_
 rw [show ((-1:Int) + ((xs.length + 1:Nat):Int)).toNat=xs.length by omega,aay (aag _),Nat.sub_self]
 rfl
section
variable {p f h:Nat} (hf:2<=f) (hf8:f<=8) (H:Hs p f h) (hh:h<=8)
include hf hf8 H hh
noncomputable def cL (p f i:Nat):D:=.lst (((aax i).map (cnt p f)).map iN ++ [.int (cnt p f i)])
theorem PV (i:Nat) (hi:i<=8):exs AV [some (.int p),some (.int f),some (cL p f i)]=.nxt [some (.int p),some (.int f),some (cL p f (i + 1))]:=by
 have h0:=Hj (((aax i).map (cnt p f)).map iN) (.int (cnt p f i))
 have hap:=BI (((aax i).map (cnt p f)).map iN ++ [.int (cnt p f i)]) (.int (cnt p f (i + 1))) (by simp; omega)
 have h1:0 < (f:Int):=by omega
 have h2:(f:Int) < 1606938044258990275541962092341162602522202993782792835301376:=by omega
 have e1:cL p f (i + 1)=.lst ((((aax i).map (cnt p f)).map iN ++ [.int (cnt p f i)]) ++ [.int (cnt p f (i + 1))]):=by
  unfold cL; rw [FR]
 rw [e1]
 rw [Jk (by omega),<- MJ (by omega)] at hap ⊢
 unfold cL
 generalize ((aax i).map (cnt p f)).map iN=xs at *
 simp_arith [AV,h0,h1,h2,hap]
theorem PX:AM (tv (.cmp .gt (.ixL (.nm 2) (.neg (.cI 1))) (.cI 1))) (exs AV) FU [some (.int p),some (.int f),some (cL p f 0)]=.nxt [some (.int p),some (.int f),some (cL p f h)]:=by
 have cd:∀ i,tv (.cmp .gt (.ixL (.nm 2) (.neg (.cI 1))) (.cI 1)) [some (.int p),some (.int f),some (cL p f i)]=.ok (decide (1 < (cnt p f i:Int))):=fun i=>by
  have h0:=Hj (((aax i).map (cnt p f)).map iN) (.int (cnt p f i))
  unfold cL
  simp_arith [h0]
 obtain ⟨δ',e,rfl⟩:=Ej (c:=tv (.cmp .gt (.ixL (.nm 2) (.neg (.cI 1))) (.cI 1))) (b:=exs AV) (fun i δ=>δ=[some (.int p),some (.int f),some (cL p f i)]) h FU 0 (δ:=[some (.int p),some (.int f),some (cL p f 0)]) rfl (by
   rintro i δ _ hi rfl
   have:=H.more i (by omega)
   refine ⟨?_,_,PV hf hf8 H hh i (by omega),rfl⟩
   rw [cd,decide_eq_true (by omega)]) (by
   rintro δ rfl
   rw [aaK,cd,H.one]
   rfl) (by unfold FU; omega)
 rw [e,aaK]
theorem GV (hp:1<=p):Bb.den [.int p,.int f]=.ok (A7 (lvD p f h)):=by
 have hl:=PX hf hf8 H hh
 have e:A7 (lvD p f h)=cL p f h:=by unfold A7 lvD cL; rw [FR]
 have c1:((p:Int)==0)=false:=by simp; omega
 have e0:cL p f 0=.lst [.int p]:=by unfold cL; rw [Gj]; rfl
 rw [e0] at hl
 rw [e]
 refine (DE _ rfl).trans (Ad ?_)
 simp_arith [Bm,c1,hl]
end
theorem JO (f:Nat):Bb.den [.int 0,.int f]=.ok (A7 []):=by
 refine (DE _ rfl).trans (Ad ?_)
 unfold A7
 simp_arith [Bm]
theorem Ls (p f l j:Nat) (hf8:f<=8):∃ o,AU (.nm 5) (exs Bs) (Ao 0 (l:Int)) [some (.int p),some (.int f),some (.int l),some (.int j),some (.int 1),none]=.nxt [some (.int p),some (.int f),some (.int l),some (.int j),some (.int ((f ^ l:Nat):Int)),o]:=by
 obtain ⟨δ',e,o,rfl⟩:=Bg (tg:=.nm 5) (b:=exs Bs) (fun i δ=>∃ o,δ=[some (.int p),some (.int f),some (.int l),some (.int j),some (.int ((f ^ i:Nat):Int)),o]) (ds:=Ao 0 (l:Int)) (δ:=[some (.int p),some (.int f),some (.int l),some (.int j),some (.int 1),none]) 0 ⟨none,rfl⟩ (by
  rintro i d δ hd ⟨o,rfl⟩
  refine ⟨_,_,rfl,?_,some d,rfl⟩
  have h1:-(18446744073709551616) < (f:Int):=by omega
  have h2:(f:Int) < 18446744073709551616:=by omega
  rw [abn,aaK,aa0]
  simp_arith [Bs,h1,h2])
 rw [BR,ab5,aaG,aaK] at e
 exact ⟨o,e⟩
theorem MN (p f l j:Nat) (hf8:f<=8) (hl:l<=8):CM.den [.int p,.int f,.int l,.int j]=.ok (Ai (j * f ^ l) (min p (j * f ^ l + f ^ l))):=by
 obtain ⟨o,e⟩:=Ls p f l j hf8
 have hr:=BH (a:=0) (b:=(l:Int)) (by omega) (by omega) (by omega) (by omega)
 have hw:=N0 (f:=f) (l:=l) hf8 (by omega)
 have h1:-(18446744073709551616) < ((f ^ l:Nat):Int):=by omega
 have h2:((f ^ l:Nat):Int) < 18446744073709551616:=by omega
 refine (Gh _ rfl).trans (Ad ?_)
 generalize f ^ l=w at *
 have h3:(((min p (j * w + w):Nat)):Int)=min (p:Int) ((j:Int) * w + w):=by rw [<- aa0]; omega
 unfold Ai
 rw [h3,aa0]
 simp_arith [Cb,hr,e,h1,h2]
mutual
theorem Gk:∀ {n:Nat} {d:D},D.shp n d=true->D.eqv d d=true
 | _,.non,_=>by simp [D.eqv]
 | _,.bl b,_=>by simp [D.eqv]
 | _,.int i,_=>by simp [D.eqv]
 | _,.str x,_=>by simp [D.eqv]
 | n + 1,.tup ds,h=>by rw [D.eqv]; exact eqvs_refl (n:=n) h
 | n + 1,.lst ds,h=>by rw [D.eqv]; exact eqvs_refl (n:=n) h
 | 0,.tup ds,h=>by cases h
 | 0,.lst ds,h=>by cases h
 | _,.exn _,h=>by simp [D.shp] at h
theorem eqvs_refl:∀ {n:Nat} {ds:List D},ds.all (D.shp n)=true->D.eqvs ds ds=true
 | _,[],_=>by simp [D.eqvs]
 | n,d :: ds,h=>by
  rw [aaI,aaj] at h
  rw [D.eqvs,Gk h.1,eqvs_refl h.2]; rfl
end
theorem GW (d:D) (h:D.shp 8 d=true):c2 .eq d d=.ok (.bl true):=by
 show (if _ then _ else _)=_
 rw [h,Gk h]; rfl
theorem E7 (d:D) (h:D.shp 8 d=true):c2 .ne d d=.ok (.bl false):=by
 show (if _ then _ else _)=_
 rw [h,Gk h]; rfl
theorem MO (qs:List (Nat × Nat)) (k:Nat):(qs.map Ah).all (D.shp (k + 1))=true:=by
 rw [aaw]
 intro d hd
 obtain ⟨n,_,rfl⟩:=aaA.mp hd
 cases k <;> rfl
theorem RC (ds es:List D) (h:ds.length + es.length<=16777216):umD .extend [.lst es] ds=some (ds ++ es):=by
 show (if _ then _ else _)=_
 exact if_pos h
theorem S6 {xs:List Int} (h:xs.length=3):∃ a b c,xs=[a,b,c]:=by
 match xs,h with
 | [a,b,c],_=>exact ⟨a,b,c,rfl⟩
section
variable (a b c d e f g h:D)
theorem Lu:atD [a,b,c] 0=.ok a:=rfl
theorem Lv:atD [a,b,c] 1=.ok b:=rfl
theorem Lx:atD [a,b,c] 2=.ok c:=rfl
end
structure Sp (p f h:Nat):Prop where
 hf:2<=f
 hf8:f<=8
 hp:p<=200
 hh:h<=8
 hs:p=0\/Hs p f h
theorem pw6:b2 .pow (.int 10) (.int 6)=.ok (.int 1000000):=by
 rw [D8 _ _ (by decide) (by decide) (by decide)]; rfl
theorem Jq (d:D):∀ n,(aam n [d]).flatten=aam n d
 | 0=>rfl
 | n + 1=>by rw [abf,abu,Jq d n]; rfl
theorem RE (d:D) (n:Nat) (h:n<=1000):b2 .mul (.lst [d]) (.int n)=.ok (.lst (aam n d)):=by
 rw [b2,IF,if_pos]
 ·rw [aaG,Jq]
 ·rw [aaG,abh]
  unfold LIM
  omega
section
variable {xs rs:List Int} {k:Nat} {s p m:D} {sc x c e:Int} {o7:Option D} (h0:0<=sc) (h1:sc<=100000000000000000) (x0:0<=x) (x1:x < 13) (e0:0<=e) (e1:e < 13) (a2:atD (xs.map D.int) 2=.ok (.int c)) (a3:atD (xs.map D.int) 3=.ok (.int e)) (ak:atD (xs.map D.int) (4 + (k:Int))=.ok (.int x)) (hr:rs.length<=1000)
include h0 h1 x0 x1 e0 e1 a2 a3 ak hr
theorem PY:∃ (r:Int) (o7':Option D),0<=r/\r<=1000000000000000000/\exs Ax [some s,some p,some m,some (.lst (xs.map .int)),some (.int sc),some (.lst (rs.map .int)),some (.int k),o7]=.nxt [some s,some p,some m,some (.lst (xs.map .int)),some (.int sc),some (.lst ((rs ++ [r]).map .int)),some (.int k),o7']:=by
 have hap:=fun r=>BI (rs.map D.int) (.int r) (by rw [aab]; omega)
 have fin:∀ w:Int,0<=w->0<=min 1000000000000000000 (w * sc + (if (w==12)=true then 1 else 0) * 4):=fun w hw=>by
  have:=Int.mul_nonneg hw h0
  split <;> omega
 have big:∀ w:Int,min 1000000000000000000 (w * sc + (if (w==12)=true then 1 else 0) * 4)<=1000000000000000000:=fun w=>by omega
 have l3:(0:Int) < 3:=by decide
 have l4:(0:Int) < 4:=by decide
 have l5:(0:Int) < 13:=by decide
 have l6:(4:Int) < 1606938044258990275541962092341162602522202993782792835301376:=by decide
 have s1:-18446744073709551616 < sc:=by omega
 have s2:sc < 18446744073709551616:=by omega
 have m3:=aa7 x (show (3:Int) ≠ 0 by decide)
 have m4:=aa7 x (show (4:Int) ≠ 0 by decide)
 have m4':=abt x l4
 have m13:=aa7 (e + (k:Int)) (show (13:Int) ≠ 0 by decide)
 by_cases c1:c=1
 ·subst c1
  refine ⟨_,some (.int (x % 3)),fin (x % 3) m3,big _,?_⟩
  simp_arith [Ax,a2,ak,l3,hap,s1,s2]
 by_cases c2:c=2
 ·subst c2
  obtain ⟨v,hv,v0,v1⟩:∃ v:Int,atD [.int 0,.int 0,.int 0,.int 1] (x % 4)=.ok (.int v)/\0<=v/\v<=1:=by
   have:x % 4=0\/x % 4=1\/x % 4=2\/x % 4=3:=by omega
   rcases this with h | h | h | h <;> rw [h] <;> refine ⟨_,rfl,?_,?_⟩ <;> decide
  have v2:-18446744073709551616 < v:=by omega
  have v3:v < 18446744073709551616:=by omega
  refine ⟨_,some (.int (v * (1 + x / 4))),fin (v * (1 + x / 4)) (Int.mul_nonneg v0 (by omega)),big _,?_⟩
  simp_arith [Ax,a2,ak,l4,l6,hv,v2,v3,hap,s1,s2]
 by_cases c3:c=3
 ·subst c3
  refine ⟨_,some (.int ((e + (k:Int)) % 13)),fin ((e + (k:Int)) % 13) m13,big _,?_⟩
  simp_arith [Ax,a2,a3,ak,l5,hap,s1,s2]
 by_cases c4:c=4
 ·subst c4
  refine ⟨_,some (.int e),fin e e0,big _,?_⟩
  simp_arith [Ax,a2,a3,ak,hap,s1,s2]
 ·have d1:(c==1)=false:=beq_eq_false_iff_ne.mpr c1
  have d2:(c==2)=false:=beq_eq_false_iff_ne.mpr c2
  have d3:(c==3)=false:=beq_eq_false_iff_ne.mpr c3
  have d4:(c==4)=false:=beq_eq_false_iff_ne.mpr c4
  refine ⟨_,some (.int x),fin x x0,big _,?_⟩
  simp_arith [Ax,a2,ak,d1,d2,d3,d4,hap,s1,s2]
end
theorem MP (ns:List Int) (p:Int) (hp:0<=p) (m:Nat) (hm:m<=200):∃ rs:List Int,rs.length<=m/\(∀ r ∈ rs,0<=r/\r<=1000000000000000000)/\BQ.den [.lst (ns.map .int),.int p,.int m]=.ok (.lst (rs.map .int)):=by
 obtain ⟨xs,hrow,hl,hb⟩:=FQ ns p hp ([(m:Int) + 1,5,6,13] ++ aam m 13) (by simp; omega) (by
  intro s hs
  rcases aaf.mp hs with h | h
  ·simp only [aai,abk,or_false] at h
   rcases h with rfl | rfl | rfl | rfl <;> omega
  ·rw [(abH.mp h).2]; decide)
 have hl:xs.length=m + 4:=by rw [hl,aav,aa1]; simp; omega
 have g:∀ i,i < m + 4->∃ x,xs[i]?=some x:=fun i hi=>⟨_,aah (by omega)⟩
 obtain ⟨c0,g0⟩:=g 0 (by omega)
 obtain ⟨c1,g1⟩:=g 1 (by omega)
 obtain ⟨c2,g2⟩:=g 2 (by omega)
 obtain ⟨c3,g3⟩:=g 3 (by omega)
 have b0:=hb 0 c0 ((m:Int) + 1) g0 (by simp)
 have b1:=hb 1 c1 5 g1 (by simp)
 have b3:=hb 3 c3 13 g3 (by simp)
 have bk:∀ i:Nat,i < m->∃ x,xs[4 + i]?=some x/\0<=x/\x < 13:=fun i hi=>by
  obtain ⟨x,gx⟩:=g (4 + i) (by omega)
  refine ⟨x,gx,hb (4 + i) x 13 gx ?_⟩
  rw [aay (by simp)]
  simp [hi]
 have a0:=CO g0
 have a1:=CO g1
 have a2:=CO g2
 have a3:=CO g3
 obtain ⟨sc,hsc,s0,s1⟩:∃ v:Int,atD [.int 1,.int 1,.int 7,.int 1000000,.int 83333333333333333] c1=.ok (.int v)/\0<=v/\v<=100000000000000000:=by
  have:c1=0\/c1=1\/c1=2\/c1=3\/c1=4:=by omega
  rcases this with rfl | rfl | rfl | rfl | rfl <;> refine ⟨_,rfl,?_,?_⟩ <;> decide
 obtain ⟨n,rfl⟩:∃ n:Nat,c0=n:=⟨c0.toNat,by omega⟩
 obtain ⟨δ',e,rs,o6,o7,rfl,hrl,hrb⟩:=Bg (tg:=.nm 6) (b:=exs Ax) (fun i δ=>∃ (rs:List Int) (o6 o7:Option D),δ=[some (.lst (ns.map .int)),some (.int p),some (.int m),some (.lst (xs.map .int)),some (.int sc),some (.lst (rs.map .int)),o6,o7]/\rs.length=i/\∀ r ∈ rs,0<=r/\r<=1000000000000000000) (ds:=Ao 0 (n:Int)) (δ:=[some (.lst (ns.map .int)),some (.int p),some (.int m),some (.lst (xs.map .int)),some (.int sc),some (.lst []),none,none]) 0 ⟨[],none,none,rfl,rfl,fun _ h=>nomatch h⟩ (by
  rintro i d δ hd ⟨rs,o6,o7,rfl,hrl,hrb⟩
  obtain ⟨rfl,hi⟩:=Cm hd
  rw [abS]
  obtain ⟨x,gx,x0,x1⟩:=bk i (by omega)
  have ak:=CO gx
  rw [show ((4 + i:Nat):Int)=4 + (i:Int) by omega] at ak
  obtain ⟨r,o7',r0,r1,e⟩:=PY (s:=.lst (ns.map .int)) (p:=.int p) (m:=.int m) (o7:=o7) s0 s1 x0 x1 b3.1 b3.2 a2 a3 ak (rs:=rs) (by omega)
  refine ⟨_,_,rfl,e,rs ++ [r],some (.int i),o7',rfl,by simp; omega,fun y hy=>?_⟩
  rcases aaf.mp hy with h | h
  ·exact hrb y h
  ·rw [aaU.mp h]; exact ⟨r0,r1⟩)
 rw [BR] at hrl
 refine ⟨rs,by omega,hrb,?_⟩
 have hr:=BH (a:=0) (b:=(n:Int)) (by omega) (by omega) (by omega) (by omega)
 have hrep:=RE (.int 13) m (by omega)
 have hadd:=PK [.int ((m:Int) + 1),.int 5,.int 6,.int 13] (aam m (.int 13)) (by simp; omega)
 rw [aao,abb] at hrow
 refine (Gg _ rfl).trans (Ad ?_)
 have a0':atD (xs.map D.int) 0=.ok (.int n):=a0
 have a1':atD (xs.map D.int) 1=.ok (.int c1):=a1
 generalize aam m (D.int 13)=zs at *
 simp only [abC,aa4,aaT] at hrow hadd
 simp_arith [B9,hrep,hadd,hrow,pw6,hsc,a0',a1',hr,e]
theorem PZ (ns:List Int) (p:Int) (hp:0<=p):∃ f:Nat,2<=f/\f<=8/\Dp.den [.lst (ns.map .int),.int p]=.ok (.int f):=by
 obtain ⟨xs,hrow,hl,hb⟩:=FQ ns p hp [7] (by decide) (by decide)
 obtain ⟨a,rfl⟩:=Rz hl
 have ha:=hb 0 a 7 rfl rfl
 simp only [abC] at hrow
 refine ⟨(2 + a).toNat,by omega,by omega,?_⟩
 rw [Int.toNat_of_nonneg (by omega)]
 refine (Hf _ rfl).trans (Ad ?_)
 simp_arith [CI,hrow,S5]
theorem P0 {rs:List Int} {a b:Nat} (ha:a<=rs.length) (hb:b<=rs.length):cut (rs.map D.int) (some (a:Int)) (some (b:Int))=((rs.drop a).take (b - a)).map D.int:=by
 have e1:sIx rs.length 0 (some (a:Int))=a:=by
  show (if (a:Int) < 0 then _ else _:Int).toNat=a
  rw [if_neg (by omega)]; omega
 have e2:sIx rs.length rs.length (some (b:Int))=b:=by
  show (if (b:Int) < 0 then _ else _:Int).toNat=b
  rw [if_neg (by omega)]; omega
 unfold cut
 rw [aab,e1,e2,<- abM,<- abL]
theorem E8:∀ ys:List Int,CT (ys.map .int)=some ys
 | []=>rfl
 | y :: r=>by rw [aaF,CT,E8 r]; rfl
noncomputable def mxR (rs:List Int) (a b:Nat):Int:=((rs.drop a).take (b - a)).max?.getD 0
theorem Jr {ys:List Int} (h:ys ≠ []):ys.max?=some (ys.max?.getD 0):=by
 cases q:ys.max? with
 | none=>exact absurd (List.max?_eq_none_iff.mp q) h
 | some m=>rfl
theorem MQ {rs:List Int} {a b:Nat} (hab:a < b) (hb:b<=rs.length):((rs.drop a).take (b - a)).max?=some (mxR rs a b):=by
 apply Jr
 intro h
 have:=congrArg aa9 h
 rw [abj,aby] at this
 simp at this
 omega
noncomputable def BK (rs:List Int) (f l n:Nat):List Int:=(aax n).map fun j=>mxR rs (j * f ^ l) (min rs.length (j * f ^ l + f ^ l))
noncomputable def Ae (rs:List Int) (f n:Nat):List (List Int):=(aax n).map fun l=>BK rs f l (cnt rs.length f l)
noncomputable def Ac (xs:List Int):D:=.lst (xs.map .int)
noncomputable def Ab (tr:List (List Int)):D:=.lst (tr.map Ac)
theorem N4 (rs:List Int) (f l n:Nat):BK rs f l (n + 1)=BK rs f l n ++ [mxR rs (n * f ^ l) (min rs.length (n * f ^ l + f ^ l))]:=by
 unfold BK; rw [abE,aao]; rfl
theorem MR (rs:List Int) (f n:Nat):Ae rs f (n + 1)=Ae rs f n ++ [BK rs f n (cnt rs.length f n)]:=by
 unfold Ae; rw [abE,aao]; rfl
section
variable {rs:List Int} {f h:Nat} (hf:2<=f) (hf8:f<=8) (H:Hs rs.length f h) (hh:h<=8) (hn:rs.length<=200)
include hf hf8 H hh hn
theorem P5 (tr co:D) (l j:Nat) (hl:l<=h) (hj:j < cnt rs.length f l) (o7 o8:Option D):∃ o7' o8',exs Bc [some (Ac rs),some (.int f),some tr,some co,some (.int l),some (Ac (BK rs f l j)),some (.int j),o7,o8]=.nxt [some (Ac rs),some (.int f),some tr,some co,some (.int l),some (Ac (BK rs f l (j + 1))),some (.int j),o7',o8']:=by
 have hr:=MN rs.length f l j hf8 (by omega)
 have hlt:=(Cf (show 1<=f by omega)).mp hj
 have hw:0 < f ^ l:=abc (by omega)
 have hc:=P0 (rs:=rs) (a:=j * f ^ l) (b:=min rs.length (j * f ^ l + f ^ l)) (by omega) (by omega)
 have hm:=MQ (rs:=rs) (a:=j * f ^ l) (b:=min rs.length (j * f ^ l + f ^ l)) (by omega) (by omega)
 have hcl:=FD (p:=rs.length) (f:=f) (l:=l) (by omega)
 have hap:=BI ((BK rs f l j).map .int) (.int (mxR rs (j * f ^ l) (min rs.length (j * f ^ l + f ^ l)))) (by unfold BK; simp; omega)
 have hi:=E8 ((rs.drop (j * f ^ l)).take (min rs.length (j * f ^ l + f ^ l) - j * f ^ l))
 refine ⟨some (.int ((j * f ^ l:Nat):Int)),some (.int ((min rs.length (j * f ^ l + f ^ l):Nat):Int)),?_⟩
 rw [N4]
 unfold Ac
 rw [aao]
 generalize mxR rs (j * f ^ l) (min rs.length (j * f ^ l + f ^ l))=M at *
 generalize (rs.drop (j * f ^ l)).take (min rs.length (j * f ^ l + f ^ l) - j * f ^ l)=ys at *
 generalize min rs.length (j * f ^ l + f ^ l)=e at *
 generalize j * f ^ l=a at *
 unfold Ai at hr
 generalize (BK rs f l j).map D.int=zs at *
 simp_arith [Bc,aab,hr,DH,Ew,hc,hi,Ff,hm,hap]
theorem RF (tr:D) (l:Nat) (hl:l<=h) (o6 o7 o8:Option D):∃ o6' o7' o8',AU (.nm 6) (exs Bc) (Ao 0 (cnt rs.length f l)) [some (Ac rs),some (.int f),some tr,some (A7 (lvD rs.length f h)),some (.int l),some (Ac []),o6,o7,o8]=.nxt [some (Ac rs),some (.int f),some tr,some (A7 (lvD rs.length f h)),some (.int l),some (Ac (BK rs f l (cnt rs.length f l))),o6',o7',o8']:=by
 obtain ⟨δ',e,o6',o7',o8',rfl⟩:=Bg (tg:=.nm 6) (b:=exs Bc) (fun j δ=>∃ o6 o7 o8,δ=[some (Ac rs),some (.int f),some tr,some (A7 (lvD rs.length f h)),some (.int l),some (Ac (BK rs f l j)),o6,o7,o8]) (ds:=Ao 0 (cnt rs.length f l)) (δ:=[some (Ac rs),some (.int f),some tr,some (A7 (lvD rs.length f h)),some (.int l),some (Ac []),o6,o7,o8]) 0 ⟨o6,o7,o8,rfl⟩ (by
  rintro j d δ hd ⟨o6,o7,o8,rfl⟩
  obtain ⟨rfl,hj⟩:=Cm hd
  rw [abS,aaK]
  obtain ⟨q7,q8,e⟩:=P5 hf hf8 H hh hn tr (A7 (lvD rs.length f h)) l j hl (by omega) o7 o8
  exact ⟨_,_,rfl,e,some (.int j),q7,q8,rfl⟩)
 rw [BR,ab5,aaG,aaK] at e
 exact ⟨o6',o7',o8',e⟩
theorem N5 (l:Nat) (hl:l<=h) (o5 o6 o7 o8:Option D):∃ o5' o6' o7' o8',exs Bd [some (Ac rs),some (.int f),some (Ab (Ae rs f l)),some (A7 (lvD rs.length f h)),some (.int l),o5,o6,o7,o8]=.nxt [some (Ac rs),some (.int f),some (Ab (Ae rs f (l + 1))),some (A7 (lvD rs.length f h)),some (.int l),o5',o6',o7',o8']:=by
 obtain ⟨o6',o7',o8',e⟩:=RF hf hf8 H hh hn (Ab (Ae rs f l)) l hl o6 o7 o8
 have h5:=Jn (xs:=lvD rs.length f h) (i:=l) (by rw [BJ]; omega)
 rw [FS hl] at h5
 have hcl:=FD (p:=rs.length) (f:=f) (l:=l) (by omega)
 have hr:=BH (a:=0) (b:=(cnt rs.length f l:Int)) (by omega) (by omega) (by omega) (by omega)
 have hap:=BI ((Ae rs f l).map Ac) (Ac (BK rs f l (cnt rs.length f l))) (by unfold Ae; simp; omega)
 refine ⟨some (Ac (BK rs f l (cnt rs.length f l))),o6',o7',o8',?_⟩
 rw [MR]
 unfold Ab A7 at *
 rw [aao]
 generalize BK rs f l (cnt rs.length f l)=zs at *
 unfold Ac at e hap ⊢
 rw [abw] at e
 simp_arith [Bd,h5,hr,e,hap]
theorem Js (hn1:1<=rs.length):Au.den [Ac rs,.int f]=.ok (Ab (Ae rs f (h + 1))):=by
 have hc:=GV hf hf8 H hh hn1
 have hr:=BH (a:=0) (b:=((h + 1:Nat):Int)) (by omega) (by omega) (by omega) (by omega)
 obtain ⟨δ',e,o4,o5,o6,o7,o8,rfl⟩:=Bg (tg:=.nm 4) (b:=exs Bd) (fun l δ=>∃ o4 o5 o6 o7 o8,δ=[some (Ac rs),some (.int f),some (Ab (Ae rs f l)),some (A7 (lvD rs.length f h)),o4,o5,o6,o7,o8]) (ds:=Ao 0 ((h + 1:Nat):Int)) (δ:=[some (Ac rs),some (.int f),some (Ab []),some (A7 (lvD rs.length f h)),none,none,none,none,none]) 0 ⟨none,none,none,none,none,rfl⟩ (by
  rintro l d δ hd ⟨o4,o5,o6,o7,o8,rfl⟩
  obtain ⟨rfl,hl⟩:=Cm hd
  rw [abS,aaK]
  obtain ⟨q5,q6,q7,q8,e⟩:=N5 hf hf8 H hh hn l (by omega) o5 o6 o7 o8
  exact ⟨_,_,rfl,e,some (.int l),q5,q6,q7,q8,rfl⟩)
 rw [BR,show 0 + (((h + 1:Nat):Int) - 0).toNat=h + 1 by omega] at e
 have hll:=BJ rs.length f h
 refine (Eg _ rfl).trans (Ad ?_)
 unfold A7 at hc e
 unfold Ab at e ⊢
 rw [abw] at e
 unfold Ac at e ⊢
 simp_arith [BF,aab,hc,hll,hr,e]
end
theorem HR (f:Nat):Au.den [Ac [],.int f]=.ok (Ab []):=by
 have hc:=JO f
 have hr:=BH (a:=0) (b:=0) (by omega) (by omega) (by omega) (by omega)
 have e:AU (.nm 4) (exs Bd) (Ao 0 0) [some (.lst []),some (.int f),some (.lst []),some (.lst []),none,none,none,none,none]=.nxt [some (.lst []),some (.int f),some (.lst []),some (.lst []),none,none,none,none,none]:=rfl
 refine (Eg _ rfl).trans (Ad ?_)
 unfold Ac Ab A7 at *
 simp_arith [BF,hc,hr,e,abN]
theorem MS (xs:List Int) (m k:Nat):D.flat (m + 2) (k + 1) (Ac xs)=true:=by
 unfold Ac
 show (xs.map D.int).all (D.flat (m + 1) k)=true
 rw [aaw]
 intro d hd
 obtain ⟨x,rfl⟩:=E3 hd
 rfl
theorem HS (tr:List (List Int)):D.flat 9 2 (Ab tr)=true:=by
 show (tr.map Ac).all (D.flat 8 1)=true
 rw [aaw]
 intro d hd
 obtain ⟨x,_,rfl⟩:=aaA.mp hd
 exact MS x 6 0
theorem N6 (xs:List Int) (k:Nat):D.shp (k + 1) (Ac xs)=true:=by
 show (xs.map D.int).all (D.shp k)=true
 rw [aaw]
 intro d hd
 obtain ⟨x,rfl⟩:=E3 hd
 cases k <;> rfl
theorem Jt (tr:List (List Int)):D.shp 8 (Ab tr)=true:=by
 show (tr.map Ac).all (D.shp 7)=true
 rw [aaw]
 intro d hd
 obtain ⟨x,_,rfl⟩:=aaA.mp hd
 exact N6 x 6
theorem P6 {rs:List Int} {i:Int} (h0:0<=i) (h1:i < rs.length):∃ x,x ∈ rs/\atD (rs.map D.int) i=.ok (.int x):=by
 obtain ⟨x,e1,e2⟩:=Gi h0 h1
 exact ⟨x,aae e1,e2⟩
theorem Ju (ns:List Int) (p:Int) (hp:0<=p) (rs:List Int) (hr:∀ r ∈ rs,0<=r) (hl:rs.length<=200):∃ q:Int,0<=q/\AQ.den [.lst (ns.map .int),.int p,Ac rs]=.ok (.int q):=by
 obtain ⟨xs,hrow,hl,hb⟩:=FQ ns p hp [7,200,40] (by decide) (by decide)
 obtain ⟨a,b,c,rfl⟩:=S6 hl
 have ha:=hb 0 a 7 rfl rfl
 have hb':=hb 1 b 200 rfl rfl
 have hc:=hb 2 c 40 rfl rfl
 clear hb hl
 simp only [abC] at hrow
 have l4:(0:Int) < 4:=by decide
 obtain ⟨v,hv,hv0⟩:∃ v:Int,atD [.int 0,.int 1,.int 2,.int 100000000000000000000000000000000000000000000000000000000000] (b % 4)=.ok (.int v)/\0<=v:=by
  have m0:=aa7 b (show (4:Int) ≠ 0 by decide)
  have m1:=abt b l4
  have:b % 4=0\/b % 4=1\/b % 4=2\/b % 4=3:=by omega
  rcases this with h | h | h | h <;> rw [h] <;> refine ⟨_,rfl,?_⟩ <;> decide
 by_cases a0:a=0
 ·subst a0
  refine ⟨v,hv0,(Ca _ rfl).trans (Ad ?_)⟩
  unfold Ac
  simp_arith [AZ,hrow,Lu,Lv,Lx,hv,l4]
 have d0:(a==0)=false:=beq_eq_false_iff_ne.mpr a0
 by_cases n0:rs.length=0
 ·have z:rs=[]:=abd n0
  subst z
  refine ⟨v,hv0,(Ca _ rfl).trans (Ad ?_)⟩
  unfold Ac
  simp_arith [AZ,hrow,Lu,Lv,Lx,d0,hv,l4,abN]
 have n1:((rs.length:Int)==0)=false:=by rw [beq_eq_false_iff_ne]; omega
 have n2:0 < (rs.length:Int):=by omega
 obtain ⟨x,hx,hat⟩:=P6 (rs:=rs) (i:=b % (rs.length:Int)) (aa7 _ (by omega)) (abt _ n2)
 have hx0:=hr x hx
 by_cases a1:a=1
 ·subst a1
  have hne:rs ≠ []:=fun z=>n0 (by rw [z]; rfl)
  have hm:=Jr hne
  have hm0:0<=rs.max?.getD 0:=by
   have:=List.max?_mem (xs:=rs) hm
   exact hr _ this
  have hi:=E8 rs
  have l2:(0:Int) < 2:=by decide
  have m0:=aa7 c (show (2:Int) ≠ 0 by decide)
  refine ⟨rs.max?.getD 0 + c % 2,by omega,(Ca _ rfl).trans (Ad ?_)⟩
  generalize rs.max?.getD 0=M at *
  unfold Ac
  simp_arith [AZ,hrow,Lu,Lv,Lx,n1,n2,aab,hat,hi,Ff,hm,l2]
 ·have d1:(a==1)=false:=beq_eq_false_iff_ne.mpr a1
  obtain ⟨w,hw⟩:∃ w:Int,atD [.int 0,.int 0,.int 1,.int (-1),.int c] (a - 2)=.ok (.int w):=by
   have:a - 2=0\/a - 2=1\/a - 2=2\/a - 2=3\/a - 2=4:=by omega
   rcases this with h | h | h | h | h <;> rw [h] <;> exact ⟨_,rfl⟩
  refine ⟨max 0 (x + w),by omega,(Ca _ rfl).trans (Ad ?_)⟩
  unfold Ac
  simp_arith [AZ,hrow,Lu,Lv,Lx,d0,d1,n1,n2,aab,hat,hw]
noncomputable def tl (tr:List (List Int)) (l j:Nat):Int:=(tr.getD l []).getD j 0
noncomputable def Dim (tr:List (List Int)) (p f h:Nat):Prop:=tr.map aa9=lvD p f h
theorem Ds (rs:List Int) (f h:Nat):Dim (Ae rs f (h + 1)) rs.length f h:=by
 unfold Dim Ae lvD
 rw [aaM]
 apply aaN
 intro l _
 show (BK rs f l (cnt rs.length f l)).length=_
 unfold BK; simp
section
variable {tr:List (List Int)} {p f h:Nat} (hd:Dim tr p f h)
include hd
theorem Hk:tr.length=h + 1:=by
 have:=congrArg aa9 hd
 rwa [aab,BJ] at this
theorem Hl {l:Nat} (hl:l<=h):(tr.getD l []).length=cnt p f l/\tr[l]?=some (tr.getD l []):=by
 have h1:=Hk hd
 have h2:tr[l]?=some tr[l]:=aah (by omega)
 have h3:tr.getD l []=tr[l]:=by rw [aaJ,h2]; rfl
 rw [h3]
 refine ⟨?_,h2⟩
 have h4:(tr.map aa9)[l]?=some tr[l].length:=by rw [aan,h2]; rfl
 rw [hd] at h4
 have h5:(lvD p f h)[l]?=some (cnt p f l):=by rw [aah (by rw [BJ]; omega),FS hl]
 rw [h5] at h4
 exact (Option.some.inj h4).symm
theorem Hm {l:Nat} (hl:l<=h):atD (tr.map Ac) (l:Int)=.ok (Ac (tr.getD l [])):=by
 have h1:=Hk hd
 unfold atD ixN
 rw [aab,if_pos (by omega),if_pos (by omega)]
 show (match (tr.map Ac)[(l:Int).toNat]? with | some d=>Res.ok d | none=>Res.bad)=_
 rw [aaG,aan,(Hl hd hl).2]
 rfl
theorem MT {l j:Nat} (hl:l<=h) (hj:j < cnt p f l):atD ((tr.getD l []).map D.int) (j:Int)=.ok (.int (tl tr l j)):=by
 apply CO
 unfold tl
 rw [aaJ (l:=tr.getD l []),aah (by rw [(Hl hd hl).1]; exact hj)]
 rfl
theorem Ib:D4.den [Ab tr]=.ok (A7 (lvD p f h)):=by
 have h2:=Ce (nl:=1) (fr:=[]) (tg:=.nm 0) (it:=.seq (.nm 0)) (elt:=.bi .len (.cons (.nm 0) .nil)) (δ:=[some (Ab tr)]) (ds:=tr.map Ac) (g:=fun d=>match d with | .lst ds=>.int ds.length | d=>d) (by unfold Ab; simp_arith []) (fun d hd=>by
  obtain ⟨x,_,rfl⟩:=aaA.mp hd
  refine ⟨[some (Ac x)],rfl,?_⟩
  unfold Ac
  simp_arith [])
 have e:(tr.map Ac).map (fun d=>match d with | .lst ds=>D.int ds.length | d=>d)=(lvD p f h).map iN:=by
  rw [<- hd,aaM,aaM]
  apply aaN
  intro x _
  show D.int ((x.map D.int).length:Int)=iN x.length
  rw [aab]; rfl
 rw [e] at h2
 refine (Jf _ rfl).trans (Ad ?_)
 unfold Ab A7 at *
 simp_arith [] at h2
 simp_arith [Dw,h2]
theorem Ek {l j:Nat} (hl:l<=h) (hj:j < cnt p f l):A9.den [Ab tr,Ai l j]=.ok (.int (tl tr l j)):=by
 have h1:=Ib hd
 have h2:=Kv hl hj
 have h3:Et.den [Ab tr,Ai l j]=.ok (.bl true):=by
  refine (JJ _ rfl).trans (Ad ?_)
  simp_arith [DM,h1,h2]
 have h4:Cq.den [Ab tr,Ai l j]=.ok .non:=by
  refine (FV _ rfl).trans (Kw (δ:=[some (Ab tr),some (Ai l j)]) ?_)
  simp_arith [BP,h3]
 have h5:=Hm hd hl
 have h6:=MT hd hl hj
 refine (NZ _ rfl).trans (Ad ?_)
 unfold Ab Ac Ai at *
 simp_arith [FP,h4,h5,h6]
theorem P7:(tr.map Ac).isEmpty=false:=by
 have h1:=Hk hd
 cases tr with
 | nil=>cases h1
 | cons a r=>rfl
theorem Jv:Dx.den [Ab tr]=.ok (Ac (tr.getD 0 [])):=by
 have h1:=FF (tr.map Ac) (Jt tr)
 rw [P7 hd] at h1
 have h2:=Hm hd (aar h)
 rw [show ((0:Nat):Int)=0 from rfl] at h2
 refine (F3 _ rfl).trans (Ad ?_)
 unfold Ab Ac at *
 simp_arith [C6,h1,h2]
theorem D9:B4.den [Ab tr,.int f]=.ok (shD p f):=by
 have h1:=Jv hd
 have h2:=(Hl hd (aar h)).1
 rw [Gj] at h2
 refine (F5 _ rfl).trans (Ad ?_)
 unfold Ac at h1
 unfold shD
 simp_arith [C7,h1,aab,h2]
end
theorem KA (a b:Nat):∀ c,(aax c).filter (fun k=>decide (a<=k) && decide (k < b))=(aax (min b c - a)).map (a + ·)
 | 0=>by simp
 | c + 1=>by
  rw [abE,List.filter_append,KA a b c]
  by_cases h:a<=c/\c < b
  ·rw [abD h.2,abD (abF h.2),Nat.succ_sub h.1,abE,aao]
   congr 1
   simp only [List.filter_cons,List.filter_nil,decide_eq_true h.1,decide_eq_true h.2,acv,if_true,aaF,abw]
   congr 1; exact (Nat.add_sub_cancel' h.1).symm
  ·have h':(decide (a<=c) && decide (c < b))=false:=by
    rw [<- Bool.not_eq_true,aaj,decide_eq_true_eq,decide_eq_true_eq]; exact h
   simp only [List.filter_cons,List.filter_nil,h']
   have e:min b (c + 1) - a=min b c - a:=by
    rcases abG c b with z | z
    ·have z2:c < a:=Nat.lt_of_not_le fun y=>h ⟨y,z⟩
     rw [abD z,abD (abF z),acs z2,acs (abF z2)]
    ·rw [acg z,acg (Nat.le_succ_of_le z)]
   rw [e]
   simp
noncomputable def chN (p f l j:Nat):List (Nat × Nat):=match l with
 | 0=>[]
 | l + 1=>((aax (cnt p f l)).filter fun k=>k / f==j).map fun k=>(l,k)
theorem HU {f:Nat} (hf:1<=f) (c j:Nat):(aax c).filter (fun k=>k / f==j)=(aax (min (j * f + f) c - j * f)).map (j * f + ·):=by
 rw [<- KA]
 apply List.filter_congr
 intro k _
 rw [abV,beq_iff_eq,aaj,decide_eq_true_eq,decide_eq_true_eq]
 constructor
 ·rintro rfl
  have:=abU k f
  have h2:=Nat.mod_lt k (show 0 < f by omega)
  rw [abl] at this
  generalize k % f=r at *
  omega
 ·rintro ⟨h1,h2⟩
  exact acz h1 (by rw [abQ]; omega)
theorem Jw {p f h:Nat} (hf:2<=f) (hf8:f<=8) (H:Hs p f h) (hh:h<=8) (hp:p<=200) {l j:Nat} (hl:l<=h) (hj:j < cnt p f l):Dv.den [shD p f,Ai l j]=.ok (.lst ((chN p f l j).map Ah)):=by
 have hc:=Co hf hf8 H hh hl hj
 cases l with
 | zero =>
  refine (F2 _ rfl).trans (Ad ?_)
  show _=Out.ret (.lst [])
  unfold Ai shD at *
  rw [show ((0:Nat):Int)=0 from rfl] at *
  simp_arith [C4,hc]
 | succ l =>
  have hlv:=E5 hf hf8 H hh
  have h5:=Jn (xs:=lvD p f h) (i:=l) (by rw [BJ]; omega)
  rw [FS (by omega)] at h5
  have hcl:=FD (p:=p) (f:=f) (l:=l) (by omega)
  have hjl:=FD (p:=p) (f:=f) (l:=l + 1) (by omega)
  have hjf:j * f<=200 * 8:=Nat.mul_le_mul (by omega) hf8
  have f1:-(18446744073709551616) < (f:Int):=by omega
  have f2:(f:Int) < 18446744073709551616:=by omega
  have e1:((l + 1:Nat):Int) - 1=(l:Int):=by omega
  have c1:(((l + 1:Nat):Int)==0)=false:=by rw [beq_eq_false_iff_ne]; omega
  have e2:min ((j:Int) * f + f) (cnt p f l:Int)=((min (j * f + f) (cnt p f l):Nat):Int):=by rw [<- aa0]; omega
  have hr:=BH (a:=((j * f:Nat):Int)) (b:=((min (j * f + f) (cnt p f l):Nat):Int)) (by omega) (by omega) (by omega) (by omega)
  rw [aa0] at hr
  have h2:=Ce (nl:=1) (fr:=[2]) (tg:=.nm 0) (it:=.r2 (.nm 3) (.nm 4)) (elt:=.tup (.cons (.nm 1) (.cons (.nm 0) .nil))) (δ:=[some (shD p f),some (Ai (l + 1) j),some (.int l),some (.int ((j:Int) * f)),some (.int ((min (j * f + f) (cnt p f l):Nat):Int))]) (ds:=Ao ((j:Int) * f) ((min (j * f + f) (cnt p f l):Nat):Int)) (g:=fun d=>.tup [.int l,d]) (by simp_arith [hr]) (fun d hd=>by
   refine ⟨[some d,some (.int l)],rfl,?_⟩
   simp_arith [])
  have e3:(Ao ((j:Int) * f) ((min (j * f + f) (cnt p f l):Nat):Int)).map (fun d=>D.tup [.int l,d])=(chN p f (l + 1) j).map Ah:=by
   show _=(((aax (cnt p f l)).filter fun k=>k / f==j).map fun k=>(l,k)).map Ah
   rw [HU (by omega)]
   unfold Ao
   rw [aaM,aaM,aaM,<- aa0,show (((min (j * f + f) (cnt p f l):Nat):Int) - ((j * f:Nat):Int)).toNat=min (j * f + f) (cnt p f l) - j * f by omega]
   apply aaN
   intro i _
   show D.tup [.int l,.int (((j * f:Nat):Int) + (i:Int))]=Ai l (j * f + i)
   rw [<- Int.natCast_add]; rfl
  rw [e3] at h2
  refine (F2 _ rfl).trans (Ad ?_)
  unfold Ai shD A7 at *
  simp_arith [hr] at h2
  simp_arith [C4,hc,c1,e1,f1,f2,hlv,h5,e2,hr,h2]
theorem SA {rs:List Int} {i:Nat} (h:i < rs.length):atD (rs.map D.int) (i:Int)=.ok (.int (rs.getD i 0)):=by
 apply CO
 rw [aaJ,aah h]; rfl
theorem P8 (tr:List (List Int)) (i:Nat) (δ:Fr) (h:get δ i=.ok (Ab tr)):ev (.comp0 1 [] (.nm 0) (.seqL (.nm i)) (.bi .list (.cons (.nm 0) .nil))) δ=.ok (Ab tr):=by
 have h2:=Ce (nl:=1) (fr:=[]) (tg:=.nm 0) (it:=.seqL (.nm i)) (elt:=.bi .list (.cons (.nm 0) .nil)) (δ:=δ) (ds:=tr.map Ac) (g:=fun d=>d) (by rw [evI,ev,h]; rfl) (fun d hd=>by
  obtain ⟨x,_,rfl⟩:=aaA.mp hd
  refine ⟨[some (Ac x)],rfl,?_⟩
  unfold Ac
  simp_arith [])
 rw [List.map_id'] at h2
 exact h2
theorem N7 (ns:List Int) (q:Int) (hq:0<=q) (a b:Nat) {A B:Int} (hA:A=(a:Int)) (hB:B=(b:Int)):∃ m:Nat,(m=a\/m=b)/\∀ r:Fr,ev (.ix (.lst (.cons (.cI A) (.cons (.cI B) .nil))) (.bi .int (.cons (.cmp .eq (.ix (.call AK (.cons (.nm 0) (.cons (.cI q) (.cons (.lst (.cons (.cI 8) .nil)) .nil)))) (.cI 0)) (.cI 0)) .nil))) (some (.lst (ns.map .int)) :: r)=.ok (.int (m:Int)):=by
 subst hA hB
 obtain ⟨ys,hrow,hyl,hb⟩:=FQ ns q hq [8] (by decide) (by decide)
 obtain ⟨x,rfl⟩:=Rz hyl
 simp only [abC] at hrow
 have hz:atD [D.int x] 0=.ok (.int x):=rfl
 by_cases c:x=0
 ·subst c
  refine ⟨b,.inr rfl,fun r=>?_⟩
  simp_arith [hrow,hz]
 ·have c1:(x==0)=false:=beq_eq_false_iff_ne.mpr c
  refine ⟨a,.inl rfl,fun r=>?_⟩
  simp_arith [hrow,hz,c1]
noncomputable def tri (l q r:Nat):D:=.tup [.int l,.int q,.int r]
theorem P9 (l q r:Nat):CS (tri l q r) none (some 2)=.ok (Ai l q):=rfl
theorem SB (a b c:D):atD [a,b,c] 2=.ok c:=rfl
noncomputable def cvN (p f a m:Nat):D:=tri m (a / f ^ m) (min p (a + f ^ m))
section
variable {p f h:Nat} (hf:2<=f) (hf8:f<=8) (H:Hs p f h) (hh:h<=8)
include hf hf8 H hh
section
variable {a e:Nat} (hae:a < e) (hep:e<=p)
include hae hep
theorem N8 (b:D) (xs:D) (i:Nat) (hi:i<=h) (nd:D) (o9:Option D) :
  ∃ o9',exs AE [some (.int p),some (.int f),some b,some (.int e),some xs,some (.int a),some (.int ((f ^ i:Nat):Int)),some nd,some (.int i),o9]=.nxt [some (.int p),some (.int f),some b,some (.int e),some xs,some (.int a),some (.int ((f ^ (i + 1):Nat):Int)),some (if okL p f a e i then cvN p f a i else nd),some (.int i),o9']:=by
 refine ⟨some (.int (min (p:Int) (a + ((f ^ i:Nat):Int)))),?_⟩
 have hw0:0 < f ^ i:=abc (by omega)
 have hw:=N0 (f:=f) (l:=i) hf8 (by omega)
 have ok:=EM (p:=p) (f:=f) (a:=a) (e:=e) (l:=i)
 rw [abn,aa0]
 unfold cvN tri
 generalize okL p f a e i=t at *
 generalize f ^ i=w at *
 have h1:0 < (w:Int):=by omega
 have h2:(w:Int) < 1606938044258990275541962092341162602522202993782792835301376:=by omega
 have h3:-(18446744073709551616) < (f:Int):=by omega
 have h4:(f:Int) < 18446744073709551616:=by omega
 have e1:((a:Int) % (w:Int)==0)=(a % w==0):=by
  rw [<- Int.natCast_emod,abV,beq_iff_eq,beq_iff_eq]
  omega
 have e2:((min p (a + w):Nat):Int)=min (p:Int) (a + (w:Int)):=by omega
 by_cases c1:a % w=0
 ·have d1:(a % w==0)=true:=by simpa using c1
  by_cases c2:min p (a + w)<=e
  ·have d2:min (p:Int) (a + (w:Int))<=e:=by omega
   have d3:t=true:=ok.mpr ⟨c1,c2⟩
   subst d3
   rw [if_pos rfl,aca,e2]
   simp_arith [AE,h1,h2,h3,h4,e1,d1,d2]
  ·have d2:¬ min (p:Int) (a + (w:Int))<=e:=by omega
   have d3:t=false:=by cases t; rfl; exact absurd (ok.mp rfl).2 c2
   subst d3
   rw [if_neg aaQ]
   simp_arith [AE,h1,h2,h3,h4,e1,d1,d2]
 ·have d1:(a % w==0)=false:=by simpa using c1
  have d3:t=false:=by cases t; rfl; exact absurd (ok.mp rfl).1 c1
  subst d3
  rw [if_neg aaQ]
  simp_arith [AE,h1,h2,h3,h4,e1,d1]
theorem RG (i:Nat) (hi:i<=h):okL p f a e i=decide (i<=lvA p f h e a):=by
 rw [abV,decide_eq_true_eq]
 constructor
 ·intro h1
  apply aba
  intro h2
  have:=Lq (b:=okL p f a e) h i h2 hi
  rw [this] at h1; cases h1
 ·intro h1
  exact Jl (by omega) (Im (N1 hae) h) h1
theorem N9 (b:D) (xs:D) (o8 o9:Option D):∃ o8' o9',AU (.nm 8) (exs AE) (Ao 0 ((h + 1:Nat):Int)) [some (.int p),some (.int f),some b,some (.int e),some xs,some (.int a),some (.int 1),some (tri 0 a (a + 1)),o8,o9]=.nxt [some (.int p),some (.int f),some b,some (.int e),some xs,some (.int a),some (.int ((f ^ (h + 1):Nat):Int)),some (cvN p f a (lvA p f h e a)),o8',o9']:=by
 obtain ⟨δ',e',o8',o9',rfl⟩:=Bg (tg:=.nm 8) (b:=exs AE) (fun i δ=>∃ o8 o9,δ=[some (.int p),some (.int f),some b,some (.int e),some xs,some (.int a),some (.int ((f ^ i:Nat):Int)),some (cvN p f a (min (i - 1) (lvA p f h e a))),o8,o9]) (ds:=Ao 0 ((h + 1:Nat):Int)) (δ:=[some (.int p),some (.int f),some b,some (.int e),some xs,some (.int a),some (.int 1),some (tri 0 a (a + 1)),o8,o9]) 0 ⟨o8,o9,by
   rw [show min (0 - 1) (lvA p f h e a)=0 by omega]
   unfold cvN
   rw [ab9,Nat.div_one,show min p (a + 1)=a + 1 by omega]; rfl⟩ (by
  rintro i d δ hd ⟨o8,o9,rfl⟩
  obtain ⟨rfl,hi⟩:=Cm hd
  rw [abS,aaK]
  obtain ⟨o9',e'⟩:=N8 hf hf8 H hh hae hep b xs i (by omega) (cvN p f a (min (i - 1) (lvA p f h e a))) o9
  refine ⟨_,_,rfl,e',some (.int i),o9',?_⟩
  rw [RG hf hf8 H hh hae hep i (by omega)]
  by_cases c:i<=lvA p f h e a
  ·rw [decide_eq_true c,if_pos rfl,show min (i + 1 - 1) (lvA p f h e a)=i by omega]
  ·rw [decide_eq_false c,if_neg aaQ,show min (i + 1 - 1) (lvA p f h e a)=min (i - 1) (lvA p f h e a) by omega])
 have hm:lvA p f h e a<=h:=GT _ _
 rw [BR,show 0 + (((h + 1:Nat):Int) - 0).toNat=h + 1 by omega] at e'
 rw [show min (h + 1 - 1) (lvA p f h e a)=lvA p f h e a by omega] at e'
 exact ⟨o8',o9',e'⟩
theorem MU (b:D) (xs:List D) (hx:xs.length<=1000) (o6 o7 o8 o9:Option D):∃ o6' o7' o8' o9',exs A6 [some (.int p),some (.int f),some b,some (.int e),some (.lst xs),some (.int a),o6,o7,o8,o9]=.nxt [some (.int p),some (.int f),some b,some (.int e),some (.lst (xs ++ [Ai (lvA p f h e a) (a / f ^ lvA p f h e a)])),some (.int (nxA p f h e a)),o6',o7',o8',o9']:=by
 obtain ⟨o8',o9',hl⟩:=N9 hf hf8 H hh hae hep b (.lst xs) o8 o9
 refine ⟨some (.int ((f ^ (h + 1):Nat):Int)),some (cvN p f a (lvA p f h e a)),o8',o9',?_⟩
 have hc:=GV hf hf8 H hh (by omega)
 have hr:=BH (a:=0) (b:=((h + 1:Nat):Int)) (by omega) (by omega) (by omega) (by omega)
 have hap:=BI xs (Ai (lvA p f h e a) (a / f ^ lvA p f h e a)) (by omega)
 have hcut:=P9 (lvA p f h e a) (a / f ^ lvA p f h e a) (min p (a + f ^ lvA p f h e a))
 unfold A7 at hc
 unfold cvN at *
 unfold nxA
 have hll:=BJ p f h
 unfold tri at *
 rw [show ((0:Nat):Int)=0 from rfl,show ((a + 1:Nat):Int)=(a:Int) + 1 by omega] at hl
 simp_arith [A6,hc,hll,aab,hr,hl,hcut,hap,SB,-CS]
end
theorem HV {e:Nat} (hep:e<=p) (b:D):∀ (n m a:Nat) (xs:List D) (o6 o7 o8 o9:Option D),e - a<=n->n < m->a<=e->xs.length + n<=1000->∃ o6' o7' o8' o9',AM (tv (.cmp .lt (.nm 5) (.nm 3))) (exs A6) m [some (.int p),some (.int f),some b,some (.int e),some (.lst xs),some (.int a),o6,o7,o8,o9]=.nxt [some (.int p),some (.int f),some b,some (.int e),some (.lst (xs ++ E6 p f h e n a)),some (.int e),o6',o7',o8',o9']
 | n,m + 1,a,xs,o6,o7,o8,o9,h1,h2,h3,h4=>by
  by_cases hae:a < e
  ·obtain ⟨n,rfl⟩:∃ k,n=k + 1:=⟨n - 1,by omega⟩
   have c1:(a:Int) < e:=by omega
   have hn:=Jm (p:=p) (f:=f) (h:=h) (by omega) hae hep
   have hn2:=(FE (p:=p) (f:=f) (h:=h) hae).2
   obtain ⟨q6,q7,q8,q9,ht⟩:=MU hf hf8 H hh hae hep b xs (by omega) o6 o7 o8 o9
   rw [E4 (by simp_arith [c1]) ht]
   obtain ⟨q6',q7',q8',q9',e'⟩:=HV hep b n m (nxA p f h e a) (xs ++ [Ai (lvA p f h e a) (a / f ^ lvA p f h e a)]) q6 q7 q8 q9 (by omega) (by omega) hn2 (by simp; omega)
   refine ⟨q6',q7',q8',q9',?_⟩
   rw [e',aa6]
   unfold E6
   rw [cov,if_pos hae]
   rfl
  ·have ha:a=e:=by omega
   subst ha
   have c1:¬ (a:Int) < a:=by omega
   refine ⟨o6,o7,o8,o9,?_⟩
   rw [Cn (by simp_arith [c1])]
   unfold E6
   cases n with
   | zero=>simp [cov]
   | succ n=>rw [cov,if_neg hae]; simp
theorem Ly {a e:Nat} (hae:a<=e) (hep:e<=p) (hp:p<=200):Ay.den [.int p,.int f,.int a,.int e]=.ok (.lst (E6 p f h e 200 a)):=by
 obtain ⟨o6,o7,o8,o9,e'⟩:=HV hf hf8 H hh hep (.int a) 200 FU a [] none none none none (by omega) (by unfold FU; omega) hae (by simp)
 rw [aaT] at e'
 refine (D5 _ rfl).trans (Ad ?_)
 simp_arith [Bt,e']
end
theorem EN (p f a:Nat) (ha:a<=p):Dn.den [shD p f,.int a,.int a]=.ok (.lst []):=by
 have c1:¬ (a:Int) < 0:=by omega
 have c2:¬ (p:Int) < a:=by omega
 have c3:¬ (a:Int) < a:=by omega
 have hl:AM (tv (.cmp .lt (.nm 4) (.nm 2))) (exs C5) FU [some (.tup [.int p,.int f]),some (.int a),some (.int a),some (.lst []),some (.int a),none]=.nxt [some (.tup [.int p,.int f]),some (.int a),some (.int a),some (.lst []),some (.int a),none]:=by
  unfold FU
  exact Cn (by simp_arith [c3])
 refine (Je _ rfl).trans (Ad ?_)
 unfold shD
 simp_arith [EG,c1,c2,c3,hl]
theorem GX (p f a:Nat):Ay.den [.int p,.int f,.int a,.int a]=.ok (.lst []):=by
 have c3:¬ (a:Int) < a:=by omega
 have hl:AM (tv (.cmp .lt (.nm 5) (.nm 3))) (exs A6) FU [some (.int p),some (.int f),some (.int a),some (.int a),some (.lst []),some (.int a),none,none,none,none]=.nxt [some (.int p),some (.int f),some (.int a),some (.int a),some (.lst []),some (.int a),none,none,none,none]:=by
  unfold FU
  exact Cn (by simp_arith [c3])
 refine (D5 _ rfl).trans (Ad ?_)
 simp_arith [Bt,hl]
theorem KB {rs:List Int} {a b:Nat} {x:Int}:x ∈ (rs.drop a).take (b - a) ↔ ∃ k,a<=k/\k < b/\rs[k]?=some x:=by
 rw [List.mem_iff_getElem?]
 constructor
 ·rintro ⟨n,h⟩
  rw [acF] at h
  split at h
  ·rw [acG] at h
   exact ⟨a + n,by omega,by omega,h⟩
  ·cases h
 ·rintro ⟨k,h1,h2,h3⟩
  refine ⟨k - a,?_⟩
  rw [acF,if_pos (by omega),acG,show a + (k - a)=k by omega,h3]
theorem SC {rs:List Int} {a b:Nat} (hab:a < b) (hb:b<=rs.length):(∃ k,a<=k/\k < b/\rs[k]?=some (mxR rs a b))/\∀ k x,a<=k->k < b->rs[k]?=some x->x<=mxR rs a b:=by
 obtain ⟨h1,h2⟩:=aco.mp (MQ hab hb)
 exact ⟨KB.mp h1,fun k x q1 q2 q3=>h2 x (KB.mpr ⟨k,q1,q2,q3⟩)⟩
theorem RH (rs:List Int) (f l:Nat) {c j:Nat} (h:j < c):(BK rs f l c)[j]?=some (mxR rs (j * f ^ l) (min rs.length (j * f ^ l + f ^ l))):=by
 unfold BK
 rw [aan,acC h]; rfl
theorem MV {c:Fr->Res Bool} {b:Fr->Out} {n:Nat} {δ:Fr} {d:D} (h1:c δ=.ok true) (h2:b δ=.ret d):AM c b (n + 1) δ=.ret d:=by
 rw [AM,h1,Res.out_ok,if_pos rfl,h2,Out.then_ret]
noncomputable abbrev Nd:=Nat × Nat
noncomputable def Bx (t:Nd->Bool):List Nd->List Nd
 | []=>[]
 | q :: r=>q :: if t q then [] else Bx t r
theorem Gm (t:Nd->Bool):∀ qs,(Bx t qs).length<=qs.length
 | []=>aag _
 | q :: r=>by
  unfold Bx
  split
  ·simp
  ·have:=Gm t r; simp only [aa2]; omega
theorem FG (t:Nd->Bool):∀ {qs},qs ≠ []->∃ pre q,Bx t qs=pre ++ [q]/\q ∈ qs/\((qs.find? t=some q/\t q=true)\/(qs.find? t=none/\t q=false))
 | [],h=>absurd rfl h
 | q :: r,_=>by
  unfold Bx
  by_cases hq:t q=true
  ·exact ⟨[],q,by rw [if_pos hq]; rfl,aac,.inl ⟨abJ hq,hq⟩⟩
  ·rw [if_neg hq,abK hq]
   by_cases hr:r=[]
   ·subst hr
    exact ⟨[],q,rfl,aac,.inr ⟨rfl,by simpa using hq⟩⟩
   ·obtain ⟨pre,q',h1,h2,h3⟩:=FG t hr
    exact ⟨q :: pre,q',by rw [h1]; rfl,aaa _ h2,h3⟩
noncomputable def wk (t:Nd->Bool) (p f:Nat):Nat->List Nd->List Nd
 | 0,_=>[]
 | n + 1,qs=>Bx t qs ++ match qs.find? t with
  | none=>[]
  | some q=>wk t p f n (chN p f q.1 q.2)
noncomputable def tst (tr:List (List Int)) (need:Int) (q:Nd):Bool:=decide (need<=tl tr q.1 q.2)
noncomputable def Val (p f h:Nat) (qs:List Nd):Prop:=∀ q ∈ qs,q.1<=h/\q.2 < cnt p f q.1
theorem Lz (qs:List Nd):D.flat 9 1 (.lst (qs.map Ah))=true:=by
 show (qs.map Ah).all (D.flat 8 0)=true
 rw [aaw]
 intro d hd
 obtain ⟨q,_,rfl⟩:=aaA.mp hd
 rfl
theorem MW {p f h l j:Nat} (hl:l<=h):Val p f h (chN p f l j):=by
 intro q hq
 cases l with
 | zero=>cases hq
 | succ l =>
  obtain ⟨k,hk,rfl⟩:=aaA.mp hq
  exact ⟨by show l<=h; omega,acm.mp (acd.mp hk).1⟩
theorem Ox {p f l j:Nat}:∀ q ∈ chN p f l j,q.1 < l:=by
 intro q hq
 cases l with
 | zero=>cases hq
 | succ l =>
  obtain ⟨k,hk,rfl⟩:=aaA.mp hq
  exact ab7 l
theorem RI {p f l j:Nat} (hf:1<=f) (hp:p<=200):(chN p f l j).length<=200:=by
 cases l with
 | zero=>simp [chN]
 | succ l =>
  show (((aax (cnt p f l)).filter fun k=>k / f==j).map fun k=>(l,k)).length<=200
  rw [aab]
  have:=List.length_filter_le (fun k=>k / f==j) (aax (cnt p f l))
  rw [abv] at this
  have:=FD (p:=p) (f:=f) (l:=l) hf
  omega
section
variable {tr:List (List Int)} {p f h:Nat} (hd:Dim tr p f h) (need:Int)
include hd
theorem KC (nodes:D):∀ (qs:List Nd) (xs:List D) (o4:Option D),Val p f h qs->xs.length + qs.length<=100000->∃ o4',AU (.nm 4) (exs AF) (qs.map Ah) [some (Ab tr),some (.int need),some nodes,some (.lst xs),o4]=if (qs.find? (tst tr need)).isSome then .ret (.lst (xs ++ (Bx (tst tr need) qs).map Ah)) else .nxt [some (Ab tr),some (.int need),some nodes,some (.lst (xs ++ (Bx (tst tr need) qs).map Ah)),o4']
 | [],xs,o4,_,_=>⟨o4,by simp [AU,Bx]⟩
 | q :: r,xs,o4,hv,hl=>by
  rw [aa2] at hl
  have hv0:=hv q aac
  have ht:=Ek hd hv0.1 hv0.2
  have hap:=BI xs (Ah q) (by omega)
  rw [aaF,AU]
  show ∃ o4',(exs AF [some (Ab tr),some (.int need),some nodes,some (.lst xs),some (Ah q)]).then _=_
  unfold Bx
  by_cases hq:tst tr need q=true
  ·have hq':need<=tl tr q.1 q.2:=of_decide_eq_true hq
   have e:exs AF [some (Ab tr),some (.int need),some nodes,some (.lst xs),some (Ah q)]=.ret (.lst (xs ++ [Ah q])):=by
    unfold Ah at *
    simp_arith [AF,hap,ht,hq']
   rw [e,abJ hq,if_pos hq]
   exact ⟨none,rfl⟩
  ·have hq':¬ need<=tl tr q.1 q.2:=fun z=>hq (decide_eq_true z)
   have e:exs AF [some (Ab tr),some (.int need),some nodes,some (.lst xs),some (Ah q)]=.nxt [some (Ab tr),some (.int need),some nodes,some (.lst (xs ++ [Ah q])),some (Ah q)]:=by
    unfold Ah at *
    simp_arith [AF,hap,ht,hq']
   rw [e,abK hq,if_neg hq,Out.then_nxt]
   obtain ⟨o4',e'⟩:=KC nodes r (xs ++ [Ah q]) (some (Ah q)) (fun x hx=>hv x (aaa _ hx)) (by simp; omega)
   refine ⟨o4',?_⟩
   rw [e',aa6]
   rfl
theorem RJ {qs:List Nd} (hv:Val p f h qs) (hl:qs.length<=200):B8.den [Ab tr,.int need,.lst (qs.map Ah)]=.ok (.lst ((Bx (tst tr need) qs).map Ah)):=by
 obtain ⟨o4,e⟩:=KC hd need (.lst (qs.map Ah)) qs [] none hv (by simp; omega)
 rw [aaT] at e
 refine (GP _ rfl).trans (Ad ?_)
 cases q:(qs.find? (tst tr need)).isSome with
 | true =>
  rw [q,if_pos rfl] at e
  simp_arith [BD,e]
 | false =>
  rw [q,if_neg aaQ] at e
  simp_arith [BD,e]
variable (hf:2<=f) (hf8:f<=8) (H:Hs p f h) (hh:h<=8) (hp:p<=200)
include hf hf8 H hh hp
theorem Qa (b:D) {qs:List Nd} (hq:qs ≠ []) (hv:Val p f h qs) (hl:qs.length<=200) (xs:List D) (hx:xs.length<=100000) (o7:Option D):exs Bv [some (Ab tr),some (.int f),some (.int need),some b,some (shD p f),some (.lst xs),some (.lst (qs.map Ah)),o7]=match qs.find? (tst tr need) with
  | none=>.ret (.lst (xs ++ (Bx (tst tr need) qs).map Ah))
  | some q=>.nxt [some (Ab tr),some (.int f),some (.int need),some b,some (shD p f),some (.lst (xs ++ (Bx (tst tr need) qs).map Ah)),some (.lst ((chN p f q.1 q.2).map Ah)),some (.lst ((Bx (tst tr need) qs).map Ah))]:=by
 have hu:=RJ hd need hv hl
 have hfl:=Lz (Bx (tst tr need) qs)
 have hdp:=GQ
 have hul:=Gm (tst tr need) qs
 have hex:=RC xs ((Bx (tst tr need) qs).map Ah) (by rw [aab]; omega)
 obtain ⟨pre,q,e1,e2,e3⟩:=FG (tst tr need) hq
 have hq0:=hv q e2
 have ht:=Ek hd hq0.1 hq0.2
 have hc:=Jw hf hf8 H hh hp hq0.1 hq0.2
 have hla:=Hj (pre.map Ah) (Ah q)
 have e4:(Bx (tst tr need) qs).map Ah=pre.map Ah ++ [Ah q]:=by rw [e1,aao]; rfl
 rw [<- e4] at hla
 generalize (Bx (tst tr need) qs).map Ah=us at *
 have ht:A9.den [Ab tr,Ah q]=.ok (.int (tl tr q.1 q.2)):=ht
 have hc:Dv.den [shD p f,Ah q]=.ok (.lst ((chN p f q.1 q.2).map Ah)):=hc
 rcases e3 with ⟨h1,h2⟩ | ⟨h1,h2⟩
 ·have hlt:¬ tl tr q.1 q.2 < need:=by have:need<=tl tr q.1 q.2:=of_decide_eq_true h2; omega
  rw [h1]
  simp_arith [Bv,hu,hdp,hfl,hex,hla,ht,hlt,hc]
 ·have hlt:tl tr q.1 q.2 < need:=by have:¬ need<=tl tr q.1 q.2:=of_decide_eq_false h2; omega
  rw [h1]
  simp_arith [Bv,hu,hdp,hfl,hex,hla,ht,hlt]
theorem KD (b:D):∀ (n m:Nat) (qs:List Nd) (xs:List D) (o7:Option D),Val p f h qs->qs.length<=200->(∀ q ∈ qs,q.1 < n)->n < m->xs.length + 200 * n<=10000->∃ o6 o7',(AM (tv (.cmp .ne (.nm 6) (.lst .nil))) (exs Bv) m [some (Ab tr),some (.int f),some (.int need),some b,some (shD p f),some (.lst xs),some (.lst (qs.map Ah)),o7]=.ret (.lst (xs ++ (wk (tst tr need) p f n qs).map Ah)))\/(AM (tv (.cmp .ne (.nm 6) (.lst .nil))) (exs Bv) m [some (Ab tr),some (.int f),some (.int need),some b,some (shD p f),some (.lst xs),some (.lst (qs.map Ah)),o7]=.nxt [some (Ab tr),some (.int f),some (.int need),some b,some (shD p f),some (.lst (xs ++ (wk (tst tr need) p f n qs).map Ah)),o6,o7'])
 | n,m + 1,qs,xs,o7,hv,hl,hlv,hm,hx=>by
  have hcd:=MI (qs.map Ah) (MO qs 6)
  by_cases hq:qs=[]
  ·subst hq
   refine ⟨some (.lst []),o7,.inr ?_⟩
   rw [abw] at hcd
   rw [abw,Cn (by simp_arith [hcd,List.isEmpty])]
   cases n <;> simp [wk,Bx]
  ·cases n with
   | zero =>
    obtain ⟨q,r,rfl⟩:=List.exists_cons_of_ne_nil hq
    exact absurd (hlv q aac) (by omega)
   | succ n =>
    have hc1:tv (.cmp .ne (.nm 6) (.lst .nil)) [some (Ab tr),some (.int f),some (.int need),some b,some (shD p f),some (.lst xs),some (.lst (qs.map Ah)),o7]=.ok true:=by
     have:(qs.map Ah).isEmpty=false:=by
      cases qs with
      | nil=>exact absurd rfl hq
      | cons a r=>rfl
     rw [this] at hcd
     simp_arith [hcd]
    have ht:=Qa hd need hf hf8 H hh hp b hq hv hl xs (by omega) o7
    have hul:=Gm (tst tr need) qs
    rw [wk]
    cases q:qs.find? (tst tr need) with
    | none =>
     rw [q] at ht
     refine ⟨none,none,.inl ?_⟩
     rw [MV hc1 ht,aaR]
    | some w =>
     rw [q] at ht
     have hw:=hv w (ab3 q)
     have hwl:=hlv w (ab3 q)
     rw [E4 hc1 ht]
     obtain ⟨o6,o7',e⟩:=KD b n m (chN p f w.1 w.2) (xs ++ (Bx (tst tr need) qs).map Ah) (some (.lst ((Bx (tst tr need) qs).map Ah))) (MW hw.1) (RI (by omega) hp) (fun x hx=>by have:=Ox x hx; omega) (by omega) (by rw [aav,aab]; omega)
     rw [aa6,<- aao] at e
     exact ⟨o6,o7',e⟩
end
theorem EO {p f h e:Nat} (hf:1<=f) (hep:e<=p):∀ n a,Val p f h (cov p f h e n a)
 | 0,a=>fun q hq=>nomatch hq
 | n + 1,a=>by
  intro q hq
  rw [cov] at hq
  by_cases hae:a < e
  ·rw [if_pos hae] at hq
   rcases aai.mp hq with rfl | hq
   ·refine ⟨GT _ _,?_⟩
    show a / f ^ lvA p f h e a < cnt p f (lvA p f h e a)
    rw [Cf hf]
    have:=acB a (f ^ lvA p f h e a)
    omega
   ·exact EO hf hep n _ q hq
  ·rw [if_neg hae] at hq; cases hq
theorem KG {p f h e:Nat}:∀ n a,(cov p f h e n a).length<=n
 | 0,a=>aag _
 | n + 1,a=>by
  rw [cov]
  split
  ·have:=KG (p:=p) (f:=f) (h:=h) (e:=e) n (nxA p f h e a)
   simp only [aa2]; omega
  ·simp
section
variable {tr:List (List Int)} {p f h:Nat} (hd:Dim tr p f h) (need:Int) (hf:2<=f) (hf8:f<=8) (H:Hs p f h) (hh:h<=8) (hp:p<=200)
include hd hf hf8 H hh hp
noncomputable def wkD (tr:List (List Int)) (p f h:Nat) (need:Int) (a:Nat):List Nd:=wk (tst tr need) p f (h + 1) (cov p f h p 200 a)
theorem LA {a:Nat} (ha:a<=p):Dz.den [Ab tr,.int f,.int need,.int a]=.ok (.lst ((wkD tr p f h need a).map Ah)):=by
 have hs:=D9 hd
 have hc:=HQ hf hf8 H hh ha (aag p) hp
 have hv:=EO (p:=p) (f:=f) (h:=h) (show 1<=f by omega) (aag p) 200 a
 obtain ⟨o6,o7,e⟩:=KD hd need hf hf8 H hh hp (.int a) (h + 1) FU (cov p f h p 200 a) [] none hv (KG 200 a) (fun q hq=>by have:=(hv q hq).1; omega) (by unfold FU; omega) (by simp; omega)
 rw [aaT] at e
 unfold E6 at hc
 refine (HM _ rfl).trans (Ad ?_)
 unfold wkD
 generalize (wk (tst tr need) p f (h + 1) (cov p f h p 200 a)).map Ah=ws at *
 generalize (cov p f h p 200 a).map Ah=qs at *
 unfold shD at *
 rcases e with e | e
 ·simp_arith [Do,hs,hc,e]
 ·simp_arith [Do,hs,hc,e]
end
theorem Qb {ms:List Int} {f h l j:Nat} (hl:l<=h) (hj:j < cnt ms.length f l):tl (Ae ms f (h + 1)) l j=mxR ms (j * f ^ l) (min ms.length (j * f ^ l + f ^ l)):=by
 unfold tl
 have e1:(Ae ms f (h + 1)).getD l []=BK ms f l (cnt ms.length f l):=by
  unfold Ae
  rw [aaJ,aan,acC (by omega)]; rfl
 rw [e1,aaJ,RH ms f l hj]; rfl
noncomputable def Til (p f:Nat):List Nd->Nat->Nat->Prop
 | [],a,e=>a=e
 | q :: r,a,e=>q.2 * f ^ q.1=a/\Til p f r (min p (q.2 * f ^ q.1 + f ^ q.1)) e
theorem KH {p f h e:Nat} (hf:1<=f) (hep:e<=p):∀ n a,e - a<=n->a<=e->Til p f (cov p f h e n a) a e
 | 0,a,h1,h2=>by show a=e; omega
 | n + 1,a,h1,h2=>by
  rw [cov]
  by_cases hae:a < e
  ·rw [if_pos hae]
   have hs:a / f ^ lvA p f h e a * f ^ lvA p f h e a=a:=by
    have:=abU a (f ^ lvA p f h e a)
    rw [(FE hae).1,abl] at this
    exact this
   have hn:=Jm (p:=p) (f:=f) (h:=h) hf hae hep
   have hn2:=(FE (p:=p) (f:=f) (h:=h) hae).2
   refine ⟨hs,?_⟩
   show Til p f _ (min p (a / f ^ lvA p f h e a * f ^ lvA p f h e a + f ^ lvA p f h e a)) e
   rw [hs]
   exact KH hf hep n (nxA p f h e a) (by omega) hn2
  ·rw [if_neg hae]; show a=e; omega
theorem KI {p f l:Nat} (hf:1<=f):∀ m s,0 < m->s + m<=cnt p f l->Til p f ((acJ s m).map fun k=>(l,k)) (s * f ^ l) (min p ((s + m) * f ^ l))
 | 0,s,h,_=>absurd h (by omega)
 | 1,s,_,_=>⟨rfl,by show min p (s * f ^ l + f ^ l)=_; rw [abQ]⟩
 | m + 2,s,_,h2=>by
  have ih:=KI (p:=p) (f:=f) (l:=l) hf (m + 1) (s + 1) (by omega) (by omega)
  refine ⟨rfl,?_⟩
  show Til p f ((acJ (s + 1) (m + 1)).map fun k=>(l,k)) (min p (s * f ^ l + f ^ l)) _
  have h3:=(Cf (p:=p) (f:=f) (l:=l) (j:=s + 1) hf).mp (by omega)
  rw [abQ] at h3 ih
  rw [show min p (s * f ^ l + f ^ l)=s * f ^ l + f ^ l by omega,show s + (m + 2)=s + 1 + (m + 1) by omega]
  exact ih
theorem MX {p f l j:Nat} (hf:1<=f):chN p f (l + 1) j=(acJ (j * f) (min (j * f + f) (cnt p f l) - j * f)).map fun k=>(l,k):=by
 show ((aax (cnt p f l)).filter fun k=>k / f==j).map (fun k=>(l,k))=_
 rw [HU hf,List.range'_eq_map_range]
theorem RK {p f l j:Nat} (hf:1<=f) (hj:j < cnt p f (l + 1)):chN p f (l + 1) j ≠ []/\Til p f (chN p f (l + 1) j) (j * f ^ (l + 1)) (min p (j * f ^ (l + 1) + f ^ (l + 1))):=by
 have h1:=(Cf hf).mp hj
 have e1:j * f ^ (l + 1)=j * f * f ^ l:=by rw [abn,abl (f ^ l) f,Nat.mul_assoc]
 have e2:j * f ^ (l + 1) + f ^ (l + 1)=(j * f + f) * f ^ l:=by rw [e1,Nat.add_mul,abn,abl f]
 have h2:j * f < cnt p f l:=(Cf hf).mpr (by omega)
 have r:=KI (p:=p) (f:=f) (l:=l) hf (min (j * f + f) (cnt p f l) - j * f) (j * f) (by omega) (by omega)
 rw [<- MX hf,<- e1,show j * f + (min (j * f + f) (cnt p f l) - j * f)=min (j * f + f) (cnt p f l) by omega] at r
 have e3:min p (min (j * f + f) (cnt p f l) * f ^ l)=min p (j * f ^ (l + 1) + f ^ (l + 1)):=by
  rw [e2]
  by_cases c:j * f + f<=cnt p f l
  ·rw [acg c]
  ·have h3:¬ cnt p f l * f ^ l < p:=fun z=>absurd ((Cf hf).mpr z) (aaP _)
   have h4:cnt p f l * f ^ l<=(j * f + f) * f ^ l:=acu _ (by omega)
   rw [abD (by omega:cnt p f l<=j * f + f)]
   omega
 rw [e3] at r
 refine ⟨fun z=>?_,r⟩
 have:=congrArg aa9 z
 rw [MX hf,aab,List.length_range'] at this
 simp at this
 omega
section
variable {ms:List Int} {f h:Nat} (hf:2<=f) (μ:Int)
include hf
theorem Io {q:Nd} (hl:q.1<=h) (hj:q.2 < cnt ms.length f q.1):(tst (Ae ms f (h + 1)) μ q=true->∃ k x,q.2 * f ^ q.1<=k/\k < min ms.length (q.2 * f ^ q.1 + f ^ q.1)/\ms[k]?=some x/\μ<=x)/\(tst (Ae ms f (h + 1)) μ q=false->∀ k x,q.2 * f ^ q.1<=k->k < min ms.length (q.2 * f ^ q.1 + f ^ q.1)->ms[k]?=some x->x < μ):=by
 unfold tst
 rw [Qb hl hj]
 have hw:0 < f ^ q.1:=abc (by omega)
 have hlt:=(Cf (show 1<=f by omega)).mp hj
 obtain ⟨⟨k,a1,a2,a3⟩,b1⟩:=SC (rs:=ms) (a:=q.2 * f ^ q.1) (b:=min ms.length (q.2 * f ^ q.1 + f ^ q.1)) (by omega) (by omega)
 refine ⟨fun z=>⟨k,_,a1,a2,a3,of_decide_eq_true z⟩,fun z k x c1 c2 c3=>?_⟩
 have:=of_decide_eq_false z
 have:=b1 k x c1 c2 c3
 omega
theorem Jx:∀ (qs:List Nd) (a e:Nat),Val ms.length f h qs->Til ms.length f qs a e->(∀ q ∈ qs,tst (Ae ms f (h + 1)) μ q=false)->∀ k x,a<=k->k < e->ms[k]?=some x->x < μ
 | [],a,e,_,ht,_,k,x,h1,h2,_=>absurd (show a=e from ht) (by omega)
 | q :: r,a,e,hv,ht,hq,k,x,h1,h2,h3=>by
  obtain ⟨t1,t2⟩:=ht
  obtain ⟨v1,v2⟩:=hv q aac
  by_cases c:k < min ms.length (q.2 * f ^ q.1 + f ^ q.1)
  ·exact (Io hf μ v1 v2).2 (hq q aac) k x (by omega) c h3
  ·exact Jx r _ e (fun q' h=>hv q' (aaa _ h)) t2 (fun q' h=>hq q' (aaa _ h)) k x (by omega) h2 h3
theorem MY:∀ (qs:List Nd) (a e:Nat),Val ms.length f h qs->Til ms.length f qs a e->a<=e
 | [],a,e,_,ht=>acD ht
 | q :: r,a,e,hv,ht=>by
  obtain ⟨t1,t2⟩:=ht
  obtain ⟨v1,v2⟩:=hv q aac
  have hlt:=(Cf (show 1<=f by omega)).mp v2
  have:=MY r _ e (fun q' h=>hv q' (aaa _ h)) t2
  omega
theorem Jy:∀ (qs:List Nd) (a e:Nat) (q:Nd),Val ms.length f h qs->Til ms.length f qs a e->qs.find? (tst (Ae ms f (h + 1)) μ)=some q->a<=q.2 * f ^ q.1/\min ms.length (q.2 * f ^ q.1 + f ^ q.1)<=e/\∀ k x,a<=k->k < q.2 * f ^ q.1->ms[k]?=some x->x < μ
 | [],a,e,q,_,_,h=>nomatch h
 | q0 :: r,a,e,q,hv,ht,hq=>by
  obtain ⟨t1,t2⟩:=ht
  obtain ⟨v1,v2⟩:=hv q0 aac
  have hlt:=(Cf (show 1<=f by omega)).mp v2
  have hv':Val ms.length f h r:=fun q' h=>hv q' (aaa _ h)
  have hle:=MY hf r _ e hv' t2
  by_cases c:tst (Ae ms f (h + 1)) μ q0=true
  ·rw [abJ c] at hq
   cases hq
   exact ⟨by omega,hle,fun k x z1 z2=>absurd z2 (by omega)⟩
  ·rw [abK c] at hq
   obtain ⟨z1,z2,z3⟩:=Jy r _ e q hv' t2 hq
   refine ⟨by omega,z2,fun k x k1 k2 k3=>?_⟩
   by_cases c2:k < min ms.length (q0.2 * f ^ q0.1 + f ^ q0.1)
   ·exact (Io hf μ v1 v2).2 (by simpa using c) k x (by omega) c2 k3
   ·exact z3 k x (by omega) k2 k3
theorem Jz:∀ (n:Nat) (qs:List Nd) (a e:Nat),Val ms.length f h qs->(∀ q ∈ qs,q.1 < n)->Til ms.length f qs a e->qs ≠ []->∃ pre q,wk (tst (Ae ms f (h + 1)) μ) ms.length f n qs=pre ++ [q]/\q.1<=h/\q.2 < cnt ms.length f q.1/\((tst (Ae ms f (h + 1)) μ q=false/\∀ k x,a<=k->k < e->ms[k]?=some x->x < μ)\/(q.1=0/\tst (Ae ms f (h + 1)) μ q=true/\a<=q.2/\q.2 < e/\(∃ x,ms[q.2]?=some x/\μ<=x)/\∀ k x,a<=k->k < q.2->ms[k]?=some x->x < μ))
 | 0,qs,a,e,hv,hn,ht,hne=>by
  cases qs with
  | nil=>exact absurd rfl hne
  | cons q r=>exact absurd (hn q aac) (by omega)
 | n + 1,qs,a,e,hv,hn,ht,hne=>by
  obtain ⟨pre,q,h1,h2,h3⟩:=FG (tst (Ae ms f (h + 1)) μ) hne
  obtain ⟨v1,v2⟩:=hv q h2
  rw [wk,h1]
  rcases h3 with ⟨g1,g2⟩ | ⟨g1,g2⟩
  ·rw [g1]
   obtain ⟨z1,z2,z3⟩:=Jy hf μ qs a e q hv ht g1
   obtain ⟨l,j⟩:=q
   cases l with
   | zero =>
    refine ⟨pre,(0,j),?_,v1,v2,.inr ⟨rfl,g2,?_⟩⟩
    ·have:wk (tst (Ae ms f (h + 1)) μ) ms.length f n (chN ms.length f 0 j)=[]:=by
      cases n with
      | zero=>rfl
      | succ m=>rfl
     show pre ++ [(0,j)] ++ wk (tst (Ae ms f (h + 1)) μ) ms.length f n (chN ms.length f 0 j)=_
     rw [this,aaR]
    ·obtain ⟨k,x,k1,k2,k3,k4⟩:=(Io hf μ v1 v2).1 g2
     simp only [ab9,Nat.mul_one] at k1 k2 z1 z2 z3
     have:k=j:=by omega
     subst this
     exact ⟨z1,by omega,⟨x,k3,k4⟩,z3⟩
   | succ l =>
    obtain ⟨c1,c2⟩:=RK (p:=ms.length) (f:=f) (l:=l) (j:=j) (by omega) v2
    have hn':=hn _ h2
    obtain ⟨pre',q',w1,w2,w3,w4⟩:=Jz n (chN ms.length f (l + 1) j) _ _ (MW v1) (fun q hq=>by
     have:=Ox q hq
     have:l + 1 < n + 1:=hn'
     omega) c2 c1
    refine ⟨pre ++ [(l + 1,j)] ++ pre',q',?_,w2,w3,?_⟩
    ·show pre ++ [(l + 1,j)] ++ wk (tst (Ae ms f (h + 1)) μ) ms.length f n (chN ms.length f (l + 1) j)=_
     rw [w1,aa6,aa6,aa6]
    ·rcases w4 with ⟨u1,u2⟩ | ⟨u1,u2,u3,u4,u5,u6⟩
     ·obtain ⟨k,x,k1,k2,k3,k4⟩:=(Io hf μ v1 v2).1 g2
      have:=u2 k x k1 k2 k3
      omega
     ·refine .inr ⟨u1,u2,?_,?_,u5,fun k x k1 k2 k3=>?_⟩
      ·exact aaD z1 u3
      ·exact aas u4 z2
      ·by_cases c:k < j * f ^ (l + 1)
       ·exact z3 k x k1 c k3
       ·exact u6 k x (by omega) k2 k3
  ·rw [g1]
   refine ⟨pre,q,by rw [aaR],v1,v2,.inl ⟨g2,?_⟩⟩
   exact Jx hf μ qs a e hv ht (fun q' hq'=>by
    have:=List.find?_eq_none.mp g1 q' hq'
    simpa using this)
end
theorem Fb (f:Nat):B4.den [Ab [],.int f]=.ok (shD 0 f):=by
 have h0:Dx.den [.lst []]=.ok (.lst []):=by
  have h1:=GW (.lst []) rfl
  refine (F3 _ rfl).trans (Ad ?_)
  simp_arith [C6,h1]
 refine (F5 _ rfl).trans (Ad ?_)
 unfold shD
 show _=Out.ret (.tup [.int 0,.int f])
 rw [show Ab []=.lst [] from rfl]
 simp_arith [C7,h0,abN]
theorem JP (f:Nat) (q:Int):Dz.den [Ab [],.int f,.int q,.int 0]=.ok (.lst []):=by
 have hs:=Fb f
 have hc:=EN 0 f 0 (aag _)
 have h1:=E7 (.lst []) rfl
 have hl:AM (tv (.cmp .ne (.nm 6) (.lst .nil))) (exs Bv) FU [some (Ab []),some (.int f),some (.int q),some (.int 0),some (shD 0 f),some (.lst []),some (.lst []),none]=.nxt [some (Ab []),some (.int f),some (.int q),some (.int 0),some (shD 0 f),some (.lst []),some (.lst []),none]:=by
  unfold FU
  exact Cn (by simp_arith [h1])
 refine (HM _ rfl).trans (Ad ?_)
 unfold shD at *
 rw [show ((0:Nat):Int)=0 from rfl] at *
 simp_arith [Do,hs,hc,hl]
theorem SD {xs:List D} {d:D}:atD (xs ++ [d]) (-1)=.ok d:=by
 unfold atD ixN
 rw [if_neg (by decide),aav,if_pos (by simp; omega)]
 show (match (xs ++ [d])[((-1:Int) + ((xs.length + [d].length:Nat):Int)).toNat]? with | some d=>Res.ok d | none=>Res.bad)=_
 rw [show ((-1:Int) + ((xs.length + [d].length:Nat):Int)).toNat=xs.length by simp; omega]
 simp
noncomputable def pgD:Option Nat->D
 | none=>.non
 | some k=>.int k
noncomputable def FsA (ms:List Int) (μ:Int) (a:Nat):Option Nat->Prop
 | none=>∀ (k:Nat) (x:Int),a<=k->ms[k]?=some x->x < μ
 | some j=>a<=j/\(∃ x:Int,ms[j]?=some x/\μ<=x)/\∀ (k:Nat) (x:Int),a<=k->k < j->ms[k]?=some x->x < μ
theorem Qc {ms:List Int} {μ:Int} {a:Nat}:∀ {o o':Option Nat},FsA ms μ a o->FsA ms μ a o'->o=o'
 | none,none,_,_=>rfl
 | none,some j,h,⟨h1,⟨x,h2,h3⟩,_⟩=>by have:=h j x h1 h2; omega
 | some j,none,⟨h1,⟨x,h2,h3⟩,_⟩,h=>by have:=h j x h1 h2; omega
 | some i,some j,⟨h1,⟨x,h2,h3⟩,h4⟩,⟨g1,⟨y,g2,g3⟩,g4⟩=>by
  rcases Nat.lt_trichotomy i j with c | c | c
  ·have:=g4 i x h1 c h2; omega
  ·rw [c]
  ·have:=h4 j y g1 c g2; omega
theorem JQ {a b:Int} (h:a < b):Ao a b=.int a :: Ao (a + 1) b:=by
 unfold Ao
 rw [show (b - a).toNat=(b - (a + 1)).toNat + 1 by omega,acj,aaF,aaM]
 congr 1
 ·show D.int (a + 0)=_; rw [Int.add_zero]
 ·apply aaN
  intro k _
  show D.int (a + ((k + 1:Nat):Int))=D.int (a + 1 + (k:Int))
  congr 1
  omega
theorem JR {a b:Int} (h:b<=a):Ao a b=[]:=by
 unfold Ao
 rw [show (b - a).toNat=0 by omega]; rfl
section
variable {ms:List Int} {f h:Nat} (hf:2<=f) (hf8:f<=8) (H:Hs ms.length f h) (hh:h<=8) (hn:ms.length<=200) (μ:Int)
include hf hf8 H hh hn
theorem RL {a:Nat} (ha:a < ms.length):∃ o,BU.den [Ab (Ae ms f (h + 1)),.int f,.int μ,.int a]=.ok (pgD o)/\FsA ms μ a o:=by
 have hd:=Ds ms f h
 have hw:=LA hd μ hf hf8 H hh hn (a:=a) (by omega)
 have ht:=KH (p:=ms.length) (f:=f) (h:=h) (e:=ms.length) (by omega) (aag _) 200 a (by omega) (by omega)
 have hv:=EO (p:=ms.length) (f:=f) (h:=h) (e:=ms.length) (by omega) (aag _) 200 a
 have hne:cov ms.length f h ms.length 200 a ≠ []:=by
  rw [cov,if_pos ha]
  exact List.cons_ne_nil _ _
 obtain ⟨pre,⟨l,j⟩,w1,w2,w3,w4⟩:=Jz (ms:=ms) (h:=h) hf μ (h + 1) _ a ms.length hv (fun q hq=>by
  have:=(hv q hq).1
  omega) ht hne
 have w1:wkD (Ae ms f (h + 1)) ms.length f h μ a=pre ++ [(l,j)]:=w1
 rw [w1,aao] at hw
 have hw:Dz.den [Ab (Ae ms f (h + 1)),.int f,.int μ,.int a]=.ok (.lst (pre.map Ah ++ [.tup [.int l,.int j]])):=hw
 have htl:=Ek hd w2 w3
 unfold Ai at htl
 have hm:=SD (xs:=pre.map Ah) (d:=.tup [.int l,.int j])
 have hnil:=FF (pre.map Ah ++ [.tup [.int l,.int j]]) (by
  rw [aaw]
  intro d hd
  rcases aaf.mp hd with hd | hd
  ·obtain ⟨q,_,rfl⟩:=aaA.mp hd
   rfl
  ·rw [aaU.mp hd]; rfl)
 rw [show (pre.map Ah ++ [D.tup [.int l,.int j]]).isEmpty=false by cases pre <;> rfl] at hnil
 refine ⟨if tst (Ae ms f (h + 1)) μ (l,j)=true then some j else none,(E9 _ rfl).trans (Ad ?_),?_⟩
 ·have hts:tst (Ae ms f (h + 1)) μ (l,j)=decide (μ<=tl (Ae ms f (h + 1)) l j):=rfl
  rw [hts]
  clear w4 hts w1 hd
  generalize tl (Ae ms f (h + 1)) l j=x at *
  generalize Ab (Ae ms f (h + 1))=T at *
  generalize pre.map Ah ++ [D.tup [.int l,.int j]]=W at *
  by_cases c:μ<=x
  ·rw [if_pos (decide_eq_true c)]
   have c':¬ x < μ:=by omega
   unfold pgD
   simp_arith [BE,hw,hnil,hm,htl,c']
  ·rw [if_neg (by rw [decide_eq_true_eq]; exact c)]
   have c':x < μ:=by omega
   unfold pgD
   simp_arith [BE,hw,hnil,hm,htl,c']
 ·rcases w4 with ⟨u1,u2⟩ | ⟨u1,u2,u3,u4,u5,u6⟩
  ·rw [u1,if_neg (by decide)]
   intro k x ha hk
   exact u2 k x ha ((aaq.mp hk).1) hk
  ·rw [u2,if_pos rfl]
   exact ⟨u3,u5,u6⟩
end
theorem Hn (o:Option Nat):D.flat 9 0 (pgD o)=true:=by cases o <;> rfl
theorem Oy (p:Nat) (o:Option Nat):Da.den [pgD o,.int p]=.ok (.int (o.getD p:Nat)):=by
 refine (Lm _ rfl).trans (Ad ?_)
 cases o with
 | none =>
  unfold pgD
  simp_arith [DA,acl]
 | some k =>
  unfold pgD
  simp_arith [DA,acl]
theorem MZ (p f:Nat) (b:Int) (o:Option Nat):AY.den [shD p f,.int b,pgD o]=.ok (.tup [.int b,.int (o.getD p:Nat)]):=by
 refine (Hc _ rfl).trans (Ad ?_)
 cases o with
 | none =>
  unfold pgD shD
  simp_arith [BV,acl]
 | some k =>
  unfold pgD shD
  simp_arith [BV,acl]
theorem HW {rs:List Int} {q:Int} (pg:D):∀ (m a:Nat),rs.length - a=m->a<=rs.length->∀ o3:Option D,∃ o,FsA rs q a o/\∃ o3',AU (.nm 3) (exs AS) (Ao a rs.length) [some (Ac rs),some (.int q),some pg,o3]=match o with
  | some k=>.ret (.int k)
  | none=>.nxt [some (Ac rs),some (.int q),some pg,o3']
 | 0,a,h1,h2,o3=>by
  refine ⟨none,fun k x k1 k2=>?_,o3,?_⟩
  ·have:=(aaq.mp k2).1
   omega
  ·rw [JR (by omega)]; rfl
 | m + 1,a,h1,h2,o3=>by
  have ha:a < rs.length:=by omega
  have hat:=SA ha
  have hge:rs[a]?=some (rs.getD a 0):=by rw [aaJ,aah ha]; rfl
  rw [JQ (by omega),AU]
  show ∃ o,FsA rs q a o/\∃ o3',(exs AS [some (Ac rs),some (.int q),some pg,some (.int a)]).then _=_
  by_cases c:q<=rs.getD a 0
  ·refine ⟨some a,⟨aag _,⟨_,hge,c⟩,fun k x k1 k2=>absurd k1 (by omega)⟩,none,?_⟩
   unfold Ac
   clear hge
   generalize rs.map D.int=R at *
   generalize rs.getD a 0=r at *
   simp_arith [AS,hat,c]
  ·obtain ⟨o,f1,o3',e⟩:=HW (rs:=rs) (q:=q) pg m (a + 1) (by omega) (by omega) (some (.int a))
   have st:exs AS [some (Ac rs),some (.int q),some pg,some (.int a)]=.nxt [some (Ac rs),some (.int q),some pg,some (.int a)]:=by
    unfold Ac
    clear hge e f1
    generalize rs.map D.int=R at *
    generalize rs.getD a 0=r at *
    simp_arith [AS,hat,c]
   refine ⟨o,?_,o3',?_⟩
   ·cases o with
    | none =>
     intro k x k1 k2
     by_cases ck:k=a
     ·subst ck; rw [hge] at k2; cases k2; omega
     ·exact f1 k x (by omega) k2
    | some j =>
     obtain ⟨g1,g2,g3⟩:=f1
     refine ⟨by omega,g2,fun k x k1 k2 k3=>?_⟩
     by_cases ck:k=a
     ·subst ck; rw [hge] at k3; cases k3; omega
     ·exact g3 k x (by omega) k2 k3
   ·rw [st,Out.then_nxt]; exact e
theorem JA (rs:List Int) (q:Int) (hn:rs.length<=200) {a:Nat} (ha:a<=rs.length):∃ o,FsA rs q a o/\AG.den [Ac rs,.int q,.int a]=.ok (pgD o):=by
 obtain ⟨o,h1,o3,e⟩:=HW (rs:=rs) (q:=q) (.int a) _ a rfl ha none
 have r1:=BH (a:=a) (b:=rs.length) (by omega) (by omega) (by omega) (by omega)
 have hlen:(((rs.map D.int).length:Nat):Int)=(rs.length:Int):=by rw [aab]
 refine ⟨o,h1,(GS _ rfl).trans (Ad ?_)⟩
 unfold Ac at *
 generalize rs.map D.int=R at *
 generalize Ao a rs.length=G at *
 cases o with
 | none =>
  unfold pgD
  simp_arith [BG,hlen,r1,e]
 | some k =>
  unfold pgD
  simp_arith [BG,hlen,r1,e]
noncomputable def Aw (tr:List (List Int)) (q:Nat × Nat):D:=.tup [.int q.1,.int q.2,.int (tl tr q.1 q.2)]
section
variable {rs:List Int} {f h:Nat} (hf:2<=f) (hf8:f<=8) (H:Hs rs.length f h) (hh:h<=8) (hn:rs.length<=200)
include hf hf8 H hh hn
theorem S7 {qs:List (Nat × Nat)} (hv:∀ q ∈ qs,q.1<=h/\q.2 < cnt rs.length f q.1):C8.den [Ab (Ae rs f (h + 1)),.lst (qs.map Ah)]=.ok (.lst (qs.map (Aw (Ae rs f (h + 1))))):=by
 have hd:=Ds rs f h
 have hc:=Ce (nl:=1) (fr:=[0]) (tg:=.nm 0) (it:=.seq (.nm 1)) (elt:=.tup (.cons (.ix (.nm 0) (.cI 0)) (.cons (.ix (.nm 0) (.cI 1)) (.cons (.call A9 (.cons (.nm 1) (.cons (.nm 0) .nil))) .nil)))) (δ:=[some (Ab (Ae rs f (h + 1))),some (.lst (qs.map Ah))]) (ds:=qs.map Ah) (g:=fun d=>match d with | .tup [.int a,.int c]=>Aw (Ae rs f (h + 1)) (a.toNat,c.toNat) | d=>d) (by
   generalize qs.map Ah=CV at *
   simp_arith []) (fun d hd'=>by
  obtain ⟨⟨a,c⟩,hm,rfl⟩:=aaA.mp hd'
  obtain ⟨v1,v2⟩:=hv _ hm
  have ht:=Ek hd v1 v2
  have ht:A9.den [Ab (Ae rs f (h + 1)),.tup [.int a,.int c]]=.ok (.int (tl (Ae rs f (h + 1)) a c)):=ht
  refine ⟨[some (.tup [.int a,.int c]),some (Ab (Ae rs f (h + 1)))],rfl,?_⟩
  show _=Res.ok (D.tup [.int (((a:Int).toNat:Nat):Int),.int (((c:Int).toNat:Nat):Int),.int (tl (Ae rs f (h + 1)) (a:Int).toNat (c:Int).toNat)])
  simp only [aaG]
  generalize tl (Ae rs f (h + 1)) a c=B at *
  generalize Ab (Ae rs f (h + 1))=T at *
  simp_arith [ht])
 rw [aaM] at hc
 refine (FB _ rfl).trans (Ad ?_)
 have ee:qs.map ((fun d=>match d with | D.tup [.int a,.int c]=>Aw (Ae rs f (h + 1)) (a.toNat,c.toNat) | d=>d) ∘ Ah)=qs.map (Aw (Ae rs f (h + 1))):=by
  apply aaN
  intro q _
  show Aw _ (((q.1:Int)).toNat,((q.2:Int)).toNat)=_
  rw [aaG,aaG]
 rw [ee] at hc
 generalize hC:E.comp0 1 [0] (.nm 0) (.seq (.nm 1)) (.tup (.cons (.ix (.nm 0) (.cI 0)) (.cons (.ix (.nm 0) (.cI 1)) (.cons (.call A9 (.cons (.nm 1) (.cons (.nm 0) .nil))) .nil))))=C at *
 rw [Cy,hC]
 generalize qs.map (Aw (Ae rs f (h + 1)))=PP at *
 generalize qs.map Ah=CV at *
 generalize Ab (Ae rs f (h + 1))=T at *
 simp_arith [hc]
theorem SE {b e:Nat} (hb:b<=e) (he:e<=rs.length):BW.den [Ab (Ae rs f (h + 1)),.int f,.tup [.int b,.int e]]=.ok (.lst ((cov rs.length f h e 200 b).map (Aw (Ae rs f (h + 1))))):=by
 have hs:=D9 (Ds rs f h)
 have hco:Dn.den [shD rs.length f,.int b,.int e]=.ok (.lst ((cov rs.length f h e 200 b).map Ah)):=HQ hf hf8 H hh hb he hn
 have hw:=S7 hf hf8 H hh hn (EO (h:=h) (show 1<=f by omega) he 200 b)
 refine (Fa _ rfl).trans (Ad ?_)
 generalize (cov rs.length f h e 200 b).map (Aw (Ae rs f (h + 1)))=PP at *
 generalize (cov rs.length f h e 200 b).map Ah=CV at *
 generalize Ab (Ae rs f (h + 1))=T at *
 generalize shD rs.length f=s at *
 simp_arith [Cd,hs,hco,hw]
theorem RM (hn1:1<=rs.length) {b e:Nat} (hb:b<=e) (he:e<=rs.length):Az.den [Ac rs,.int f,.int b,.int e]=.ok (.lst ((cov rs.length f h e 200 b).map (Aw (Ae rs f (h + 1))))):=by
 have hd:=Ds rs f h
 have htr:=Js hf hf8 H hh hn hn1
 have hco:Ay.den [.int rs.length,.int f,.int b,.int e]=.ok (.lst ((cov rs.length f h e 200 b).map Ah)):=Ly hf hf8 H hh hb he hn
 have hv:=EO (h:=h) (show 1<=f by omega) he 200 b
 have h2:=Ce (nl:=2) (fr:=[4]) (tg:=.tp [0,1]) (it:=.seq (.call Ay (.cons (.bi .len (.cons (.nm 0) .nil)) (.cons (.nm 1) (.cons (.nm 2) (.cons (.nm 3) .nil)))))) (elt:=.tup (.cons (.nm 0) (.cons (.nm 1) (.cons (.ixL (.ixL (.nm 2) (.nm 0)) (.nm 1)) .nil)))) (δ:=[some (Ac rs),some (.int f),some (.int b),some (.int e),some (Ab (Ae rs f (h + 1)))]) (ds:=(cov rs.length f h e 200 b).map Ah) (g:=fun d=>match d with | .tup [.int a,.int c]=>Aw (Ae rs f (h + 1)) (a.toNat,c.toNat) | d=>d) (by
   unfold Ac
   simp_arith [aab,hco]) (fun d hd'=>by
   obtain ⟨⟨l,j⟩,hq,rfl⟩:=aaA.mp hd'
   obtain ⟨v1,v2⟩:=hv _ hq
   have e1:=Hm hd v1
   have e2:=MT hd v1 v2
   refine ⟨[some (.int l),some (.int j),some (Ab (Ae rs f (h + 1)))],rfl,?_⟩
   show _=Res.ok (D.tup [.int (((l:Int).toNat:Nat):Int),.int (((j:Int).toNat:Nat):Int),.int (tl (Ae rs f (h + 1)) (l:Int).toNat (j:Int).toNat)])
   simp only [aaG]
   unfold Ab Ac at *
   generalize ((Ae rs f (h + 1)).getD l []).map D.int=r at *
   generalize tl (Ae rs f (h + 1)) l j=x at *
   generalize (Ae rs f (h + 1)).map (fun xs=>D.lst (xs.map D.int))=w at *
   simp_arith [e1,e2])
 rw [aaM] at h2
 have ee:(cov rs.length f h e 200 b).map ((fun d=>match d with | D.tup [.int a,.int c]=>Aw (Ae rs f (h + 1)) (a.toNat,c.toNat) | d=>d) ∘ Ah)=(cov rs.length f h e 200 b).map (Aw (Ae rs f (h + 1))):=by
  apply aaN
  intro q _
  show Aw _ (((q.1:Int)).toNat,((q.2:Int)).toNat)=_
  rw [aaG,aaG]
 rw [ee] at h2
 refine (D6 _ rfl).trans (Ad ?_)
 generalize (cov rs.length f h e 200 b).map (Aw (Ae rs f (h + 1)))=Y at *
 generalize hE:E.comp0 2 [4] (.tp [0,1]) (.seq (.call Ay (.cons (.bi .len (.cons (.nm 0) .nil)) (.cons (.nm 1) (.cons (.nm 2) (.cons (.nm 3) .nil)))))) (.tup (.cons (.nm 0) (.cons (.nm 1) (.cons (.ixL (.ixL (.nm 2) (.nm 0)) (.nm 1)) .nil))))=EE at *
 rw [Bu,hE]
 clear ee hv
 generalize Ab (Ae rs f (h + 1))=T at *
 generalize Ac rs=R at *
 simp_arith [htr,h2]
end
theorem c20 (a b:D):atD [a,b] 0=.ok a:=rfl
theorem c21 (a b:D):atD [a,b] 1=.ok b:=rfl
theorem RN {p f h e:Nat}:∀ n a,(cov p f h e n a).length<=n
 | 0,a=>aag _
 | n + 1,a=>by
  rw [cov]
  split
  ·have:=RN (p:=p) (f:=f) (h:=h) (e:=e) n (nxA p f h e a)
   simp only [aa2]; omega
  ·simp
noncomputable def CN (tr:List (List Int)) (o:Option Nat) (qs:List (Nat × Nat)):D:=.tup [pgD o,.lst (qs.map (Aw tr))]
theorem SF (tr:List (List Int)) (o:Option Nat) (qs:List (Nat × Nat)):D.shp 8 (CN tr o qs)=true:=by
 have q2:D.shp 7 (.lst (qs.map (Aw tr)))=true:=by
  show (qs.map (Aw tr)).all (D.shp 6)=true
  rw [aaw]
  intro d hd
  obtain ⟨q,_,rfl⟩:=aaA.mp hd
  rfl
 have q1:D.shp 7 (pgD o)=true:=by cases o <;> rfl
 show [pgD o,.lst (qs.map (Aw tr))].all (D.shp 7)=true
 simp only [aaI,List.all_nil,q1,q2,acy]
theorem M0 (tr:List (List Int)) (o:Option Nat) (qs:List (Nat × Nat)):D.flat 9 1 (CN tr o qs)=true:=by
 have q1:∀ n,D.flat (n + 1) 1 (pgD o)=true:=fun n=>by cases o <;> rfl
 have q2:D.flat 8 1 (.lst (qs.map (Aw tr)))=true:=by
  show (qs.map (Aw tr)).all (D.flat 7 0)=true
  rw [aaw]
  intro d hd
  obtain ⟨q,_,rfl⟩:=aaA.mp hd
  rfl
 show [pgD o,.lst (qs.map (Aw tr))].all (D.flat 8 1)=true
 simp only [aaI,List.all_nil,q1,q2,acy]
theorem RP (tr:List (List Int)) (A B:D):∀ (qs:List (Nat × Nat)) (o2:Option D),∃ p2,AU (.nm 2) (exs Ba) (qs.map (Aw tr)) [some A,some B,o2]=.nxt [some A,some B,p2]
 | [],o2=>⟨o2,rfl⟩
 | q :: r,o2=>by
  obtain ⟨p2,e⟩:=RP tr A B r (some (Aw tr q))
  refine ⟨p2,?_⟩
  have hc:=Ce (nl:=1) (fr:=[]) (tg:=.nm 0) (it:=.seq (.nm 2)) (elt:=.call Bo (.cons (.nm 0) .nil)) (δ:=[some A,some B,some (Aw tr q)]) (ds:=[.int q.1,.int q.2,.int (tl tr q.1 q.2)]) (g:=fun _=>.bl true) (by
    unfold Aw
    simp_arith []) (fun d hd=>by
   refine ⟨[some d],rfl,?_⟩
   have hw:Bo.den [d]=.ok (.bl true):=by
    simp only [aai,abk,or_false] at hd
    rcases hd with rfl | rfl | rfl <;> exact HN _
   simp_arith [hw])
  have hc:ev (.comp0 1 [] (.nm 0) (.seq (.nm 2)) (.call Bo (.cons (.nm 0) .nil))) [some A,some B,some (Aw tr q)]=.ok (.lst [.bl true,.bl true,.bl true]):=hc
  have hi:c2 .inn (.bl false) (.lst [.bl true,.bl true,.bl true])=.ok (.bl false):=rfl
  have st:exs Ba [some A,some B,some (Aw tr q)]=.nxt [some A,some B,some (Aw tr q)]:=by
   generalize hC:E.comp0 1 [] (.nm 0) (.seq (.nm 2)) (.call Bo (.cons (.nm 0) .nil))=C at *
   rw [Ba,hC]
   unfold Aw at *
   simp_arith [hc,hi]
  rw [aaF,AU]
  show (exs Ba [some A,some B,some (Aw tr q)]).then _=_
  rw [st,Out.then_nxt]
  exact e
theorem M1 (tr:List (List Int)) (o:Option Nat) (qs:List (Nat × Nat)):Bw.den [CN tr o qs,CN tr o qs]=.ok (.bl true):=by
 have hs:=E7 _ (SF tr o qs)
 obtain ⟨p2,hl⟩:=RP tr (CN tr o qs) (CN tr o qs) qs none
 refine (JL _ rfl).trans (Ad ?_)
 unfold CN at *
 generalize qs.map (Aw tr)=PP at *
 cases o with
 | none =>
  have hs:c2 .ne (.tup [.non,.lst PP]) (.tup [.non,.lst PP])=.ok (.bl false):=hs
  have hl:AU (.nm 2) (exs Ba) PP [some (.tup [.non,.lst PP]),some (.tup [.non,.lst PP]),none]=.nxt [some (.tup [.non,.lst PP]),some (.tup [.non,.lst PP]),p2]:=hl
  unfold pgD
  simp_arith [Db,hs,c20,c21,hl]
 | some k =>
  have hw:=HN (k:Int)
  have hs:c2 .ne (.tup [.int k,.lst PP]) (.tup [.int k,.lst PP])=.ok (.bl false):=hs
  have hl:AU (.nm 2) (exs Ba) PP [some (.tup [.int k,.lst PP]),some (.tup [.int k,.lst PP]),none]=.nxt [some (.tup [.int k,.lst PP]),some (.tup [.int k,.lst PP]),p2]:=hl
  unfold pgD
  simp_arith [Db,hs,c20,c21,hw,hl]
section
variable {rs:List Int} {f h:Nat} (hf:2<=f) (hf8:f<=8) (H:Hs rs.length f h) (hh:h<=8) (hn:rs.length<=200)
include hf hf8 H hh hn
theorem SG {q:Int} {a:Nat} (ha:a < rs.length) {o:Option Nat} (F:FsA rs q a o):a<=o.getD rs.length/\o.getD rs.length<=rs.length:=by
 cases o with
 | none=>exact ⟨by show a<=rs.length; omega,aag _⟩
 | some j =>
  obtain ⟨g1,⟨x,g2,_⟩,_⟩:=F
  have:=(aaq.mp g2).1
  exact ⟨g1,by show j<=rs.length; omega⟩
end
theorem Oa (f:Nat) (μ:Int):CL.den [Ab [],.int f,.int μ]=.ok .non:=by
 have h1:=JP f μ
 have h2:=GW (.lst []) rfl
 have h3:BU.den [Ab [],.int f,.int μ,.int 0]=.ok .non:=by
  refine (E9 _ rfl).trans (Ad ?_)
  generalize Ab []=T at *
  simp_arith [BE,h1,h2]
 refine (Jg _ rfl).trans (Ad ?_)
 generalize Ab []=T at *
 simp_arith [EH,h3]
theorem S8:C8.den [Ab [],.lst []]=.ok (.lst []):=by
 have hc:=Ce (nl:=1) (fr:=[0]) (tg:=.nm 0) (it:=.seq (.nm 1)) (elt:=.tup (.cons (.ix (.nm 0) (.cI 0)) (.cons (.ix (.nm 0) (.cI 1)) (.cons (.call A9 (.cons (.nm 1) (.cons (.nm 0) .nil))) .nil)))) (δ:=[some (Ab []),some (.lst [])]) (ds:=[]) (g:=fun d=>d) (by simp_arith []) (fun d hd'=>nomatch hd')
 refine (FB _ rfl).trans (Ad ?_)
 generalize hC:E.comp0 1 [0] (.nm 0) (.seq (.nm 1)) (.tup (.cons (.ix (.nm 0) (.cI 0)) (.cons (.ix (.nm 0) (.cI 1)) (.cons (.call A9 (.cons (.nm 1) (.cons (.nm 0) .nil))) .nil))))=C at *
 have hc:ev C [some (Ab []),some (.lst [])]=.ok (.lst []):=hc
 rw [Cy,hC]
 generalize Ab []=T at *
 simp_arith [hc]
theorem RQ (f:Nat) (μ:Int):AA.den [Ab [],.int f,.int μ]=.ok (CN [] none []):=by
 have hs:=Fb f
 have hfi:=Oa f μ
 have hup:=MZ 0 f 0 none
 have hc:=EN 0 f 0 (aag _)
 have hw:=S8
 have hp:BW.den [Ab [],.int f,.tup [.int 0,.int 0]]=.ok (.lst []):=by
  rw [show ((0:Nat):Int)=0 from rfl] at *
  refine (Fa _ rfl).trans (Ad ?_)
  generalize Ab []=T at *
  generalize shD 0 f=s at *
  simp_arith [Cd,hs,hc,hw]
 have hup:AY.den [shD 0 f,.int 0,.non]=.ok (.tup [.int 0,.int 0]):=hup
 have d1:CL.dep=0:=Jh
 have d3:AY.dep=0:=EI
 have g1:D.flat 9 0 .non=true:=rfl
 have g3:∀ x y:Int,D.flat 9 0 (.tup [.int x,.int y])=true:=fun x y=>rfl
 refine (EJ _ rfl).trans (Ad ?_)
 show _=Out.ret (.tup [.non,.lst []])
 generalize Ab []=T at *
 generalize shD 0 f=s at *
 simp_arith [BX,hfi,d1,g1,hs,hup,d3,g3,hp]
theorem RR (f:Nat):Az.den [Ac [],.int f,.int 0,.int 0]=.ok (.lst []):=by
 have htr:=HR f
 have hco:=GX 0 f 0
 rw [show ((0:Nat):Int)=0 from rfl] at *
 have h2:=Ce (nl:=2) (fr:=[4]) (tg:=.tp [0,1]) (it:=.seq (.call Ay (.cons (.bi .len (.cons (.nm 0) .nil)) (.cons (.nm 1) (.cons (.nm 2) (.cons (.nm 3) .nil)))))) (elt:=.tup (.cons (.nm 0) (.cons (.nm 1) (.cons (.ixL (.ixL (.nm 2) (.nm 0)) (.nm 1)) .nil)))) (δ:=[some (Ac []),some (.int f),some (.int 0),some (.int 0),some (Ab [])]) (ds:=[]) (g:=fun d=>d) (by
   unfold Ac
   simp_arith [List.length_nil,abN,aa9,hco]) (fun d hd'=>nomatch hd')
 have h2:_=Res.ok (D.lst []):=h2
 refine (D6 _ rfl).trans (Ad ?_)
 generalize hE:E.comp0 2 [4] (.tp [0,1]) (.seq (.call Ay (.cons (.bi .len (.cons (.nm 0) .nil)) (.cons (.nm 1) (.cons (.nm 2) (.cons (.nm 3) .nil)))))) (.tup (.cons (.nm 0) (.cons (.nm 1) (.cons (.ixL (.ixL (.nm 2) (.nm 0)) (.nm 1)) .nil))))=EE at *
 rw [Bu,hE]
 generalize Ab []=T at *
 generalize Ac []=R at *
 simp_arith [htr,h2]
theorem S9 {ms:List Int} {f h:Nat} (hf:2<=f) (hf8:f<=8) (H:Hs ms.length f h) (hh:h<=8) (hn:ms.length<=200) (hn1:1<=ms.length) (μ:Int):∃ o,FsA ms μ 0 o/\o.getD ms.length<=ms.length/\AA.den [Ab (Ae ms f (h + 1)),.int f,.int μ]=.ok (CN (Ae ms f (h + 1)) o (cov ms.length f h (o.getD ms.length) 200 0)):=by
 have hs:=D9 (Ds ms f h)
 obtain ⟨o,hff,F⟩:=RL hf hf8 H hh hn μ (a:=0) hn1
 have ho:=SG hf hf8 H hh hn hn1 F
 have hup:=MZ ms.length f 0 o
 have hp1:=SE hf hf8 H hh hn ho.1 ho.2
 have hff:BU.den [Ab (Ae ms f (h + 1)),.int f,.int μ,.int 0]=.ok (pgD o):=hff
 have hp1:BW.den [Ab (Ae ms f (h + 1)),.int f,.tup [.int 0,.int ((o.getD ms.length:Nat):Int)]]=_:=hp1
 have d1:CL.dep=0:=Jh
 have d3:AY.dep=0:=EI
 have g1:=Hn o
 have g3:∀ x y:Int,D.flat 9 0 (.tup [.int x,.int y])=true:=fun x y=>rfl
 have hfi:CL.den [Ab (Ae ms f (h + 1)),.int f,.int μ]=.ok (pgD o):=by
  refine (Jg _ rfl).trans (Ad ?_)
  generalize Ab (Ae ms f (h + 1))=T at *
  generalize pgD o=O at *
  simp_arith [EH,hff]
 refine ⟨o,F,ho.2,(EJ _ rfl).trans (Ad ?_)⟩
 unfold CN
 generalize (cov ms.length f h (o.getD ms.length) 200 0).map (Aw (Ae ms f (h + 1)))=P1 at *
 generalize Ab (Ae ms f (h + 1))=T at *
 generalize ((o.getD ms.length:Nat):Int)=e at *
 generalize shD ms.length f=s at *
 generalize pgD o=O at *
 simp_arith [BX,hfi,d1,g1,hs,hup,d3,g3,hp1]
noncomputable def LB (rs:List Int) (f:Nat) (tr:List (List Int)):Prop:=∀ q:Int,∃ (o:Option Nat) (e:Int) (qs:List (Nat × Nat)),qs.length<=200/\AG.den [Ac rs,.int q,.int 0]=.ok (pgD o)/\Da.den [pgD o,.int rs.length]=.ok (.int e)/\Az.den [Ac rs,.int f,.int 0,.int e]=.ok (.lst (qs.map (Aw tr)))/\AA.den [Ab tr,.int f,.int q]=.ok (CN tr o qs)
theorem RS {p f h:Nat} (hf:2<=f) {tr:List (List Int)} (hd:Dim tr p f h) (hp:p<=200):∀ r ∈ tr,r.length<=201:=fun r hr=>by
 have:r.length ∈ lvD p f h:=hd ▸ List.mem_map_of_mem hr
 unfold lvD at this
 obtain ⟨l,_,e⟩:=aaA.mp this
 rw [<- e]
 unfold cnt
 have:0 < f ^ l:=abc (by omega)
 calc (p + f ^ l - 1) / f ^ l<=(p * f ^ l + f ^ l - 1) / f ^ l:=Nat.div_le_div_right (by
    have:=acb p this
    omega)
  _<=201:=by
   rw [Nat.div_le_iff_le_mul_add_pred this]
   have h2:p * f ^ l<=200 * f ^ l:=acu _ hp
   have e:f ^ l * 201=200 * f ^ l + f ^ l:=by rw [abl]; omega
   omega
theorem RT {p f h h':Nat} (hf:2<=f) (a:Hs p f h) (b:Hs p f h'):h=h':=by
 rcases Nat.lt_trichotomy h h' with c | c | c
 ·have:=b.more h c; have:=a.one; omega
 ·exact c
 ·have:=a.more h' c; have:=b.one; omega
theorem M2 {rs:List Int} {f:Nat} (hf:2<=f) (hf8:f<=8) (hl:rs.length<=200):∃ tr:List (List Int),Au.den [Ac rs,.int f]=.ok (Ab tr)/\LB rs f tr/\(∀ r ∈ tr,r.length<=201)/\∀ k,k=rs.length->∃ n,tr.length=n/\∀ rs2:List Int,rs2.length=k->∀ tr2,Au.den [Ac rs2,.int f]=.ok (Ab tr2)->tr2.length=n:=by
 have key:∀ {rs:List Int},rs.length<=200->∃ tr:List (List Int),Au.den [Ac rs,.int f]=.ok (Ab tr)/\LB rs f tr/\(∀ r ∈ tr,r.length<=201)/\((rs.length=0/\tr.length=0)\/∃ h,Hs rs.length f h/\1<=rs.length/\tr.length=h + 1):=by
  intro rs hl
  by_cases n0:rs.length=0
  ·have z:rs=[]:=abd n0
   subst z
   refine ⟨[],HR f,fun q=>⟨none,0,[],by simp,?_,?_,RR f,RQ f q⟩,fun r hr=>(nomatch hr),.inl ⟨rfl,rfl⟩⟩
   ·obtain ⟨o,F,e⟩:=JA [] q (by simp) (aar _)
    cases o with
    | none=>exact e
    | some j =>
     obtain ⟨_,⟨x,g2,_⟩,_⟩:=F
     simp at g2
   ·exact Oy 0 none
  ·obtain ⟨h,hh,H⟩:=hs8 hf (show 1<=rs.length by omega) hl
   refine ⟨Ae rs f (h + 1),Js hf hf8 H hh hl (by omega),fun q=>?_,RS hf (Ds rs f h) hl,.inr ⟨h,H,by omega,by unfold Ae; simp⟩⟩
   obtain ⟨o,F,ho,e⟩:=S9 hf hf8 H hh hl (by omega) q
   obtain ⟨u,G,e1⟩:=JA rs q hl (aar _)
   cases Qc F G
   refine ⟨o,_,_,RN _ _,e1,Oy rs.length o,?_,e⟩
   exact RM hf hf8 H hh hl (by omega) (aar _) ho
 obtain ⟨tr,h1,h2,h3,h4⟩:=key hl
 refine ⟨tr,h1,h2,h3,fun k hk=>⟨_,rfl,fun rs2 e2 tr2 ht2=>?_⟩⟩
 obtain ⟨tr3,g1,_,_,g4⟩:=key (rs:=rs2) (by omega)
 rw [ht2] at g1
 have e:Ab tr2=Ab tr3:=by injection g1
 have e:tr2.length=tr3.length:=by
  unfold Ab at e
  injection e with e
  have:=congrArg aa9 e
  simpa using this
 rw [e]
 subst hk
 rw [e2] at g4
 rcases h4 with ⟨a1,a2⟩ | ⟨h,a1,a2,a3⟩
 ·rcases g4 with ⟨b1,b2⟩ | ⟨h',b1,b2,b3⟩
  ·omega
  ·omega
 ·rcases g4 with ⟨b1,b2⟩ | ⟨h',b1,b2,b3⟩
  ·omega
  ·rw [a3,b3,RT hf b1 a1]
theorem M3 (c0 c1 c2 c3 c4 c6 c7 c8 c9 c10 c11:Option D):∀ (es ds pre:List (List Int)) (o12 o13:Option D),es.length=ds.length->(∀ r ∈ es,r.length<=201)->(∀ r ∈ ds,r.length<=201)->∃ p12 p13,BC 12 13 5 (es.map Ac) pre.length [c0,c1,c2,c3,c4,some (.lst (pre.map Ac ++ ds.map Ac)),c6,c7,c8,c9,c10,c11,o12,o13]=.nxt [c0,c1,c2,c3,c4,some (.lst (pre.map Ac ++ es.map Ac)),c6,c7,c8,c9,c10,c11,p12,p13]
 | [],[],pre,o12,o13,_,_,_=>⟨o12,o13,rfl⟩
 | e :: es,[],pre,o12,o13,h,_,_=>nomatch h
 | [],r :: ds,pre,o12,o13,h,_,_=>nomatch h
 | e :: es,r :: ds,pre,o12,o13,h,h1,h2=>by
  obtain ⟨p12,p13,ih⟩:=M3 c0 c1 c2 c3 c4 c6 c7 c8 c9 c10 c11 es ds (pre ++ [e]) (some (Ac r)) (some (Ac e)) (by simpa using h) (fun x hx=>h1 x (aaa _ hx)) (fun x hx=>h2 x (aaa _ hx))
  refine ⟨p12,p13,?_⟩
  have e1:=h1 e (aac ..)
  have e2:=h2 r (aac ..)
  have hg:(pre.map Ac ++ (r :: ds).map Ac)[pre.length]?=some (Ac r):=by
   rw [aay (by simp)]; simp
  have hs:(pre.map Ac ++ (r :: ds).map Ac).set pre.length (Ac e)=(pre ++ [e]).map Ac ++ ds.map Ac:=by
   rw [List.set_append_right _ _ (by simp)]; simp
  rw [aaF,BC]
  show (match (pre.map Ac ++ (r :: ds).map Ac)[pre.length]? with
   | none=>Out.nxt _
   | some r'=>Fi r' fun rs=>Fi (Ac e) fun us=>if rs.length + us.length<=LIM then BC 12 13 5 (es.map Ac) (pre.length + 1) [c0,c1,c2,c3,c4,some (.lst ((pre.map Ac ++ (r :: ds).map Ac).set pre.length (.lst us))),c6,c7,c8,c9,c10,c11,some r',some (Ac e)] else .bad)=_
  rw [hg]
  show (if (r.map D.int).length + (e.map D.int).length<=LIM then BC 12 13 5 (es.map Ac) (pre.length + 1) [c0,c1,c2,c3,c4,some (.lst ((pre.map Ac ++ (r :: ds).map Ac).set pre.length (Ac e))),c6,c7,c8,c9,c10,c11,some (Ac r),some (Ac e)] else .bad)=_
  rw [if_pos (by rw [aab,aab]; exact aaD (show r.length + e.length<=402 by omega) (by decide)),hs]
  rw [aav,abh] at ih
  rw [ih]
  simp
theorem SH {ns rs:List Int} {f:Nat} {tr:List (List Int)} (hb:∀ r ∈ rs,0<=r) (hl:rs.length<=200) (hA:LB rs f tr) (i:Nat) (o1 o7 o8 o9 o10 o11 o12 o13:Option D):∃ p7 p8 p9 p10,exs Dc [some (.lst (ns.map .int)),o1,some (Ac rs),some (.int f),some (Ab tr),some (Ab tr),some (.int i),o7,o8,o9,o10,o11,o12,o13]=.nxt [some (.lst (ns.map .int)),o1,some (Ac rs),some (.int f),some (Ab tr),some (Ab tr),some (.int i),p7,p8,p9,p10,o11,o12,o13]:=by
 obtain ⟨q,hq0,hq⟩:=Ju ns (2 + (i:Int)) (by omega) rs hb hl
 obtain ⟨o,e,qs,hqs,h1,h2,h3,h4⟩:=hA q
 have h5:=M1 tr o qs
 have g5:=M0 tr o qs
 have d3:AQ.dep=0:=Ef
 have d4:AG.dep=0:=Eh
 have d5:Az.dep=1:=D7
 have d6:AA.dep=1:=EK
 have d7:Bw.dep=9:=JM
 have f9:D.flat 9 9 (.bl true)=true:=rfl
 have f0:D.flat 9 0 (.int q)=true:=rfl
 have fo:=Hn o
 have fp:D.flat 9 1 (.lst (qs.map (Aw tr)))=true:=by
  show (qs.map (Aw tr)).all (D.flat 8 0)=true
  rw [aaw]
  intro d hd
  obtain ⟨w,_,rfl⟩:=aaA.mp hd
  rfl
 have hlen:(((rs.map D.int).length:Nat):Int)=(rs.length:Int):=by rw [aab]
 refine ⟨some (.int q),some (pgD o),some (CN tr o qs),some (.tup [pgD o,.lst (qs.map (Aw tr) ++ [.tup [.int 0,.int 0,.int 0]])]),?_⟩
 have hap:BB (umD .append [.tup [.int 0,.int 0,.int 0]]) [(true,1)] (CN tr o qs)=some (.tup [pgD o,.lst (qs.map (Aw tr) ++ [.tup [.int 0,.int 0,.int 0]])]):=by
  have:=BI (qs.map (Aw tr)) (.tup [.int 0,.int 0,.int 0]) (by rw [aab]; omega)
  show (BB (umD .append [.tup [.int 0,.int 0,.int 0]]) [] (.lst (qs.map (Aw tr)))).map _=_
  rw [BB,this]; rfl
 unfold CN at *
 unfold Ac at *
 clear hA
 generalize Ab tr=T at *
 generalize pgD o=O at *
 generalize qs.map (Aw tr)=P at *
 generalize rs.map D.int=R at *
 generalize ns.map D.int=N at *
 simp_arith [Dc,hq,d3,f0,h1,d4,fo,hlen,h2,h3,d5,fp,h4,d6,g5,h5,d7,f9,hap,-BB]
theorem Qd:∀ ns:List Int,ns.length<=63->E2.den [.lst (ns.map .int)]=.ok (.bl true):=by
 intro ns _
 obtain ⟨m,hm,hmo⟩:=N7 ns 5 (by decide) 60 200 (A:=60) (B:=200) rfl rfl
 obtain ⟨rs,hl,hb0,hr0⟩:=MP ns 0 (by decide) m (by omega)
 have hb:∀ r ∈ rs,0<=r:=fun r hr=>(hb0 r hr).1
 have hr0:BQ.den [.lst (ns.map .int),.int 0,.int m]=.ok (Ac rs):=hr0
 have hl:rs.length<=200:=by omega
 obtain ⟨f,hf,hf8,hfan⟩:=PZ ns 1 (by decide)
 obtain ⟨tr,htr,hA,hw,hn⟩:=M2 (rs:=rs) hf hf8 hl
 obtain ⟨tr2,htr2,hA2,hw2,_⟩:=M2 (rs:=rs.reverse) hf hf8 (by rw [abo]; exact hl)
 obtain ⟨n,hn1,hn⟩:=hn _ rfl
 have hlen2:tr2.length=tr.length:=by rw [hn1]; exact hn _ (abo) _ htr2
 have hft:=HS tr
 have hft2:=HS tr2
 have d1:Au.dep=2:=GR
 have he:=E7 (Ab tr) (Jt _)
 have hr3:=BH (a:=0) (b:=3) (by omega) (by omega) (by omega) (by omega)
 have hcp:=P8 tr 4 [some (.lst (ns.map .int)),some (.int m),some (Ac rs),some (.int f),some (Ab tr),none,none,none,none,none,none,none,none,none] rfl
 have hm1:=hmo [none,none,none,none,none,none,none,none,none,none,none,none,none]
 obtain ⟨δ',e1,o6,o7,o8,o9,o10,rfl⟩:=Bg (tg:=.nm 6) (b:=exs Dc) (fun _ δ=>∃ o6 o7 o8 o9 o10,δ=[some (.lst (ns.map .int)),some (.int m),some (Ac rs),some (.int f),some (Ab tr),some (Ab tr),o6,o7,o8,o9,o10,none,none,none]) (ds:=Ao 0 3) (δ:=[some (.lst (ns.map .int)),some (.int m),some (Ac rs),some (.int f),some (Ab tr),some (Ab tr),none,none,none,none,none,none,none,none]) 0 ⟨none,none,none,none,none,rfl⟩ (by
  rintro i d δ hd ⟨o6,o7,o8,o9,o10,rfl⟩
  obtain ⟨j,rfl,_⟩:=Lp (aae hd)
  obtain ⟨p7,p8,p9,p10,e⟩:=SH (ns:=ns) hb hl hA j (some (.int m)) o7 o8 o9 o10 none none none
  exact ⟨_,_,rfl,e,some (.int j),p7,p8,p9,p10,rfl⟩)
 obtain ⟨q,hq0,hq⟩:=Ju ns 2 (by omega) rs hb hl
 obtain ⟨o,e,qs,hqs,h1,h2,h3,h4⟩:=hA2 q
 have h5:=M1 tr2 o qs
 have g5:=M0 tr2 o qs
 have d3:AQ.dep=0:=Ef
 have d4:AG.dep=0:=Eh
 have d5:Az.dep=1:=D7
 have d6:AA.dep=1:=EK
 have f0:D.flat 9 0 (.int q)=true:=rfl
 have fo:=Hn o
 have fp:D.flat 9 1 (.lst (qs.map (Aw tr2)))=true:=by
  show (qs.map (Aw tr2)).all (D.flat 8 0)=true
  rw [aaw]
  intro d hd
  obtain ⟨w,_,rfl⟩:=aaA.mp hd
  rfl
 obtain ⟨p12,p13,hrow⟩:=M3 (some (.lst (ns.map .int))) (some (.int m)) (some (Ac rs)) (some (.int f)) (some (Ab tr)) o6 o7 o8 o9 o10 (some (Ac rs.reverse)) tr2 tr [] none none hlen2 hw2 hw
 have hrow:BC 12 13 5 (tr2.map Ac) 0 [some (.lst (ns.map .int)),some (.int m),some (Ac rs),some (.int f),some (Ab tr),some (.lst (tr.map Ac)),o6,o7,o8,o9,o10,some (Ac rs.reverse),none,none]=.nxt [some (.lst (ns.map .int)),some (.int m),some (Ac rs),some (.int f),some (Ab tr),some (.lst (tr2.map Ac)),o6,o7,o8,o9,o10,some (Ac rs.reverse),p12,p13]:=hrow
 have hlen:(((rs.map D.int).length:Nat):Int)=(rs.length:Int):=by rw [aab]
 have hrev:(rs.map D.int).reverse=rs.reverse.map D.int:=by rw [abB]
 rw [abo] at h2
 refine (Ln _ rfl).trans (Ad ?_)
 clear hmo hA hA2 hn hw hw2 hlen2 hn1
 generalize hC:E.comp0 1 [] (.nm 0) (.seqL (.nm 4)) (.bi .list (.cons (.nm 0) .nil))=C at *
 generalize hM:E.ix (.lst (.cons (.cI 60) (.cons (.cI 200) .nil))) (.bi .int (.cons (.cmp .eq (.ix (.call AK (.cons (.nm 0) (.cons (.cI 5) (.cons (.lst (.cons (.cI 8) .nil)) .nil)))) (.cI 0)) (.cI 0)) .nil))=M at *
 rw [Ei,hC,hM]
 unfold CN at *
 unfold Ab Ac at *
 generalize rs.map D.int=R at *
 generalize rs.reverse.map D.int=R2 at *
 generalize tr.map (fun xs=>D.lst (xs.map D.int))=T at *
 generalize tr2.map (fun xs=>D.lst (xs.map D.int))=T2 at *
 generalize ns.map D.int=N at *
 generalize qs.map (Aw tr2)=P at *
 generalize pgD o=O at *
 simp_arith [hm1,hr0,hfan,htr,d1,hft,hcp,hr3,e1,he,hrev,htr2,hft2,Fi,hrow,hq,d3,f0,h1,d4,fo,hlen,h2,h3,d5,fp,h4,d6,g5,h5]
end Pu
end
namespace Pu
open PySem PySem.Spec PyProof.Rows PySem.W L2
noncomputable def top (i:Nat):Stmt:=PySem.Challenge.pw_ullage_k41_first_paper.main.body.getD i (.Pass ⟨0,0,0,0⟩)
theorem JS:dfB ["thing"] ["thing"] (top 5) GN 9=true:=by decide +kernel
theorem Ic:dfB ["thing", "least", "most"] ["thing", "least", "most"] (top 6) CZ 9=true:=by decide +kernel
theorem M4:dfB ["shape", "fan", "counts", "many"] ["shape"] (top 8) E0 1=true:=by decide +kernel
theorem FH:dfB ["counts", "thing"] ["counts", "thing"] (top 10) By 9=true:=by decide +kernel
theorem LD:dfB ["shape", "thing"] ["shape", "thing"] (top 9) Ed 9=true:=by decide +kernel
theorem Id:dfB ["shape", "thing"] ["shape", "thing"] (top 11) C0 9=true:=by decide +kernel
theorem Qe:dfB ["shape", "node", "width", "level", "begin"] ["shape", "node"] (top 12) GO 0=true:=by decide +kernel
theorem RU:dfB ["shape", "counts"] ["shape"] (top 15) Il 1=true:=by decide +kernel
theorem M5:dfB ["shape", "node"] ["shape", "node"] (top 13) D3 1=true:=by decide +kernel
theorem JT:dfB ["shape", "node", "beneath", "begin", "end"] ["shape", "node"] (top 14) C4 1=true:=by decide +kernel
theorem Ho:dfB ["pages", "begin", "end"] ["pages", "begin", "end"] (top 19) CF 9=true:=by decide +kernel
theorem FW:dfB ["shape", "begin", "end", "node", "above"] ["shape", "begin", "end"] (top 18) BO 0=true:=by decide +kernel
theorem Ob:dfB ["shape", "begin", "end", "nodes", "at", "node"] ["shape", "begin", "end"] (top 17) EG 1=true:=by decide +kernel
theorem JB:dfB ["tree"] ["tree"] (top 21) Dw 9=true:=by decide +kernel
theorem JU:dfB ["tree"] ["tree"] (top 22) C6 1=true:=by decide +kernel
theorem JV:dfB ["tree", "fan"] ["tree", "fan"] (top 23) C7 0=true:=by decide +kernel
theorem JW:dfB ["tree", "thing"] ["tree", "thing"] (top 24) DM 9=true:=by decide +kernel
theorem FX:dfB ["tree", "thing"] ["tree", "thing"] (top 25) BP 9=true:=by decide +kernel
theorem Oc:dfB ["tree", "node"] ["tree", "node"] (top 26) FP 0=true:=by decide +kernel
theorem JC:dfB ["tree", "nodes"] ["tree", "nodes"] (top 27) Cy 1=true:=by decide +kernel
theorem GY:dfB ["tree", "need", "nodes", "looks", "node"] ["tree", "need", "nodes"] (top 30) BD 1=true:=by decide +kernel
theorem M6:dfB ["tree", "fan", "need", "begin", "shape", "walk", "nodes", "looks"] ["tree", "fan", "need", "begin"] (top 29) Do 1=true:=by decide +kernel
theorem Ie:dfB ["tree", "fan", "need", "begin", "walk"] ["tree", "fan", "need", "begin"] (top 33) BE 0=true:=by decide +kernel
theorem Od:dfB ["tree", "fan", "need"] ["tree", "fan", "need"] (top 32) EH 0=true:=by decide +kernel
theorem Hq:dfB ["shape", "begin", "page"] ["shape", "begin", "page"] (top 35) BV 0=true:=by decide +kernel
theorem Ig:dfB ["tree", "fan", "pages"] ["tree", "fan", "pages"] (top 38) Cd 1=true:=by decide +kernel
theorem Hr:dfB ["tree", "fan", "need", "page"] ["tree", "fan", "need"] (top 37) BX 1=true:=by decide +kernel
theorem JX:dfB ["_law_script", "_law_place", "_law_seed", "_law_cell_here"] ["_law_script", "_law_place"] (top 40) C9 0=true:=by decide +kernel
theorem Ht:dfB ["_law_cell_here", "_law_k", "_law_one", "_law_two"] ["_law_cell_here", "_law_k"] (top 41) CG 1=true:=by decide +kernel
theorem Hu:dfB ["_law_script", "_law_place", "_law_sizes", "_law_cell_here", "_law_left", "_law_some", "_law_k", "_law_other"] ["_law_script", "_law_place", "_law_sizes"] (top 42) CH 2=true:=by decide +kernel
theorem Gn:dfB ["_law_script", "_law_place", "_law_most", "_law_some", "_law_scale", "_law_rooms_here", "_law_k", "_law_here"] ["_law_script", "_law_place", "_law_most"] (top 43) B9 2=true:=by decide +kernel
theorem Hv:dfB ["_law_script", "_law_place"] ["_law_script", "_law_place"] (top 44) CI 1=true:=by decide +kernel
theorem GZ:dfB ["_law_script", "_law_place", "_law_rooms_here", "_law_some", "_law_here"] ["_law_script", "_law_place", "_law_rooms_here"] (top 45) AZ 0=true:=by decide +kernel
theorem FY:dfB ["_law_pages", "_law_fan_here", "_law_found"] ["_law_pages", "_law_fan_here"] (top 46) Bm 1=true:=by decide +kernel
theorem Go:dfB ["_law_pages", "_law_fan_here", "_law_level", "_law_place", "_law_wide", "_law_k"] ["_law_pages", "_law_fan_here", "_law_level", "_law_place"] (top 47) Cb 1=true:=by decide +kernel
theorem G0:dfB ["_law_rooms_here", "_law_fan_here", "_law_tree_here", "_law_counts_here", "_law_level", "_law_row_here", "_law_place", "_law_begin", "_law_end_here"] ["_law_rooms_here", "_law_fan_here"] (top 49) BF 2=true:=by decide +kernel
theorem Gp:dfB ["_law_pages", "_law_fan_here", "_law_begin", "_law_end_here", "_law_found", "_law_at", "_law_wide", "_law_node", "_law_level", "_law_high"] ["_law_pages", "_law_fan_here", "_law_begin", "_law_end_here"] (top 50) Bt 2=true:=by decide +kernel
theorem JD:dfB ["_law_thing"] ["_law_thing"] (top 51) F6 9=true:=by decide +kernel
theorem Gq:dfB ["_law_rooms_here", "_law_fan_here", "_law_begin", "_law_end_here", "_law_tree_here"] ["_law_rooms_here", "_law_fan_here", "_law_begin", "_law_end_here"] (top 52) Bu 1=true:=by decide +kernel
theorem G1:dfB ["_law_rooms_here", "_law_need_here", "_law_at", "_law_page"] ["_law_rooms_here", "_law_need_here", "_law_at"] (top 53) BG 0=true:=by decide +kernel
theorem LE:dfB ["_law_page", "_law_pages"] ["_law_page", "_law_pages"] (top 54) DA 0=true:=by decide +kernel
theorem JY:dfB ["_law_found", "_law_due", "_law_row_here"] ["_law_found", "_law_due"] (top 55) Db 9=true:=by decide +kernel
theorem LF:dfB ["_law_script", "_law_most", "_law_rooms_here", "_law_fan_here", "_law_tree_here", "_law_handed", "_law_k", "_law_need_here", "_law_page", "_law_due", "_law_found", "_law_behind", "_law_row_here", "_law_other"] ["_law_script"] (top 56) Ei 9=true:=by decide +kernel
set_option maxHeartbeats 0 in
theorem RV {l:PySem.W.OpenLaw} {w:World} {K:PySem.W.Frag} {h:Heap} {mg:Str->Option Value} {fa:Addr} {C2 C3:Addr} (X:K.In h) (G:h.Ns mainGlobals mg) (hfa:mg "law" = some (.ref fa)) (t0:At K "is_whole" (top 5)) (t1:At K "is_between" (top 6)) (t2:At K "levels" (top 8)) (t3:At K "is_counted_node" (top 10)) (t4:At K "is_node" (top 9)) (t5:At K "check_node" (top 11)) (t6:At K "span" (top 12)) (t7:At K "top" (top 15)) (t8:At K "parent" (top 13)) (t9:At K "children" (top 14)) (t10:At K "lies_within" (top 19)) (t11:At K "highest_within" (top 18)) (t12:At K "cover" (top 17)) (t13:At K "counts_of" (top 21)) (t14:At K "rooms_of" (top 22)) (t15:At K "shape_of" (top 23)) (t16:At K "has_node" (top 24)) (t17:At K "check_has_node" (top 25)) (t18:At K "tells" (top 26)) (t19:At K "with_told" (top 27)) (t20:At K "up_to_enough" (top 30)) (t21:At K "walked" (top 29)) (t22:At K "first_from" (top 33)) (t23:At K "first" (top 32)) (t24:At K "pages_up_to" (top 35)) (t25:At K "paper_over" (top 38)) (t26:At K "first_paper" (top 37)) (t27:At K "_law_cell" (top 40)) (t28:At K "_law_mix" (top 41)) (t29:At K "_law_row" (top 42)) (t30:At K "_law_rooms" (top 43)) (t31:At K "_law_fan" (top 44)) (t32:At K "_law_need" (top 45)) (t33:At K "_law_counts" (top 46)) (t34:At K "_law_reach" (top 47)) (t35:At K "_law_tree" (top 49)) (t36:At K "_law_cover" (top 50)) (t37:At K "_law_whole" (top 51)) (t38:At K "_law_paper" (top 52)) (t39:At K "_law_from" (top 53)) (t40:At K "_law_end" (top 54)) (t41:At K "_law_told" (top 55)) (t42:At K "law" (top 56)) (n_len:nsIn K mainGlobals "len" = some none) (n_min:nsIn K mainGlobals "min" = some none) (n_max:nsIn K mainGlobals "max" = some none) (n_abs:nsIn K mainGlobals "abs" = some none) (n_int:nsIn K mainGlobals "int" = some none) (n_list:nsIn K mainGlobals "list" = some none) (n_tuple:nsIn K mainGlobals "tuple" = some none) (n_all:nsIn K mainGlobals "all" = some none) (n_any:nsIn K mainGlobals "any" = some none) (n_sum:nsIn K mainGlobals "sum" = some none) (n_sorted:nsIn K mainGlobals "sorted" = some none) (n_isinstance:nsIn K mainGlobals "isinstance" = some none) (n_str:nsIn K mainGlobals "str" = some none) (n_range:nsIn K mainGlobals "range" = some none) (n_enumerate:nsIn K mainGlobals "enumerate" = some none) (n_zip:nsIn K mainGlobals "zip" = some none) (n_reversed:nsIn K mainGlobals "reversed" = some none) (n_bool:nsIn K mainGlobals "bool" = some none) (n_dict:nsIn K mainGlobals "dict" = some none) (n_ValueError:nsIn K mainGlobals "ValueError" = some none) (c2:ClsF K "NoNode" C2) (c3:ClsF K "NoPage" C3) (e2:excIn K C2 F8 "ValueError.__new__" = true) (e3:excIn K C3 F8 "ValueError.__new__" = true) (y2_2:kitOne K (.ref C2) (.ref C2)=some true) (y2_3:kitOne K (.ref C2) (.ref C3)=some false) (y3_2:kitOne K (.ref C3) (.ref C2)=some false) (y3_3:kitOne K (.ref C3) (.ref C3)=some true) (nl:noL K=true)
  (hden:∀ ns:List Int,ns.length<=63->E2.den [.lst (ns.map .int)]=.ok (.bl true)) :
  ∃ fd:FuncData,(∀ (s:Shared) (v:Value),BindsTo s fd ⟨[v],[]⟩ [("_law_script",v)])/\∀ base:Heap,K.In base->base.Ns mainGlobals mg->FnOk l.prog w K mg base (CXe l.prog w) 13 fa fd ["_law_script"] (spL K):=by
 have O:∀ base:Heap,Lw.Ok ⟨⟨K,clA [(2,C2),(3,C3)],CK [(2,C2),(3,C3)]⟩,l.prog,w,mg,base⟩:=fun base=>Sw rfl X G ⟨n_len,n_min,n_max,n_abs,n_int,n_list,n_tuple,n_all,n_any,n_sum,n_sorted,n_isinstance,n_str,n_range,n_enumerate,n_zip,n_reversed,n_bool,n_dict,n_ValueError,trivial⟩ ⟨c2,c3,trivial⟩ ⟨⟨y2_2,y2_3,trivial⟩,⟨y3_2,y3_3,trivial⟩,trivial⟩
 refine PH (cs:=[(2,C2),(3,C3)]) (lv:=12) X G hfa t42 LF (fun _ _ _ _ _ _ s v=>.of_eq rfl) O (fun base=>?_) nl hden
 have rs2:=(⟨rfl,c2.q,e2⟩:NeedG ⟨⟨K,clA [(2,C2),(3,C3)],CK [(2,C2),(3,C3)]⟩,l.prog,w,mg,base⟩ 0 (.rs 2))
 have cl2:=(⟨rfl,PySem.W.mg_of X G c2.q⟩:NeedG ⟨⟨K,clA [(2,C2),(3,C3)],CK [(2,C2),(3,C3)]⟩,l.prog,w,mg,base⟩ 0 (.cl 2))
 have rs3:=(⟨rfl,c3.q,e3⟩:NeedG ⟨⟨K,clA [(2,C2),(3,C3)],CK [(2,C2),(3,C3)]⟩,l.prog,w,mg,base⟩ 0 (.rs 3))
 have cl3:=(⟨rfl,PySem.W.mg_of X G c3.q⟩:NeedG ⟨⟨K,clA [(2,C2),(3,C3)],CK [(2,C2),(3,C3)]⟩,l.prog,w,mg,base⟩ 0 (.cl 3))
 have h_is_whole:=Ak (lv:=0) (O base) (Aj X G t0 fun _ _ _ _ _ _=>ba1 fun _=>rfl) JS trivial
 have h_is_between:=Ak (lv:=1) (O base) (Aj X G t1 fun _ _ _ _ _ _=>ba3 fun _ _ _=>rfl) Ic ⟨⟨by decide,h_is_whole⟩,trivial⟩
 have h_levels:=Ak (lv:=0) (O base) (Aj X G t2 fun _ _ _ _ _ _=>ba1 fun _=>rfl) M4 trivial
 have h_is_counted_node:=Ak (lv:=2) (O base) (Aj X G t3 fun _ _ _ _ _ _=>ba2 fun _ _=>rfl) FH ⟨⟨by decide,h_is_between⟩,⟨by decide,h_is_between⟩,trivial⟩
 have h_is_node:=Ak (lv:=3) (O base) (Aj X G t4 fun _ _ _ _ _ _=>ba2 fun _ _=>rfl) LD ⟨⟨by decide,h_is_counted_node⟩,⟨by decide,h_levels⟩,trivial⟩
 have h_check_node:=Ak (lv:=4) (O base) (Aj X G t5 fun _ _ _ _ _ _=>ba2 fun _ _=>rfl) Id ⟨⟨by decide,h_is_node⟩,rs2,trivial⟩
 have h_span:=Ak (lv:=5) (O base) (Aj X G t6 fun _ _ _ _ _ _=>ba2 fun _ _=>rfl) Qe ⟨⟨by decide,h_check_node⟩,trivial⟩
 have h_top:=Ak (lv:=1) (O base) (Aj X G t7 fun _ _ _ _ _ _=>ba1 fun _=>rfl) RU ⟨⟨by decide,h_levels⟩,trivial⟩
 have h_parent:=Ak (lv:=5) (O base) (Aj X G t8 fun _ _ _ _ _ _=>ba2 fun _ _=>rfl) M5 ⟨⟨by decide,h_check_node⟩,⟨by decide,h_top⟩,trivial⟩
 have h_children:=Ak (lv:=5) (O base) (Aj X G t9 fun _ _ _ _ _ _=>ba2 fun _ _=>rfl) JT ⟨⟨by decide,h_check_node⟩,⟨by decide,h_levels⟩,trivial⟩
 have h_lies_within:=Ak (lv:=0) (O base) (Aj X G t10 fun _ _ _ _ _ _=>ba3 fun _ _ _=>rfl) Ho trivial
 have h_highest_within:=Ak (lv:=6) (O base) (Aj X G t11 fun _ _ _ _ _ _=>ba3 fun _ _ _=>rfl) FW ⟨⟨by decide,h_parent⟩,⟨by decide,h_lies_within⟩,⟨by decide,h_span⟩,⟨by decide,h_parent⟩,trivial⟩
 have h_cover:=Ak (lv:=7) (O base) (Aj X G t12 fun _ _ _ _ _ _=>ba3 fun _ _ _=>rfl) Ob ⟨rs3,⟨by decide,h_highest_within⟩,⟨by decide,h_span⟩,trivial⟩
 have h_counts_of:=Ak (lv:=0) (O base) (Aj X G t13 fun _ _ _ _ _ _=>ba1 fun _=>rfl) JB trivial
 have h_rooms_of:=Ak (lv:=0) (O base) (Aj X G t14 fun _ _ _ _ _ _=>ba1 fun _=>rfl) JU trivial
 have h_shape_of:=Ak (lv:=1) (O base) (Aj X G t15 fun _ _ _ _ _ _=>ba2 fun _ _=>rfl) JV ⟨⟨by decide,h_rooms_of⟩,trivial⟩
 have h_has_node:=Ak (lv:=3) (O base) (Aj X G t16 fun _ _ _ _ _ _=>ba2 fun _ _=>rfl) JW ⟨⟨by decide,h_is_counted_node⟩,⟨by decide,h_counts_of⟩,trivial⟩
 have h_check_has_node:=Ak (lv:=4) (O base) (Aj X G t17 fun _ _ _ _ _ _=>ba2 fun _ _=>rfl) FX ⟨⟨by decide,h_has_node⟩,rs2,trivial⟩
 have h_tells:=Ak (lv:=5) (O base) (Aj X G t18 fun _ _ _ _ _ _=>ba2 fun _ _=>rfl) Oc ⟨⟨by decide,h_check_has_node⟩,trivial⟩
 have h_with_told:=Ak (lv:=6) (O base) (Aj X G t19 fun _ _ _ _ _ _=>ba2 fun _ _=>rfl) JC ⟨⟨by decide,h_tells⟩,trivial⟩
 have h_up_to_enough:=Ak (lv:=6) (O base) (Aj X G t20 fun _ _ _ _ _ _=>ba3 fun _ _ _=>rfl) GY ⟨⟨by decide,h_tells⟩,trivial⟩
 have h_walked:=Ak (lv:=8) (O base) (Aj X G t21 fun _ _ _ _ _ _=>ba4 fun _ _ _ _=>rfl) M6 ⟨⟨by decide,h_shape_of⟩,⟨by decide,h_cover⟩,⟨by decide,h_up_to_enough⟩,⟨by decide,h_tells⟩,⟨by decide,h_children⟩,trivial⟩
 have h_first_from:=Ak (lv:=9) (O base) (Aj X G t22 fun _ _ _ _ _ _=>ba4 fun _ _ _ _=>rfl) Ie ⟨⟨by decide,h_walked⟩,⟨by decide,h_tells⟩,trivial⟩
 have h_first:=Ak (lv:=10) (O base) (Aj X G t23 fun _ _ _ _ _ _=>ba3 fun _ _ _=>rfl) Od ⟨⟨by decide,h_first_from⟩,trivial⟩
 have h_pages_up_to:=Ak (lv:=0) (O base) (Aj X G t24 fun _ _ _ _ _ _=>ba3 fun _ _ _=>rfl) Hq trivial
 have h_paper_over:=Ak (lv:=8) (O base) (Aj X G t25 fun _ _ _ _ _ _=>ba3 fun _ _ _=>rfl) Ig ⟨⟨by decide,h_with_told⟩,⟨by decide,h_cover⟩,⟨by decide,h_shape_of⟩,trivial⟩
 have h_first_paper:=Ak (lv:=11) (O base) (Aj X G t26 fun _ _ _ _ _ _=>ba3 fun _ _ _=>rfl) Hr ⟨⟨by decide,h_first⟩,⟨by decide,h_paper_over⟩,⟨by decide,h_pages_up_to⟩,⟨by decide,h_shape_of⟩,trivial⟩
 have h_law_cell:=Ak (lv:=0) (O base) (Aj X G t27 fun _ _ _ _ _ _=>ba2 fun _ _=>rfl) JX trivial
 have h_law_mix_k11:=Ak (lv:=0) (O base) (Aj X G t28 fun _ _ _ _ _ _=>ba2 fun _ _=>rfl) Ht trivial
 have h_law_row_k11:=Ak (lv:=1) (O base) (Aj X G t29 fun _ _ _ _ _ _=>ba3 fun _ _ _=>rfl) Hu ⟨⟨by decide,h_law_cell⟩,⟨by decide,h_law_mix_k11⟩,⟨by decide,h_law_cell⟩,⟨by decide,h_law_mix_k11⟩,trivial⟩
 have h_law_rooms_k21:=Ak (lv:=2) (O base) (Aj X G t30 fun _ _ _ _ _ _=>ba3 fun _ _ _=>rfl) Gn ⟨⟨by decide,h_law_row_k11⟩,trivial⟩
 have h_law_fan_k22:=Ak (lv:=2) (O base) (Aj X G t31 fun _ _ _ _ _ _=>ba2 fun _ _=>rfl) Hv ⟨⟨by decide,h_law_row_k11⟩,trivial⟩
 have h_law_need_k27:=Ak (lv:=2) (O base) (Aj X G t32 fun _ _ _ _ _ _=>ba3 fun _ _ _=>rfl) GZ ⟨⟨by decide,h_law_row_k11⟩,trivial⟩
 have h_law_counts_k11:=Ak (lv:=0) (O base) (Aj X G t33 fun _ _ _ _ _ _=>ba2 fun _ _=>rfl) FY trivial
 have h_law_reach_k12:=Ak (lv:=0) (O base) (Aj X G t34 fun _ _ _ _ _ _=>ba4 fun _ _ _ _=>rfl) Go trivial
 have h_law_tree_k22:=Ak (lv:=1) (O base) (Aj X G t35 fun _ _ _ _ _ _=>ba2 fun _ _=>rfl) G0 ⟨⟨by decide,h_law_counts_k11⟩,⟨by decide,h_law_reach_k12⟩,trivial⟩
 have h_law_cover_k13:=Ak (lv:=1) (O base) (Aj X G t36 fun _ _ _ _ _ _=>ba4 fun _ _ _ _=>rfl) Gp ⟨⟨by decide,h_law_counts_k11⟩,trivial⟩
 have h_law_whole:=Ak (lv:=0) (O base) (Aj X G t37 fun _ _ _ _ _ _=>ba1 fun _=>rfl) JD trivial
 have h_law_paper_k41:=Ak (lv:=2) (O base) (Aj X G t38 fun _ _ _ _ _ _=>ba4 fun _ _ _ _=>rfl) Gq ⟨⟨by decide,h_law_tree_k22⟩,⟨by decide,h_law_cover_k13⟩,trivial⟩
 have h_law_from_k41:=Ak (lv:=0) (O base) (Aj X G t39 fun _ _ _ _ _ _=>ba3 fun _ _ _=>rfl) G1 trivial
 have h_law_end:=Ak (lv:=0) (O base) (Aj X G t40 fun _ _ _ _ _ _=>ba2 fun _ _=>rfl) LE trivial
 have h_law_told:=Ak (lv:=1) (O base) (Aj X G t41 fun _ _ _ _ _ _=>ba2 fun _ _=>rfl) JY ⟨⟨by decide,h_law_whole⟩,⟨by decide,h_law_whole⟩,trivial⟩
 exact ⟨⟨by decide,h_law_row_k11⟩,⟨by decide,h_law_rooms_k21⟩,⟨by decide,h_law_fan_k22⟩,⟨by decide,h_law_tree_k22⟩,⟨by decide,h_law_need_k27⟩,⟨by decide,h_law_from_k41⟩,⟨by decide,h_law_paper_k41⟩,⟨by decide,h_law_end⟩,⟨by decide,h_first_paper⟩,⟨by decide,h_law_told⟩,⟨by decide,h_law_told⟩,⟨by decide,h_first_paper⟩,⟨by decide,h_law_tree_k22⟩,⟨by decide,h_law_need_k27⟩,⟨by decide,h_law_from_k41⟩,⟨by decide,h_law_paper_k41⟩,⟨by decide,h_law_end⟩,⟨by decide,h_law_told⟩,⟨by decide,h_first_paper⟩,trivial⟩
end Pu
open PySem PySem.W PyProof.Rows
noncomputable def PySem.W.Fast.tw12690912163469399685:Nat:=0
noncomputable def PySem.W.Fast.tw2983178644788166102:Nat:=0
noncomputable def PySem.W.Fast.tw6738667378577567674:Nat:=0
noncomputable def PySem.W.Fast.tw8835599594563130698:Nat:=0
noncomputable def PySem.W.Fast.tw1267163216388643736:Nat:=0
noncomputable def PySem.W.Fast.tw5080072709968225915:Nat:=0
noncomputable def PySem.W.Fast.tw18421705862570119972:Nat:=0
noncomputable def PySem.W.Fast.tw3293347615409484530:Nat:=0
noncomputable def PySem.W.Fast.tw6639037656026534228:Nat:=0
noncomputable def PySem.W.Fast.tw14538493742179165828:Nat:=0
noncomputable def PySem.W.Fast.tw8051295690288999848:Nat:=0
noncomputable def PySem.W.Fast.tw17677958911085312464:Nat:=0
noncomputable def PySem.W.Fast.tw5446857749422274261:Nat:=0
noncomputable def PySem.W.Fast.tw14292996211929699202:Nat:=0
noncomputable def PySem.W.Fast.tw3177660200688832599:Nat:=0
noncomputable def PySem.W.Fast.tw7388659603953571580:Nat:=0
noncomputable def PySem.W.Fast.tw17137309640628406844:Nat:=0
noncomputable def PySem.W.Fast.tw13630926992300263222:Nat:=0
noncomputable def PySem.W.Fast.tw14286744708177625477:Nat:=0
noncomputable def PySem.W.Fast.tw1760060336036936856:Nat:=0
noncomputable def PySem.W.Fast.tw6454763357952732826:Nat:=0
noncomputable def PySem.W.Fast.tw9712191694589719915:Nat:=0
noncomputable def PySem.W.Fast.tw10985801992766733271:Nat:=0
noncomputable def PySem.W.Fast.tw8454342838063048643:Nat:=0
noncomputable def PySem.W.Fast.tw13123861108737374642:Nat:=0
noncomputable def PySem.W.Fast.tw8241735586788588675:Nat:=0
noncomputable def PySem.W.Fast.tw7311505052754183953:Nat:=0
noncomputable def PySem.W.Fast.tw7184493500481039113:Nat:=0
noncomputable def PySem.W.Fast.tw11676690403816067307:Nat:=0
noncomputable def PySem.W.Fast.tw6760387723042137688:Nat:=0
noncomputable def PySem.W.Fast.tw14921046805433042643:Nat:=0
noncomputable def PySem.W.Fast.tw11244627145363484893:Nat:=0
noncomputable def PySem.W.Fast.tw15635469155265475091:Nat:=0
noncomputable def PySem.W.Fast.tw1933371411177561288:Nat:=0
noncomputable def PySem.W.Fast.tw11524928660160552980:Nat:=0
noncomputable def PySem.W.Fast.tw479806160840741828:Nat:=0
noncomputable def PySem.W.Fast.tw2430372504222389277:Nat:=0
noncomputable def PySem.W.Fast.tw14120105010019396333:Nat:=0
noncomputable def PySem.W.Fast.tw7177663842095388763:Nat:=0
noncomputable def PySem.W.Fast.tw2372482579229387242:Nat:=0
noncomputable def PySem.W.Fast.tw16440979443086937887:Nat:=0
noncomputable def PySem.W.Fast.tw1158693096312906077:Nat:=0
noncomputable def PySem.W.Fast.tw17017314819706253661:Nat:=0
noncomputable def PySem.W.Fast.tw13110891613657803110:Nat:=0
noncomputable def PySem.W.Fast.tw8025762395485952471:Nat:=0
noncomputable def PySem.W.Fast.tw15835997755567124374:Nat:=0
noncomputable def PySem.W.Fast.tw2239521190216902761:Nat:=0
noncomputable def PySem.W.Fast.tw2140885521863854202:Nat:=0
noncomputable def PySem.W.Fast.tw3154151513915566397:Nat:=0
noncomputable def PySem.W.Fast.tw7773528938195330852:Nat:=0
noncomputable def PySem.W.Fast.tw450758380905098404:Nat:=0
noncomputable def PySem.W.Fast.tw18221340258669080622:Nat:=0
noncomputable def PySem.W.Fast.tw11523038816380753721:Nat:=0
noncomputable def PySem.W.Fast.tw11429564553121604119:Nat:=0
noncomputable def PySem.W.Fast.tw12504753988239833270:Nat:=0
noncomputable def PySem.W.Fast.tw13050990787589108554:Nat:=0
noncomputable def PySem.W.Fast.tw16702573344549749597:Nat:=0
noncomputable def PySem.W.Fast.tw569916843339119991:Nat:=0
noncomputable def PySem.W.Fast.tw4395631816395819410:Nat:=0
noncomputable def PySem.W.Fast.tw16304878280732766012:Nat:=0
noncomputable def PySem.W.Fast.tw4526784401304742746:Nat:=0
noncomputable def PySem.W.Fast.tw16404096063959949789:Nat:=0
noncomputable def PySem.W.Fast.tw11270133284604633464:Nat:=0
noncomputable def PySem.W.Fast.tw12660867210029563861:Nat:=0
noncomputable def PySem.W.Fast.tw13049638787615585981:Nat:=0
noncomputable def PySem.W.Fast.tw16365616130625918679:Nat:=0
noncomputable def PySem.W.Fast.tw17020865283743838745:Nat:=0
noncomputable def PySem.W.Fast.tw1728445306063783090:Nat:=0
noncomputable def PySem.W.Fast.tw5072117073656309893:Nat:=0
noncomputable def PySem.W.Fast.tw13897620527647263355:Nat:=0
noncomputable def PySem.W.Fast.tw5358665103245009271:Nat:=0
noncomputable def PySem.W.Fast.tw12577662280766377286:Nat:=0
noncomputable def PySem.W.Fast.tw923101608186081633:Nat:=0
noncomputable def PySem.W.Fast.tw5208889526046925024:Nat:=0
noncomputable def PySem.W.Fast.tw5320512749893180013:Nat:=0
noncomputable def PySem.W.Fast.tw1846523979802481432:Nat:=0
noncomputable def PySem.W.Fast.tw12808641090009562507:Nat:=0
noncomputable def PySem.W.Fast.tw12789202838061748808:Nat:=0
noncomputable def PySem.W.Fast.tw18119324217020333006:Nat:=0
noncomputable def PySem.W.Fast.tw15423859099857020109:Nat:=0
noncomputable def PySem.W.Fast.tw16619979957141237354:Nat:=0
noncomputable def PySem.W.Fast.tw5941899061924711710:Nat:=0
noncomputable def PySem.W.Fast.tw11413729057985403319:Nat:=0
noncomputable def PySem.W.Fast.tw14955221072136208240:Nat:=0
noncomputable def PySem.W.Fast.tw5435434459172677216:Nat:=0
noncomputable def PySem.W.Fast.tw5070279080249222497:Nat:=0
noncomputable def PySem.W.Fast.tw523624203660004886:Nat:=0
noncomputable def PySem.W.Fast.tw14343504982435121303:Nat:=0
noncomputable def PySem.W.Fast.tw15903879510221792995:Nat:=0
noncomputable def PySem.W.Fast.tw16985184086631801985:Nat:=0
noncomputable def PySem.W.Fast.tw13606211573111971531:Nat:=0
noncomputable def PySem.W.Fast.tw5487810329216111429:Nat:=0
noncomputable def PySem.W.Fast.tw13547240535733827302:Nat:=0
noncomputable def PySem.W.Fast.tw14846538303960022743:Nat:=0
noncomputable def PySem.W.Fast.tw12328115243109938641:Nat:=0
noncomputable def PySem.W.Fast.tw122992096934761498:Nat:=0
noncomputable def PySem.W.Fast.tw13295144794639102679:Nat:=0
noncomputable def PySem.W.Fast.tw16964353834748091677:Nat:=0
noncomputable def PySem.W.Fast.tw14320634714498132661:Nat:=0
noncomputable def PySem.W.Fast.tw10694372808589540002:Nat:=0
noncomputable def PySem.W.Fast.tw7452163985576328434:Nat:=0
noncomputable def PySem.W.Fast.tw13680680677902203072:Nat:=0
noncomputable def PySem.W.Fast.tw10942017230415591803:Nat:=0
noncomputable def PySem.W.Fast.tw10507127219986044275:Nat:=0
noncomputable def PySem.W.Fast.tw4966457784474624540:Nat:=0
noncomputable def PySem.W.Fast.tw13198634603035229669:Nat:=0
noncomputable def PySem.W.Fast.tw10406470007575863587:Nat:=0
noncomputable def PySem.W.Fast.tw11645854944482482509:Nat:=0
noncomputable def PySem.W.Fast.tw9411860943086419743:Nat:=0
noncomputable def PySem.W.Fast.tw12704701159407437602:Nat:=0
noncomputable def PySem.W.Fast.tw4545509946613675380:Nat:=0
noncomputable def PySem.W.Fast.tw10794810875217087250:Nat:=0
noncomputable def PySem.W.Fast.tw2608479605805235550:Nat:=0
noncomputable def PySem.W.Fast.tw8278510939531251203:Nat:=0
noncomputable def PySem.W.Fast.tw12595388202557128706:Nat:=0
noncomputable def PySem.W.Fast.tw16417192014287727312:Nat:=0
noncomputable def PySem.W.Fast.tw13052244115912986222:Nat:=0
noncomputable def PySem.W.Fast.tw15631638780709349920:Nat:=0
noncomputable def PySem.W.Fast.tw13946236715884651062:Nat:=0
noncomputable def PySem.W.Fast.tw9202048823617077341:Nat:=0
noncomputable def PySem.W.Fast.tw10386548988785981018:Nat:=0
noncomputable def PySem.W.Fast.tw16108151412396253806:Nat:=0
noncomputable def PySem.W.Fast.tw13050040181993156696:Nat:=0
noncomputable def PySem.W.Fast.tw2343683200851162335:Nat:=0
noncomputable def PySem.W.Fast.tw18046968877492215066:Nat:=0
noncomputable def PySem.W.Fast.tw17021010265024781851:Nat:=0
noncomputable def PySem.W.Fast.tw4937943087909028551:Nat:=0
noncomputable def PySem.W.Fast.tw13586850465785459629:Nat:=0
noncomputable def PySem.W.Fast.tw9009489779830518715:Nat:=0
noncomputable def PySem.W.Fast.tw18445391547733779810:Nat:=0
local macro_rules | `(tactic| simp_arith!)=>`(tactic| (refine' Pu.Av ?za ?zl ?zc ?zk; (case za=>k_is); (case zl=>k_is); (case zc=>k_is); (case zk=>k_is)))
local macro_rules | `(tactic| simp_all_arith)=>`(tactic| (refine' Pu.Rx ?zq ?zx1 ?zx2 ?zx3 ?zx4 ?zx5 ?zx6 ?zx7 ?zt1 ?zt2 ?zt3 ?zt4 ?zt5 ?zt6 ?zv; (case zq=>k_is); (case zx1=>k_is); (case zx2=>k_is); (case zx3=>k_is); (case zx4=>k_is); (case zx5=>k_is); (case zx6=>k_is); (case zx7=>k_is); (case zt1=>kit_is); (case zt2=>kit_is); (case zt3=>kit_is); (case zt4=>kit_is); (case zt5=>kit_is); (case zt6=>kit_is); (case zv=>kit_is)))
set_option maxRecDepth 100000 in
set_option maxHeartbeats 0 in
theorem PySem.Challenge.cw_ullage_k41_first_paper_holds : PySem.Challenge.rw_ullage_k41_first_paper.Holds := by
 w_on; o_law; k_head; (case hw=>w_witness2)
 k_fill
 refine Pu.Su (l:=PySem.Challenge.rw_ullage_k41_first_paper) (k:=13) (x := "_law_script") rfl rfl ⟨rfl,by decide,by decide⟩ (fun w h Y=>PySem.W.kIn_of Y) ?F
 case F =>
  intro w mg fa h KX G hmg
  refine' Pu.RV KX G hmg ?t0 ?t1 ?t2 ?t3 ?t4 ?t5 ?t6 ?t7 ?t8 ?t9 ?t10 ?t11 ?t12 ?t13 ?t14 ?t15 ?t16 ?t17 ?t18 ?t19 ?t20 ?t21 ?t22 ?t23 ?t24 ?t25 ?t26 ?t27 ?t28 ?t29 ?t30 ?t31 ?t32 ?t33 ?t34 ?t35 ?t36 ?t37 ?t38 ?t39 ?t40 ?t41 ?t42 ?n_len ?n_min ?n_max ?n_abs ?n_int ?n_list ?n_tuple ?n_all ?n_any ?n_sum ?n_sorted ?n_isinstance ?n_str ?n_range ?n_enumerate ?n_zip ?n_reversed ?n_bool ?n_dict ?n_ValueError ?c2 ?c3 ?e2 ?e3 ?y2_2 ?y2_3 ?y3_2 ?y3_3 ?nl Pu.Qd
  (case t0=>simp_arith!)
  (case t1=>simp_arith!)
  (case t2=>simp_arith!)
  (case t3=>simp_arith!)
  (case t4=>simp_arith!)
  (case t5=>simp_arith!)
  (case t6=>simp_arith!)
  (case t7=>simp_arith!)
  (case t8=>simp_arith!)
  (case t9=>simp_arith!)
  (case t10=>simp_arith!)
  (case t11=>simp_arith!)
  (case t12=>simp_arith!)
  (case t13=>simp_arith!)
  (case t14=>simp_arith!)
  (case t15=>simp_arith!)
  (case t16=>simp_arith!)
  (case t17=>simp_arith!)
  (case t18=>simp_arith!)
  (case t19=>simp_arith!)
  (case t20=>simp_arith!)
  (case t21=>simp_arith!)
  (case t22=>simp_arith!)
  (case t23=>simp_arith!)
  (case t24=>simp_arith!)
  (case t25=>simp_arith!)
  (case t26=>simp_arith!)
  (case t27=>simp_arith!)
  (case t28=>simp_arith!)
  (case t29=>simp_arith!)
  (case t30=>simp_arith!)
  (case t31=>simp_arith!)
  (case t32=>simp_arith!)
  (case t33=>simp_arith!)
  (case t34=>simp_arith!)
  (case t35=>simp_arith!)
  (case t36=>simp_arith!)
  (case t37=>simp_arith!)
  (case t38=>simp_arith!)
  (case t39=>simp_arith!)
  (case t40=>simp_arith!)
  (case t41=>simp_arith!)
  (case t42=>simp_arith!)
  (case n_len=>k_is)
  (case n_min=>k_is)
  (case n_max=>k_is)
  (case n_abs=>k_is)
  (case n_int=>k_is)
  (case n_list=>k_is)
  (case n_tuple=>k_is)
  (case n_all=>k_is)
  (case n_any=>k_is)
  (case n_sum=>k_is)
  (case n_sorted=>k_is)
  (case n_isinstance=>k_is)
  (case n_str=>k_is)
  (case n_range=>k_is)
  (case n_enumerate=>k_is)
  (case n_zip=>k_is)
  (case n_reversed=>k_is)
  (case n_bool=>k_is)
  (case n_dict=>k_is)
  (case n_ValueError=>k_is)
  (case c2=>simp_all_arith)
  (case c3=>simp_all_arith)
  (case e2=>k_exc)
  (case e3=>k_exc)
  (case y2_2=>kit_is)
  (case y2_3=>kit_is)
  (case y3_2=>kit_is)
  (case y3_3=>kit_is)
  (case nl=>exact rfl)
